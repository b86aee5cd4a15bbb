import PyProof.Rows.All
import Wide.All
import OpenK.AllK
import Wide.FinOn
import PyProof.EqAt
import KE.KSortTup
import PyProof.EqKinds
import PyProof.TupleCall
import Lean
import PyProof.Rows.SortRuns
import KE.KSortAsk
import PySem.Challenge.RW_ovalfield_k84_whole_all_keeping
noncomputable section
set_option autoImplicit true
set_option Elab.async false
set_option linter.all false
set_option maxRecDepth 100000
set_option maxHeartbeats 4000000
open Bool renaming true→Aa,false→Ae,and_eq_true→An,false_ne_true→A3,not_eq_true'→CZ,false_eq_true→C7,or_eq_true→DX,eq_iff_iff→ET,not_true→Gn,or_false→Go,decide_and→Hw,and_false→Ig,and_true→II
open Option renaming some→Ab,none→Af,bind_eq_some_iff→ED,map_some→FJ,map→F8,getD_none→bP
open _root_ renaming List→Ac,Int→Ad,Nat→Ag,Bool→Ai,Option→Ar,Array→Ax,if_pos→AB,if_neg→AF,decide_eq_true_eq→AN,of_decide_eq_true→BD,False→BR,beq_iff_eq→Ce,decide_eq_true→Cm,or_false→CD,decide_eq_false→CK,dif_neg→CW,String→DQ,beq_eq_false_iff_ne→D4,StateT→Ev,not_or→ES,if_false→E2,Decidable→FE,beq_self_eq_true→Gi,decide_eq_decide→Gj,decide_eq_false_iff_not→G3,Unit→Io,True→IM,if_true→Jm,PUnit→JR,bne_iff_ne→Mw,beq_false_of_ne→xg
open PySem renaming wpAny_bind→Ah,Value→Aj,Addr→Ak,Str→Al,Expr→Am,Shared→Aq,wpAny_pure→Au,wpAny→Az,World→AJ,Heap→AO,starEach→AR,Program→AW,Stmt→A8,Around→A9,Pos→Bm,wpAny_field→Bx,mainGlobals→By,wpAny_seqItems→Cb,cLine→Cf,wpAny_holding→Cn,wpAny_callSpecial?_slot→Cq,wpAny_setField_rec→CA,wpAny_call_entry→CC,rawInt→CN,Scope→CP,assignEach→CQ,binaryOp→C2,wpAny_newObj_type→Di,wpAny_truthy_bool→Dj,FuncData→Dm,sizeLine_eq→Dt,compareOp→Du,wpAny_mono→Dx,Env→DA,foldedSetIterable→DD,Obj→DE,mem_of_lookup→DF,backTo→DO,bootBuiltins→DP,Sem→D7,cellsFrom→Ej,CmpOp→El,Tok→Eu,wpAny_onRaise→EC,swapsWith→EO,wpAny_specialOf→EV,pyNext→E5,wpAny_rule→Fh,NameKind→Fo,wpAny_attempt→FB,Model→FK,wpAny_pyIter_list→FV,IsPair→FZ,GenState→F9,wpAny_forIn_list→Ga,wpAny_isInstance→Gb,swappedStores→Gq,Keyword→Gs,intKind→Gv,sliceBounds→Gw,wpAny_letGo→Gz,codeAny_builtin→GI,wpAny_passesOwn→GJ,codeAny→GZ,wpAny_setField→G0,swapsWithSole→Hj,Operator→Hm,isSubtype_tuple_tuple→Hv,IsZip→HH,letOwnedTupleGo→HK,sysModules→HL,wpAny_updateSeq→HM,wpAny_updateSeq_pair→HN,wpAny_newTuple→Im,PassesOwn→ID,pushCells→IE,wpAny_Call_Name_kw→IF,wpAny_pyIter_tuple→IG,wpAny_tupleItemsOf→IH,behindInMarks→IJ,plainId_quiet→IK,wpAny_standAt→IL,IsTupleKey→Jh,BindsTo→Ji,callerA→Jj,IsPart→Jv,Paired→Jw,wpAny_eqBool_int→Jx,pushCells_keeps→JT,wpAny_execs_nil→JU,OsState→Km,isTrue→Ko,newFunctionEnv→Kq,notedBy→Kr,standAt→Ks,Drawn→Kv,bindC→Kw,bindL→Kx,builtinsNs→Ky,isInstance→Kz,numAt→KA,Comprehension→KW,attributeBase→KZ,Result→K7,callSpecial?→K9,callType_new→La,codeAny_mono→Lb,concat_meets→Lc,eqIsQuiet→Ld,lastMarks→Le,noteFrame→Lf,preSum→Lg,seqIndex_neg→Lh,tupleKeyHash→Li,updateSeq→Lj,UnaryOp→LO,getItem→LP,keywordEach→LR,seqIndex_of→LS,call→Mr,pyIter→Ms,reduceHash→Mt,typeLookup→Mu,wpAny_Name→Mv,setItem→Mz,IntMulOk→Nx,Params→Ny,backToKw→Nz,bindArgs→NA,intItems→NB,Fin→dP,builtinLookup_eq_fast→eU,call_sum_walkG→eV,checkBuiltinCall→eW,firstArgMember→eX,isSubtype_stop→eY,noFill_tuple_add→eZ,recursionLimit→fA,slot_list_getitem→fB,typeLookup_type→fC,wpAny_assign_Name→fD,wpAny_comprehension_free→fE,wpAny_eqBool_tuple→fF,wpAny_execs_cons→fG,wpAny_pyIter_enum→fH,wpAny_pyIter_zip→fJ,wpAny_pyNext_list_end→fK,wpAny_pyNext_list_item→fL,wpAny_ret_mkInt→fM
open List renaming mem_cons_of_mem→As,mem_cons_self→Av,mem_cons→Ay,mem_filter→AH,size_toArray→AT,getElem?_eq_getElem→AU,length_map→A6,mem_singleton→Bc,getElem?_eq_some_iff→Bh,length_set→Bj,not_mem_nil→Bl,mem_map→Bp,map_cons→BG,length_append→BL,length_cons→BV,mem_append_right→BZ,range→B5,getD_eq_getElem?_getD→B9,getElem?_set_self→Ci,all_eq_true→Cj,append_nil→Cr,nodup_cons→Cs,lookup_cons→Ct,map_map→CF,drop_eq_getElem_cons→CJ,take_append_drop→CT,append_assoc→C0,getElem?_append_right→C4,extract_eq_drop_take→Dd,pairwise_iff_getElem→De,mem_range→Dl,map_congr_left→DY,reverse_append→DZ,toArray→D5,all_cons→Ea,getElem_mem→Eb,pairwise_cons→Ee,getElem?_append_left→Ek,map_append→Er,mem_of_getElem?→Et,getElem?_map→EB,filter_cons→EE,forIn_nil→EF,length_take→EG,forIn_cons→EU,isEmpty_eq_false_iff→E8,pairwise_append→E9,getElem_of_mem→Ft,getElem?_cons_succ→Fu,getElem?_cons_zero→Fv,mem_append→FI,drop_eq_nil_of_le→FM,range_succ_eq_map→FN,take_of_length_le→FO,length_drop→F5,reverse_reverse→F6,zipIdx_cons→F7,length_erase_of_mem→GK,zip_cons_cons→GL,getElem?_set_self'→G1,filter_congr→G4,drop_of_length_le→Hf,pairwise_reverse→Ht,all_map→Hx,drop_left'→Hy,getElem?_set_ne→Hz,mem_append_left→HA,take_left'→HB,zipIdx_nil→HC,filterMap_cons→Ib,drop_drop→Ih,drop_zero→Ii,replicate→Ik,getElem?_set→Jb,length_range→Jc,pairwise_map→Jd,reverse_perm→Je,ext_getElem→Jp,getElem_map→Jq,isEmpty_iff→Jr,map_nil→Js,of_mem_zip→JP,length→JV,nodup_nil→Kj,take_zero→Kk,sum_cons→KU,set_set→K4,Nodup→aH,any_eq_true→aL,contains_eq_mem→aM,ext_getElem?→aN,getElem?_drop→aO,getElem?_of_mem→aP,getElem?_replicate→aQ,getElem?_take→aR,getElem?_toArray→aS,length_flatMap→aT,length_replicate→aU,length_singleton→aV,lookup→aW,lookup_cons_self→aX,mem_erase_of_ne→aY,mem_map_of_mem→aZ,mem_reverse→bD,pairwise_flatMap→bE,reverse_cons→bF,take→bG,take_succ_eq_append_getElem→bH
open PySem.Heap renaming get?_push_of_some→At,get?_push_size→AG,lt_size→AK,size_push→BW,get?_update_other→Cu,get?_update_self→CV,SameBut→Fn,get?_push_ne→G6,get?_none_of_le→HG,size_update→Ju,ExtBut→JW,get?_push_cases→dR
open PyProof.Rows renaming Keyed→Aw,wpS_bind→AC,arrOf→AD,wpS_pure→AM,SortSt→A5,pendingOf→BM,wpS→BN,wpS_forRange→Cz,callWith_type1→CU,IntsAre→DB,wpS_mono→DL,seqObj→Eg,failedOf→EH,wpS_modify→Fc,SortKind→Fl,envOfC→GN,AllBare→GW,wpS_get→GX,boot_tuple→G2,IsTup→Ku,Call_→Mn,boot_list→bR,boot_zip→bS,slicePart_none→bT,slot_tuple_getitem→bU,subscriptTail_builtinR→bV
open Nat renaming le_refl→AE,lt_of_lt_of_le→AS,ne_of_lt→Be,lt_irrefl→BH,le_trans→CM,lt_of_le_of_ne→C8,zero_le→Ds,lt_succ_of_lt→DC,ne_of_gt→D6,pos_of_ne_zero→Ef,lt_of_le_of_lt→EK,zero_max→EM,pow_le_pow_right→Fa,ble→Fi,le_add_right→Fk,le_of_lt→FY,zero_add→GM,not_lt→GV,lt_succ_self→Hl,le_of_ble_eq_true→Hu,lt_trans→HE,add_le_add_left→Ic,le_of_lt_succ→Jf,not_lt_zero→JQ,add_zero→K5,le_succ→LQ,add_assoc→bJ,ble_eq_true_of_le→bK,le_antisymm→bL,le_of_eq→bM,lt_trichotomy→bN,min_self→bO
open Array renaming length_toList→AQ,toList_append→BA,getElem?_eq_getElem→Cc,size_push→C5,getElem?_toList→Dk,getElem_toList→Dv,toList_extract→DU,toList_push→EA,getD→EI,getD_eq_getD_getElem?→EJ,toList_reverse→E6,forIn_toList→FC,size_extract→FD,getElem?_eq_some_iff→Gk,toList_inj→Hk,getElem?_push→Ia,toList→K0,getElem_extract→ZY,perm_iff_toList_perm→Z_0,size_append→Z_1,size_setIfInBounds→Z_2,toArray_toList→Z_4,toList_setIfInBounds→Z_5
open Int renaming emod_lt_of_pos→AY,emod_eq_of_lt→AZ,emod_nonneg→A4,emod_emod_of_dvd→A7,mul_emod→Bu,mul_comm→BF,zero_emod→BQ,dvd_refl→BX,one_mul→Da,mul_zero→Fj,zero_add→FX,mul_assoc→Gp,mul_one→Gr,le_refl→IC,toNat_natCast→Ja,zero_mul→Jn,sub_zero→K1,add_emod→Z_7,add_mul_emod_self_left→Z_8,ediv_nonneg→Z_9,le_trans→aA,mul_nonneg→aC,mul_pos→aD,mul_sub→aE,sub_add_cancel→aF,sub_emod→aG
open PySem.Builtin.SmallTypes renaming nextOf→Bi,ownedTupleIsFree→Bk,ownedTupleHandOut→DM
open PySem.Value renaming none→Bo,ref→Dh,type→DV,int→JS,bool→Mq,str→eG
open PySem.W.Fast renaming te10274390034422433532→Bq,te14082659384304107361→Br,te14289696077712309145→Bs,te14364793385576792824→Bt,te1435165496053646825→Bw
open Prod renaming ext→BJ
open Option.some renaming inj→B6,injEq→C1
open PySem.W renaming mg_none_of→Ca,nsIn→CG,fencedOpening→DT,keepIn→Ei,fnOf→EN,openEnds→FP,topFrom→Gu,codeIn→GY,OpenLaw→Hh,findIn→Il,methodObj→Jg,mg_of→KY,kat_nil→Mx,WalkO→eL,cellsFrom_some→eO,kIn_of→eQ,kitOne→eR,subIn→eS
open PySem.Obj renaming mapSeq→Cd,data_mapFields→Eh,isFreed_of_fields→F0,mapFields→Hi,cls_mapFields→dS
open Ne renaming symm→Cy
open PySem.NameKind renaming cell→CB,free→EX
open PySem.F renaming slot_zip_next→C9,slot_tuple_iterator_next→EW,args_zip_next_1→E3,entry_zip_next→Fm,plain_extend_loop→GA,slot_tuple_hash→G5,slot_tuple_eq→HF,args_object_init_2→cZ,args_tuple_add_2→dA,args_tuple_iterator_next_1→dB,called_zip→dC,entry_extend_loop→dD,entry_tuple_add→dF,entry_tuple_iterator_next→dG,entry_zip_new→dH,plainAttrs_list→dI,plain_list_iadd→dJ,plain_tuple_new→dL,slot_dict_len→dM,slot_tuple_add→dN,slot_zip_iter→dO
open PySem.Str renaming ofString→Do
open PySem.Builtin.Tuple renaming tupleExact→DN,tupleHashOf→Ff,tupleItemsOf→cA
open Classical renaming byContradiction→E7,choose_spec→FW,choose→Z_6
open PySem.Around renaming under_plainId→Fd
open PySem.Builtin.Slice renaming slicePlaces→Fe,sliceAdjust→GH,sliceApplied→bZ
open False renaming elim→FF
open ForInStep renaming yield→FH
open List.cons renaming injEq→GE
open PySem.Builtin.List renaming listTooLong→GO,listExtendWith→bX,listSameRef→bY
open PySem.Shared renaming heap→Hg
open PySem.SeqAt renaming EqAt→HJ,RcNeAt→K8,RcAt→Mp
open PySem.Heap.SameBut renaming update→Ie,refl→dQ
open Function renaming comp_def→IZ
open Sum renaming inl→Jk,inr→Jl
open List.Perm renaming append→Jo,of_eq→JO,cons→Kg,refl→Kh,trans→aK
open Nat.succ renaming inj→Jt
open PySem.Expr.Name renaming elim→Kl
open PySem.Stmt.Expr renaming elim→Kn
open PyProof.Rows.IsTup renaming new→K6
open Iff renaming rfl→LN
open PyProof.Rows.SortSt renaming mk'→Mo
open NeZero renaming ne→Nr
open PySem.Data renaming cell→Nt,seq→Nw
open PySem.Expr renaming Name→Nu,Attribute→cK,Call→cO,ListComp→cT
open PySem.Stmt renaming Expr→Nv,Assign→dZ
open Eq renaming symm→Os
open PySem.Sem renaming wp→QI,wp_bind'→dW
open List.Pairwise renaming imp_of_mem→aI,nil→aJ
open Prod.mk renaming injEq→bQ
open PySem.Builtin.Int renaming intBits→bW
open PySem.Calls renaming Name_function_global→cB,call_function_entry→cE,spliced_cons→cH,spliced_nil→cI
open PySem.EntryCells renaming newEntry→cJ
open PySem.Expr.Attribute renaming elim→cL
open PySem.Expr.BinOp renaming elim→cM
open PySem.Expr.BoolOp renaming elim→cN
open PySem.Expr.Call renaming elim→cP
open PySem.Expr.Compare renaming elim→cQ
open PySem.Expr.Constant renaming elim→cR
open PySem.Expr.List renaming elim→cS
open PySem.Expr.ListComp renaming elim→cU
open PySem.Expr.Slice renaming elim→cV
open PySem.Expr.Subscript renaming elim→cW
open PySem.Expr.Tuple renaming elim→cX
open PySem.Expr.UnaryOp renaming elim→cY
open PySem.Paired renaming length→dU
open PySem.SeqAt.EqAt renaming of_refs→dX,same→dY
open PySem.Stmt.Assign renaming elim→eA
open PySem.Stmt.For renaming elim→eC
open PySem.Stmt.If renaming elim→eE
open PySem.Stmt.Return renaming elim→eF
open PySem.W.KatTups renaming cons→eH,nil→eI
open PySem.W.WData renaming int→eJ
open PySem.W.WShape renaming has→eK
open PySem.Walks renaming list→eT
abbrev Fg:=PySem.W.Frag
abbrev Pn:=Ac (PySem.Addr×PySem.Obj)
abbrev Vq:=PySem.Value->PySem.Shared->Prop
set_option genSizeOf false
set_option genInjectivity false
section
open PySem PySem.W PyProof.Rows
namespace OvC
set_option genInjectivity false in
structure Eleven (P:Prop) where
 (α1 α2 α3 α4 α5 α6 α7 α8 α9 α10 α11:Type)
 (l1 r1:AJ->α1)
 (l2 r2:AJ->α2)
 (l3 r3:AJ->α3)
 (l4 r4:AJ->α4)
 (l5 r5:AJ->α5)
 (l6 r6:AJ->α6)
 (l7 r7:AJ->α7)
 (l8 r8:AJ->α8)
 (l9 r9:AJ->α9)
 (l10 r10:AJ->α10)
 (l11 r11:AJ->α11)
 X:Prop
 go:(∀ w,l1 w=r1 w)->(∀ w,l2 w=r2 w)->(∀ w,l3 w=r3 w)->(∀ w,l4 w=r4 w)->(∀ w,l5 w=r5 w)->(∀ w,l6 w=r6 w)->(∀ w,l7 w=r7 w)->(∀ w,l8 w=r8 w)->(∀ w,l9 w=r9 w)->(∀ w,l10 w=r10 w)->(∀ w,l11 w=r11 w)->X->P
theorem map_pair{Z α β:Type}{A:Z->α}{B:Z->β}{r:Ar Z}{a:α}{b:β}(h1:F8 A r=Ab a)(h2:F8 B r=Ab b):F8 (λs=>(A s,B s)) r=Ab (a,b):=by
 cases r with
 |none=>cases h1
 |some s=>cases h1;cases h2;rfl
theorem map_take{Z α:Type}{B:Z->Ac α}{r:Ar Z}{v:Ac α}(n:Ag)(h1:F8 (λs=>(B s).take n) r=Ab (v.take n))(h2:F8 (λs=>(B s).drop n) r=Ab (v.drop n)):F8 B r=Ab v:=by
 cases r with
 |none=>cases h1
 |some s=>
  have e1:(B s).take n=v.take n:=by injection h1
  have e2:(B s).drop n=v.drop n:=by injection h2
  show Ab (B s)=Ab v;rw[<-CT n (B s),<-CT n v,e1,e2]
end OvC
namespace OvC
noncomputable def tp84(i:Ag):A8:=PySem.Challenge.pw_ovalfield_k84_whole_all_keeping.main.body.getD i (.Pass ⟨0,0,0,0⟩)
end OvC
noncomputable def OvC.view84:PySem.Program:={ PySem.Challenge.pw_ovalfield_k84_whole_all_keeping with main:={PySem.Challenge.pw_ovalfield_k84_whole_all_keeping.main with body:=[OvC.tp84 1,OvC.tp84 2,OvC.tp84 3,OvC.tp84 4,OvC.tp84 5,OvC.tp84 6,OvC.tp84 7,OvC.tp84 8,OvC.tp84 10,OvC.tp84 11,OvC.tp84 13,OvC.tp84 14,OvC.tp84 16,OvC.tp84 17,OvC.tp84 18,OvC.tp84 19,OvC.tp84 20,OvC.tp84 22,OvC.tp84 23,OvC.tp84 24,OvC.tp84 25,OvC.tp84 26,OvC.tp84 27,OvC.tp84 28,OvC.tp84 30,OvC.tp84 31,OvC.tp84 32,OvC.tp84 33,OvC.tp84 35,OvC.tp84 36,OvC.tp84 37,OvC.tp84 39,OvC.tp84 40,OvC.tp84 41,OvC.tp84 43,OvC.tp84 44,OvC.tp84 45,OvC.tp84 47,OvC.tp84 48,OvC.tp84 49,OvC.tp84 50,OvC.tp84 51,OvC.tp84 52,OvC.tp84 53,OvC.tp84 54,OvC.tp84 55,OvC.tp84 56,OvC.tp84 57,OvC.tp84 58,OvC.tp84 59,OvC.tp84 60,OvC.tp84 61,OvC.tp84 62,OvC.tp84 63,OvC.tp84 64,OvC.tp84 65,OvC.tp84 66]} }
set_option hygiene false
local macro_rules | `(tactic| o_head $H)=>`(tactic| refine holds_open (q:=OvC.view84) (loose:=[]) (Xt:=fun s=>xlAt OvC.view84 [] s&&recOk (RowW.records (OpenRow.toRowW (PySem.Challenge.rw_ovalfield_k84_whole_all_keeping.row))) s) (XP:=XL OvC.view84 []) (Yf:=Hook.obs $H) (Ya:=Hook.val $H) (YP:=Hook.says $H) (N:=6644) ?hl (Hook.of $H) (Hook.keeps $H) (fun s e=>xl_of s (Bool.and_eq_true_iff.mp e).1) XL.keeps (by rfl) (by rfl) (by rfl) (fun s e=>recFacts_of (Bool.and_eq_true_iff.mp e).2) (by rfl) (by first|assumption|decide +kernel) (by decide +kernel) ⟨rfl,rfl,rfl,rfl,rfl,by decide +kernel⟩ ?hw ?hc)
set_option maxRecDepth 100000 in
set_option maxHeartbeats 0 in
noncomputable def OvC.hold84:OvC.Eleven PySem.Challenge.rw_ovalfield_k84_whole_all_keeping.Holds:=by
 refine' ⟨_,_,_,_,_,_,_,_,_,_,_,_,_,_,_,_,_,_,_,_,_,_,_,_,_,_,_,_,_,_,_,_,_,_,λg1 g2 g3 g4 g5 g6 g7 g8 g9 į İ x=>_⟩
 rotate_right
 w_on;refine holds_law (by decide+kernel) λř=>?_;k_head
 (case hl=>intro w;refine OvC.map_pair ?p1 (OvC.map_take 100 ?p2 ?p3);(case p1=>rw[PySem.W.Fast.te4187177175401517315];unfold PySem.W.Fast.tw4187177175401517315 openGood;refine OvC.map_pair ?q1 (OvC.map_pair ?q2 (OvC.map_pair ?q3 (OvC.map_pair ?q4 (OvC.map_pair ?q5 (OvC.map_pair ?q6 (OvC.map_pair ?q7 (OvC.map_pair ?q8 ?q9)))))));(case q1=>unfold FP DT Gu;rw[Bq,Bt,Bw,Bs,Br];exact g1 w);(case q2=>unfold FP DT Gu;rw[Bq,Bt,Bw,Bs,Br];exact g2 w);(case q3=>unfold FP DT Gu;rw[Bq,Bt,Bw,Bs,Br];exact g3 w);(case q4=>unfold FP DT Gu;rw[Bq,Bt,Bw,Bs,Br];exact g4 w);(case q5=>unfold FP DT Gu;rw[Bq,Bt,Bw,Bs,Br];exact g5 w);(case q6=>unfold FP DT Gu;rw[Bq,Bt,Bw,Bs,Br];exact g6 w);(case q7=>unfold FP DT Gu;rw[Bq,Bt,Bw,Bs,Br];exact g7 w);(case q8=>unfold FP DT Gu;rw[Bq,Bt,Bw,Bs,Br];exact g8 w);(case q9=>unfold FP DT Gu;rw[Bq,Bt,Bw,Bs,Br];exact g9 w);skip);(case p2=>unfold FP DT Gu;rw[Bq,Bt,Bw,Bs,Br];exact į w);(case p3=>unfold FP DT Gu;rw[Bq,Bt,Bw,Bs,Br];exact İ w))
 (case hw=>w_witness2)
 k_fill
 revert ř
 exact x
theorem OvC.reck84_1(w:AJ):OvC.hold84.l1 w=OvC.hold84.r1 w:=by kernel_rfl
theorem OvC.reck84_2(w:AJ):OvC.hold84.l2 w=OvC.hold84.r2 w:=by kernel_rfl
theorem OvC.reck84_3(w:AJ):OvC.hold84.l3 w=OvC.hold84.r3 w:=by kernel_rfl
theorem OvC.reck84_4(w:AJ):OvC.hold84.l4 w=OvC.hold84.r4 w:=by kernel_rfl
theorem OvC.reck84_5(w:AJ):OvC.hold84.l5 w=OvC.hold84.r5 w:=by kernel_rfl
theorem OvC.reck84_6(w:AJ):OvC.hold84.l6 w=OvC.hold84.r6 w:=by kernel_rfl
theorem OvC.reck84_7(w:AJ):OvC.hold84.l7 w=OvC.hold84.r7 w:=by kernel_rfl
theorem OvC.reck84_8(w:AJ):OvC.hold84.l8 w=OvC.hold84.r8 w:=by kernel_rfl
theorem OvC.reck84_9(w:AJ):OvC.hold84.l9 w=OvC.hold84.r9 w:=by kernel_rfl
theorem OvC.reck84_10(w:AJ):OvC.hold84.l10 w=OvC.hold84.r10 w:=by kernel_rfl
theorem OvC.reck84_11(w:AJ):OvC.hold84.l11 w=OvC.hold84.r11 w:=by kernel_rfl
end
namespace L2
open PySem PySem.Spec PyProof.Rows
variable{a b:Ak}{ch:Ac Ak}{g:Ad->Ad->Ad}
abbrev Key:=Sum Ad Al
noncomputable def Zr:Key->Aj->Ai
 |.inl k,v=>Value.isInt k v
 |.inr x,v=>Value.isStrOf x v
noncomputable def jA(w:AJ):Key->Ad
 |.inl k=>hashInt k
 |.inr x=>hashStr w x
theorem KB:∀{k:Key}{v:Aj},Zr k v=Aa->(∃ i t,k=Jk i/\v=JS i t)\/(∃ x t,k=Jl x/\v=eG x t)
 |.inl i,v,h=>by
  obtain⟨t,e⟩:=Value.isInt_shape (k:=i) (v:=v) h;exact .inl ⟨i,t,rfl,e⟩
 |.inr x,v,h=>by
  obtain⟨t,e⟩:=Value.isStrOf_shape (x:=x) (v:=v) h;exact .inr ⟨x,t,rfl,e⟩
theorem jg(a b:Ad):decide ((Jk a:Key)=Jk b)=(a==b):=by
 by_cases e:a=b
 .subst e;simp
 .have h:¬ (Jk a:Key)=Jk b:=λq=>e (Sum.inl.inj q)
  rw[CK h];exact(D4.mpr e).symm
theorem jd(a b:Al):decide ((Jl a:Key)=Jl b)=decide (a=b):=by
 by_cases e:a=b
 .subst e;simp
 .have h:¬ (Jl a:Key)=Jl b:=λq=>e (Sum.inr.inj q)
  rw[CK h,CK e]
theorem jf(a:Ad)(b:Al):decide ((Jk a:Key)=Jl b)=Ae:=CK (λq=>nomatch q)
theorem je(a:Al)(b:Ad):decide ((Jl a:Key)=Jk b)=Ae:=CK (λq=>nomatch q)
def S6(prog:AW)(w:AJ):PySem.KeyKind prog w Key where
 is:=Zr
 hash:=jA w
 inj:=λv a b ha hb=>by
  rcases KB ha with ⟨i,t,rfl,rfl⟩|⟨x,t,rfl,rfl⟩
  .rcases KB hb with ⟨j,u,rfl,e⟩|⟨y,u,rfl,e⟩
   .injection e with e1 _;rw[e1]
   .exact nomatch e
  .rcases KB hb with ⟨j,u,rfl,e⟩|⟨y,u,rfl,e⟩
   .exact nomatch e
   .injection e with e1 _;rw[e1]
 byValue:=λk v h=>by
  rcases KB h with ⟨i,t,rfl,rfl⟩|⟨x,t,rfl,rfl⟩<;>rfl
 pyHash:=λhv h=>by
  rcases KB hv with ⟨i,t,rfl,rfl⟩|⟨x,t,rfl,rfl⟩
  .exact wpAny_pyHash_int h
  .exact wpAny_pyHash_str h
 eqBool:=λhu hv h=>by
  rcases KB hu with ⟨i,t,rfl,rfl⟩|⟨x,t,rfl,rfl⟩
  .rcases KB hv with ⟨j,u,rfl,rfl⟩|⟨y,u,rfl,rfl⟩
   .rw[jg]at h;exact Jx h
   .rw[jf]at h;exact SeqAt.EqAt.int_str i t y u _ _ _ _ h
  .rcases KB hv with ⟨j,u,rfl,rfl⟩|⟨y,u,rfl,rfl⟩
   .rw[je]at h;exact SeqAt.EqAt.str_int x t j u _ _ _ _ h
   .rw[jd]at h;exact wpAny_eqBool_str h
 «strs»:=λk x t v h=>by
  rcases KB h with ⟨i,u,rfl,e⟩|⟨y,u,rfl,e⟩
  .exact nomatch e
  .injection e with e1 _
   subst e1;cases v<;>rfl
inductive V where
 |O|bl (b:Ai)|int (i:Ad)|str (x:Al)|byt (b:Ax UInt8)|flt (b:UInt64)|ref (a:Ak)|ty (n:DQ)
 deriving DecidableEq
def Cp:V->Aj->Prop
 |.O,u=>u=Bo
 |.bl b,u=>u=Mq b
 |.int i,u=>∃ t,u=JS i t
 |.str x,u=>∃ t,u=eG x t
 |.byt b,u=>∃ t,u=Value.bytes b t
 |.flt b,u=>∃ t,u=Value.float b t
 |.ref a,u=>u=Dh a
 |.ty n,u=>u=DV n
abbrev Bv:Ac V->Ac Aj->Prop:=Jw Cp
def Bv.length(r:Bv xs us):xs.length=us.length:=dU r
theorem Bv.get:∀{xs:Ac V}{us:Ac Aj}{i:Ag}{x:V},Bv xs us->xs[i]?=Ab x->∃ u,us[i]?=Ab u/\Cp x u
 |_,_,_,_,.nil,e=>by simp at e
 |_,_,0,_,.cons r _,e=>by simp at e;subst e;exact⟨_,rfl,r⟩
 |_,_,i+1,x,.cons _ t,e=>by
  obtain⟨u,h1,h2⟩:=Bv.get (i:=i) (x:=x) t (by simpa using e)
  exact⟨u,by simpa using h1,h2⟩
theorem Bv.set(r:Cp x u):∀{xs:Ac V}{us:Ac Aj}(i:Ag),Bv xs us->Bv (xs.set i x) (us.set i u)
 |_,_,_,.nil=>.nil
 |_,_,0,.cons _ t=>.cons r t
 |_,_,i+1,.cons q t=>.cons q (Bv.set r i t)
theorem Bv.append:∀{xs ys:Ac V}{us ws:Ac Aj},Bv xs us->Bv ys ws->Bv (xs++ys) (us++ws)
 |_,_,_,_,.nil,s=>s
 |_,_,_,_,.cons r t,s=>.cons r (Bv.append t s)
theorem Bv.take:∀{xs:Ac V}{us:Ac Aj}(n:Ag),Bv xs us->Bv (xs.take n) (us.take n)
 |_,_,0,_=>.nil
 |_,_,_+1,.nil=>.nil
 |_,_,n+1,.cons r t=>.cons r (Bv.take n t)
theorem Bv.drop:∀{xs:Ac V}{us:Ac Aj}(n:Ag),Bv xs us->Bv (xs.drop n) (us.drop n)
 |_,_,0,r=>r
 |_,_,_+1,.nil=>.nil
 |_,_,n+1,.cons _ t=>Bv.drop n t
def UT:Ar V->Ar Aj->Prop
 |some v,Ab u=>Cp v u
 |none,Af=>IM
 |_,_=>BR
def KV{κ:Type}:Ac (κ×V)->Ac (κ×Aj)->Prop:=Jw fun(p:κ×V)(q:κ×Aj)=>p.1=q.1/\Cp p.2 q.2
noncomputable def kV:Key->V
 |.inl i=>.int i
 |.inr x=>.str x
inductive HO where
 |L (xs:Ac V)
 |H (xs:Ac V)
 |dK (kvs:Ac (Key×V))|dT (kvs:Ac (Ac Key×V))
 |set (S:Ad->Ai) (n:Ag)
 |ins (C dx:Ak) (fs:Ac (Al×V))
 |own (x:Ak)
 |xd (fs:Ac (Al×V))
 |met (f x:Ak)
 |rng (lo hi:Ad)
 |frz (o:DE) (u:HO)
 |tbl (ps:Ax Aj)
 |ext (φ:AO->Prop)
abbrev Hp:=Ak->Ar HO
noncomputable def upd(H:Hp)(a:Ak)(o:HO):Hp:=λb=>if b=a then Ab o else H b
def HP:upd H a o a=Ab o:=by unfold upd;rw[AB rfl]
def Dp(h:b≠a):upd H a o b=H b:=by unfold upd;rw[AF h]
theorem Hn{H:Hp}(h:H a=Ab o)(h':H b=Af):a≠b:=by
 intro e;subst e;rw[h]at h';cases h'
section
variable(P:AW)(w:AJ)
def ObjOk(H:Hp)(h:AO)(a:Ak):HO->Prop
  |.L xs=>xs.length<=sizeLine/\∃(its:Ac Aj)(n:Ag),Bv xs its/\h.get? a=Ab { cls:=.type "list",data:=.seq its.toArray n }
  |.H xs=>xs.length<=sizeLine/\∃ its:Ac Aj,Bv xs its/\Ku h a its.toArray
  |.dK kvs=>kvs.length<=sizeLine/\(a==HL)=Ae/\∃ vs,KV kvs vs/\h.DictOf (S6 P w) a vs
  |.dT kvs=>kvs.length<=sizeLine/\(a==HL)=Ae/\∃ xs:Ac (Ac Key×Ak×Aj),
      Jw (fun(p:Ac Key×V)(q:Ac Key×Ak×Aj)=>p.1=q.1/\H q.2.1=Ab (.H (p.1.map kV))/\Cp p.2 q.2.2) kvs xs /\
      ∃ o es ep,h.get? a=Ab o/\o.ExactDict/\o.data=.dict es ep/\es.toList=xs.map (entryOfKey (tupleKind (S6 P w)))/\(xs.map (·.1)).Nodup
  |.set S n=>h.SetOf (Gv P w) a S n
  |.ins C dx fs=>H dx=Ab (.own a)/\fs.length<=1000/\dx≠a/\h.get? a=Ab (PySem.W.instObj C dx) /\
      ∃ mA,h.Ns1 dx mA/\(∀ f,UT (fs.lookup f) (mA f))/\PySem.Within mA (fs.map (·.1))
  |.own _=>∃ o,h.get? a=Ab o
  |.xd fs=>∃ mA,h.Ns1 a mA/\∀ f,UT (fs.lookup f) (mA f)
  |.rng lo hi=>∃ t u v,h.get? a=Ab { cls:=.type "range",data:=.fields #[.int lo t,.int hi u,.int 1 v] }
  |.frz o u=>h.get? a=Ab o/\ObjOk H h a u
  |.tbl ps=>h.get? a=Ab {cls:=.none,data:=.fields ps}
  |.met f x=>h.get? a=Ab (Jg (.ref f) (.ref x))
  |.ext φ=>φ h/\(∃ o,h.get? a=Ab o)/\∀ h1 h2:AO,φ h1->(∀ o,h1.get? a=Ab o->h2.get? a=Ab o)->φ h2
def yt(H:Hp)(h:AO):Prop:=∀ a o,H a=Ab o->ObjOk P w H h a o
end
section
variable{a:Ak}
theorem ObjOk.lt(x:ObjOk P w H h a o):a<h.objs.size:=by
 cases o with
 |L xs=>obtain⟨_,_,_,_,e⟩:=x;exact AK e
 |H xs=>obtain⟨_,_,_,p⟩:=x;exact p.lt
 |dK kvs=>obtain⟨_,_,_,_,o,_,_,e,_⟩:=x;exact AK e
 |dT kvs=>obtain⟨_,_,_,_,o,_,_,e,_⟩:=x;exact AK e
 |set S n=>obtain⟨o,_,_,_,e,_⟩:=x;exact AK e
 |ins C dx fs=>obtain⟨_,_,_,e,_⟩:=x;exact AK e
 |own y=>obtain⟨_,e⟩:=x;exact AK e
 |xd fs=>obtain⟨_,⟨_,_,_,e,_⟩,_⟩:=x;exact AK e
 |rng lo hi=>obtain⟨_,_,_,e⟩:=x;exact AK e
 |frz ob u=>obtain⟨e,_⟩:=x;exact AK e
 |tbl ps=>exact AK (show h.get? a=Ab _ from x)
 |met f y=>exact AK (show h.get? a=Ab _ from x)
 |ext φ=>obtain⟨_,⟨_,e⟩,_⟩:=x;exact AK e
theorem Jw.mapP:∀{l₁:Ac α}{l₂:Ac β},Jw F l₁ l₂->(∀ a b,F a b->G a b)->Jw G l₁ l₂
 |_,_,.nil,_=>.nil
 |_,_,.cons r t,f=>.cons (f _ _ r) (Jw.mapP t f)
theorem ObjOk.stay(x:ObjOk P w H h a o)(k:∀ b u,(b=a\/H b=Ab (.own a))->h.get? b=Ab u->h'.get? b=Ab u)(ho:∀ b,H b=Ab (.own a)->H' b=Ab (.own a))(ht:∀ b xs,H b=Ab (.H xs)->H' b=Ab (.H xs)):ObjOk P w H' h' a o:=by
 induction o with
 |L xs=>obtain⟨z,its,n,r,e⟩:=x;exact⟨z,its,n,r,k _ _ (.inl rfl) e⟩
 |H xs=>obtain⟨z,its,r,ob,e,c⟩:=x;exact⟨z,its,r,ob,k _ _ (.inl rfl) e,c⟩
 |dK kvs=>obtain⟨z,y,vs,r,ob,es,ep,e,c⟩:=x;exact⟨z,y,vs,r,ob,es,ep,k _ _ (.inl rfl) e,c⟩
 |dT kvs=>
  obtain⟨z,y,xs,r,ob,es,ep,e,c⟩:=x;exact⟨z,y,xs,Jw.mapP r λp q z=>⟨z.1,ht _ _ z.2.1,z.2.2⟩,ob,es,ep,k _ _ (.inl rfl) e,c⟩
 |set S n=>obtain⟨ob,es,ep,t,e,c⟩:=x;exact⟨ob,es,ep,t,k _ _ (.inl rfl) e,c⟩
 |ins C dx fs=>
  obtain⟨d,z,ne,e,mA,⟨od,es,ep,e2,c⟩,r⟩:=x;exact⟨ho _ d,z,ne,k _ _ (.inl rfl) e,mA,⟨od,es,ep,k _ _ (.inr d) e2,c⟩,r⟩
 |own y=>obtain⟨ob,e⟩:=x;exact⟨ob,k _ _ (.inl rfl) e⟩
 |xd fs=>obtain⟨mA,⟨od,es,ep,e,c⟩,r⟩:=x;exact⟨mA,⟨od,es,ep,k _ _ (.inl rfl) e,c⟩,r⟩
 |rng lo hi=>obtain⟨t,u,v,e⟩:=x;exact⟨t,u,v,k _ _ (.inl rfl) e⟩
 |frz ob u ih=>obtain⟨e,q⟩:=x;exact⟨k _ _ (.inl rfl) e,ih q⟩
 |tbl ps=>
  have e:h.get? a=Ab {cls:=.none,data:=.fields ps}:=x;show h'.get? a=Ab {cls:=.none,data:=.fields ps};exact k a _ (.inl rfl) e
 |met f y=>
  have e:h.get? a=Ab (Jg (.ref f) (.ref y)):=x;show h'.get? a=Ab (Jg (.ref f) (.ref y));exact k a _ (.inl rfl) e
 |ext φ=>obtain⟨p,⟨o,e⟩,st⟩:=x;exact⟨st _ _ p λo q=>k _ _ (.inl rfl) q,⟨o,k _ _ (.inl rfl) e⟩,st⟩
theorem yt.lt(x:yt P w H h)(e:H a=Ab o):a<h.objs.size:=(x a o e).lt
theorem yt.fresh(x:yt P w H h)(e:h.objs.size<=a):H a=Af:=by
 cases q:H a with
 |none=>rfl
 |some u=>exact absurd (AS (x.lt q) e) (BH _)
theorem yt.kept(x:yt P w H h)(k:∀ b u,h.get? b=Ab u->h'.get? b=Ab u):yt P w H h':=λa o e=>
 (x a o e).stay (λb u _ q=>k b u q) (λ_ q=>q) λ_ _ q=>q
theorem yt.laid(x:yt P w H h)(k:∀ b u,h.get? b=Ab u->h'.get? b=Ab u)(hp:h.objs.size<=a)(new:ObjOk P w (upd H a o) h' a o):yt P w (upd H a o) h':=λb u e=>by
 have hn:=x.fresh hp;by_cases hb:b=a
 .subst hb;rw[HP]at e;cases e;exact new
 .rw[Dp hb]at e;exact(x b u e).stay (λc v _ q=>k c v q) (λc q=>by rw[Dp (Hn q hn)];exact q) λc xs q=>by rw[Dp (Hn q hn)];exact q
end
def Rd(H:Hp)(a:Ak)(u:HO):Prop:=H a=Ab u\/∃ o,H a=Ab (.frz o u)
theorem Rd.ok(r:Rd H a u)(x:yt P w H h):ObjOk P w H h a u:=by
 rcases r with r|⟨o,r⟩
 .exact x a u r
 .obtain⟨_,q⟩:=x a _ r;exact q
def ą:Ar HO->Prop
 |some (.L _)=>IM
 |some (.dK _)=>IM
 |some (.dT _)=>IM
 |some (.set _ _)=>IM
 |some (.ins _ _ _)=>IM
 |some (.ext _)=>IM
 |_=>BR
theorem yt.write(ok:yt P w H h)(mu:ą (H x))(he:e=x\/H e=Ab (.own x))(k:∀ b u,b≠e->h.get? b=Ab u->h'.get? b=Ab u)(Ū:∃ u,h'.get? e=Ab u)(new:ObjOk P w (upd H x o') h' x o'):yt P w (upd H x o') h':=λb u q=>by
 have œ:∀ c y,H c=Ab (.own y)->c≠x:=λc y r z=>by subst z;rw[r]at mu;exact mu
 have ntup:∀ c xs,H c=Ab (.H xs)->c≠x:=λc xs r z=>by subst z;rw[r]at mu;exact mu
 by_cases hb:b=x
 .subst hb;rw[HP]at q;cases q;exact new
 .rw[Dp hb]at q;by_cases hbe:b=e
  .have q':H b=Ab (.own x):=by
    rcases he with z|z
    .exact absurd (hbe.trans z) hb
    .rw[hbe];exact z
   rw[q]at q';cases q';obtain⟨v,hv⟩:=Ū;exact⟨v,by rw[hbe];exact hv⟩
  .refine(ok b u q).stay (λc v hc r=>k c v ?_ r) (λc r=>by rw[Dp (œ c b r)];exact r) λc xs r=>by rw[Dp (ntup c xs r)];exact r
   rcases hc with rfl|hc
   .exact hbe
   .rintro rfl;rcases he with z|z
    .exact œ c b hc z
    .rw[hc]at z;cases z;exact hb rfl
structure Un (fs ex:Ac Ak) (H H':Hp) (h h':AO):Prop where
 keep:∀ b o,h.get? b=Ab o->H b=Af->b∉fs->b∉ex->h'.get? b=Ab o
 slot:∀ b o,h.get? b=Ab o->H b=Af->b∈fs->b∉ex->∃ sl,h'.get? b=Ab {o with slots:=sl}
 free:∀ b o,h.get? b=Ab o->H b=Af->b∉ex->H' b=Af
 there:∀ b o,h.get? b=Ab o->b∉ex->∃ o',h'.get? b=Ab o'
 tups:∀ b xs,H b=Ab (.H xs)->H' b=Ab (.H xs)
 frzs:∀ b o u,H b=Ab (.frz o u)->H' b=Ab (.frz o u)
 tbls:∀ b ps,H b=Ab (.tbl ps)->∃ more,H' b=Ab (.tbl (ps++more))
section
variable{h:AO}{a:Ak}
theorem Un.any(u:Un fs ex H H1 h h1)(q:h.get? b=Ab ob)(n:H b=Af)(hx:b∉ex):∃ sl,h1.get? b=Ab {ob with slots:=sl}:=by
 by_cases hb:b∈fs
 .exact u.slot b ob q n hb hx
 .exact⟨ob.slots,u.keep b ob q n hb hx⟩
theorem Un.kept(k:∀ b u,h.get? b=Ab u->h'.get? b=Ab u):Un fs ex H H h h':=
 ⟨λb ob q _ _ _=>k b ob q,λb ob q _ _ _=>⟨ob.slots,k b ob q⟩,λ_ _ _ n _=>n,λb ob q _=>⟨ob,k b ob q⟩,λ_ _ q=>q,λ_ _ _ q=>q,λ_ ps q=>⟨#[],by rw[q];simp⟩⟩
def Un.refl:Un fs ex H H h h:=Un.kept λ_ _ q=>q
theorem Un.laid(k:∀ b u,h.get? b=Ab u->h'.get? b=Ab u)(hp:h.objs.size<=a)(hn:H a=Af):Un fs ex H (upd H a o) h h' where
 keep:=λb u q _ _ _=>k b u q
 slot:=λb u q _ _ _=>⟨u.slots,k b u q⟩
 free:=λb u q n _=>by rw[Dp (Be (AS (AK q) hp))];exact n
 there:=λb u q _=>⟨u,k b u q⟩
 tups:=λb xs q=>by rw[Dp (Hn q hn)];exact q
 frzs:=λb u xs q=>by rw[Dp (Hn q hn)];exact q
 tbls:=λb ps q=>⟨#[],by rw[Dp (Hn q hn),q];simp⟩
theorem Un.write(mu:ą (H x))(he:e=x\/H e=Ab (.own x))(k:∀ b u,b≠e->h.get? b=Ab u->h'.get? b=Ab u)(Ū:∃ u,h'.get? e=Ab u):Un fs ex H (upd H x o) h h':=by
 have hx:∀ b,H b=Af->b≠x:=λb n z=>by subst z;rw[n]at mu;exact mu
 have hb:∀ b,H b=Af->b≠e:=λb n z=>by
  subst z;rcases he with r|r
  .exact hx b n r
  .rw[n]at r;cases r
 have hm:∀ b u,H b=Ab u->¬ ą (Ab u)->b≠x:=λb u q nm z=>by subst z;rw[q]at mu;exact nm mu
 refine⟨λb u q n _ _=>k b u (hb b n) q,λb u q n _ _=>⟨u.slots,k b u (hb b n) q⟩,λb u q n _=>by rw[Dp (hx b n)];exact n,λb u q _=>?_,
  λb xs q=>by rw[Dp (hm b _ q λz=>z)];exact q,λb u xs q=>by rw[Dp (hm b _ q λz=>z)];exact q,λb ps q=>⟨#[],by rw[Dp (hm b _ q λz=>z),q];simp⟩⟩
 by_cases hbe:b=e
 .subst hbe;exact Ū
 .exact⟨u,k b u hbe q⟩
end
noncomputable def Ğ(h:AO)(H:Hp):Ac Ak:=(B5 h.objs.size).filter λa=>(H a).isSome
def KQ(h:AO)(H:Hp):AO:=PySem.W.hideAll h (Ğ h H)
theorem nX(h:AO)(H:Hp):(KQ h H).objs.size=h.objs.size:=PySem.W.hideAll_size _ _
theorem rX(e:h.get? b=Ab o)(n:H b=Af):(KQ h H).get? b=Ab o:=
 PySem.W.hideAll_get _ e λhm=>by
  have q:(H b).isSome=Aa:=(AH.mp hm).2;rw[n]at q;simp at q
theorem wN(e:(KQ h H).get? b=Ab o):h.get? b=Ab o/\H b=Af:=by
 have e':h.get? b=Ab o:=PySem.W.of_hideAll (Ğ h H) e;refine⟨e',?_⟩;cases q:H b with
 |none=>rfl
 |some x=>
  have hm:b∈Ğ h H:=AH.mpr ⟨Dl.mpr (AK e'),by simp[q]⟩
  have z:(KQ h H).get? b=Af:=PySem.W.hideAll_none (Ğ h H) hm;rw[z]at e;cases e
noncomputable def ck(g h:AO)(L:Ak):Pn:=(B5 h.objs.size).filterMap λa=>if a=L\/(g.get? a).isSome=Aa then Af else (h.get? a).map λo=>(a,o)
def rest(g h:AO)(L d:Ak):Pn:=(ck g h L).filter λp=>decide (p.1≠d)
structure Mod (K:Fg) (mg:Al->Ar Aj) (base:AO):Prop where
 kin:K.In base
 glob:base.Ns By mg
 blt:∃ mb,base.Ns Ky mb/\∀ x:Al,x≠"__name__"->mb x=DP x
 nolimit:base.NoLimit
structure Cx where
 prog:AW
 w:AJ
 K:Fg
 mg:Al->Ar Aj
 base:AO
 A:A9
 N:Ac Al
 s₀:Aq
 H₀:Hp
 env:DA
 outer:Ac DA
 stack:Ac DA
 ex:Ac Ak
 fn:Al->Ai
 calm:Ai
 pn:Pn
 xe:Aj->Aq->Prop
noncomputable def ye(l:Ac DA):Ac Ak:=l.filterMap (·.frame)
abbrev Cx.fs(X:Cx):Ac Ak:=ye X.outer
def Vis(sc:CP)(x:Al):Prop:=sc.names.lookup x=Ab .local\/sc.names.lookup x=Ab .cell\/sc.names.lookup x=Ab .free
def Χ(sc:CP)(x:Al):Prop:=sc.names.lookup x=Ab .local\/sc.names.lookup x=Ab .cell
def iW(env:DA)(h:AO)(m:Al->Ar Aj)(x:Al)(u:Aj):Prop:=
 (env.kindOf x=Ab .local/\m x=Ab u)\/((env.kindOf x=Ab .cell\/env.kindOf x=Ab .free)/\∃ c,env.cells.lookup x=Ab c/\h.IsCell c (Ab u))
structure Cx.Ok (X:Cx):Prop where
 mod:Mod X.K X.mg X.base
 kind:X.env.scope.kind=.function
 glob:X.env.globals=By
 blt:X.env.builtins=Ky
 above:X.s₀.heap.objs.size<=X.env.locals
 inj:∀ x y c,X.env.cells.lookup x=Ab c->X.env.cells.lookup y=Ab c->x=y
 has:∀ x,(X.env.kindOf x=Ab .cell\/X.env.kindOf x=Ab .free)->∃ c,X.env.cells.lookup x=Ab c
 cab:∀ x c,X.fn x=Aa->X.env.cells.lookup x=Ab c->X.s₀.heap.objs.size<=c
 hd:X.calm=Aa->X.A.handled=Af
 frames:X.A.frames=Ab X.stack
 stk:X.stack=X.outer\/(X.stack=X.env::X.outer/\X.env.frame=Ab X.env.locals)
 exf:∀ b∈X.ex,b≠X.env.locals/\∀ x c,X.env.cells.lookup x=Ab c->c≠b
 bs:∀ b o,X.base.get? b=Ab o->X.s₀.heap.get? b=Ab o/\X.H₀ b=Af
 bsz:X.base.objs.size<=X.s₀.heap.objs.size
 noex:∀ b o,X.base.get? b=Ab o->b∉X.ex
 exfs:∀ b∈X.ex,b∉X.fs
 funs:X.s₀.heap.FunFrames X.base X.outer
 frf:∀ b∈X.fs,X.H₀ b=Af
structure Z4 (X:Cx) (pI:Pn) (Z:Ac (Ar V)) (H:Hp) (s:Aq):Prop where
 ok:X.Ok
 os:s.os=X.s₀.os
 bare:GW s.gens
 base:Un X.fs X.ex X.H₀ H X.s₀.heap s.heap
 loc:∃ m,s.heap.Ns X.env.locals m/\∀(i:Ag)(x:Al)(v:V),X.N[i]?=Ab x->Z[i]?=Ab (Ab v)->Vis X.env.scope x->∃ u,Cp v u/\iW X.env s.heap m x u
 cell:∀ x c,X.env.cells.lookup x=Ab c->∃ v,s.heap.IsCell c v
 free:H X.env.locals=Af
 freeC:∀ x c,X.env.cells.lookup x=Ab c->H c=Af
 pin:∀ p∈X.pn++pI,s.heap.get? p.1=Ab p.2/\H p.1=Af/\p.1≠X.env.locals/\p.1∉X.fs/\∀ v,p.2.data≠.cell v
 hok:yt X.prog X.w H s.heap
 len:Z.length=X.N.length
theorem Cx.Ok.nofr{X:Cx}(ok:X.Ok)(e:X.base.get? b=Ab o):b∉X.fs:=λhb=>by
 have:=(ok.funs.mem hb).1;rw[e]at this;cases this
theorem Z4.bs(I:Z4 X pI Z H s):∀ b o,X.base.get? b=Ab o->s.heap.get? b=Ab o/\H b=Af:=λb o e=>
 ⟨I.base.keep b o (I.ok.bs b o e).1 (I.ok.bs b o e).2 (I.ok.nofr e) (I.ok.noex b o e),I.base.free b o (I.ok.bs b o e).1 (I.ok.bs b o e).2 (I.ok.noex b o e)⟩
theorem Z4.bk(I:Z4 X pI Z H s):∀ b o,X.base.get? b=Ab o->s.heap.get? b=Ab o:=λb o e=>(I.bs b o e).1
theorem Z4.mod(I:Z4 X pI Z H s):Mod X.K X.mg X.base:=I.ok.mod
theorem Z4.kIn(I:Z4 X pI Z H s):X.K.In s.heap:=I.ok.mod.kin.keeps I.bk
theorem Z4.lt(I:Z4 X pI Z H s):X.env.locals<s.heap.objs.size:=let ⟨_,hn,_⟩:=I.loc;hn.lt
theorem Z4.sz(I:Z4 X pI Z H s):X.s₀.heap.objs.size<=s.heap.objs.size:=CM I.ok.above (FY I.lt)
theorem Z4.nofs(I:Z4 X pI Z H s)(h:s.heap.objs.size<=a):a∉X.fs:=λhb=>by
 obtain⟨_,o,ho,_⟩:=I.ok.funs.mem hb;exact absurd (AS (AK ho) (CM I.sz h)) (BH _)
theorem Z4.cne(I:Z4 X pI Z H s):∀ x c,X.env.cells.lookup x=Ab c->c≠X.env.locals:=λx c e z=>by
 obtain⟨v,o,ho,hd⟩:=I.cell x c e;obtain⟨m,⟨o',es,ep,oI,È,_⟩,_⟩:=I.loc;rw[z,oI]at ho;cases ho;rw[È]at hd;cases hd
theorem Z4.funs(I:Z4 X pI Z H s):s.heap.FunFrames X.base X.outer:=by
 have all:∀(l:Ac DA),(∀ b∈ye l,b∈X.fs)->X.s₀.heap.FunFrames X.base l->s.heap.FunFrames X.base l:=by
  intro l
  induction l with
  |nil=>intro _ _;trivial
  |cons env r ih=>
   intro hs hl;obtain⟨hk,⟨L,o,hf,hn,ho,hd⟩,hr⟩:=hl;have hL:L∈X.fs:=hs L (by unfold ye;rw[Ib,hf];exact Av)
   obtain⟨sl,e⟩:=I.base.slot L o ho (I.ok.frf L hL) hL λz=>I.ok.exfs L z hL
   exact⟨hk,⟨L,_,hf,hn,e,hd⟩,ih (λb hb=>hs b (by unfold ye;rw[Ib,hf];exact As _ hb)) hr⟩
 exact all X.outer (λ_ hb=>hb) I.ok.funs
theorem Z4.stack(I:Z4 X pI Z H s):s.heap.FunFrames X.base X.stack:=by
 rcases I.ok.stk with e|⟨e,hf⟩
 .rw[e];exact I.funs
 .rw[e];obtain⟨m,hn,_⟩:=I.loc;refine .cons (by rw[I.ok.kind];decide) hf hn ?_ I.funs
  exact HG (CM I.ok.bsz I.ok.above)
theorem Z4.stkSub(I:Z4 X pI Z H s):∀ b∈ye X.stack,b∈X.env.locals::X.fs:=λb hb=>by
 rcases I.ok.stk with e|⟨e,hf⟩
 .rw[e]at hb;exact As _ hb
 .rw[e]at hb;unfold ye at hb;rw[Ib,hf]at hb;exact hb
theorem Z4.stkFree(I:Z4 X pI Z H s):∀ b∈ye X.stack,H b=Af:=λb hb=>by
 rcases Ay.mp (I.stkSub b hb) with e|hb
 .rw[e];exact I.free
 .obtain⟨_,o,ho,_⟩:=I.ok.funs.mem hb;exact I.base.free b o ho (I.ok.frf b hb) λz=>I.ok.exfs b z hb
theorem Z4.step(I:Z4 X pI Z H s)(Ç:∀ b∈ch,(b∈X.ex\/X.s₀.heap.objs.size<=b)/\b≠X.env.locals/\(∀ x c,X.env.cells.lookup x=Ab c->c≠b)/\∀ p∈X.pn++pI,p.1≠b)(keep:∀ b o,b≠X.env.locals->b∉X.fs->b∉ch->s.heap.get? b=Ab o->H b=Af->h'.get? b=Ab o)(slot:∀ b o,b≠X.env.locals->b∈X.fs->b∉ch->s.heap.get? b=Ab o->H b=Af->∃ sl,h'.get? b=Ab {o with slots:=sl})(free:∀ b o,b∉ch->s.heap.get? b=Ab o->H b=Af->H' b=Af)(there:∀ b o,b∉ch->s.heap.get? b=Ab o->∃ o',h'.get? b=Ab o')(tups:∀ b xs,H b=Ab (.H xs)->H' b=Ab (.H xs))(frzs:∀ b o u,H b=Ab (.frz o u)->H' b=Ab (.frz o u))(tbls:∀ b ps,H b=Ab (.tbl ps)->∃ more,H' b=Ab (.tbl (ps++more)))(ns:∀ m,s.heap.Ns X.env.locals m->h'.Ns X.env.locals m)(hok:yt X.prog X.w H' h')(hg:GW g'):Z4 X pI Z H' {s with heap:=h',gens:=g',drawn:=d',toks:=t'}:=by
 have neL:∀ b o,X.s₀.heap.get? b=Ab o->b≠X.env.locals:=λb o e=>Be (AS (AK e) I.ok.above)
 have ĕ:∀ b o,X.s₀.heap.get? b=Ab o->b∉X.ex->b∉ch:=λb o e hx hb=>by
  rcases (Ç b hb).1 with z|z
  .exact hx z
  .exact absurd (AS (AK e) z) (BH _)
 have cellK:∀ x c,X.env.cells.lookup x=Ab c->∀ v,s.heap.IsCell c v->h'.IsCell c v:=λx c e v ⟨o,ho,hd⟩=>by
  have Ő:c∉ch:=λz=>(Ç c z).2.2.1 x c e rfl
  by_cases hc:c∈X.fs
  .obtain⟨sl,q⟩:=slot c o (I.cne x c e) hc Ő ho (I.freeC x c e);exact⟨_,q,hd⟩
  .exact⟨o,keep c o (I.cne x c e) hc Ő ho (I.freeC x c e),hd⟩
 refine⟨I.ok,I.os,hg,⟨λb o e n hb hx=>?_,λb o e n hb hx=>?_,λb o e n hx=>?_,λb o e hx=>?_,λb xs e=>tups b xs (I.base.tups b xs e),λb o xs e=>frzs b o xs (I.base.frzs b o xs e),λb ps e=>?_⟩,?_,λx c e=>?_,?_,λx c e=>?_,λp hp=>?_,hok,I.len⟩
 .exact keep b o (neL b o e) hb (ĕ b o e hx) (I.base.keep b o e n hb hx) (I.base.free b o e n hx)
 .obtain⟨sl,e1⟩:=I.base.slot b o e n hb hx;obtain⟨Ŵ,e2⟩:=slot b _ (neL b o e) hb (ĕ b o e hx) e1 (I.base.free b o e n hx);exact⟨Ŵ,e2⟩
 .obtain⟨o',e1⟩:=I.base.there b o e hx;exact free b o' (ĕ b o e hx) e1 (I.base.free b o e n hx)
 .obtain⟨o',e1⟩:=I.base.there b o e hx;exact there b o' (ĕ b o e hx) e1
 .obtain⟨m1,e1⟩:=I.base.tbls b ps e;obtain⟨m2,e2⟩:=tbls b _ e1;exact⟨m1++m2,by rw[e2,Array.append_assoc]⟩
 .obtain⟨m,hn,hl⟩:=I.loc;refine⟨m,ns m hn,λi x v e1 e2 e3=>?_⟩
  obtain⟨u,r,l⟩:=hl i x v e1 e2 e3;refine⟨u,r,?_⟩;rcases l with l|⟨k,c,e,z⟩
  .exact .inl l
  .exact .inr ⟨k,c,e,cellK x c e _ z⟩
 .obtain⟨v,z⟩:=I.cell x c e;exact⟨v,cellK x c e v z⟩
 .obtain⟨m,⟨o,_,_,ho,_⟩,_⟩:=I.loc;exact free _ o (λz=>(Ç _ z).2.1 rfl) ho I.free
 .obtain⟨v,o,ho,hd⟩:=I.cell x c e;exact free c o (λz=>(Ç c z).2.2.1 x c e rfl) ho (I.freeC x c e)
 .obtain⟨e,n,ne,nf,d⟩:=I.pin p hp;have Ő:p.1∉ch:=λz=>(Ç p.1 z).2.2.2 p hp rfl
  exact⟨keep p.1 p.2 ne nf Ő e n,free p.1 p.2 Ő e n,ne,nf,d⟩
theorem Z4.un(I:Z4 X pI Z H s)(u:Un X.fs [] H H' s.heap h')(hok:yt X.prog X.w H' h'):Z4 X pI Z H' {s with heap:=h',toks:=t'}:=by
 obtain⟨m,⟨o,es,ep,ho,r⟩,_⟩:=id I.loc;obtain⟨sl,hL⟩:=u.any ho I.free (by simp)
 exact I.step (g':=s.gens) (d':=s.drawn) (ch:=[]) (λ_ z=>nomatch z) (λb o _ hb _ e n=>u.keep b o e n hb (by simp)) (λb o _ hb _ e n=>u.slot b o e n hb (by simp)) (λb o _ e n=>u.free b o e n (by simp)) (λb o _ e=>u.there b o e (by simp)) u.tups u.frzs u.tbls (λm' hm=>by
  obtain⟨o',xm,ep',oI,r'⟩:=hm;rw[ho]at oI;cases oI;exact⟨_,xm,ep',hL,r'⟩) hok I.bare
theorem Z4.call(I:Z4 X pI Z H s)(u:Un (ye X.stack) ch H H' s.heap h')(hok:yt X.prog X.w H' h')(hg:GW g')(Ç:∀ b∈ch,(b∈X.ex\/X.s₀.heap.objs.size<=b)/\b≠X.env.locals/\(∀ x c,X.env.cells.lookup x=Ab c->c≠b)/\∀ p∈X.pn++pI,p.1≠b):Z4 X pI Z H' {s with heap:=h',gens:=g',drawn:=d',toks:=t'}:=by
 obtain⟨m,⟨o,es,ep,ho,r⟩,_⟩:=id I.loc;obtain⟨sl,hL⟩:=u.any ho I.free λz=>(Ç _ z).2.1 rfl
 exact I.step (ch:=ch) Ç (λb o hL hb hc e n=>u.keep b o e n (λz=>(Ay.mp (I.stkSub b z)).elim hL hb) hc) (λb o _ _ hc e n=>u.any e n hc) (λb o hc e n=>u.free b o e n hc) (λb o hc e=>u.there b o e hc) u.tups u.frzs u.tbls (λm' hm=>by
  obtain⟨o',xm,ep',oI,r'⟩:=hm;rw[ho]at oI;cases oI;exact⟨_,xm,ep',hL,r'⟩) hok hg
theorem Z4.turned(I:Z4 X pI Z H s)(k:∀ b o,b≠it->s.heap.get? b=Ab o->h'.get? b=Ab o)(hn:H it=Af)(hL:it≠X.env.locals)(h1:it∈X.ex\/X.s₀.heap.objs.size<=it)(h2:∀ x c,X.env.cells.lookup x=Ab c->c≠it)(h3:∀ p∈X.pn++pI,p.1≠it):Z4 X pI Z H {s with heap:=h',toks:=t'}:=by
 have ő:∀ b u,H b=Ab u->b≠it:=λb u e z=>by rw[z,hn]at e;cases e
 refine I.step (g':=s.gens) (d':=s.drawn) (ch:=[it]) (λb hb=>?_) (λb o _ _ hc e _=>k b o (λz=>hc (by simp[z])) e) (λb o _ _ hc e _=>⟨o.slots,k b o (λz=>hc (by simp[z])) e⟩) (λ_ _ _ _ n=>n)
  (λb o hc e=>⟨o,k b o (λz=>hc (by simp[z])) e⟩) (λ_ _ e=>e) (λ_ _ _ e=>e) (λb ps e=>⟨#[],by rw[e];simp⟩) (λm hm=>?_) (λb u e=>?_) I.bare
 .have e:b=it:=by simpa using hb
  subst e;exact⟨h1,hL,h2,h3⟩
 .obtain⟨o,es,ep,ho,r⟩:=hm;exact⟨o,es,ep,k _ o (Cy hL) ho,r⟩
 .refine(I.hok b u e).stay (λc v hc q=>k c v ?_ q) (λ_ q=>q) λ_ _ q=>q
  rcases hc with z|z
  .rw[z];exact ő b u e
  .exact ő c _ z
theorem Z4.tok(I:Z4 X pI Z H s)(t:Ag):Z4 X pI Z H {s with toks:=t}:=I.un (h':=s.heap) (t':=t) Un.refl I.hok
theorem Z4.kept(I:Z4 X pI Z H s)(k:∀ b u,s.heap.get? b=Ab u->h'.get? b=Ab u):Z4 X pI Z H {s with heap:=h',toks:=t'}:=I.un (Un.kept k) (I.hok.kept k)
theorem Z4.laid{a:Ak}(I:Z4 X pI Z H s)(k:∀ b u,s.heap.get? b=Ab u->h'.get? b=Ab u)(hp:s.heap.objs.size<=a)(new:ObjOk X.prog X.w (upd H a o) h' a o):Z4 X pI Z (upd H a o) {s with heap:=h',toks:=t'}:=I.un (Un.laid k hp (I.hok.fresh hp)) (I.hok.laid k hp new)
theorem Z4.write(I:Z4 X pI Z H s)(mu:ą (H x))(he:e=x\/H e=Ab (.own x))(k:∀ b u,b≠e->s.heap.get? b=Ab u->h'.get? b=Ab u)(Ū:∃ u,h'.get? e=Ab u)(new:ObjOk X.prog X.w (upd H x o) h' x o):Z4 X pI Z (upd H x o) {s with heap:=h',toks:=t'}:=I.un (Un.write mu he k Ū) (I.hok.write mu he k Ū new)
theorem Z4.pins_of(I:Z4 X pI Z H s)(h:∀ p∈mN,s.heap.get? p.1=Ab p.2/\H p.1=Af/\p.1≠X.env.locals/\p.1∉X.fs/\∀ v,p.2.data≠.cell v):Z4 X mN Z H s:=
 ⟨I.ok,I.os,I.bare,I.base,I.loc,I.cell,I.free,I.freeC,λp hp=>(FI.mp hp).elim (λz=>I.pin p (HA _ z)) (h p),I.hok,I.len⟩
theorem WB{N:Ac Al}(hN:N.Nodup){j:Ag}(a:N[i]?=Ab x)(b:N[j]?=Ab x):i=j:=by
 obtain⟨h1,e1⟩:=Bh.mp a;obtain⟨h2,e2⟩:=Bh.mp b;exact(List.getElem_inj hN).mp (e1.trans e2.symm)
theorem VT{E:Vq}(I:Z4 X pI Z H s)(hN:X.N.Nodup)(hi:X.N[i]?=Ab x)(hx:Χ X.env.scope x)(r:Cp v u)(h:∀ s',Z4 X pI (Z.set i (Ab v)) H s'->(∃ a,Fn a s.heap s'.heap/\(a=X.env.locals\/X.env.cells.lookup x=Ab a))->Q () s')(hf:X.fn x=Aa\/X.env.scope.names.lookup x=Ab .local:=by first|exact .inl rfl|exact .inr rfl|assumption):Az M A (storeName X.env x u) Q E s:=by
 obtain⟨m,hn,hl⟩:=id I.loc;have hcls:(X.env.scope.kind==.class||(X.env.scope.kind==.module&&X.env.locals != X.env.globals))=Ae:=by rw[I.ok.kind];rfl
 have hiσ:i<Z.length:=by rw[I.len];exact(Bh.mp hi).1
 have cne:=I.cne;have tracked:∀{a:Ak}{h':AO},(∃ o,s.heap.get? a=Ab o/\H a=Af)->Fn a s.heap h'->yt X.prog X.w H h':=λ{a h'} ha hs b ob e=>by
  obtain⟨_,_,ε⟩:=ha;refine(I.hok b ob e).stay (λc w' hc q=>(hs.2 c ?_).trans q) (λ_ q=>q) λ_ _ q=>q
  rintro rfl;rcases hc with rfl|hc
  .rw[ε]at e;cases e
  .rw[ε]at hc;cases hc
 rcases hx with hk|hk
 .refine wpAny_storeName_local hk hn (λh' hn' hs=>?_) hcls
  obtain⟨oL,_,_,Đ,_⟩:=id hn;refine h _ ⟨I.ok,I.os,I.bare,⟨λb o e n hb hx=>?_,λb o e n hb hx=>?_,I.base.free,λb o e hx=>?_,I.base.tups,I.base.frzs,I.base.tbls⟩,⟨_,hn',λj y v' e1 e2 e3=>?_⟩,λy c e=>?_,I.free,I.freeC,λp hp=>?_,tracked ⟨oL,Đ,I.free⟩ hs,by simpa using I.len⟩ ⟨_,hs,.inl rfl⟩
  .exact(hs.2 b (Be (AS (AK e) I.ok.above))).trans (I.base.keep b o e n hb hx)
  .obtain⟨sl,e1⟩:=I.base.slot b o e n hb hx;exact⟨sl,(hs.2 b (Be (AS (AK e) I.ok.above))).trans e1⟩
  .obtain⟨o',e1⟩:=I.base.there b o e hx;exact⟨o',(hs.2 b (Be (AS (AK e) I.ok.above))).trans e1⟩
  .by_cases hj:j=i
   .subst hj;rw[hi]at e1;cases e1;rw[Ci hiσ]at e2;cases e2;exact⟨u,r,.inl ⟨hk,by simp⟩⟩
   .rw[Hz (Cy hj)]at e2;obtain⟨u',r',q⟩:=hl j y v' e1 e2 e3;refine⟨u',r',?_⟩;rcases q with ⟨k,e⟩|⟨k,c,e,z⟩
    .refine .inl ⟨k,?_⟩;have:y≠x:=λe=>hj (WB hN e1 (e ▸ hi))
     simp[this,e]
    .exact .inr ⟨k,c,e,z.sameBut hs (cne y c e)⟩
  .obtain⟨w',z⟩:=I.cell y c e;exact⟨w',z.sameBut hs (cne y c e)⟩
  .obtain⟨e,n,ne,nf,d⟩:=I.pin p hp;exact⟨(hs.2 p.1 ne).trans e,n,ne,nf,d⟩
 .have Ļ:X.fn x=Aa:=by
   rcases hf with z|z
   .exact z
   .rw[z]at hk;cases hk
  obtain⟨c,hc⟩:=I.ok.has x (.inl hk);obtain⟨w',z⟩:=I.cell x c hc;refine wpAny_storeName_cell I.ok.kind hk hc z (λh' ú hs=>?_)
  obtain⟨oc,hoc,hocd⟩:=id z;refine h {s with heap:=h'} ⟨I.ok,I.os,I.bare,⟨λb o e n hb hx=>?_,λb o e n hb hx=>?_,I.base.free,λb o e hx=>?_,I.base.tups,I.base.frzs,I.base.tbls⟩,⟨m,hn.sameBut hs (Cy (cne x c hc)),λj y v' e1 e2 e3=>?_⟩,λy c' e=>?_,I.free,I.freeC,λp hp=>?_,tracked ⟨oc,hoc,I.freeC x c hc⟩ hs,by simpa using I.len⟩ ⟨c,hs,.inr hc⟩
  .exact(hs.2 b (Be (AS (AK e) (I.ok.cab x c Ļ hc)))).trans (I.base.keep b o e n hb hx)
  .obtain⟨sl,e1⟩:=I.base.slot b o e n hb hx;exact⟨sl,(hs.2 b (Be (AS (AK e) (I.ok.cab x c Ļ hc)))).trans e1⟩
  .obtain⟨o',e1⟩:=I.base.there b o e hx;exact⟨o',(hs.2 b (Be (AS (AK e) (I.ok.cab x c Ļ hc)))).trans e1⟩
  .by_cases hj:j=i
   .subst hj;rw[hi]at e1;cases e1;rw[Ci hiσ]at e2;cases e2;exact⟨u,r,.inr ⟨.inl hk,c,hc,ú⟩⟩
   .rw[Hz (Cy hj)]at e2;obtain⟨u',r',q⟩:=hl j y v' e1 e2 e3;refine⟨u',r',?_⟩;rcases q with q|⟨k,c',e,z'⟩
    .exact .inl q
    .refine .inr ⟨k,c',e,z'.sameBut hs ?_⟩;rintro rfl;exact hj (WB hN e1 (I.ok.inj _ _ _ e hc ▸ hi))
  .by_cases ĸ:c'=c
   .subst ĸ;exact⟨_,ú⟩
   .obtain⟨w2,z2⟩:=I.cell y c' e;exact⟨w2,z2.sameBut hs ĸ⟩
  .obtain⟨e,n,ne,nf,d⟩:=I.pin p hp;refine⟨(hs.2 p.1 ?_).trans e,n,ne,nf,d⟩;intro q;rw[q,hoc]at e;have q':oc=p.2:=B6 e;exact d w' (by rw[<-q'];exact hocd)
theorem WR{E:Vq}(I:Z4 X pI Z H s)(hN:X.N.Nodup)(hi:X.N[i]?=Ab x)(hx:Χ X.env.scope x)(r:Cp v u)(h:∀ s',Z4 X pI (Z.set i (Ab v)) H s'->Q () s')(hf:X.fn x=Aa\/X.env.scope.names.lookup x=Ab .local:=by first|exact .inl rfl|exact .inr rfl|assumption):Az M A (storeName X.env x u) Q E s:=
 VT I hN hi hx r (λs' I' _=>h s' I') hf
theorem Z4.call'(I:Z4 X pI Z H s)(ho:s'.os=s.os)(u:Un (ye X.stack) ch H H' s.heap s'.heap)(hok:yt X.prog X.w H' s'.heap)(hg:GW s'.gens)(Ç:∀ b∈ch,(b∈X.ex\/X.s₀.heap.objs.size<=b)/\b≠X.env.locals/\(∀ x c,X.env.cells.lookup x=Ab c->c≠b)/\∀ p∈X.pn++pI,p.1≠b):Z4 X pI Z H' s':=by
 obtain⟨h',g',d',t',o'⟩:=s';have e:o'=s.os:=ho;subst e;exact I.call (g':=g') (t':=t') (d':=d') u hok hg Ç
abbrev XK:=Aj->Ar Ak->Hp->Prop
abbrev St:=Ac (Ar V)
variable{Z:St}
abbrev VK:=V->Hp->Prop
abbrev TE:=St->Hp->VK->Prop
abbrev TT:=St->Hp->(Ai->Hp->Prop)->Prop
abbrev TA:=St->Hp->(Ac V->Hp->Prop)->Prop
structure ϯ where
 nx:St->Hp->Prop
 rt:VK
 bk:St->Hp->Prop:=λ_ _=>BR
 ct:St->Hp->Prop:=λ_ _=>BR
abbrev TS:=ϯ->St->Hp->Prop
def EP(X:Cx)(pI:Pn)(Z:St)(Q:VK)(u:Aj)(s':Aq):Prop:=∃ v H',Z4 X pI Z H' s'/\Cp v u/\Q v H'
def TP(X:Cx)(pI:Pn)(Z:St)(Q:Ai->Hp->Prop)(b:Ai)(s':Aq):Prop:=∃ H',Z4 X pI Z H' s'/\Q b H'
def AP(X:Cx)(pI:Pn)(Z:St)(Q:Ac V->Hp->Prop)(us:Ac Aj)(s':Aq):Prop:=∃ vs H',Z4 X pI Z H' s'/\Bv vs us/\Q vs H'
def SP(X:Cx)(pI:Pn)(D:ϯ)(f:Flow)(s':Aq):Prop:=
  match f with
  |.next=>∃ Z' H',Z4 X pI Z' H' s'/\D.nx Z' H'
  |.brk=>∃ Z' H',Z4 X pI Z' H' s'/\D.bk Z' H'
  |.cont=>∃ Z' H',Z4 X pI Z' H' s'/\D.ct Z' H'
  |.ret u=>∃ v Z' H',Z4 X pI Z' H' s'/\Cp v u/\D.rt v H'
def PE(X:Cx)(e:Am)(t:TE):Prop:=
 ∀(pI:Pn)(s:Aq)(Z:St)(H:Hp)(Q:VK),Z4 X pI Z H s->t Z H Q->Az (model X.prog X.w) X.A (eval e X.env) (EP X pI Z Q) X.xe s
def PT(X:Cx)(e:Am)(t:TT):Prop:=
 ∀(pI:Pn)(s:Aq)(Z:St)(H:Hp)(Q:Ai->Hp->Prop),Z4 X pI Z H s->t Z H Q->Az (model X.prog X.w) X.A (Ko e X.env (eval e X.env)) (TP X pI Z Q) X.xe s
def PW(X:Cx)(e:Am)(t:TT):Prop:=
 ∀(whole:D7 Aj)(pI:Pn)(s:Aq)(Z:St)(H:Hp)(Q:Ai->Hp->Prop),Z4 X pI Z H s->t Z H Q->Az (model X.prog X.w) X.A (Ko e X.env whole) (TP X pI Z Q) X.xe s
def PW.pt(h:PW X e t):PT X e t:=h _
def PA(X:Cx)(es:Ac Am)(t:TA):Prop:=
 ∀(pos:Bm)(pI:Pn)(s:Aq)(Z:St)(H:Hp)(Q:Ac V->Hp->Prop),Z4 X pI Z H s->t Z H Q->Az (model X.prog X.w) X.A (spliced (DO pos (AR es X.env))) (AP X pI Z Q) X.xe s
def PS(X:Cx)(st:A8)(t:TS):Prop:=
 ∀(pI:Pn)(s:Aq)(Z:St)(H:Hp)(D:ϯ),Z4 X pI Z H s->t D Z H->Az (model X.prog X.w) X.A (exec st X.env) (SP X pI D) X.xe s
def xk(X:Cx)(st:Ac A8)(t:TS):Prop:=
 ∀(pI:Pn)(s:Aq)(Z:St)(H:Hp)(D:ϯ),Z4 X pI Z H s->t D Z H->Az (model X.prog X.w) X.A (execs st X.env) (SP X pI D) X.xe s
theorem J9{t:D7 α}{Q Q':α->Aq->Prop}{E:Vq}(h:Az M A t Q E s)(hQ:∀ a s,Q a s->Q' a s):Az M A t Q' E s:=Dx h hQ λ_ _ x=>x
section
def IB(i:Ag):TE:=λZ H Q=>∃ v,Z[i]?=Ab (Ab v)/\Q v H
def tC(v:V):TE:=λ_ H Q=>Q v H
theorem kg(hN:X.N[i]?=Ab x)(hv:Vis X.env.scope x)(hd:(x==("__debug__" : Al))=Ae:=by decide)(ó:(x==("__classdict__" : Al))=Ae:=by decide):PE X (.Name x pos) (IB i):=by
 intro pI s Z H Q I h;obtain⟨v,e,h⟩:=h;obtain⟨m,hn,hl⟩:=I.loc;obtain⟨u,r,l⟩:=hl i x v hN e hv;have fin:EP X pI Z Q u s:=⟨v,H,I,r,h⟩;rcases l with ⟨hk,hm⟩|⟨hk,c,hc,Þ⟩
 .exact Mv (wpAny_loadName_local I.ok.kind hk hn hm fin) hd
 .rcases hk with hk|hk
  .exact Mv (wpAny_loadName_cell I.ok.kind hk hc Þ fin) hd
  .exact Mv (wpAny_loadName_free I.ok.kind hk hc Þ fin ó) hd
theorem ku:PE X (.Constant (.int i) j pos) (tC (.int i)):=λ_ _ _ H _ I h=>wpAny_Constant_int ⟨.int i,H,I.tok _,⟨_,rfl⟩,h⟩
theorem uf{b}:PE X (.Constant (.bool b) j pos) (tC (.bl b)):=λ_ _ _ H _ I h=>Constant_bool ⟨.bl b,H,I,rfl,h⟩
theorem ko:PE X (.Constant .none j pos) (tC .O):=λ_ _ _ H _ I h=>Constant_none ⟨.O,H,I,rfl,h⟩
theorem ki:PE X (.Constant (.str x) j pos) (tC (.str x)):=λ_ _ _ H _ I h=>Calls.Constant_str ⟨.str x,H,I.tok _,⟨_,rfl⟩,h⟩
def Gl(X:Cx)(x:Al):Prop:=X.env.kindOf x=Ab .globalImplicit
theorem xA{E:Vq}{Q:Vq}(I:Z4 X pI Z H s)(hg:Gl X x)(hm:X.mg x=Ab u)(h:Q u s)(hd:(x==("__debug__" : Al))=Ae:=by decide):Az (model X.prog X.w) X.A (eval (.Name x pos) X.env) Q E s:=
 cB I.ok.kind hg (Calls.loadGlobal_global (by rw[I.ok.glob];exact I.mod.glob.keeps I.bk) hm h) hd
theorem KI{E:Vq}{Q:Vq}(I:Z4 X pI Z H s)(hg:Gl X x)(hm:X.mg x=Af)(hv:DP x=Ab u)(h:Q u s)(hn:x≠"__name__" := by decide)(hd:(x==("__debug__" : Al))=Ae:=by decide):Az (model X.prog X.w) X.A (eval (.Name x pos) X.env) Q E s:=by
 obtain⟨mb,h1,h2⟩:=I.mod.blt;exact cB I.ok.kind hg (Calls.loadGlobal_builtin (by rw[I.ok.glob];exact I.mod.glob.keeps I.bk) hm (by rw[I.ok.blt];exact h1.keeps I.bk) ((h2 x hn).trans hv) h) hd
theorem xG(hg:Gl X x)(hm:X.mg x=Af)(hv:DP x=Ab u)(r:Cp v u)(hn:x≠"__name__" := by decide)(hd:(x==("__debug__" : Al))=Ae:=by decide):PE X (.Name x pos) (tC v):=
 λ_ _ _ H _ I h=>KI I hg hm hv ⟨v,H,I,r,h⟩ hn hd
def tB(t:TE):TT:=λZ H Q=>t Z H λx H1=>∃ c,x=.bl c/\Q c H1
variable{rest:Ac Am}
def kA(t u:TT):TT:=λZ H Q=>t Z H λc H1=>if c=Aa then u Z H1 Q else Q Ae H1
def tOr(t u:TT):TT:=λZ H Q=>t Z H λc H1=>if c=Aa then Q Aa H1 else u Z H1 Q
def jU(t:TT):TT:=λZ H Q=>t Z H λc H1=>Q (!c) H1
theorem uV{X:Cx}{a:Am}{pos:Bm}{tA:TT}(ha:PT X a tA):PW X (.BoolOp .And [a] pos) tA:=by
 intro wh pI s Z H Q I h;refine isTrue_and (J9 (ha pI s Z H Q I h) λc s1 e=>?_)
 cases c with
 |true=>exact isTrue_and_nil e
 |false=>exact e
theorem cz{X:Cx}{a:Am}{pos:Bm}{tA:TT}(ha:PT X a tA):PW X (.BoolOp .Or [a] pos) tA:=by
 intro wh pI s Z H Q I h;refine isTrue_or (J9 (ha pI s Z H Q I h) λc s1 e=>?_)
 cases c with
 |false=>exact isTrue_or_nil e
 |true=>exact e
theorem d5{X:Cx}{a b:Am}{pos:Bm}{tA ś:TT}(ha:PT X a tA)(hb:PW X (.BoolOp .And (b::rest) pos) ś):PW X (.BoolOp .And (a::b::rest) pos) (kA tA ś):=by
 intro wh pI s Z H Q I h;refine isTrue_and (J9 (ha pI s Z H _ I h) λc s1 ⟨H1,I1,q1⟩=>?_)
 cases c with
 |true=>exact hb wh pI s1 Z H1 Q I1 q1
 |false=>exact⟨H1,I1,q1⟩
theorem tx{X:Cx}{a b:Am}{pos:Bm}{tA ś:TT}(ha:PT X a tA)(hb:PW X (.BoolOp .Or (b::rest) pos) ś):PW X (.BoolOp .Or (a::b::rest) pos) (tOr tA ś):=by
 intro wh pI s Z H Q I h;refine isTrue_or (J9 (ha pI s Z H _ I h) λc s1 ⟨H1,I1,q1⟩=>?_)
 cases c with
 |true=>exact⟨H1,I1,q1⟩
 |false=>exact hb wh pI s1 Z H1 Q I1 q1
theorem d6{X:Cx}{a:Am}{pos:Bm}{tA:TT}(ha:PT X a tA):PT X (.UnaryOp .Not a pos) (jU tA):=by
 intro pI s Z H Q I h;exact isTrue_not (ha pI s Z H (λc H1=>Q (!c) H1) I h)
def rf(ta tb:TE):TE:=λZ H Q=>ta Z H λx H1=>∃ c,x=.bl c/\if c=Aa then tb Z H1 Q else Q (.bl Ae) H1
def jT(ta tb:TE):TE:=λZ H Q=>ta Z H λx H1=>∃ c,x=.bl c/\if c=Aa then Q (.bl Aa) H1 else tb Z H1 Q
def qr(ta:TE):TE:=λZ H Q=>ta Z H λx H1=>∃ c,x=.bl c/\Q (.bl (!c)) H1
theorem kj{X:Cx}{a:Am}{pos:Bm}{op}{t:TE}(h:PE X a t):PE X (.BoolOp op [a] pos) t:=λpI s Z H Q I hw=>BoolOp_one (h pI s Z H Q I hw)
theorem lg{X:Cx}{a b:Am}{ta tb:TE}{pos:Bm}(ha:PE X a ta)(hb:PE X (.BoolOp .And (b::rest) pos) tb):PE X (.BoolOp .And (a::b::rest) pos) (rf ta tb):=by
 intro pI s Z H Q I h;refine BoolOp_and (J9 (ha pI s Z H _ I h) λv s1 ⟨x,H1,I1,r1,q1⟩=>?_)
 obtain⟨c,rfl,q1⟩:=q1;cases r1;refine Dj ?_;cases c with
 |true=>exact hb pI s1 Z H1 Q I1 q1
 |false=>exact⟨.bl Ae,H1,I1,rfl,q1⟩
theorem uc{X:Cx}{a b:Am}{ta tb:TE}{pos:Bm}(ha:PE X a ta)(hb:PE X (.BoolOp .Or (b::rest) pos) tb):PE X (.BoolOp .Or (a::b::rest) pos) (jT ta tb):=by
 intro pI s Z H Q I h;refine BoolOp_or (J9 (ha pI s Z H _ I h) λv s1 ⟨x,H1,I1,r1,q1⟩=>?_)
 obtain⟨c,rfl,q1⟩:=q1;cases r1;refine Dj ?_;cases c with
 |false=>exact hb pI s1 Z H1 Q I1 q1
 |true=>exact⟨.bl Aa,H1,I1,rfl,q1⟩
theorem kn{X:Cx}{a:Am}{ta:TE}{pos:Bm}(ha:PE X a ta):PE X (.UnaryOp .Not a pos) (qr ta):=by
 intro pI s Z H Q I h;refine UnaryOp_ (J9 (ha pI s Z H _ I h) λv s1 ⟨x,H1,I1,r1,q1⟩=>?_)
 obtain⟨c,rfl,q1⟩:=q1;cases r1;exact not_of (Dj ⟨.bl (!c),H1,I1,rfl,q1⟩)
end
def zp(K:Fg)(H:Hp)(a:Ak)(xs:Ac V):Prop:=
 Rd H a (.L xs) \/
  ∃(o:DE)(its:Ax Aj)(n:Ag),K.lookup a=Ab o/\o.cls=.type "list"/\o.dict=Af/\o.data=.seq its n/\its.size<=sizeLine/\Bv xs its.toList
def yr(K:Fg)(H:Hp)(a:Ak)(xs:Ac V):Prop:=
 Rd H a (.H xs) \/
  ∃(o:DE)(its:Ax Aj)(n:Ag),K.lookup a=Ab o/\o.cls=.type "tuple"/\o.data=.seq its n/\its.size<=sizeLine/\Bv xs its.toList
noncomputable def jN:Aj->Ar V
 |.none=>Ab .O
 |.bool b=>Ab (.bl b)
 |.int i _=>Ab (.int i)
 |.str x _=>Ab (.str x)
 |.bytes b _=>Ab (.byt b)
 |.float b _=>Ab (.flt b)
 |.ref a=>Ab (.ref a)
 |.type n=>Ab (.ty n)
 |_=>Af
theorem Cp.abs(r:Cp x u):jN u=Ab x:=by
 cases x with
 |O=>cases r;rfl
 |bl _=>cases r;rfl
 |int _=>obtain⟨t,rfl⟩:=r;rfl
 |str _=>obtain⟨t,rfl⟩:=r;rfl
 |byt _=>obtain⟨t,rfl⟩:=r;rfl
 |flt _=>obtain⟨t,rfl⟩:=r;rfl
 |ref _=>cases r;rfl
 |ty _=>cases r;rfl
theorem Cp.inj(r:Cp x u)(q:Cp y u):x=y:=B6 (r.abs.symm.trans q.abs)
theorem Bv.inj:∀{xs ys:Ac V}{us:Ac Aj},Bv xs us->Bv ys us->xs=ys
 |_,_,_,.nil,.nil=>rfl
 |_,_,_,.cons r t,.cons r' t'=>by rw[r.inj r',Bv.inj t t']
section
variable{Z:St}
theorem zp.of{K:Fg}(h:H a=Ab (.L xs)):zp K H a xs:=.inl (.inl h)
theorem yr.of{K:Fg}(h:H a=Ab (.H xs)):yr K H a xs:=.inl (.inl h)
theorem Z4.list(I:Z4 X pI Z H s)(h:zp X.K H a xs):∃ its:Ac Aj,Bv xs its/\PlainL s.heap a its.toArray/\xs.length<=sizeLine:=by
 rcases h with h|⟨o,its,n,hk,hc,hd,hs,hz,r⟩
 .obtain⟨z,its,n,r,e⟩:=h.ok I.hok;exact⟨its,r,⟨_,n,e,rfl,rfl,rfl⟩,z⟩
 .refine⟨its.toList,r,⟨o,n,I.kIn a o hk,hc,hd,by simpa using hs⟩,?_⟩
  have e:=r.length;simp only[AQ]at e
  lia
theorem Z4.tuple(I:Z4 X pI Z H s)(h:yr X.K H a xs):∃ its:Ac Aj,Bv xs its/\Ku s.heap a its.toArray/\xs.length<=sizeLine:=by
 rcases h with h|⟨o,its,n,hk,hc,hs,hz,r⟩
 .obtain⟨z,its,r,p⟩:=h.ok I.hok;exact⟨its,r,p,z⟩
 .refine⟨its.toList,r,⟨o,I.kIn a o hk,hc,n,by simpa using hs⟩,?_⟩
  have e:=r.length;simp only[AQ]at e
  lia
theorem Z4.list_inj(I:Z4 X pI Z H s)(h:zp X.K H a xs)(h':zp X.K H a ys):xs=ys:=by
 obtain⟨its,r,⟨o,n,e,_,_,d⟩,_⟩:=I.list h;obtain⟨its',r',⟨o',n',e',_,_,d'⟩,_⟩:=I.list h';rw[e]at e';cases e';rw[d]at d'
 injection d' with d1 _
 have:its=its':=by simpa using congrArg K0 d1
 subst this;exact r.inj r'
theorem Z4.tuple_inj(I:Z4 X pI Z H s)(h:yr X.K H a xs)(h':yr X.K H a ys):xs=ys:=by
 obtain⟨its,r,⟨o,e,_,n,d⟩,_⟩:=I.tuple h;obtain⟨its',r',⟨o',e',_,n',d'⟩,_⟩:=I.tuple h';rw[e]at e';cases e';rw[d]at d'
 injection d' with d1 _
 have:its=its':=by simpa using congrArg K0 d1
 subst this;exact r.inj r'
end
noncomputable abbrev Cx.wish(X:Cx)(E:Vq):Cx:={X with xe:=E}
noncomputable abbrev Cx.nox(X:Cx):Cx:=X.wish λ_ _=>BR
section
variable{st:A8}
def qs:TS:=λD Z H=>D.nx Z H
def U3(t u:TS):TS:=λD Z H=>t {D with nx:=u D} Z H
def Xg:xk X [] qs:=λ_ _ Z H _ I h=>JU ⟨Z,H,I,h⟩
theorem O5{rest:Ac A8}(h1:PS X st t)(h2:xk X rest u):xk X (st::rest) (U3 t u):=by
 intro pI s Z H D I h;refine fG (J9 (h1 pI s Z H {D with nx:=u D} I h) λf s1 q=>?_)
 cases f with
 |next=>
  obtain⟨Z',H',I',q⟩:=q;exact h2 pI s1 Z' H' D I' q
 |ret v=>exact q
 |brk=>exact q
 |cont=>exact q
theorem tS(h1:PS X st t):xk X [st] t:=by
 intro pI s Z H D I h;refine fG (J9 (h1 pI s Z H D I h) λf s1 q=>?_)
 cases f with
 |next=>exact JU q
 |ret v=>exact q
 |brk=>exact q
 |cont=>exact q
theorem Z4.quiet(I:Z4 X pI Z H s):interactive X.env=Ae:=by simp[interactive,I.ok.kind]
def qu(te:TE):TS:=λD Z H=>te Z H λ_ H1=>D.nx Z H1
theorem SQ(he:PE X e te)(hs:EO e Af pos.line X.env=pure Ae:=by rfl):PS X (.Expr e pos) (qu te):=by
 intro pI s Z H D I h;exact wpAny_Expr_any (J9 (he pI s Z H _ I h) λv s1 ⟨x,H1,I1,r1,q1⟩=>⟨Z,H1,I1,q1⟩) I.quiet hs
def jS(te:TE):TS:=λD Z H=>te Z H D.rt
theorem Tp(he:PE X e te):PS X (.Return (Ab e) pos) (jS te):=by
 intro pI s Z H D I h;exact wpAny_Return_some (J9 (he pI s Z H _ I h) λv s1 ⟨x,H1,I1,r1,q1⟩=>⟨x,Z,H1,I1,r1,q1⟩)
def jX(c:TT)(t u:TS):TS:=λD Z H=>c Z H λb H1=>if b=Aa then t D Z H1 else u D Z H1
theorem Zo{a b:Ac A8}(hc:PT X c tc)(ha:xk X a t)(hb:xk X b u):PS X (.If c a b pos) (jX tc t u):=by
 intro pI s Z H D I h;refine wpAny_If (J9 (hc pI s Z H _ I h) λd s1 ⟨H1,I1,q1⟩=>?_)
 cases d with
 |true=>exact ha pI s1 Z H1 D I1 q1
 |false=>exact hb pI s1 Z H1 D I1 q1
def bv:TS:=λ_ _ _=>BR
def mY:xk X sts bv:=λ_ _ _ _ _ _ h=>h.elim
end
abbrev TG:=V->St->Hp->(St->Hp->Prop)->Prop
abbrev TGs:=Ac V->St->Hp->(St->Hp->Prop)->Prop
def PG(X:Cx)(target:Am)(t:TG):Prop:=
 ∀(pI:Pn)(s:Aq)(Z:St)(H:Hp)(v:V)(u:Aj)(Q:St->Hp->Prop),Z4 X pI Z H s->Cp v u->t v Z H Q ->
  Az (model X.prog X.w) X.A (assign target X.env u) (λ_ s'=>∃ Z' H',Z4 X pI Z' H' s'/\Q Z' H') X.xe s
def ŷ(X:Cx)(ts:Ac Am)(t:TGs):Prop:=
 ∀(pI:Pn)(s:Aq)(Z:St)(H:Hp)(vs:Ac V)(us:Ac Aj)(Q:St->Hp->Prop),Z4 X pI Z H s->Bv vs us->t vs Z H Q ->
  Az (model X.prog X.w) X.A (assignInOrder ((CQ ts X.env).map (·.2)) us) (λ_ s'=>∃ Z' H',Z4 X pI Z' H' s'/\Q Z' H') X.xe s
abbrev QF:=V->V->V->Hp->(Hp->Prop)->Prop
def QS(X:Cx)(t:QF):Prop:=
 ∀(pI:Pn)(s:Aq)(Z:St)(H:Hp)(o i v:V)(ov iv u:Aj)(Q:Hp->Prop),Z4 X pI Z H s->Cp o ov->Cp i iv->Cp v u->t o i v H Q ->
  Az (model X.prog X.w) X.A (Mz ov iv u) (λ_ s'=>∃ H',Z4 X pI Z H' s'/\Q H') X.xe s
def Gg(i:Ag):TG:=λv Z H Q=>Q (Z.set i (Ab v)) H
theorem NY(hN:X.N.Nodup)(hi:X.N[i]?=Ab x)(hx:Χ X.env.scope x)(hf:X.fn x=Aa\/X.env.scope.names.lookup x=Ab .local:=by first|exact .inl rfl|exact .inr rfl|assumption):PG X (.Name x pos) (Gg i):=by
 intro pI s Z H v u Q I r h;exact fD (WR I hN hi hx r (λs' I'=>⟨_,H,I',h⟩) hf)
def JK:TGs:=λvs Z H Q=>vs=[]/\Q Z H
def JF(t:TG)(u:TGs):TGs:=λvs Z H Q=>∃ v r,vs=v::r/\t v Z H λZ' H'=>u r Z' H' Q
theorem W5:ŷ X [] JK:=by
 intro pI s Z H vs us Q I r h;obtain⟨e,h⟩:=h;subst e;cases r;exact assignInOrder_nil ⟨Z,H,I,h⟩
theorem Wv(h1:PG X e t)(h2:ŷ X es u)(hs:(CQ (e::es) X.env).map (·.2)=assign e X.env::(CQ es X.env).map (·.2):=by rfl):ŷ X (e::es) (JF t u):=by
 intro pI s Z H vs us Q I r h;obtain⟨v,vr,e1,h⟩:=h;subst e1;cases r with
 |cons r rr=>
  rw[hs];refine assignInOrder_cons (J9 (h1 pI s Z H _ _ _ I r h) λ_ s1 ⟨Z1,H1,I1,q1⟩=>?_)
  exact h2 pI s1 Z1 H1 _ _ Q I1 rr q1
def Nq(K:Fg)(n:Ag)(t:TGs):TG:=λv Z H Q=>∃ a xs,v=.ref a/\yr K H a xs/\xs.length=n/\t xs Z H Q
theorem Ti(hc:X.calm=Aa)(h:ŷ X es t)(hn:(CQ es X.env).length=n:=by rfl)(î:(CQ es X.env).findIdx? (·.1)=Af:=by rfl):PG X (.Tuple es k pos) (Nq X.K n t):=by
 intro pI s Z H v u Q I r hw;obtain⟨a,xs,e1,hq,hl,hw⟩:=hw;subst e1;cases r;obtain⟨its,rv,ht,hz⟩:=I.tuple hq;refine assign_Tuple_tuple (I.ok.hd hc) ht (by simp[hn,<-hl,rv.length]) î λh' hx=>?_
 have I1:Z4 X pI Z H {s with heap:=h'}:=I.kept (t':=s.toks) λb o e=>hx b o (Be (AK e)) e
 exact h pI _ Z H xs _ Q I1 (by simpa using rv) hw
def UY(to ti:TE)(t:QF):TG:=λv Z H Q=>to Z H λo H1=>ti Z H1 λi H2=>t o i v H2 λH3=>Q Z H3
theorem Yo(ho:PE X o to)(hi:PE X i ti)(hs:QS X t)(ha:∀ v,assign (.Subscript o i pos) X.env v=(do
   let ov <-holding [v] (eval o X.env)
   let iv <-holding [v,ov] (eval i X.env)
   Ks pos
   holding [v,ov,iv] (Mz ov iv v)
   release [v,ov,iv] []):=by intro _;rfl):PG X (.Subscript o i pos) (UY to ti t):=by
 intro pI s Z H v u Q I r h;rw[ha];refine Ah (Cn (J9 (ho pI s Z H _ I h) λov s1 ⟨x,H1,I1,r1,q1⟩=>?_))
 refine Ah (Cn (J9 (hi pI s1 Z H1 _ I1 q1) λiv s2 ⟨y,H2,I2,r2,q2⟩=>?_))
 refine Ah (IL (Ah (Cn (J9 (hs pI s2 Z H2 x y v ov iv u _ I2 r1 r2 r q2) λ_ s3 ⟨H3,I3,q3⟩=>?_))))
 exact wpAny_release ⟨Z,H3,I3,q3⟩
def Of(te:TE)(g:TG):TS:=λD Z H=>te Z H λx H1=>g x Z H1 D.nx
theorem Tq{g:TG}(he:PE X e te)(hg:PG X tg g)(hs:Hj [tg] e pos.line X.env=pure Ae:=by rfl)(hw:Gq [tg] e X.env=pure Af:=by rfl)(h1:(CQ [tg] X.env).map (·.2)=[assign tg X.env]:=by rfl):PS X (.Assign [tg] e pos) (Of te g):=by
 intro pI s Z H D I h;refine wpAny_Assign_stores (J9 (he pI s Z H _ I h) λv s1 ⟨x,H1,I1,r1,q1⟩=>?_) hs hw
 rw[h1];exact J9 (hg pI s1 Z H1 x v _ I1 r1 q1) λ_ s2 q=>q
theorem YJ(hN:X.N.Nodup)(hi:X.N[i]?=Ab x)(hx:Χ X.env.scope x)(he:PE X e te)(hs:EO e (Ab (.Name x pos')) pos.line X.env=pure Ae:=by rfl)(hf:X.fn x=Aa\/X.env.scope.names.lookup x=Ab .local:=by first|exact .inl rfl|exact .inr rfl|assumption):PS X (.Assign [.Name x pos'] e pos) (Of te (Gg i)):=by
 intro pI s Z H D I h;refine wpAny_Assign_Name (J9 (he pI s Z H _ I h) λv s1 ⟨y,H1,I1,r1,q1⟩=>?_) hs
 exact WR I1 hN hi hx r1 (λs2 I2=>⟨_,H1,I2,q1⟩) hf
structure It where
 go:Ag->Hp->Prop
 yld:Ag->Hp->V->Hp->Prop
 stop:Ag->Hp->Prop
def Iu(X:Cx)(pI:Pn)(H:Hp)(b:Ak):Prop:=
 H b=Af/\b≠X.env.locals/\b∉X.fs/\(b∈X.ex\/X.s₀.heap.objs.size<=b)/\(∀ x c,X.env.cells.lookup x=Ab c->c≠b)/\∀ p∈X.pn++pI,p.1≠b
theorem Z4.fpOk(I:Z4 X pI Z H s)(hb:s.heap.objs.size<=b)(hn:H' b=Af):Iu X pI H' b:=by
 refine⟨hn,D6 (AS I.lt hb),I.nofs hb,.inr (CM I.sz hb),λx c e z=>?_,λp hp z=>?_⟩
 .obtain⟨v,q⟩:=I.cell x c e;exact absurd (AS q.lt (by rw[z];exact hb)) (BH _)
 .exact absurd (AS (AK (I.pin p hp).1) (by rw[z];exact hb)) (BH _)
structure é (P:AW) (w:AJ) (K:Fg) (tg:Am) (J_:It) (fp:Ac Ak) (it:Ak) (tn:Ag->AO->Prop):Prop where
 mem:it∈fp
 obj:∀ i h,tn i h->∀ b∈fp,∃ o,h.get? b=Ab o/\∀ v,o.data≠.cell v
 keep:∀ i h h',tn i h->(∀ b∈fp,∀ o,h.get? b=Ab o->h'.get? b=Ab o)->tn i h'
 item:∀(X:Cx),X.prog=P->X.w=w->X.K=K->X.calm=Aa->∀(i:Ag)(pI:Pn)(s:Aq)(Z:St)(H:Hp)(E:Vq),Z4 X pI Z H s->(∀ b∈fp,Iu X pI H b)->tn i s.heap->J_.go i H ->
  Az (model P w) X.A (E5 (.ref it)) (λr s1=>∃ u,r=Ab u /\
   Az (model P w) X.A (HK tg (.ref it) u) (λ_ s2=>∃ x H',Z4 X pI Z H' s2/\Cp x u/\J_.yld i H x H'/\tn (i+1) s2.heap/\∀ b∈fp,H' b=Af) E s1) E s
 done:∀(X:Cx),X.prog=P->X.w=w->X.K=K->X.calm=Aa->∀(i:Ag)(pI:Pn)(s:Aq)(Z:St)(H:Hp)(E:Vq),Z4 X pI Z H s->(∀ b∈fp,Iu X pI H b)->tn i s.heap->J_.stop i H ->
  Az (model P w) X.A (E5 (.ref it)) (λr s1=>r=Af/\Z4 X pI Z H s1) E s
 self:∀(A:A9)(i:Ag)(s:Aq)(Q:Vq)(E:Vq),tn i s.heap->Q (.ref it) s->Az (model P w) A (Ms (.ref it)) Q E s
abbrev TI:=St->Hp->(It->Hp->Prop)->Prop
def PIE(X:Cx)(pI:Pn)(Z:St)(tg:Am)(R:It->Hp->Prop)(Ē:Aj)(s2:Aq):Prop:=
 ∃(it:Ak)(fp:Ac Ak)(tn:Ag->AO->Prop)(J_:It)(H':Hp),Ē=.ref it/\Z4 X pI Z H' s2/\é X.prog X.w X.K tg J_ fp it tn/\tn 0 s2.heap/\(∀ b∈fp,Iu X pI H' b)/\R J_ H'
def PI(X:Cx)(tg iter:Am)(wi:TI):Prop:=
 ∀(pI:Pn)(s:Aq)(Z:St)(H:Hp)(R:It->Hp->Prop),Z4 X pI Z H s->wi Z H R ->
  Az (model X.prog X.w) X.A (eval iter X.env) (λv s1=>Az (model X.prog X.w) X.A (Ms v) (PIE X pI Z tg R) X.xe s1) X.xe s
theorem Up{E:Vq}(ho:s.heap.get? it=Ab o)(hc:o.cls=.type n)(hd:o.data=.fields vs)(hn:["enumerate", "zip", "dict_itemiterator", "dict_reverseitemiterator", "odict_iterator", "itertools.zip_longest", "itertools.pairwise"].contains n=Ae)(hQ:Q () s):Az M A (HK tg (.ref it) u) Q E s:=by
  unfold HK;cases tg<;>first
    |exact Au hQ
    | (cases u<;>first
        |exact Au hQ
        | (refine Ah (wpAny_load ho ?_)
           rw[hc,hd];show Az M A (if (["enumerate", "zip", "dict_itemiterator", "dict_reverseitemiterator", "odict_iterator", "itertools.zip_longest", "itertools.pairwise"].contains n&&vs[0]? == Ab (CN _))=Aa then _ else _) Q E s
           rw[AF (by intro h;rw[hn,Bool.false_and]at h;cases h)]
           exact Au hQ))
noncomputable def Itl(K:Fg)(a:Ak):It:=
 ⟨λi H=>∃ xs x,zp K H a xs/\xs[i]?=Ab x,λi H x H'=>H'=H/\∀ xs,zp K H a xs->xs[i]?=Ab x,λi H=>∃ xs,zp K H a xs/\xs.length<=i⟩
noncomputable def Itt(K:Fg)(a:Ak):It:=
 ⟨λi H=>∃ xs x,yr K H a xs/\xs[i]?=Ab x,λi H x H'=>H'=H/\∀ xs,yr K H a xs->xs[i]?=Ab x,λi H=>∃ xs,yr K H a xs/\xs.length<=i⟩
noncomputable def ģ(lo:Ad)(n:Ag):It:=⟨λi _=>i<n,λi H x H'=>H'=H/\x=.int (lo+i),λi _=>n<=i⟩
theorem nF{K:Fg}(a it:Ak):é P w K tg (Itl K a) [it] it (λi h=>h.IsListIter it a i) where
  mem:=by simp
  obj:=λi h st b hb=>by
    have e:b=it:=by simpa using hb
    subst e;obtain⟨o,e,c,d⟩:=st;exact⟨o,e,λv z=>by rw[d]at z;cases z⟩
  keep:=λi h h' st k=>st.at λo e=>k it (by simp) o e
  item:=by
    intro X hP hw hK hc i pI s Z H E I hf st hg;subst hP hw hK;obtain⟨xs,x,hq,hx⟩:=hg;obtain⟨its,rv,p,hz⟩:=I.list hq;obtain⟨u,hu,ru⟩:=rv.get hx;obtain⟨f0,f1,f2,f3,f4,f5⟩:=hf it (by simp)
    refine fL st p.isList (x:=u) (by simpa using hu) λh' Z8 sb=>?_
    have I1:Z4 X pI Z H {s with heap:=h'}:=I.turned (t':=s.toks) (λb o hb e=>(sb.2 b hb).trans e) f0 f1 f3 f4 f5
    obtain⟨o,e,c,d⟩:=id Z8;exact⟨u,rfl,Up (s:={s with heap:=h'}) e c d (by decide) ⟨x,H,I1,ru,⟨rfl,λys hy=>by rw[I.list_inj hy hq];exact hx⟩,Z8,λb hb=>(hf b hb).1⟩⟩
  done:=by
    intro X hP hw hK hc i pI s Z H E I hf st hg;subst hP hw hK;obtain⟨xs,hq,hx⟩:=hg;obtain⟨its,rv,p,hz⟩:=I.list hq;obtain⟨f0,f1,f2,f3,f4,f5⟩:=hf it (by simp)
    have hl:=rv.length;exact fK (I.ok.hd hc) st p.isList (by simp;lia) λh' eb=>⟨rfl,I.turned (t':=s.toks) (λb o hb e=>eb b o hb e) f0 f1 f3 f4 f5⟩
  self:=λ_ _ _ _ _ st h=>wpAny_pyIter_listiter st h
theorem mH{K:Fg}(a it:Ak):é P w K tg (Itt K a) [it] it (λi h=>h.IsTupleIter it a i) where
  mem:=by simp
  obj:=λi h st b hb=>by
    have e:b=it:=by simpa using hb
    subst e;obtain⟨o,e,c,d⟩:=st;exact⟨o,e,λv z=>by rw[d]at z;cases z⟩
  keep:=λi h h' st k=>st.at λo e=>k it (by simp) o e
  item:=by
    intro X hP hw hK hc i pI s Z H E I hf st hg;subst hP hw hK;obtain⟨xs,x,hq,hx⟩:=hg;obtain⟨its,rv,p,hz⟩:=I.tuple hq;obtain⟨u,hu,ru⟩:=rv.get hx;obtain⟨f0,f1,f2,f3,f4,f5⟩:=hf it (by simp)
    refine wpAny_pyNext_tuple_item st (show s.heap.IsTuple a its.toArray from p) (x:=u) (by simpa using hu) λh' Z8 sb=>?_
    have I1:Z4 X pI Z H {s with heap:=h'}:=I.turned (t':=s.toks) (λb o hb e=>(sb.2 b hb).trans e) f0 f1 f3 f4 f5
    obtain⟨o,e,c,d⟩:=id Z8;exact⟨u,rfl,Up (s:={s with heap:=h'}) e c d (by decide) ⟨x,H,I1,ru,⟨rfl,λys hy=>by rw[I.tuple_inj hy hq];exact hx⟩,Z8,λb hb=>(hf b hb).1⟩⟩
  done:=by
    intro X hP hw hK hc i pI s Z H E I hf st hg;subst hP hw hK;obtain⟨xs,hq,hx⟩:=hg;obtain⟨its,rv,p,hz⟩:=I.tuple hq;obtain⟨f0,f1,f2,f3,f4,f5⟩:=hf it (by simp)
    have hl:=rv.length;exact wpAny_pyNext_tuple_end (I.ok.hd hc) st (show s.heap.IsTuple a its.toArray from p) (by simp;lia) λh' eb=>⟨rfl,I.turned (t':=s.toks) (λb o hb e=>eb b o hb e) f0 f1 f3 f4 f5⟩
  self:=λ_ _ _ _ _ st h=>wpAny_pyIter_tupleiter st h
theorem mI{K:Fg}(it:Ak)(lo:Ad)(n:Ag):é P w K tg (ģ lo n) [it] it (λi h=>IsRangeIter h it (lo+(i:Ag)*1) ((n:Ad)-(i:Ag)) 1) where
  mem:=by simp
  obj:=λi h st b hb=>by
    have e:b=it:=by simpa using hb
    subst e;exact⟨_,st,λv z=>by
      have z':Data.fields _=Nt v:=z;cases z'⟩
  keep:=λi h h' st k=>k it (by simp) _ st
  item:=by
    intro X hP hw hK hc i pI s Z H E I hf st hg;subst hP hw hK;obtain⟨f0,f1,f2,f3,f4,f5⟩:=hf it (by simp)
    have W:=Walks.range (prog:=X.prog) (w:=X.w) (I.ok.hd hc) it lo 1 n;refine W.item i s _ _ hg st λv h' tk hv Z8 kk=>?_
    obtain⟨t,rfl⟩:=hv;have I1:Z4 X pI Z H {s with heap:=h',toks:=tk}:=I.turned (λb o hb e=>kk b o (by simpa using hb) e) f0 f1 f3 f4 f5
    refine⟨_,rfl,Up (s:={s with heap:=h',toks:=tk}) (n := "range_iterator") Z8 rfl rfl (by decide) ⟨.int (lo+i),H,I1,⟨t,?_⟩,⟨rfl,rfl⟩,Z8,λb hb=>(hf b hb).1⟩⟩
    rw[Gr]
  done:=by
    intro X hP hw hK hc i pI s Z H E I hf st hg;subst hP hw hK;obtain⟨f0,f1,f2,f3,f4,f5⟩:=hf it (by simp)
    exact wpAny_pyNext_range_end (I.ok.hd hc) st (by have:n<=i:=hg;lia) λh' eb=>⟨rfl,I.turned (t':=s.toks) (λb o hb e=>eb b o hb e) f0 f1 f3 f4 f5⟩
  self:=λ_ _ _ _ _ st h=>wpAny_pyIter_rangeiter st h
theorem Wu{E:Vq}{lo:Ad}(I:Z4 X pI Z H s)(h1:-(2 ^ 62)<=lo)(h2:lo<2 ^ 62)(h3:-(2 ^ 62)<=hi)(h4:hi<2 ^ 62)(q:R (ģ lo (hi-lo).toNat) H):Az (model X.prog X.w) X.A (Ms (.ref s.heap.objs.size)) (PIE X pI Z tg R) E { s with heap:=s.heap.push { cls:=.type "range",data:=.fields #[.int lo t,.int hi u,.int 1 v] },toks:=tk }:=by
 refine wpAny_pyIter_range (IsRange.new ..) (small_one h1 h2 h3 h4) ?_;have I1:Z4 X pI Z H { s with heap:=s.heap.push { cls:=.type "range",data:=.fields #[.int lo t,.int hi u,.int 1 v] },toks:=tk }:=I.kept λb o e=>At _ e
 refine⟨(s.heap.push { cls:=.type "range",data:=.fields #[.int lo t,.int hi u,.int 1 v] }).objs.size,[(s.heap.push { cls:=.type "range",data:=.fields #[.int lo t,.int hi u,.int 1 v] }).objs.size],_,_,H,rfl,
  I1.kept (t':=tk) λb o e=>At _ e,mI _ lo (hi-lo).toNat,?_,λb hb=>?_,q⟩
 .have e1:lo+((0:Ag):Ad)*1=lo:=by simp
  have e2:(((hi-lo).toNat:Ag):Ad)-((0:Ag):Ad)=Builtin.Range.rangeSize lo hi 1:=by rw[rangeSize_one];split<;>lia
  show IsRangeIter _ _ (lo+((0:Ag):Ad)*1) ((((hi-lo).toNat:Ag):Ad)-((0:Ag):Ad)) 1;rw[e1,e2];exact AG _ rfl
 .have e:b=(s.heap.push { cls:=.type "range",data:=.fields #[.int lo t,.int hi u,.int 1 v] }).objs.size:=by simpa using hb
  subst e;exact I1.fpOk (AE _) (I1.hok.fresh (AE _))
def fY(ta:TA):TI:=λZ H R=>ta Z H λvs H1=>∃ j:Ad,vs=[.int j]/\-(2 ^ 62)<=j/\j<2 ^ 62/\R (ģ 0 j.toNat) H1
def fX(ta:TA):TI:=λZ H R=>ta Z H λvs H1=>∃ i j:Ad,vs=[.int i,.int j]/\(-(2 ^ 62)<=i/\i<2 ^ 62/\-(2 ^ 62)<=j/\j<2 ^ 62)/\R (ģ i (j-i).toNat) H1
theorem mM{a:Am}(hg:Gl X "range")(hm:X.mg "range" = Af)(ha:PA X [a] ta)(hs:AR [a] X.env=[(Ae,eval a X.env)]:=by rfl):PI X tg (.Call (.Name "range" p) [a] [] pos) (fY ta):=by
 intro pI s Z H R I h;refine Mn (KI I hg hm boot_range (CU (J9 (ha pos pI s Z H _ I h) λus s1 ⟨vs,H1,I1,r1,q1⟩=>?_) hs rfl))
 obtain⟨j,e,q1,q2,q⟩:=q1;subst e;cases r1 with
 |cons r rr=>
  cases rr;obtain⟨t,rfl⟩:=r;exact call_range_1 (Wu I1 (by lia) (by lia) q1 q2 (by simpa using q))
theorem nE{a b:Am}(hg:Gl X "range")(hm:X.mg "range" = Af)(ha:PA X [a,b] ta)(hs:AR [a,b] X.env=[(Ae,eval a X.env),(Ae,eval b X.env)]:=by rfl)(y6:AR [b] X.env=[(Ae,eval b X.env)]:=by rfl):
  PI X tg (.Call (.Name "range" p) [a,b] [] pos) (fX ta):=by
 intro pI s Z H R I h;refine Mn (KI I hg hm boot_range (CU (J9 (ha pos pI s Z H _ I h) λus s1 ⟨vs,H1,I1,r1,q1⟩=>?_) (by rw[hs,y6]) (by rw[y6];rfl)))
 obtain⟨i,j,e,⟨q1,q2,q3,q4⟩,q⟩:=q1;subst e;cases r1 with
 |cons r rr=>
  cases rr with
  |cons r' rr=>
   cases rr;obtain⟨t,rfl⟩:=r;obtain⟨t',rfl⟩:=r';exact call_range_2 (Wu I1 q1 q2 q3 q4 q)
def jY(wi:TI)(g:TG)(tb:TS):TS:=λD Z H=>wi Z H λJ_ H1=>∃ W:Ag->Ag->St->Hp->Prop,(∃ m,W 0 m Z H1)/\∀ i m Z H,W i m Z H ->
 (J_.stop i H/\D.nx Z H)\/(J_.go i H/\∃ N:St->Hp->Prop,(∀ Z' H',N Z' H'->∃ m',m'<m/\W (i+1) m' Z' H')/\∀ x H',J_.yld i H x H'->g x Z H' λZ2 H2=>tb {D with nx:=N,ct:=N,bk:=D.nx} Z2 H2)
noncomputable def L8(fp:Ac Ak)(h:AO):Pn:=fp.filterMap λb=>(h.get? b).map λo=>(b,o)
theorem O0(hb:b∈fp)(e:h.get? b=Ab o):(b,o)∈L8 fp h:=List.mem_filterMap.mpr ⟨b,hb,by rw[e];rfl⟩
theorem V4(hp:p∈L8 fp h):p.1∈fp/\h.get? p.1=Ab p.2:=by
 obtain⟨b,hb,e⟩:=List.mem_filterMap.mp hp;cases q:h.get? b with
 |none=>rw[q]at e;cases e
 |some o=>
  rw[q]at e;have e':(b,o)=p:=B6 e;subst e';exact⟨hb,q⟩
theorem Z4.pinned(I:Z4 X pI Z H s)(hf:∀ b∈fp,Iu X pI H b)(ho:∀ b∈fp,∃ o,s.heap.get? b=Ab o/\∀ v,o.data≠.cell v):Z4 X (pI++L8 fp s.heap) Z H s:=
 I.pins_of λp hp=>(FI.mp hp).elim (λz=>I.pin p (BZ _ z)) λz=>by
  obtain⟨hb,e⟩:=V4 z;obtain⟨f0,f1,f2,_⟩:=hf p.1 hb;obtain⟨o,e',d⟩:=ho p.1 hb;rw[e]at e';cases e';exact⟨e,f0,f1,f2,d⟩
theorem Z4.unpinned(I:Z4 X (pI++pl) Z H s):Z4 X pI Z H s:=I.pins_of λp hp=>I.pin p (BZ _ (HA _ hp))
theorem YK{g:TG}(hp:ID (model X.prog X.w) X.A X.env X.xe)(hc:X.calm=Aa)(hi:PI X tg iter wi)(hg:PG X tg g)(hb:xk X body tb)(hs:∀ x,DD iter X.env x=pure x:=by intro _;rfl):PS X (.For tg iter body [] pos) (jY wi g tb):=by
 intro pI s Z H D I h;refine wpAny_For (J9 (hi pI s Z H _ I h) λv s1 h1=>J9 h1 λĒ s2 h2=>?_) hs
 obtain⟨it,fp,tn,J_,H2,e,I2,T,ya,f2,W,⟨m0,w0⟩,turn⟩:=h2;subst e
 have Υ:∀{H':Hp},(∀ b∈fp,H' b=Af)->∀ b∈fp,Iu X pI H' b:=λhn b hb=>⟨hn b hb,(f2 b hb).2⟩
 refine codeAny_forLoop_any (λn s'=>∃ i Z' H',Z4 X pI Z' H' s'/\tn i s'.heap/\(∀ b∈fp,H' b=Af)/\W i n Z' H') ?_ m0 ⟨0,Z,H2,I2,ya,λb hb=>(f2 b hb).1,w0⟩
 rintro n s3 ⟨i,Z3,H3,I3,J0,fr3,w3⟩;rcases turn i n Z3 H3 w3 with ⟨stop,qn⟩|⟨go,N,hN,step⟩
 .refine GJ hp (J9 (T.done X rfl rfl rfl hc i pI s3 Z3 H3 X.xe I3 (Υ fr3) J0 stop) λr s4 ⟨hr,I4⟩=>?_)
  subst hr;exact JU ⟨Z3,H3,I4,qn⟩
 .refine GJ hp (J9 (T.item X rfl rfl rfl hc i pI s3 Z3 H3 X.xe I3 (Υ fr3) J0 go) λr s4 ⟨u,hr,h4⟩=>?_)
  subst hr;refine GJ hp (J9 h4 λ_ s5 ⟨x,H5,I5,r5,y5,Τ,fr5⟩=>?_)
  have I5':=I5.pinned (Υ fr5) (T.obj _ _ Τ);refine GJ hp (J9 (hg _ s5 Z3 H5 x u _ I5' r5 (step x H5 y5)) λ_ s6 ⟨Z6,H6,I6,q6⟩=>?_)
  refine GJ hp (J9 (hb _ s6 Z6 H6 _ I6 q6) λf s7 q7=>?_)
  have again:∀{Z7:St}{H7:Hp},Z4 X (pI++L8 fp s5.heap) Z7 H7 s7->N Z7 H7->∃ m,m<n/\∃ i Z' H',Z4 X pI Z' H' s7/\tn i s7.heap/\(∀ b∈fp,H' b=Af)/\W i m Z' H':=λ{Z7 H7} I7 n7=>by
   obtain⟨m',hm,w7⟩:=hN Z7 H7 n7;refine⟨m',hm,i+1,Z7,H7,I7.unpinned,T.keep _ _ _ Τ λb hb o e=>(I7.pin (b,o) (BZ _ (BZ _ (O0 hb e)))).1,λb hb=>?_,w7⟩
   obtain⟨o,e,d⟩:=T.obj _ _ Τ b hb;exact(I7.pin (b,o) (BZ _ (BZ _ (O0 hb e)))).2.1
  cases f with
  |next=>obtain⟨Z7,H7,I7,n7⟩:=q7;exact again I7 n7
  |cont=>obtain⟨Z7,H7,I7,n7⟩:=q7;exact again I7 n7
  |brk=>obtain⟨Z7,H7,I7,q7⟩:=q7;exact⟨Z7,H7,I7.unpinned,q7⟩
  |ret v=>obtain⟨x7,Z7,H7,I7,r7,q7⟩:=q7;exact⟨x7,Z7,H7,I7.unpinned,r7,q7⟩
abbrev R2:=V->V->Hp->VK->Prop
def yq(X:Cx)(f:Aj->Aj->D7 Aj)(r:R2):Prop:=
 ∀(pI:Pn)(s:Aq)(Z:St)(H:Hp)(x y:V)(v u:Aj)(Q:VK),Z4 X pI Z H s->Cp x v->Cp y u->r x y H Q ->
  Az (model X.prog X.w) X.A (f v u) (EP X pI Z Q) X.xe s
def UnR(X:Cx)(f:Aj->D7 Aj)(r:V->Hp->VK->Prop):Prop:=
 ∀(pI:Pn)(s:Aq)(Z:St)(H:Hp)(x:V)(v:Aj)(Q:VK),Z4 X pI Z H s->Cp x v->r x H Q ->
  Az (model X.prog X.w) X.A (f v) (EP X pI Z Q) X.xe s
def IV(X:Cx)(f:Aj)(r:Ac V->Hp->VK->Prop):Prop:=
 ∀(pI:Pn)(s:Aq)(Z:St)(H:Hp)(xs:Ac V)(us:Ac Aj)(Q:VK),Z4 X pI Z H s->Bv xs us->r xs H Q ->
  Az (model X.prog X.w) X.A (call f us) (EP X pI Z Q) X.xe s
def iT(X:Cx)(r:V->Hp->(Ai->Hp->Prop)->Prop):Prop:=
 ∀(pI:Pn)(s:Aq)(Z:St)(H:Hp)(x:V)(v:Aj)(Q:Ai->Hp->Prop),Z4 X pI Z H s->Cp x v->r x H Q ->
  Az (model X.prog X.w) X.A (truthy v) (TP X pI Z Q) X.xe s
def ĝ(r:R2)(ta tb:TE):TE:=λZ H Q=>ta Z H λx H1=>tb Z H1 λy H2=>r x y H2 Q
def tUn(r:V->Hp->VK->Prop)(ta:TE):TE:=λZ H Q=>ta Z H λx H1=>r x H1 Q
def rI(C:Ad->Ad->Prop)(g:Ad->Ad->V):R2:=λx y H Q=>∃ i j,x=.int i/\y=.int j/\C i j/\Q (g i j) H
def ϗ(g:Ad->Ad->V):R2:=λx y H Q=>∃ i j,x=.int i/\y=.int j/\Q (g i j) H
def rU(g:Ad->V):V->Hp->VK->Prop:=λx H Q=>∃ i,x=.int i/\Q (g i) H
theorem QO{s:Aq}{pI:Pn}{f:Aj->Aj->D7 Aj}{X:Cx}{a b:Am}{ta tb:TE}(ha:PE X a ta)(hb:PE X b tb){H:Hp}{R:V->V->Hp->Prop}(I:Z4 X pI Z H s)(h:ta Z H λx H1=>tb Z H1 λy H2=>R x y H2){Q:Vq}(hf:∀ v u s2 x y H2,Z4 X pI Z H2 s2->Cp x v->Cp y u->R x y H2->Az (model X.prog X.w) X.A (f v u) Q X.xe s2):Az (model X.prog X.w) X.A (eval a X.env) (λv s₁=>Az (model X.prog X.w) X.A (eval b X.env) (λu s₂=>Az (model X.prog X.w) X.A (f v u) Q X.xe s₂) X.xe s₁) X.xe s:=by
 refine J9 (ha pI s Z H _ I h) λv s1 ⟨x,H1,I1,r1,q1⟩=>?_
 refine J9 (hb pI s1 Z H1 _ I1 q1) λu s2 ⟨y,H2,I2,r2,q2⟩=>?_
 exact hf v u s2 x y H2 I2 r1 r2 q2
theorem ZB{r:R2}{X:Cx}{a b:Am}{ta tb:TE}{pos:Bm}{op:Hm}(ho:yq X (C2 op) r)(ha:PE X a ta)(hb:PE X b tb):PE X (.BinOp a op b pos) (ĝ r ta tb):=by
 intro pI s Z H Q I h;exact wpAny_BinOp (QO ha hb I h λv u s2 x y H2 I2 rx ry q=>ho pI s2 Z H2 x y v u Q I2 rx ry q)
theorem ua{X:Cx}{a:Am}{ta:TE}{pos:Bm}{op:LO}{r:V->Hp->VK->Prop}(ho:UnR X (unaryOp op) r)(ha:PE X a ta):PE X (.UnaryOp op a pos) (tUn r ta):=by
 intro pI s Z H Q I h;exact UnaryOp_ (J9 (ha pI s Z H _ I h) λv s1 ⟨x,H1,I1,r1,q1⟩=>ho pI s1 Z H1 x v Q I1 r1 q1)
theorem Ę(rule:∀(i j:Ad)(t u:Eu)(s:Aq)(Q:Vq)(E:Vq),C i j->Q (.int (g i j) s.toks) {s with toks:=s.toks+1}->Az (model X.prog X.w) X.A (f (.int i t) (.int j u)) Q E s):yq X f (rI C λi j=>.int (g i j)):=by
 intro pI s Z H x y v u Q I rx ry h;obtain⟨i,j,rfl,rfl,hc,q⟩:=h;obtain⟨t,rfl⟩:=rx;obtain⟨t',rfl⟩:=ry;exact rule i j t t' s _ _ hc ⟨.int (g i j),H,I.tok _,⟨_,rfl⟩,q⟩
theorem Vd(rule:∀(i j:Ad)(t u:Eu)(s:Aq)(Q:Vq)(E:Vq),Q (.int (g i j) s.toks) {s with toks:=s.toks+1}->Az (model X.prog X.w) X.A (f (.int i t) (.int j u)) Q E s):yq X f (ϗ λi j=>.int (g i j)):=by
 intro pI s Z H x y v u Q I rx ry h;obtain⟨i,j,rfl,rfl,q⟩:=h;obtain⟨t,rfl⟩:=rx;obtain⟨t',rfl⟩:=ry;exact rule i j t t' s _ _ ⟨.int (g i j),H,I.tok _,⟨_,rfl⟩,q⟩
theorem Qw{g:Ad->Ad->Ai}(rule:∀(i j:Ad)(t u:Eu)(s:Aq)(Q:Vq)(E:Vq),Q (.bool (g i j)) s->Az (model X.prog X.w) X.A (f (.int i t) (.int j u)) Q E s):yq X f (ϗ λi j=>.bl (g i j)):=by
 intro pI s Z H x y v u Q I rx ry h;obtain⟨i,j,rfl,rfl,q⟩:=h;obtain⟨t,rfl⟩:=rx;obtain⟨t',rfl⟩:=ry;exact rule i j t t' s _ _ ⟨.bl (g i j),H,I,rfl,q⟩
def iY(i j:Ad):Prop:=0<j/\j<1073741824
def iX(i j:Ad):Prop:=0<=j/\j<=1000000/\i.natAbs<2 ^ 64
def QH(i j:Ad):Prop:=(-(2 ^ 64)<i/\i<2 ^ 64)\/(-(2 ^ 64)<j/\j<2 ^ 64)
theorem QH.ok(h:QH i j):Nx i j:=by
 rcases h with ⟨h1,h2⟩|⟨h1,h2⟩
 .exact .of_left (intBits_le_64 h1 h2)
 .exact .of_right (intBits_le_64 h1 h2)
theorem m8:yq X (C2 .Add) (ϗ λi j=>.int (i+j)):=Vd λ_ _ _ _ _ _ _ q=>add_int q
theorem lq:yq X (C2 .Sub) (ϗ λi j=>.int (i-j)):=Vd λ_ _ _ _ _ _ _ q=>sub_int q
theorem xR:yq X (C2 .FloorDiv) (rI iY λi j=>.int (i/j)):=Ę λi j _ _ _ _ _ hc q=>by
 have h1:(0:Ad)<j:=hc.1;have h2:j<1073741824:=hc.2;exact floordiv_int (by omega) (by rw[Int.fdiv_eq_ediv_of_nonneg i (by omega)];exact q) (.inl (PyProof.noPylong_small (by omega)))
theorem m6:yq X (C2 .Mod) (rI (λ_ j=>0<j) λi j=>.int (i%j)):=Ę λi j _ _ _ _ _ hc q=>by
 have h1:(0:Ad)<j:=hc;exact mod_int' (by lia) (by rw[Int.fmod_eq_emod_of_nonneg i (by lia)];exact q)
theorem lw:yq X (C2 .Pow) (rI iX λi j=>.int (i ^ j.toNat)):=Ę λ_ _ _ _ _ _ _ hc q=>pow_int_small hc.1 hc.2.1 hc.2.2 q
theorem unI{g:Ad->Ad}(rule:∀(i:Ad)(t:Eu)(s:Aq)(Q:Vq)(E:Vq),Q (.int (g i) s.toks) {s with toks:=s.toks+1}->Az (model X.prog X.w) X.A (f (.int i t)) Q E s):UnR X f (rU λi=>.int (g i)):=by
 intro pI s Z H x v Q I rx h;obtain⟨i,rfl,q⟩:=h;obtain⟨t,rfl⟩:=rx;exact rule i t s _ _ ⟨.int (g i),H,I.tok _,⟨_,rfl⟩,q⟩
theorem bh:UnR X (unaryOp .USub) (rU λi=>.int (-i)):=unI λ_ _ _ _ _ q=>neg_int q
theorem TC(I:Z4 X pI Z H s)(q:Q (.bl k) H)(e:k=k'):EP X pI Z Q (.bool k') s:=by
 subst e;exact⟨.bl k,H,I,rfl,q⟩
theorem gI:yq X (Du .Lt) (ϗ λi j=>.bl (decide (i<j))):=Qw λ_ _ _ _ _ _ _ q=>lt_int q
theorem gJ:yq X (Du .LtE) (ϗ λi j=>.bl (decide (i<=j))):=Qw λ_ _ _ _ _ _ _ q=>le_int q
theorem gK:yq X (Du .Gt) (ϗ λi j=>.bl (decide (j<i))):=Qw λ_ _ _ _ _ _ _ q=>gt_int q
theorem gL:yq X (Du .GtE) (ϗ λi j=>.bl (decide (j<=i))):=Qw λ_ _ _ _ _ _ _ q=>ge_int q
theorem m7:yq X (Du .Is) (λx y H Q=>y=.O/\Q (.bl (decide (x=.O))) H):=by
 intro pI s Z H x y v u Q I rx ry h;obtain⟨rfl,q⟩:=h;cases ry;refine is_none_gen (TC I q ?_);cases x<;>first
  |(cases rx;rfl)
  |(obtain⟨t,rfl⟩:=rx;rfl)
theorem xP:yq X (Du .IsNot) (λx y H Q=>y=.O/\Q (.bl (!decide (x=.O))) H):=by
 intro pI s Z H x y v u Q I rx ry h;obtain⟨rfl,q⟩:=h;cases ry;refine isnot_none_gen (TC I q ?_);cases x<;>first
  |(cases rx;rfl)
  |(obtain⟨t,rfl⟩:=rx;rfl)
theorem xE{op:El}{r:R2}{X:Cx}{a b:Am}{ta tb:TE}{pos:Bm}(ho:yq X (Du op) r)(ha:PE X a ta)(hb:PE X b tb)(hm:IJ op b=Ae):PE X (.Compare a [op] [b] pos) (ĝ r ta tb):=by
 intro pI s Z H Q I h;exact wpAny_Compare1 (QO ha hb I h λv u s2 x y H2 I2 rx ry q=>ho pI s2 Z H2 x y v u Q I2 rx ry q) hm
def Zl(t:TE):TT:=λZ H Q=>t Z H λx H'=>∃ k,x=.bl k/\Q k H'
theorem Xf{op:El}{r:R2}{X:Cx}{a b:Am}{ta tb:TE}{pos:Bm}(ho:yq X (Du op) r)(ha:PE X a ta)(hb:PE X b tb)(hm:IJ op b=Ae):PT X (.Compare a [op] [b] pos) (Zl (ĝ r ta tb)):=by
 intro pI s Z H Q I h;refine wpAny_isTrue_Compare1 (J9 (ha pI s Z H _ I h) λv s1 ⟨x,H1,I1,r1,q1⟩=>J9 (hb pI s1 Z H1 _ I1 q1) λu s2 ⟨y,H2,I2,r2,q2⟩=>
  J9 (ho pI s2 Z H2 x y v u _ I2 r1 r2 q2) λc s3 ⟨z,H3,I3,r3,k,e,q3⟩=>?_) hm
 subst e;cases r3;exact Dj ⟨H3,I3,q3⟩
def Yy(r r':R2)(ta tb tc:TE):TE:=λZ H Q=>ta Z H λx H1=>tb Z H1 λy H2=>r x y H2 λz H3=>∃ k,z=.bl k /\
 (if k=Aa then tc Z H3 λw' H4=>r' y w' H4 Q else Q (.bl Ae) H3)
theorem rN{op:El}{r:R2}{X:Cx}{a b c:Am}{ta tb tc:TE}{pos:Bm}{op':El}{r':R2}(ho:yq X (Du op) r)(oI:yq X (Du op') r')(ha:PE X a ta)(hb:PE X b tb)(hc:PE X c tc)(hm:Le [op,op'] [b,c]=Ae:=by with_unfolding_all rfl):PE X (.Compare a [op,op'] [b,c] pos) (Yy r r' ta tb tc):=by
 intro pI s Z H Q I h;refine Compare_chain (J9 (ha pI s Z H _ I h) λv s1 ⟨x,H1,I1,r1,q1⟩=>chain_link (J9 (hb pI s1 Z H1 _ I1 q1) λu s2 ⟨y,H2,I2,r2,q2⟩=>
  J9 (ho pI s2 Z H2 x y v u _ I2 r1 r2 q2) λd s3 ⟨z,H3,I3,r3,k,e,q3⟩=>?_)) hm
 subst e;cases r3;refine Dj ?_;cases k with
 |false=>exact ite_ff ⟨.bl Ae,H3,I3,rfl,q3⟩
 |true=>exact ite_tt (chain_last (J9 (hc pI s3 Z H3 _ I3 q3) λw' s4 ⟨z',H4,I4,r4,q4⟩=>oI pI s4 Z H4 y z' u w' Q I4 r2 r4 q4))
theorem rG{op:El}{r:R2}{X:Cx}{a b c:Am}{ta tb tc:TE}{pos:Bm}{op':El}{r':R2}(ho:yq X (Du op) r)(oI:yq X (Du op') r')(ha:PE X a ta)(hb:PE X b tb)(hc:PE X c tc)(hm:Le [op,op'] [b,c]=Ae:=by with_unfolding_all rfl):PT X (.Compare a [op,op'] [b,c] pos) (Zl (Yy r r' ta tb tc)):=by
 intro pI s Z H Q I h;refine isTrue_chain (J9 (ha pI s Z H _ I h) λv s1 ⟨x,H1,I1,r1,q1⟩=>test_link (J9 (hb pI s1 Z H1 _ I1 q1) λu s2 ⟨y,H2,I2,r2,q2⟩=>
  J9 (ho pI s2 Z H2 x y v u _ I2 r1 r2 q2) λd s3 ⟨z,H3,I3,r3,k,e,q3⟩=>?_)) hm
 subst e;cases r3;refine Dj ?_;cases k with
 |false=>
  obtain⟨k',e',q'⟩:=q3;cases e';exact ite_ff ⟨H3,I3,q'⟩
 |true=>
  refine ite_tt (test_last (J9 (hc pI s3 Z H3 _ I3 q3) λw' s4 ⟨z',H4,I4,r4,q4⟩=>J9 (oI pI s4 Z H4 y z' u w' _ I4 r2 r4 q4) λd' s5 ⟨z2,H5,I5,r5,k2,e2,q5⟩=>?_))
  subst e2;cases r5;exact Dj ⟨H5,I5,q5⟩
def UR(K:Fg)(x:V)(H:Hp)(k:Ai):Prop:=
  match x with
  |.O=>k=Ae
  |.bl b=>k=b
  |.int i=>k=(i != 0)
  |.str y=>y.length<=sizeLine/\k=((y.length:Ad) != 0)
  |.byt y=>y.size<=sizeLine/\k=((y.size:Ad) != 0)
  |.ref p=>(∃ xs,zp K H p xs/\k=!xs.isEmpty)\/(∃ xs,yr K H p xs/\k=!xs.isEmpty)\/∃ kvs,H p=Ab (.dK kvs)/\k=!kvs.isEmpty
  |_=>BR
theorem lY{kvs:Ac (κ×V)}{vs:Ac (κ×Aj)}(r:KV kvs vs):(!vs.isEmpty)=!kvs.isEmpty:=by
 cases r<;>rfl
theorem Vt(r:Bv xs its):(!its.toArray.isEmpty)=!xs.isEmpty:=by
 cases r<;>simp
def M4:(sizeLine:Ag)<2 ^ 63:=by rw[Dt];decide
theorem bq:iT X (λx H Q=>∃ k,UR X.K x H k/\Q k H):=by
 intro pI s Z H x v Q I rx h;obtain⟨k,e,q⟩:=h;have hl:=M4;have hs:sizeLine=16777216:=Dt;cases x with
 |O=>
  cases rx;have e':k=Ae:=e;subst e';exact truthy_none ⟨H,I,q⟩
 |bl b=>
  cases rx;have e':k=b:=e;subst e';exact Dj ⟨H,I,q⟩
 |int i=>
  obtain⟨t,rfl⟩:=rx;have e':k=(i != 0):=e;subst e';exact PySem.P.truthy_int ⟨H,I,q⟩
 |str y=>
  obtain⟨t,rfl⟩:=rx;obtain⟨hy,e'⟩:y.length<=sizeLine/\k=((y.length:Ad) != 0):=e;subst e';exact PySem.P.truthy_str (by lia) ⟨H,I.tok _,q⟩
 |byt y=>
  obtain⟨t,rfl⟩:=rx;obtain⟨hy,e'⟩:y.size<=sizeLine/\k=((y.size:Ad) != 0):=e;subst e';exact PySem.W.truthy_bytes (by lia) ⟨H,I.tok _,q⟩
 |ref p=>
  cases rx;have e':(∃ xs,zp X.K H p xs/\k=!xs.isEmpty)\/(∃ xs,yr X.K H p xs/\k=!xs.isEmpty)\/∃ kvs,H p=Ab (.dK kvs)/\k=!kvs.isEmpty:=e;rcases e' with ⟨xs,hx,e'⟩|⟨xs,hx,e'⟩|⟨kvs,hx,e'⟩
  .subst e';obtain⟨its,r,pl,hz⟩:=I.list hx;have J2:=r.length;exact wpAny_truthy_list pl.isList (by simp only[AT];lia) ⟨H,I.tok _,by rw[Vt r];exact q⟩
  .subst e';obtain⟨its,r,pl,hz⟩:=I.tuple hx;have J2:=r.length;exact truthy_tuple pl (by simp only[AT];lia) ⟨H,I.tok _,by rw[Vt r];exact q⟩
  .subst e';obtain⟨hz,hS,vs,r,m⟩:kvs.length<=sizeLine/\(p==HL)=Ae/\∃ vs,KV kvs vs/\s.heap.DictOf (S6 X.prog X.w) p vs:=I.hok p _ hx;have J2:kvs.length=vs.length:=dU r;exact wpAny_truthy_dict hS m (by lia) ⟨H,I.tok _,by rw[lY r];exact q⟩
 |_=>exact(show BR from e).elim
theorem rF{X:Cx}{a:Am}{ta:TE}(ha:PE X a ta)(he:∀ whole,Ko a X.env whole=(do let v <-whole;Ks a.pos;holding [v] (truthy v))):PT X a (λZ H Q=>ta Z H λx H'=>∃ k,UR X.K x H' k/\Q k H'):=by
 intro pI s Z H Q I h;exact isTrue_plain (J9 (ha pI s Z H _ I h) λv s1 ⟨x,H1,I1,r1,q1⟩=>bq pI s1 Z H1 x v Q I1 r1 q1) (he _)
theorem lU:yq X (C2 .Add) (λx y H Q=>∃ i j,x=.str i/\y=.str j/\i.length+j.length<=sizeLine/\Q (.str (i++j)) H):=by
 intro pI s Z H x y v u Q I rx ry h;obtain⟨i,j,rfl,rfl,hz,q⟩:=h;obtain⟨t,rfl⟩:=rx;obtain⟨t',rfl⟩:=ry;exact add_str (λt' tk=>⟨.str (i++j),H,I.tok _,⟨_,rfl⟩,q⟩) hz
theorem ϝ(r:Bv [x] us):∃ u,us=[u]/\Cp x u:=by
 cases r with
 |cons r1 r2=>cases r2;exact⟨_,rfl,r1⟩
theorem T4(r:Bv [x,y] us):∃ u w',us=[u,w']/\Cp x u/\Cp y w':=by
 cases r with
 |cons r1 r2=>
  cases r2 with
  |cons r3 r4=>cases r4;exact⟨_,_,rfl,r1,r3⟩
theorem pO(hc:X.calm=Aa):IV X (.builtin "max") (λxs H Q=>∃ i j,xs=[.int i,.int j]/\Q (.int (if j>i then j else i)) H):=by
 intro pI s Z H xs us Q I r h;obtain⟨i,j,rfl,q⟩:=h;obtain⟨u,w',rfl,⟨t,rfl⟩,⟨t',rfl⟩⟩:=T4 r;refine max_two_ints (I.ok.hd hc) λh' tk k=>⟨_,H,I.kept k,?_,q⟩
 by_cases hj:j>i
 .rw[AB hj,AB hj];exact⟨_,rfl⟩
 .rw[AF hj,AF hj];exact⟨_,rfl⟩
theorem pN(hc:X.calm=Aa):IV X (.builtin "min") (λxs H Q=>∃ i j,xs=[.int i,.int j]/\Q (.int (if j<i then j else i)) H):=by
 intro pI s Z H xs us Q I r h;obtain⟨i,j,rfl,q⟩:=h;obtain⟨u,w',rfl,⟨t,rfl⟩,⟨t',rfl⟩⟩:=T4 r;refine min_two_ints (I.ok.hd hc) λh' tk k=>⟨_,H,I.kept k,?_,q⟩
 by_cases hj:j<i
 .rw[AB hj,AB hj];exact⟨_,rfl⟩
 .rw[AF hj,AF hj];exact⟨_,rfl⟩
structure y8 (k:Ag) (A:A9):Prop where
 hd:A.handled=Af
 dp:A.depth+3*k+5<fA
 un:A.units+16*k+200<Cf
 gd:A.guards=Ab []
theorem y8.deeper(r:y8 (k+1) A)(env:DA):y8 k (A.deeper env):=
 ⟨r.hd,by have:=r.dp;show A.depth+1+3*k+5<_;lia,by have:=r.un;show A.units+3+16*k+200<_;lia,r.gd⟩
def y8.depth(r:y8 k A):A.depth<fA:=by have:=r.dp;lia
def y8.units(r:y8 k A):A.units+64<Cf:=by have:=r.un;lia
def jV:TA:=λ_ H Q=>Q [] H
def qw(ta:TE)(tr:TA):TA:=λZ H Q=>ta Z H λx H1=>tr Z H1 λxs H2=>Q (x::xs) H2
def IR:PA X [] jV:=λ_ _ _ _ H Q I h=>cI ⟨[],H,I,.nil,h⟩
theorem GP(ha:PE X e te)(hr:PA X es t)(hs:AR (e::es) X.env=(Ae,eval e X.env)::AR es X.env:=by rfl):PA X (e::es) (qw te t):=by
 intro pos pI s Z H Q I h;rw[hs];show Az _ _ (spliced ((Ae,eval e X.env)::DO pos (AR es X.env))) _ _ s;refine cH (J9 (ha pI s Z H _ I h) λu s1 ⟨x,H1,I1,r1,q1⟩=>?_)
 exact J9 (hr pos pI s1 Z H1 _ I1 q1) λus s2 ⟨xs,H2,I2,r2,q2⟩=>⟨x::xs,H2,I2,.cons r1 r2,q2⟩
def jR(t:TA):TE:=λZ H Q=>t Z H λxs H1=>xs.length<=sizeLine/\∀ p,H1 p=Af->Q (.ref p) (upd H1 p (.H xs))
def jW(t:TA):TE:=λZ H Q=>t Z H λxs H1=>xs.length<=sizeLine/\∀ p,H1 p=Af->Q (.ref p) (upd H1 p (.L xs))
theorem kh(h:PA X es t):PE X (.Tuple es x1 pos) (jR t):=by
 intro pI s Z H Q I hq;refine wpAny_Tuple_spliced (J9 (h pos pI s Z H _ I hq) λus s1 ⟨xs,H1,I1,r,z,q⟩=>⟨by rw[<-r.length];exact z,?_⟩)
 have hf:H1 s1.heap.objs.size=Af:=I1.hok.fresh (AE _);refine⟨.ref s1.heap.objs.size,upd H1 s1.heap.objs.size (.H xs),I1.laid (t':=s1.toks) (λb u e=>At _ e) (AE _) ?_,rfl,q _ hf⟩
 exact⟨z,us,r,⟨_,AG _ rfl,rfl,_,rfl⟩⟩
theorem kq(h:PA X es t):PE X (.List es pos) (jW t):=by
 intro pI s Z H Q I hq;refine wpAny_List_spliced (J9 (h pos pI s Z H _ I hq) λus s1 ⟨xs,H1,I1,r,z,q⟩=>⟨by rw[<-r.length];exact z,?_⟩)
 have hf:H1 s1.heap.objs.size=Af:=I1.hok.fresh (AE _);refine⟨.ref s1.heap.objs.size,upd H1 s1.heap.objs.size (.L xs),I1.laid (t':=s1.toks) (λb u e=>At _ e) (AE _) ?_,rfl,q _ hf⟩
 exact⟨z,us,0,r,AG _ rfl⟩
abbrev Sp:=Ac V->Hp->VK->XK->Prop
abbrev CXT:=Ac DA->Hp->Aq->XK->Aj->Aq->Prop
structure ϰ (P:AW) (w:AJ) (K:Fg) (mg:Al->Ar Aj) (base:AO) (A:A9) (outer:Ac DA) (s:Aq) (H:Hp):Prop where
 frames:A.frames=Ab outer
 mod:Mod K mg base
 bs:∀ b o,base.get? b=Ab o->s.heap.get? b=Ab o/\H b=Af
 bsz:base.objs.size<=s.heap.objs.size
 funs:s.heap.FunFrames base outer
 frf:∀ b∈ye outer,H b=Af
 hok:yt P w H s.heap
 bare:GW s.gens
def CE(outer:Ac DA)(P:AW)(w:AJ)(H:Hp)(s:Aq)(Q:VK)(u:Aj)(s':Aq):Prop:=
 ∃ v H',s'.os=s.os/\GW s'.gens/\Un (ye outer) [] H H' s.heap s'.heap/\yt P w H' s'.heap/\Cp v u/\Q v H'
def CR(CX:CXT)(outer:Ac DA)(P:AW)(w:AJ)(H:Hp)(s:Aq)(Q:VK)(E:XK)(r:K7)(s':Aq):Prop:=
  match r with
  |.ok (.ret u)=>CE outer P w H s Q u s'
  |.ok _=>BR
  |.error e=>CX outer H s E e s'
structure y7 (P:AW) (w:AJ) (K:Fg) (mg:Al->Ar Aj) (base:AO) (CX:CXT) (k:Ag) (f:Ak) (fd:Dm) (ps:Ac Al) (sp:Sp):Prop where
 len:∀ vs H Q E,sp vs H Q E->vs.length=ps.length
 run:∀(A:A9)(outer:Ac DA)(s:Aq)(H:Hp)(args:Args)(us:Ac Aj)(vs:Ac V)(Q:VK)(E:XK),y8 k A->ϰ P w K mg base A outer s H->Ji s fd args (ps.zip us)->Bv vs us->sp vs H Q E ->
  GZ (model P w) A (.call (.ref f) args) (CR CX outer P w H s Q E) s
theorem y7.imp{K:Fg}(F:y7 P w K mg base CX k f fd ps sp)(h:∀ vs H Q E,sp' vs H Q E->sp vs H Q E):y7 P w K mg base CX k f fd ps sp':=
 ⟨λvs H Q E q=>F.len vs H Q E (h _ _ _ _ q),λA outer s H args us vs Q E hr he hb hv hs=>F.run A outer s H args us vs Q E hr he hb hv (h _ _ _ _ hs)⟩
section
variable{Z:St}
theorem Z4.env0(I:Z4 X pI Z H s):ϰ X.prog X.w X.K X.mg X.base X.A X.stack s H:=
 ⟨I.ok.frames,I.ok.mod,I.bs,CM I.ok.bsz I.sz,I.stack,I.stkFree,I.hok,I.bare⟩
theorem Z4.after(I:Z4 X pI Z H s)(h:CE X.stack X.prog X.w H s Q u s'):EP X pI Z Q u s':=by
 obtain⟨v,H',os,bare,un,hok,r,q⟩:=h;obtain⟨hh,g,d,t,os'⟩:=s';obtain rfl:os'=s.os:=os;exact⟨v,H',I.call (h':=hh) (g':=g) (d':=d) (t':=t) (ch:=[]) un hok bare (λb z=>absurd z (by simp)),r,q⟩
end
def re(sp:Sp)(ź:Ac V)(E:XK)(t:TA):TE:=λZ H Q=>t Z H λvs H1=>sp (vs++ź) H1 Q E
def Ϡ(K:Fg)(fd:Dm)(ps:Ac Al)(ds:Ac Aj):Prop:=
 ∀(s:Aq)(us:Ac Aj),K.In s.heap->(us++ds).length=ps.length->Ji s fd ⟨us,[]⟩ (ps.zip (us++ds))
theorem Ϡ.all{K:Fg}(h:∀ us:Ac Aj,us.length=ps.length->NA fd ⟨us,[]⟩=pure (ps.zip us)):Ϡ K fd ps []:=λs us _ hl=>by
 rw[Cr]at hl ⊢;exact .of_eq (h us hl)
def M6(CX:CXT)(X:Cx)(E:XK):Prop:=∀(pI:Pn)(Z:St)(H:Hp)(s:Aq)(e:Aj)(s':Aq),Z4 X pI Z H s->CX X.stack H s E e s'->X.xe e s'
theorem dq(F:y7 X.prog X.w X.K X.mg X.base CX k f fd ps sp)(hr:y8 k X.A)(hb:Ϡ X.K fd ps ds)(hd:Bv ź ds)(hx:M6 CX X E)(I:Z4 X pI Z H s)(r:Bv vs us)(h:sp (vs++ź) H Q E):Az (model X.prog X.w) X.A (call (.ref f) us) (EP X pI Z Q) X.xe s:=by
 have r2:Bv (vs++ź) (us++ds):=r.append hd;have hl:(us++ds).length=ps.length:=by rw[<-r2.length];exact F.len _ _ _ _ h
 refine wpAny_call (Lb (F.run X.A X.stack s H ⟨us,[]⟩ (us++ds) (vs++ź) Q E hr I.env0 (hb s us I.kIn hl) r2 h) λr s' hq=>?_)
 cases r with
 |error e=>exact hx pI Z H s e s' I hq
 |ok fl=>
  cases fl with
  |ret u=>exact I.after hq
  |next=>exact FF hq
  |brk=>exact FF hq
  |cont=>exact FF hq
theorem W6(F:y7 X.prog X.w X.K X.mg X.base CX k f fd ps sp)(hr:y8 k X.A)(hg:Gl X x)(hm:X.mg x=Ab (.ref f))(hk:Ei X.K (.ref f)=Aa)(hb:Ϡ X.K fd ps ds)(hd:Bv ź ds)(hx:M6 CX X E)(ha:PA X (e::es) t)(ik:(x==("__debug__" : Al))=Ae:=by decide)(he:AR (e::es) X.env=(Ae,eval e X.env)::AR es X.env:=by rfl)(yo:(DO pos (AR es X.env)).any (·.1)=Ae:=by rfl):PE X (.Call (.Name x p) (e::es) [] pos) (re sp ź E t):=by
 intro pI s Z H Q I h;refine IF (xA I hg hm ?_ ik);refine PySem.W.callWith_K (h₀:=X.base) I.ok.mod.kin hk (J9 (ha pos pI s Z H _ I h) λus s1 ⟨vs,H1,I1,r,q⟩=>⟨I1.kIn,?_⟩) he yo
 exact dq F hr hb hd hx I1 r q
structure Ù (N P:Ac Al) (sc:CP):Prop where
 kind:sc.kind=.function
 co:sc.isCoroutine=Ae
 gen:sc.isGenerator=Ae
 nd:N.Nodup
 pre:N.take P.length=P
 par:∀ x∈P,sc.names.lookup x=Ab .local\/sc.names.lookup x=Ab .cell
 nofree:∀ y∈sc.names,y.2≠.free
theorem We{kindOf:Al->Ar Fo}:∀{binds:Ac (Al×Aj)}{m:Al->Ar Aj},(∀ v,(x,v)∉binds)->Kx kindOf binds m x=m x
 |[],_,_=>rfl
 |(n,v)::r,m,h=>by
  unfold Kx;rw[We λw hw=>h w (As _ hw)]
  split
  .have:x≠n:=by rintro rfl;exact h v Av
   simp[this]
  .rfl
theorem Wg{kindOf:Al->Ar Fo}:∀{binds:Ac (Al×Aj)}{m:Al->Ar Aj},(∀ v,(x,v)∉binds)->Kw kindOf binds m x=m x
 |[],_,_=>rfl
 |(n,v)::r,m,h=>by
  unfold Kw;rw[Wg λw hw=>h w (As _ hw)]
  split
  .rfl
  .have:x≠n:=by rintro rfl;exact h v Av
   simp[this]
theorem Wf{kindOf:Al->Ar Fo}:∀{P:Ac Al}{vs:Ac Aj}{i:Ag}{m:Al->Ar Aj},P.Nodup->P[i]?=Ab x->vs[i]?=Ab v->kindOf x=Ab .local->Kx kindOf (P.zip vs) m x=Ab v
 |[],_,_,_,_,h,_,_=>by simp at h
 |_::_,[],_,_,_,_,h,_=>by simp at h
 |p::P,w::vs,0,m,nd,h1,h2,hk=>by
  simp at h1 h2;subst h1;subst h2;show Kx kindOf ((p,w)::P.zip vs) m p=_;unfold Kx;rw[We λv hv=>(Cs.mp nd).1 (JP hv).1,AB hk]
  simp
 |p::P,w::vs,i+1,m,nd,h1,h2,hk=>by
  show Kx kindOf ((p,w)::P.zip vs) m x=_;unfold Kx;exact Wf (i:=i) (Cs.mp nd).2 (by simpa using h1) (by simpa using h2) hk
theorem Wh{kindOf:Al->Ar Fo}:∀{P:Ac Al}{vs:Ac Aj}{i:Ag}{m:Al->Ar Aj},P.Nodup->P[i]?=Ab x->vs[i]?=Ab v->kindOf x≠Ab .local->Kw kindOf (P.zip vs) m x=Ab v
 |[],_,_,_,_,h,_,_=>by simp at h
 |_::_,[],_,_,_,_,h,_=>by simp at h
 |p::P,w::vs,0,m,nd,h1,h2,hk=>by
  simp at h1 h2;subst h1;subst h2;show Kw kindOf ((p,w)::P.zip vs) m p=_;unfold Kw;rw[Wg λv hv=>(Cs.mp nd).1 (JP hv).1,AF hk]
  simp
 |p::P,w::vs,i+1,m,nd,h1,h2,hk=>by
  show Kw kindOf ((p,w)::P.zip vs) m x=_;unfold Kw;exact Wh (i:=i) (Cs.mp nd).2 (by simpa using h1) (by simpa using h2) hk
noncomputable def start(N:Ac Al)(vs:Ac V):St:=vs.map Ab++Ik (N.length-vs.length) Af
noncomputable def IY(CX:CXT)(P:AW)(w:AJ)(K:Fg)(mg:Al->Ar Aj)(base:AO)(N:Ac Al)(qual:Al)(scope:CP)(f:Ak)(cd:Aj)(A:A9)(outer:Ac DA)(s:Aq)(H:Hp)(E:XK):Cx where
 prog:=P
 w:=w
 K:=K
 mg:=mg
 base:=base
 A:=A.deeper (GN qual scope s.heap.objs.size f cd)
 N:=N
 s₀:=s
 H₀:=H
 env:=GN qual scope s.heap.objs.size f cd
 outer:=outer
 stack:=GN qual scope s.heap.objs.size f cd::outer
 ex:=[]
 calm:=Aa
 fn:=λ_=>Aa
 pn:=[]
 xe:=λe s'=>Az (model P w) (A.deeper (GN qual scope s.heap.objs.size f cd)) (leaving (GN qual scope s.heap.objs.size f cd) e) (λ_ Ř=>CX outer H s E e Ř) (λe' Ř=>CX outer H s E e' Ř) s'
theorem WW{sc:CP}(h:sc.names.lookup x=Ab .cell):∃ c,(Ej n sc.names []).lookup x=Ab c:=by
 have q:=eO sc.names n [] (.inl h);exact Option.isSome_iff_exists.mp q
theorem nW{K:Fg}(S:Ù N ps scope)(hd:A.handled=Af)(e0:ϰ P w K mg base A outer s H)(hl:vs.length=ps.length)(r:Bv vs us)(x:InCallC s s.heap.objs.size (Kx (GN qual scope s.heap.objs.size f cd).kindOf (ps.zip us) λ_=>Af) (Ej (s.heap.objs.size+1) scope.names []) (Kw (GN qual scope s.heap.objs.size f cd).kindOf (ps.zip us) λ_=>Af) s1):Z4 (IY CX P w K mg base N qual scope f cd A outer s H E) [] (start N vs) H s1:=by
 have yo:ps.length<=N.length:=by have:=congrArg JV S.pre;rw[EG]at this;lia
 obtain⟨h1,tk,rfl,hk⟩:=x.done;have Œ:∀ b:Ak,b∉(IY CX P w K mg base N qual scope f cd A outer s H E).ex:=λb z=>absurd (show b∈([]:Ac Ak) from z) (by simp)
 refine⟨⟨e0.mod,S.kind,rfl,rfl,AE _,λy z c h1 h2=>?_,λy hy=>?_,λy c _ h=>?_,λ_=>hd,Around.frames_deeper e0.frames,.inr ⟨rfl,rfl⟩,λb z=>absurd z (Œ b),e0.bs,e0.bsz,λb _ _=>Œ b,λb z=>absurd z (Œ b),e0.funs,e0.frf⟩,
  rfl,e0.bare,Un.kept hk,⟨_,x.toInCall.ns,λi y v h1 h2 h3=>?_⟩,λy c h=>⟨_,x.cell y c h⟩,e0.hok.fresh (AE _),λy c h=>?_,λp hp=>absurd (show p∈([]:Pn) from hp) (by simp),e0.hok.kept hk,?_⟩
 .exact name_of_addr x.apart (DF h1) (DF h2)
 .have hy:scope.names.lookup y=Ab .cell\/scope.names.lookup y=Ab .free:=hy;rcases hy with hy|hy
  .exact WW hy
  .exact absurd rfl (S.nofree _ (DF hy))
 .exact FY (x.above y c (DF h))
 .have hi:i<vs.length:=by
   unfold start at h2;by_cases hi:i<vs.length
   .exact hi
   .rw[C4 (by simpa using hi)]at h2
    rw[aQ]at h2;split at h2<;>cases h2
  have ha:vs[i]?=Ab v:=by
   unfold start at h2;rw[Ek (by simpa using hi),EB]at h2
   cases e:vs[i]? with
   |none=>rw[e]at h2;cases h2
   |some a=>rw[e]at h2;cases h2;rfl
  obtain⟨u,hu,rv⟩:=r.get ha;have hp:ps[i]?=Ab y:=by
   rw[<-S.pre,List.getElem?_take_of_lt (by lia)];exact h1
  have ndP:ps.Nodup:=by rw[<-S.pre];exact S.nd.sublist (List.take_sublist _ _)
  refine⟨u,rv,?_⟩;rcases S.par y (Et hp) with k|k
  .exact .inl ⟨k,Wf ndP hp hu k⟩
  .obtain⟨c,e⟩:=WW (n:=s.heap.objs.size+1) k;refine .inr ⟨.inl k,c,e,?_⟩;have q:=x.cell y c e;rw[Wh ndP hp hu (by show scope.names.lookup y≠_;rw[k];decide)]at q
   exact q
 .exact e0.hok.fresh (FY (x.above y c (DF h)))
 .unfold start;show _=N.length;rw[BL,A6,aU]
  lia
theorem gE{K:Fg}{kV:Aj}(lk:K.lookup f=Ab ⟨oc,od,.func (EN name qual params body scope dV kV doc pm an cdv ct),osl⟩)(ó:GY K cdv qual=Aa)(S:Ù N ps scope)(len:∀ vs H Q E,sp vs H Q E->vs.length=ps.length)(ķ:∀(A:A9)(outer:Ac DA)(s:Aq)(H:Hp)(vs:Ac V)(Q:VK)(E:XK),y8 k (A.deeper (GN qual scope s.heap.objs.size f cdv))->sp vs H Q E ->
   ∃ t,xk (IY CX P w K mg base N qual scope f cdv A outer s H E) body t/\t {nx:=λ_ H'=>Q .O H',rt:=Q} (start N vs) H):y7 P w K mg base CX (k+1) f (EN name qual params body scope dV kV doc pm an cdv ct) ps sp:=by
 refine⟨len,λA outer s H args us vs Q E hr e0 hb r Ŭ=>?_⟩
 have hl:=len _ _ _ _ Ŭ;have KX:K.In s.heap:=e0.mod.kin.keeps λb o e=>(e0.bs b o e).1
 have lim:s.heap.NoLimit:=e0.mod.nolimit.keeps λb o e=>(e0.bs b o e).1
 have ľ:∀ y∈ps.zip us,scope.names.lookup y.1=Ab .local\/(scope.names.lookup y.1=Ab .cell/\((Ej (s.heap.objs.size+1) scope.names []).lookup y.1).isSome=Aa):=λ⟨n,v⟩ hy=>by
  rcases S.par n (JP hy).1 with q|q
  .exact .inl q
  .exact .inr ⟨q,eO _ _ _ (.inl q)⟩
 refine codeAny_call_function hr.depth (KX _ _ lk) rfl S.co S.gen rfl (PySem.W.codeRec_of KX ó) (hb _ _ _ _ ?_);refine wpAny_newFunctionEnv_cells S.kind ľ λenv he s1 x=>?_
 subst he;refine⟨lim.keeps x.toInCall.keep,codeAny_func ?_⟩;obtain⟨t,ht,hq⟩:=ķ A outer s H vs Q E (hr.deeper _) Ŭ;have I:Z4 (IY CX P w K mg base N qual scope f cdv A outer s H E) [] (start N vs) H s1:=nW S hr.hd e0 hl r x;refine Dx (ht [] s1 (start N vs) H _ I hq) (λfl s' hs=>?_) λe s' hs=>hs
 have fin:∀{Z':St}{H':Hp}{v:V}{u:Aj},Z4 (IY CX P w K mg base N qual scope f cdv A outer s H E) [] Z' H' s'->Cp v u->Q v H'->CE outer P w H s Q u s':=
  λ{Z' H' v u} J_ rv q=>⟨v,H',J_.os,J_.bare,J_.base,J_.hok,rv,q⟩
 cases fl with
 |ret u=>
  obtain⟨v,Z',H',J_,rv,q⟩:=hs;exact fin J_ rv q
 |next=>
  obtain⟨Z',H',J_,q⟩:=hs;exact fin (v:=V.O) (u:=Bo) J_ rfl q
 |brk=>
  obtain⟨_,_,_,q⟩:=hs;exact FF q
 |cont=>
  obtain⟨_,_,_,q⟩:=hs;exact FF q
section
variable{id:DQ}
def tCB(r:Ac V->Hp->VK->Prop)(t:TA):TE:=λZ H Q=>t Z H λvs H1=>r vs H1 Q
theorem NN(hc:IV X (.builtin id) r)(hg:Gl X x)(hm:X.mg x=Af)(hv:DP x=Ab (.builtin id))(ha:PA X (e::es) t)(hn:x≠"__name__" := by decide)(ik:(x==("__debug__" : Al))=Ae:=by decide)(he:AR (e::es) X.env=(Ae,eval e X.env)::AR es X.env:=by rfl)(yo:(DO pos (AR es X.env)).any (·.1)=Ae:=by rfl):PE X (.Call (.Name x p) (e::es) [] pos) (tCB r t):=by
 intro pI s Z H Q I h;refine IF (KI I hg hm hv ?_ hn ik);exact PyProof.Rows.callWith_builtin1 (J9 (ha pos pI s Z H _ I h) λus s1 ⟨vs,H1,I1,r1,q1⟩=>hc pI s1 Z H1 vs us Q I1 r1 q1) he yo
theorem V3(hc:IV X (.type T) r)(hg:Gl X x)(hm:X.mg x=Af)(hv:DP x=Ab (.type T))(ha:PA X (e::es) t)(hn:x≠"__name__" := by decide)(ik:(x==("__debug__" : Al))=Ae:=by decide)(he:AR (e::es) X.env=(Ae,eval e X.env)::AR es X.env:=by rfl)(yo:(DO pos (AR es X.env)).any (·.1)=Ae:=by rfl):PE X (.Call (.Name x p) (e::es) [] pos) (tCB r t):=by
 intro pI s Z H Q I h;refine IF (KI I hg hm hv ?_ hn ik);exact CU (J9 (ha pos pI s Z H _ I h) λus s1 ⟨vs,H1,I1,r1,q1⟩=>hc pI s1 Z H1 vs us Q I1 r1 q1) he yo
end
end L2
namespace HT
open PySem PyProof.Rows
section
open PySem.SeqAt
open PySem.AutoSeq1 (wpAny_loadPart')
open PySem.MeetsSeq PySem.MeetsSeq2 PySem.MeetsSeq3
end
section
variable{E:Vq}
theorem cat_tup{Q:Vq}(ht:Ku s.heap t vs.toArray)(hb:Ku s.heap b ws.toArray)(hv:vs≠[])(h1:ws=[]->Q (.ref t) s)(h2:ws≠[]->Q (.ref s.heap.objs.size) { s with heap:=s.heap.push { cls:=.type "tuple",data:=.seq (vs++ws).toArray } })(hsz:vs.length+ws.length<=sizeLine):Az (model prog w) A (C2 .Add (.ref t) (.ref b)) Q E s:=by
 obtain⟨⟨cls,dd,data,sl⟩,ho,hc,n,hd⟩:=id ht;obtain⟨⟨cls2,Ź,data2,ŵ⟩,ď,Α,n2,hd2⟩:=id hb;simp only at hc hd Α hd2;subst hc hd Α hd2;have e:vs.toArray++ws.toArray=(vs++ws).toArray:=by simp
 by_cases hw:ws=[]
 .exact Lc ⟨_,ho,rfl⟩ ⟨_,ď,rfl⟩ eZ seq_tuple_add dN dF (dA _ _)
   (tuple_addW1 t b vs.toArray ws.toArray n n2 dd Ź sl ŵ (by simpa using hv) (by simp[hw])) ⟨ho,ď,h1 hw⟩
 .refine Lc ⟨_,ho,rfl⟩ ⟨_,ď,rfl⟩ eZ seq_tuple_add dN dF (dA _ _)
   (tuple_addW2 t b vs.toArray ws.toArray n n2 dd Ź sl ŵ (by simpa using hv) (by simpa using hw) (by rw[AT,AT];exact hsz)) ⟨ho,ď,?_⟩
  rw[e];exact h2 hw
noncomputable def sIx(n d:Ag):Ar Ad->Ag
 |none=>d
 |some v=>if v<0 then (v+(n:Ad)).toNat else min v.toNat n
theorem di(n d:Ag)(hd:d<=n)(o:Ar Ad):sIx n d o<=n:=by
 cases o with
 |none=>exact hd
 |some v=>
  show (if v<0 then (v+(n:Ad)).toNat else min v.toNat n)<=n
  by_cases hv:v<0
  .rw[AB hv];lia
  .rw[AF hv];exact Nat.min_le_right _ _
theorem Xv(v:Ad)(n d:Ag):(if v<0 then max (v+(n:Ad)) 0 else min v (n:Ad))=((sIx n d (Ab v):Ag):Ad):=by
 show (if v<0 then max (v+(n:Ad)) 0 else min v (n:Ad))=(((if v<0 then (v+(n:Ad)).toNat else min v.toNat n):Ag):Ad)
 by_cases hv:v<0
 .simp only[AB hv];lia
 .simp only[AF hv];lia
theorem mB(lo hi:Ar Ad)(n:Ag):GH lo hi 1 (n:Ad)=(((sIx n 0 lo:Ag):Ad),((sIx n n hi:Ag):Ad)):=by
 have h1:¬ ((1:Ad)<0):=by omega
 unfold GH;simp only[h1,E2];refine BJ ?_ ?_
 .cases lo with
  |none=>rfl
  |some v=>exact Xv v n 0
 .cases hi with
  |none=>rfl
  |some v=>exact Xv v n n
theorem lT(i j:Ag):Fe (i:Ad) (j:Ad) 1=j-i:=by
 unfold Fe;have h1:(1:Ad)>0:=by lia
 simp only[h1,Jm,Int.ediv_one];split<;>lia
theorem Vr(p:Jv v o)(h:Q o s):Az (model prog w) A (Builtin.Slice.slicePartIndex v) Q E s:=by
 cases p with
 |none=>exact bT h
 |int i t=>exact slicePart_int h
theorem kN{lo:Ar Ad}{Q:Ad×Ad×Ag->Aq->Prop}(hs:s.heap.IsSliceOf sl vl vu .none)(pl:Jv vl lo)(pu:Jv vu hi)(h:Q (((sIx n 0 lo:Ag):Ad),1,sIx n n hi-sIx n 0 lo) s):Az (model prog w) A (bZ (.ref sl) (pure (n:Ad))) Q E s:=by
 obtain⟨os,ń,hcs,č⟩:=id hs;unfold bZ Builtin.Slice.sliceFields;refine Ah (Ah (Bx ń č (x:=vl) rfl (Ah (Bx ń č (x:=vu) rfl (Ah (Bx ń č (x:=.none) rfl (Au ?_)))))));refine Ah (bT ?_);show Az _ _ (if ((1:Ad)==0)=Aa then _ else _) _ _ s
 rw[AF (by decide)]
 refine Ah (Vr pl (Ah (Vr pu (Ah (Au ?_)))));show Az _ _ (match GH lo hi 1 (n:Ad) with|(lo,hi)=>pure (lo,(1:Ad),Fe lo hi 1)) _ _ s
 rw[mB lo hi n];show Az _ _ (pure (((sIx n 0 lo:Ag):Ad),(1:Ad),Fe ((sIx n 0 lo:Ag):Ad) ((sIx n n hi:Ag):Ad) 1)) _ _ s;rw[lT];exact Au h
theorem rK(xs:Ax Aj)(i k:Ag):((B5 k).filterMap fun(m:Ag)=>xs[((i:Ad)+(m:Ad)*1).toNat]?).toArray=((xs.toList.drop i).take k).toArray:=by
 have e:(fun(m:Ag)=>xs[((i:Ad)+(m:Ad)*1).toNat]?)=λm=>xs[i+m]?:=by
  funext m
  have:((i:Ad)+(m:Ad)*1).toNat=i+m:=by lia
  rw[this]
 rw[e];have:=pick_run xs i k;rw[List.filterMap_map]at this;have e2:((λx=>xs[x]?) ∘ λx=>i+x)=λm=>xs[i+m]?:=rfl
 rw[e2]at this;rw[this]
theorem getItem_tuple_cut{lo:Ar Ad}{Q:Vq}(ht:Ku s.heap t items)(hs:s.heap.IsSliceOf sl vl vu .none)(pl:Jv vl lo)(pu:Jv vu hi)(hw:¬ (sIx items.size 0 lo=0/\sIx items.size items.size hi=items.size))(h:Q (.ref s.heap.objs.size) { s with heap:=s.heap.push { cls:=.type "tuple",data:=.seq ((items.toList.drop (sIx items.size 0 lo)).take (sIx items.size items.size hi-sIx items.size 0 lo)).toArray } })(hsz:items.size<=sizeLine):Az (model prog w) A (LP (.ref t) (.ref sl)) Q E s:=by
 have ß:sizeOk (.seq ((items.toList.drop (sIx items.size 0 lo)).take (sIx items.size items.size hi-sIx items.size 0 lo)).toArray):=by
  show ((items.toList.drop (sIx items.size 0 lo)).take (sIx items.size items.size hi-sIx items.size 0 lo)).toArray.size<=sizeLine;rw[AT,EG,F5,AQ];omega
 have hj:sIx items.size items.size hi<=items.size:=di _ _ (AE _) hi;obtain⟨os,ń,hcs,č⟩:=id hs;have hTs:s.TypeIs (.ref sl) "slice" := ⟨os,ń,hcs⟩;unfold LP
 try with_reducible refine Cn ?_
 first|refine Ah (Au ?_)|skip
 refine Ah (wpAny_sequenceKey ht.typeIs (by decide) ?_)
 refine Ah (Cq (name:=Do "__getitem__") ht.typeIs bU
  (CC bU ht.typeIs entry_tuple_getitem ?_ (args_tuple_getitem _ _)))
 show Az _ _ (cA (.ref t) >>= _) _ _ s;refine Ah (tupleItemsOf_ ht ?_);refine Ah (wpAny_typeOf hTs ?_);rw[AB (by decide)]
 refine Ah (kN hs pl pu ?_);have hno:¬ ((((sIx items.size 0 lo:Ag):Ad)==0&&(1:Ad)==1&&(sIx items.size items.size hi-sIx items.size 0 lo)==items.size)=Aa):=by
  intro q;rw[An,An]at q;have q1:((sIx items.size 0 lo:Ag):Ad)=0:=eq_of_beq q.1.1;have q2:sIx items.size items.size hi-sIx items.size 0 lo=items.size:=eq_of_beq q.2;exact hw ⟨by omega,by omega⟩
 show Az _ _ (if (((sIx items.size 0 lo:Ag):Ad)==0&&(1:Ad)==1&&(sIx items.size items.size hi-sIx items.size 0 lo)==items.size)=Aa then _ else _) _ _ s
 rw[AF hno,rK]
 first
  |exact Ah (m:=DN _) (Di (Au ⟨_,rfl,Au h⟩) ß)
  |exact Ah (m:=DN _) (Di (Ah (Au (Au ⟨_,rfl,Au h⟩))) ß)
  |exact Ah (Ah (m:=DN _) (Di (Au (Au ⟨_,rfl,Au h⟩)) ß))
  |exact Ah (Ah (m:=DN _) (Di (Au ⟨_,rfl,Au h⟩) ß))
end
end HT
namespace L2
open PySem PySem.Spec PyProof.Rows
variable{xs:Ac V}{its:Ac Aj}{Z:St}
abbrev TO:=St->Hp->(Ar Ad->Hp->Prop)->Prop
def PO(X:Cx)(e:Ar Am)(t:TO):Prop:=
 ∀(pI:Pn)(s:Aq)(Z:St)(H:Hp)(Q:Ar Ad->Hp->Prop),Z4 X pI Z H s->t Z H Q ->
  Az (model X.prog X.w) X.A (evalPart e X.env) (λu s'=>∃ o H',Z4 X pI Z H' s'/\Jv u o/\Q o H') X.xe s
def sX:TO:=λ_ H Q=>Q Af H
def qp(t:TE):TO:=λZ H Q=>t Z H λx H1=>∃ i,x=.int i/\Q (Ab i) H1
section
variable{lo:Ar Am}
theorem tX:PO X Af sX:=by
 intro pI s Z H Q I h;rw[evalPart_none];exact Au ⟨Af,H,I,.none,h⟩
theorem tW(h:PE X e te):PO X (Ab e) (qp te):=by
 intro pI s Z H Q I hw;rw[evalPart_some];refine J9 (h pI s Z H _ I hw) λu s1 ⟨x,H1,I1,r1,q1⟩=>?_
 obtain⟨i,rfl,q⟩:=q1;obtain⟨t,rfl⟩:=r1;exact⟨Ab i,H1,I1,.int i t,q⟩
def SlR(X:Cx)(r:V->Ar Ad->Ar Ad->Hp->VK->Prop):Prop:=
 ∀(pI:Pn)(s:Aq)(Z:St)(H:Hp)(x:V)(v vl vu:Aj)(lo hi:Ar Ad)(sl:Ak)(Q:VK),Z4 X pI Z H s->Cp x v->s.heap.IsSliceOf sl vl vu .none->Jv vl lo->Jv vu hi->r x lo hi H Q ->
  ∃ T id,Mu (.type T) "__getitem__" = pure (Ab (.builtin id))/\s.TypeIs v T/\Az (model X.prog X.w) X.A (LP v (.ref sl)) (EP X pI Z Q) X.xe s
def tSl(r:V->Ar Ad->Ar Ad->Hp->VK->Prop)(te:TE)(tl th:TO):TE:=λZ H Q=>te Z H λx H1=>tl Z H1 λl H2=>th Z H2 λu H3=>r x l u H3 Q
theorem rM(hr:SlR X r)(he:PE X e te)(hl:PO X lo tl)(hu:PO X hi th):PE X (.Subscript e (.Slice lo hi Af p2) pos) (tSl r te tl th):=by
 intro pI s Z H Q I h;refine Subscript_ (J9 (he pI s Z H _ I h) λv s1 ⟨x,H1,I1,r1,q1⟩=>?_)
 refine wpAny_Slice (J9 (hl pI s1 Z H1 _ I1 q1) λvl s2 ⟨l,H2,I2,pl,q2⟩=>J9 (hu pI s2 Z H2 _ I2 q2) λvu s3 ⟨u,H3,I3,pu,q3⟩=>?_)
 rw[evalPart_none];refine Au ?_;have I4:Z4 X pI Z H3 { s3 with heap:=s3.heap.push { cls:=.type "slice",data:=.fields #[vl,vu,.none] } }:=I3.kept (t':=s3.toks) λb ob q=>At _ q
 obtain⟨T,id,hT,ht,hg⟩:=hr pI { s3 with heap:=s3.heap.push { cls:=.type "slice",data:=.fields #[vl,vu,.none] } } Z H3 x v vl vu l u s3.heap.objs.size Q I4 r1 (Heap.IsSliceOf.new ..) pl pu q3
 show Az (model X.prog X.w) X.A (subscriptTail e (.Slice lo hi Af p2) v (.ref s3.heap.objs.size)) (EP X pI Z Q) X.xe { s3 with heap:=s3.heap.push { cls:=.type "slice",data:=.fields #[vl,vu,.none] } }
 exact tail_any (ops:=[.ref s3.heap.objs.size,v]) ht hT hg (by with_unfolding_all rfl)
noncomputable def LH(xs:Ac V)(lo hi:Ar Ad):Ac V:=(xs.drop (HT.sIx xs.length 0 lo)).take (HT.sIx xs.length xs.length hi-HT.sIx xs.length 0 lo)
theorem VE(xs:Ac V)(lo hi:Ar Ad):(LH xs lo hi).length<=xs.length:=by
 unfold LH;rw[EG,F5];omega
def U8(K:Fg):V->Ar Ad->Ar Ad->Hp->VK->Prop:=λx lo hi H Q=>∃ a xs,x=.ref a/\yr K H a xs /\
 ¬ (HT.sIx xs.length 0 lo=0/\HT.sIx xs.length xs.length hi=xs.length)/\∀ p,H p=Af->Q (.ref p) (upd H p (.H (LH xs lo hi)))
theorem i6:SlR X (U8 X.K):=by
 intro pI s Z H x v vl vu lo hi sl Q I rx hs pl pu h;obtain⟨a,xs,rfl,hx,hw,q⟩:=h;cases rx;obtain⟨its,r,ht,hz⟩:=I.tuple hx;have J2:its.toArray.size=xs.length:=by rw[AT];exact r.length.symm
 refine⟨"tuple",_,PyProof.Rows.slot_tuple_getitem.lookup,ht.typeIs,?_⟩;refine HT.getItem_tuple_cut ht hs pl pu (by rw[J2];exact hw) ?_ (by rw[J2];exact hz)
 rw[J2];refine⟨.ref s.heap.objs.size,_,I.laid (t':=s.toks) (o:=.H (LH xs lo hi)) (λb ob q=>At _ q) (AE _) ?_,rfl,q _ (I.hok.fresh (AE _))⟩
 exact⟨CM (VE xs lo hi) hz,_,(r.drop (HT.sIx xs.length 0 lo)).take (HT.sIx xs.length xs.length hi-HT.sIx xs.length 0 lo),K6 _ _⟩
def vj(K:Fg):R2:=λx y H Q=>∃ a b xs ys,x=.ref a/\y=.ref b/\yr K H a xs/\yr K H b ys/\xs≠[]/\xs.length+ys.length<=sizeLine /\
 (ys=[]->Q (.ref a) H)/\(ys≠[]->∀ p,H p=Af->Q (.ref p) (upd H p (.H (xs++ys))))
theorem Bv.nil_iff(r:Bv xs us):us=[]↔xs=[]:=by
 cases r with
 |nil=>simp
 |cons _ _=>simp
theorem xS:yq X (C2 .Add) (vj X.K):=by
 intro pI s Z H x y v u Q I rx ry h;obtain⟨a,b,xs,ys,rfl,rfl,ha,hb,hx,hz,q1,q2⟩:=h;cases rx;cases ry;obtain⟨its,r1,p1,_⟩:=I.tuple ha;obtain⟨zx,r2,p2,_⟩:=I.tuple hb;refine HT.cat_tup p1 p2 (λz=>hx (r1.nil_iff.mp z)) (λz=>⟨.ref a,H,I,rfl,q1 (r2.nil_iff.mp z)⟩) (λz=>?_) (by rw[<-r1.length,<-r2.length];exact hz)
 refine⟨.ref s.heap.objs.size,_,I.laid (t':=s.toks) (o:=.H (xs++ys)) (λb ob q=>At _ q) (AE _) ?_,rfl,q2 (λw=>z (r2.nil_iff.mpr w)) _ (I.hok.fresh (AE _))⟩
 exact⟨by rw[BL];exact hz,_,r1.append r2,K6 _ _⟩
end
noncomputable def ŭ(n:Ag)(i:Ad):Ar Ag:=if 0<=i then (if i<n then Ab i.toNat else Af) else if -(n:Ad)<=i then Ab (i+n).toNat else Af
def Å{α:Type}(xs:Ac α)(i:Ad):Ar α:=(ŭ xs.length i).bind λj=>xs[j]?
theorem Xy(h:ŭ n i=Ab j):seqIndex? i n=Ab j/\j<n/\-(n:Ad)<=i/\i<n:=by
 unfold ŭ at h;by_cases h0:0<=i
 .rw[AB h0]at h;by_cases h1:i<n
  .rw[AB h1]at h;have e:i.toNat=j:=B6 h;exact⟨by rw[LS h0 h1,e],by lia,by lia,h1⟩
  .rw[AF h1]at h;cases h
 .rw[AF h0]at h;by_cases h1:-(n:Ad)<=i
  .rw[AB h1]at h;have e:(i+n).toNat=j:=B6 h;exact⟨by rw[Lh (by lia) h1,e],by lia,h1,by lia⟩
  .rw[AF h1]at h;cases h
theorem X9{xs:Ac α}{v:α}(h:Å xs i=Ab v):∃ j,seqIndex? i xs.length=Ab j/\xs[j]?=Ab v/\j<xs.length/\-(xs.length:Ad)<=i/\i<xs.length:=by
 unfold Å at h;cases e:ŭ xs.length i with
 |none=>rw[e]at h;cases h
 |some j=>
  rw[e]at h;obtain⟨h1,h2,h3,h4⟩:=Xy e;exact⟨j,h1,h,h2,h3,h4⟩
def Th(b:Am):Prop:=∀ o i,subscripted b Ae o i=operate [o,i] (LP o i)
def Ŷ(X:Cx)(r:R2):Prop:=
 ∀(value slice:Am)(pI:Pn)(s:Aq)(Z:St)(H:Hp)(x y:V)(v u:Aj)(Q:VK),Z4 X pI Z H s->Cp x v->Cp y u->r x y H Q ->
  subscripted slice Ae v u=operate [v,u] (LP v u)->Az (model X.prog X.w) X.A (subscriptTail value slice v u) (EP X pI Z Q) X.xe s
def MtR(X:Cx)(id:DQ)(r:V->Ac V->Hp->VK->Prop):Prop:=
 ∀(pI:Pn)(s:Aq)(Z:St)(H:Hp)(x:V)(xs:Ac V)(v:Aj)(us:Ac Aj)(Q:VK),Z4 X pI Z H s->Cp x v->Bv xs us->r x xs H Q ->
  Az (model X.prog X.w) X.A (call (.builtin id) (v::us)) (EP X pI Z Q) X.xe s
section
variable{a:Am}
theorem Ŷ.or(h:Ŷ X r)(h':Ŷ X r'):Ŷ X (λx y H Q=>r x y H Q\/r' x y H Q):=by
 intro value slice pI s Z H x y v u Q I rx ry q hs;rcases q with q|q
 .exact h value slice pI s Z H x y v u Q I rx ry q hs
 .exact h' value slice pI s Z H x y v u Q I rx ry q hs
theorem ud(hr:Ŷ X r)(ha:PE X a ta)(hb:PE X b tb)(hs:Th b):PE X (.Subscript a b pos) (ĝ r ta tb):=by
 intro pI s Z H Q I h;exact Subscript_ (QO ha hb I h λv u s2 x y H2 I2 rx ry q=>hr a b pI s2 Z H2 x y v u Q I2 rx ry q (hs _ _))
def Vb(K:Fg):R2:=λx y H Q=>∃ p xs i v,x=.ref p/\y=.int i/\zp K H p xs/\Å xs i=Ab v/\Q v H
def Va(K:Fg):R2:=λx y H Q=>∃ p xs i v,x=.ref p/\y=.int i/\yr K H p xs/\Å xs i=Ab v/\Q v H
theorem wD:Ŷ X (Vb X.K):=by
 intro value slice pI s Z H x y v u Q I rx ry h hs;obtain⟨p,xs,i,z,rfl,rfl,hq,he,q⟩:=h;cases rx;obtain⟨t,rfl⟩:=ry;obtain⟨its,r,pl,hz⟩:=I.list hq;obtain⟨j,h1,h2,h3,h4,h5⟩:=X9 he;obtain⟨w,ew,xh⟩:=r.get h2;have hl:=r.length;have hn:=M4;have fin:EP X pI Z Q w s:=⟨z,H,I,xh,q⟩;by_cases h0:0<=i
 .have hj:i.toNat=j:=by
   rw[LS h0 h5]at h1;exact B6 h1
  exact item_listR pl.isList h0 (by lia) (by rw[hj];simpa using ew) fin hs
 .have hj:(i+(its.toArray.size:Ad)).toNat=j:=by
   rw[Lh (by lia) h4]at h1
   rw[AT,<-hl];exact B6 h1
  exact bV (x:=w) pl.isList.typeIs fB.lookup
   (wpAny_getItem_list_neg (Q:=λr s'=>r=w/\EP X pI Z Q r s') pl.isList (by lia) (by rw[AT]<;>lia) (by lia) (by rw[hj];simpa using ew) ⟨rfl,fin⟩) hs
theorem ji:Ŷ X (Va X.K):=by
 intro value slice pI s Z H x y v u Q I rx ry h hs;obtain⟨p,xs,i,z,rfl,rfl,hq,he,q⟩:=h;cases rx;obtain⟨t,rfl⟩:=ry;obtain⟨its,r,pl,hz⟩:=I.tuple hq;obtain⟨j,h1,h2,h3,h4,h5⟩:=X9 he;obtain⟨w,ew,xh⟩:=r.get h2;have hl:=r.length;have hn:=M4;have fin:EP X pI Z Q w s:=⟨z,H,I,xh,q⟩;exact bV (x:=w) pl.typeIs slot_tuple_getitem.lookup
  (getItem_tuple (j:=j) (Q:=λr s'=>r=w/\EP X pI Z Q r s') pl (by lia) (by lia) (by rw[AT,<-hl];exact h1) (by simpa using ew) ⟨rfl,fin⟩) hs
theorem lV(its:Ac Aj)(n j:Ag)(u:Aj):Cd (·.setIfInBounds j u) { cls:=.type "list",data:=.seq its.toArray n }={ cls:=.type "list",data:=.seq (its.set j u).toArray n }:=by
 simp[Cd]
theorem Z4.L(I:Z4 X pI Z H s)(h:H p=Ab (.L xs)):
  ∃(its:Ac Aj)(n:Ag),Bv xs its/\s.heap.get? p=Ab { cls:=.type "list",data:=.seq its.toArray n }/\xs.length<=sizeLine:=by
 obtain⟨z,its,n,r,e⟩:=I.hok p _ h;exact⟨its,n,r,e,z⟩
theorem Z4.lstUpd(I:Z4 X pI Z H s)(h:H p=Ab (.L xs))(ho:s.heap.get? p=Ab { cls:=.type "list",data:=.seq its.toArray n })(hf:f { cls:=.type "list",data:=.seq its.toArray n }={ cls:=.type "list",data:=.seq its'.toArray n' })(r:Bv ys its')(hz:ys.length<=sizeLine)(t:Ag):Z4 X pI Z (upd H p (.L ys)) {s with heap:=s.heap.update p f,toks:=t}:=by
 have e:(s.heap.update p f).get? p=Ab { cls:=.type "list",data:=.seq its'.toArray n' }:=by
  rw[CV f ho (by rw[hf]<;>rfl),hf]
 refine I.write (x:=p) (e:=p) (by rw[h];trivial) (.inl rfl) (λb u hb q=>(Cu _ _ (Cy hb)).trans q) ⟨_,e⟩ ?_
 exact⟨hz,its',n',r,e⟩
def vi:V->V->V->Hp->(Hp->Prop)->Prop:=λo i v H Q=>∃ p xs k j,o=.ref p/\i=.int k/\H p=Ab (.L xs)/\ŭ xs.length k=Ab j/\Q (upd H p (.L (xs.set j v)))
theorem qS:QS X vi:=by
 intro pI s Z H o i v ov iv u Q I ro ri rv h;obtain⟨p,xs,k,j,rfl,rfl,hp,hj,q⟩:=h;cases ro;obtain⟨t,rfl⟩:=ri;obtain⟨its,n,r,ho,hz⟩:=I.L hp;obtain⟨h1,h2,h3,h4⟩:=Xy hj;have hl:=r.length;have hn:=M4;have I':Z4 X pI Z (upd H p (.L (xs.set j v))) {s with heap:=s.heap.update p (Cd (·.setIfInBounds j u))}:=
  I.lstUpd hp ho (lV its n j u) (r.set rv j) (by rw[Bj];exact hz) s.toks
 by_cases h0:0<=k
 .have hk:k.toNat=j:=by
   rw[LS h0 h4]at h1;exact B6 h1
  exact PySem.W.ki_setAt ho h0 (by lia) (by rw[AT,<-hl];exact h4) (by rw[hk];exact⟨_,I',q⟩)
 .have hk:(k+(its.toArray.size:Ad)).toNat=j:=by
   rw[Lh (by lia) h3]at h1
   rw[AT,<-hl];exact B6 h1
  exact PySem.W.ki_setBack ho (by lia) (by rw[AT,<-hl];exact h3) (by lia) (by rw[hk];exact⟨_,I',q⟩)
theorem kQ(lo hi:Ar Ad)(n:Ag):(Gw lo hi Af n).1=((HT.sIx n 0 lo:Ag):Ad)/\(Gw lo hi Af n).2.1=((HT.sIx n n hi:Ag):Ad)/\(Gw lo hi Af n).2.2=1:=by
 refine⟨?_,?_,rfl⟩
 .cases lo with
  |none=>simp[Gw,HT.sIx]
  |some i=>
   simp only[Gw,HT.sIx,bP,show (1:Ad)>0 by decide,Jm]
   by_cases h:i<0
   .simp only[h,Jm]<;>lia
   .simp only[h,E2]<;>lia
 .cases hi with
  |none=>simp[Gw,HT.sIx]
  |some i=>
   simp only[Gw,HT.sIx,bP,show (1:Ad)>0 by decide,Jm]
   by_cases h:i<0
   .simp only[h,Jm]<;>lia
   .simp only[h,E2]<;>lia
theorem kO(its:Ac Aj)(lo hi:Ar Ad):slicePick its.toArray lo hi Af=((its.drop (HT.sIx its.length 0 lo)).take (HT.sIx its.length its.length hi-HT.sIx its.length 0 lo)).toArray:=by
 obtain⟨h1,h2,h3⟩:=kQ lo hi its.toArray.size;unfold slicePick;rw[h1,h2,h3];simp only[sliceRange_one,pick_run,AT]<;>rfl
def U9(K:Fg):V->Ar Ad->Ar Ad->Hp->VK->Prop:=λx lo hi H Q=>∃ a xs,x=.ref a/\zp K H a xs/\∀ p,H p=Af->Q (.ref p) (upd H p (.L (LH xs lo hi)))
theorem vO:SlR X (U9 X.K):=by
 intro pI s Z H x v vl vu lo hi sl Q I rx hs pl pu h;obtain⟨a,xs,rfl,hx,q⟩:=h;cases rx;obtain⟨its,r,ht,hz⟩:=I.list hx;have J2:=r.length;refine⟨"list",_,fB.lookup,ht.isList.typeIs,?_⟩;refine wpAny_getItem_list_slice ht.isList hs pl pu .none (by simp) ?_ (by rw[AT]<;>lia)
 rw[kO,<-J2];refine⟨.ref s.heap.objs.size,_,I.laid (t':=s.toks) (o:=.L (LH xs lo hi)) (λb ob q=>At _ q) (AE _) ?_,rfl,q _ (I.hok.fresh (AE _))⟩
 exact⟨CM (VE xs lo hi) hz,_,0,(r.drop (HT.sIx xs.length 0 lo)).take (HT.sIx xs.length xs.length hi-HT.sIx xs.length 0 lo),AG _ rfl⟩
theorem Re:IV X (.builtin "len") (λxs H Q=>∃ p ys,xs=[.ref p]/\(zp X.K H p ys\/yr X.K H p ys)/\Q (.int ys.length) H):=by
 intro pI s Z H xs us Q I r h;obtain⟨p,ys,rfl,hq,q⟩:=h;obtain⟨u,rfl,rx⟩:=ϝ r;cases rx;have hn:=M4;rcases hq with hq|hq
 .obtain⟨its,r',pl,hz⟩:=I.list hq;have J2:=r'.length;exact Calls.call_len_list pl.isList (by simp only[AT]<;>lia) ⟨.int ys.length,H,I.tok _,⟨s.toks+1,by rw[AT,J2]⟩,q⟩
 .obtain⟨its,r',pl,hz⟩:=I.tuple hq;have J2:=r'.length;exact len_tuple pl (by simp only[AT]<;>lia) ⟨.int ys.length,H,I.tok _,⟨s.toks+1,by rw[AT,J2]⟩,q⟩
theorem kX:IV X (.builtin "len") (λxs H Q=>∃ z,xs=[.str z]/\z.length<=sizeLine/\Q (.int z.length) H):=by
 intro pI s Z H xs us Q I r h;obtain⟨z,rfl,hz,q⟩:=h;obtain⟨u,rfl,t,rfl⟩:=ϝ r;have hn:=M4;exact len_str (by lia) ⟨.int z.length,H,I.tok _,⟨_,rfl⟩,q⟩
theorem Vn:IV X (.type "list") (λxs H Q=>∃ p ys,xs=[.ref p]/\(zp X.K H p ys\/yr X.K H p ys)/\∀ l,H l=Af->Q (.ref l) (upd H l (.L ys))):=by
 intro pI s Z H xs us Q I r h;obtain⟨p,ys,rfl,hq,q⟩:=h;obtain⟨u,rfl,rx⟩:=ϝ r;cases rx;have fin:∀(its:Ac Aj),Bv ys its->ys.length<=sizeLine->∀(h':AO)(c':Ag),(∀ b o',s.heap.get? b=Ab o'->h'.get? b=Ab o') ->
   h'.get? s.heap.objs.size=Ab { cls:=.type "list",dict:=Af,data:=.seq its.toArray c',slots:=#[] }->EP X pI Z Q (.ref s.heap.objs.size) {s with heap:=h'}:=λits r' hz h' c' kp e=>
  ⟨.ref s.heap.objs.size,_,I.laid (t':=s.toks) kp (AE _) (show ObjOk X.prog X.w _ h' _ (.L ys) from ⟨hz,its,c',r',e⟩),rfl,q _ (I.hok.fresh (AE _))⟩
 rcases hq with hq|hq
 .obtain⟨its,r',pl,hz⟩:=I.list hq;have J2:=r'.length;obtain⟨o,ho,hc,n,hd⟩:=pl.isList;exact call_list_seq p (.inl rfl) ho hc hd (λh' c' kp e=>fin its r' hz h' c' kp e) (by simp only[AT]<;>lia)
 .obtain⟨its,r',pl,hz⟩:=I.tuple hq;have J2:=r'.length;obtain⟨o,ho,hc,n,hd⟩:=pl;exact call_list_seq p (.inr rfl) ho hc hd (λh' c' kp e=>fin its r' hz h' c' kp e) (by simp only[AT]<;>lia)
theorem Vh:IV X (.type "tuple") (λxs H Q=>∃ p ys,xs=[.ref p]/\((zp X.K H p ys/\∀ l,H l=Af->Q (.ref l) (upd H l (.H ys)))\/(yr X.K H p ys/\Q (.ref p) H))):=by
 intro pI s Z H xs us Q I r h;obtain⟨p,ys,rfl,h⟩:=h;obtain⟨u,rfl,rx⟩:=ϝ r;cases rx;rcases h with ⟨hq,q⟩|⟨hq,q⟩
 .obtain⟨its,r',pl,hz⟩:=I.list hq;have J2:=r'.length;refine call_tuple_list pl.isList (λh' kp=>?_) (by simp only[AT]<;>lia)
  have I1:Z4 X pI Z H {s with heap:=h'}:=I.kept (t':=s.toks) kp
  have I2:Z4 X pI Z (upd H h'.objs.size (.H ys)) { s with heap:=h'.push { cls:=.type "tuple",data:=.seq its.toArray } }:=
   I1.laid (t':=s.toks) (λb o e=>At _ e) (AE _) (show ObjOk X.prog X.w _ _ _ (.H ys) from ⟨hz,its,r',K6 _ _⟩)
  exact⟨.ref h'.objs.size,_,I2,rfl,q _ (I1.hok.fresh (AE _))⟩
 .obtain⟨its,r',pl,hz⟩:=I.tuple hq;exact call_tuple_same pl ⟨.ref p,H,I,rfl,q⟩
def tyV(K:Fg)(T:DQ)(x:V)(H:Hp):Prop:=match x with
  |.str _=>T = "str"
  |.int _=>T = "int"
  |.ref p=>(T = "list"/\∃ xs,zp K H p xs)\/(T = "tuple"/\∃ o,K.lookup p=Ab o/\o.cls=.type "tuple"/\o.dict=Af) \/
      (T = "dict"/\((∃ kvs,H p=Ab (.dK kvs))\/∃ kvs,H p=Ab (.dT kvs)))\/(T = "set"/\∃ S n,H p=Ab (.set S n))
  |_=>BR
theorem bj(I:Z4 X pI Z H s)(r:Cp x v)(ty:tyV X.K T x H):s.TypeIs v T/\∀ a,v=.ref a->∃ ob,s.heap.get? a=Ab ob/\ob.dict=Af:=by
 cases x with
 |str z=>
  obtain⟨t,rfl⟩:=r;cases (show T = "str" from ty)
  exact⟨typeIs_str s z t,λ_ e=>nomatch e⟩
 |int i=>
  obtain⟨t,rfl⟩:=r;cases (show T = "int" from ty)
  exact⟨typeIs_int s i t,λ_ e=>nomatch e⟩
 |ref p=>
  cases r;rcases ty with ⟨rfl,xs,hq⟩|⟨rfl,o,hk,hc,hd⟩|⟨rfl,hk⟩|⟨rfl,S,n,hk⟩
  .obtain⟨its,_,pl,_⟩:=I.list hq;refine⟨pl.isList.typeIs,λa e=>?_⟩
   cases e;obtain⟨o,n,e,c,hd,_⟩:=pl;exact⟨o,e,hd⟩
  .refine⟨⟨o,I.kIn p o hk,hc⟩,λa e=>?_⟩
   cases e;exact⟨o,I.kIn _ o hk,hd⟩
  .have z:∃ o,s.heap.get? p=Ab o/\o.ExactDict:=by
    rcases hk with ⟨kvs,hk⟩|⟨kvs,hk⟩
    .obtain⟨_,_,_,_,o,_,_,e,ex,_⟩:=I.hok p _ hk;exact⟨o,e,ex⟩
    .obtain⟨_,_,_,_,o,_,_,e,ex,_⟩:=I.hok p _ hk;exact⟨o,e,ex⟩
   obtain⟨o,e,ex⟩:=z;refine⟨⟨o,e,ex.1⟩,λa e2=>?_⟩
   cases e2;exact⟨o,e,ex.2.1⟩
  .obtain⟨o,_,_,_,e,ex,_⟩:=I.hok p _ hk;refine⟨⟨o,e,ex.1⟩,λa e2=>?_⟩
   cases e2;exact⟨o,e,ex.2.1⟩
 |_=>exact FF ty
def tBM(K:Fg)(T:DQ)(r:V->Ac V->Hp->VK->Prop)(to:TE)(t:TA):TE:=λZ H Q=>to Z H λx H1=>tyV K T x H1/\t Z H1 λxs H2=>r x xs H2 Q
variable{e:Am}{id:DQ}
theorem ZC(pa:PlainAttrs T)(slot:Slot T name id)(Ô:typeOf (.builtin id)=pure (.type "method_descriptor"))(hm:MtR X id r)(ho:PE X o to)(ha:PA X (e::es) t)(ò:KZ o name X.env (eval o X.env)=eval o X.env:=by rfl)(ϸ:((DO cpos (AR (e::es) X.env)).all (λx=>!x.1)&&(Nz cpos (LR [] X.env)).all (λx=>x.1.isSome)
   && decide ((e::es).length+([]:Ac Gs).length+(if ([]:Ac Gs).isEmpty then 0 else 1)<30))=Aa:=by rfl)(ô:(apos.endLine==cpos.line)=Aa:=by rfl)(hs:AR (e::es) X.env=(Ae,eval e X.env)::AR es X.env:=by rfl)(Θ:(DO cpos (AR es X.env)).any (·.1)=Ae:=by rfl):PE X (.Call (.Attribute o name apos) (e::es) [] cpos) (tBM X.K T r to t):=by
 intro pI s Z H Q I h;refine wpAny_Call_method_late ò ϸ ô rfl (J9 (ho pI s Z H _ I h) λv s1 ⟨x,H1,I1,r1,ty,q1⟩=>?_)
 obtain⟨h1,h2⟩:=bj I1 r1 ty;refine⟨T,id,pa,slot,Ô,h1,h2,?_⟩;have hA:=ha cpos pI s1 Z H1 _ I1 q1;rw[hs]at hA ⊢;refine Calls.callWith_builtin (by show (Ae||(DO cpos (AR es X.env)).any (·.1))=Ae;rw[Θ]<;>rfl) (Calls.evalArgs_plain ?_)
 exact J9 hA λus s2 ⟨vs,H2,I2,r2,q2⟩=>hm pI s2 Z H2 x vs v us Q I2 r1 r2 q2
end
def MtM(X:Cx)(id:DQ)(r:V->Ac V->Hp->VK->Prop):Prop:=
 ∀(pI:Pn)(s:Aq)(Z:St)(H:Hp)(x:V)(xs:Ac V)(v:Aj)(us:Ac Aj)(Q:VK),Z4 X pI Z H s->Cp x v->Bv xs us->r x xs H Q ->
  Az (model X.prog X.w) X.A (call (.builtin id) (v::us)) (EP X pI Z Q) X.xe s
theorem Bv.one:∀{x:V}{us:Ac Aj},Bv [x] us->∃ u,us=[u]/\Cp x u
 |_,_,.cons r .nil=>⟨_,rfl,r⟩
def Bv.zero:∀{us:Ac Aj},Bv [] us->us=[]
 |_,.nil=>rfl
theorem Bv.eraseIdx:∀{xs:Ac V}{us:Ac Aj}(i:Ag),Bv xs us->Bv (xs.eraseIdx i) (us.eraseIdx i)
 |_,_,_,.nil=>.nil
 |_,_,0,.cons _ t=>t
 |_,_,i+1,.cons r t=>.cons r (Bv.eraseIdx i t)
theorem Bv.reverse(h:Bv xs us):Bv xs.reverse us.reverse:=by
 induction h with
 |nil=>exact .nil
 |cons r t ih=>rw[bF,bF];exact Bv.append ih (.cons r .nil)
section
variable{Z:St}
theorem Z4.lset(I:Z4 X pI Z H s)(hH:H l=Ab (.L xs))(e:s.heap.get? l=Ab { cls:=.type "list",data:=.seq its.toArray n })(hf:f its.toArray=its'.toArray)(hv:Bv ys its')(hz:ys.length<=sizeLine):Z4 X pI Z (upd H l (.L ys)) {s with heap:=s.heap.update l (Cd f),toks:=t'}:=by
 have q:=PySem.IsL.update e f;rw[hf]at q;refine I.write (x:=l) (e:=l) (by rw[hH];exact trivial) (.inl rfl) (λb' u hb hu=>(Cu s.heap (Cd f) (Cy hb)).trans hu) ⟨_,q⟩ ?_
 exact⟨hz,its',_,hv,q⟩
theorem Z4.lnew(I:Z4 X pI Z H s)(hv:Bv ys its)(hz:ys.length<=sizeLine):
  Z4 X pI Z (upd H s.heap.objs.size (.L ys)) { s with heap:=s.heap.push { cls:=.type "list",data:=.seq its.toArray },toks:=t' }:=
 I.laid (λ_ _ q=>At _ q) (AE _) ⟨hz,its,0,hv,AG _ rfl⟩
theorem Z4.fresh(I:Z4 X pI Z H s):H s.heap.objs.size=Af:=I.hok.fresh (AE _)
theorem Z4.lstM(I:Z4 X pI Z H s)(hH:H l=Ab (.L xs)):xs.length<=sizeLine/\∃(its:Ac Aj)(n:Ag),Bv xs its/\xs.length=its.length/\s.heap.get? l=Ab { cls:=.type "list",data:=.seq its.toArray n }:=by
 obtain⟨z,its,n,r,e⟩:=I.hok l _ hH;exact⟨z,its,n,r,r.length,e⟩
theorem qN(h:n<=sizeLine):GO n=Ae:=by
 unfold GO;exact CK (by lia)
end
def uU:V->Ac V->Hp->VK->Prop:=λx vs H Q=>∃ l xs y,x=.ref l/\vs=[y]/\H l=Ab (.L xs)/\xs.length<sizeLine/\Q .O (upd H l (.L (xs++[y])))
theorem oF:MtM X "list.append" uU:=by
 intro pI s Z H x vs v us Q I rx rv h;obtain⟨l,xs,y,rfl,rfl,hH,hz,q⟩:=h;cases rx;obtain⟨u,rfl,ru⟩:=rv.one;obtain⟨z,its,n,r,hl,e⟩:=I.lstM hH;refine call_meets F.slot_list_append ⟨_,e,rfl⟩ F.entry_list_append (F.args_list_append_2 _ _) (PySem.list_append l its.toArray n u (by rw[AT];lia)) ⟨e,?_⟩
 refine⟨.O,_,I.lset (its':=its++[u]) hH e (by simp) (r.append (.cons ru .nil)) ?_,rfl,q⟩
 rw[BL,aV]
 lia
def uT:V->Ac V->Hp->VK->Prop:=λx vs H Q=>∃ l b xs zs,x=.ref l/\vs=[.ref b]/\H l=Ab (.L xs)/\H b=Ab (.L zs)/\xs.length+zs.length<=sizeLine/\Q .O (upd H l (.L (xs++zs)))
theorem oE:MtM X "list.extend" uT:=by
 intro pI s Z H x vs v us Q I rx rv h;obtain⟨l,b,xs,zs,rfl,rfl,hH,hB,hz,q⟩:=h;cases rx;obtain⟨u,rfl,ru⟩:=rv.one;cases ru;obtain⟨z,its,n,r,hl,e⟩:=I.lstM hH;obtain⟨z2,zx,n2,r2,hl2,e2⟩:=I.lstM hB;have hsz:its.toArray.size+zx.toArray.size<=sizeLine:=by rw[AT,AT];lia
 have Ł:¬ (!its.toArray.isEmpty&&GO (its.toArray.size+zx.toArray.size))=Aa:=by
  rw[qN hsz,Ig];exact A3
 refine call_meets F.slot_list_extend ⟨_,e,rfl⟩ F.entry_list_extend (F.args_list_extend_2 _ _)
  (AutoSeq1.list_extend_list_list_0 l its.toArray n b zx.toArray n2 Ł (by rw[AT];lia) (by lia)) ⟨e,e2,?_⟩
 refine⟨.O,_,I.lset (its':=its++zx) hH e (by simp) (r.append r2) ?_,rfl,q⟩
 rw[BL]
 lia
end L2
namespace Att
open PySem PySem.W PySem.Calls PyProof.Rows
variable{l:Hh}
theorem kK:∀(ns:Ac Ad)(vs:Ac Aj),WellAll P h vs (ns.map eJ)->DB vs ns:=by
 intro ns
 induction ns with
 |nil=>
  intro vs w;rw[Js]at w;cases w;exact .nil
 |cons n ns ih=>
  intro vs w;rw[BG]at w;cases w with
  |cons a b=>
   cases a;exact .cons _ _ (ih _ b)
theorem nO(hn:l.most=Ab n)(ϑ:l.row.toRowW.claim.pre args=Aa)(hwl:WellAll P h vals args):
  ∃ a vs ns,vals=[Dh a]/\args=[WData.list (ns.map eJ)]/\h.get? a=Ab { cls:=.type "list",data:=.seq vs.toArray }/\DB vs ns/\ns.length<=n:=by
 have hsh:WShape.hasAll [] args [.list .int]=Aa:=(pre_splitW ϑ).1;have hc:l.pre.holds [] {args:=args}=Aa:=(pre_splitW ϑ).2;obtain⟨d,r,rfl,h1,h2⟩:=hasAllW_cons hsh;obtain rfl:=hasAllW_nil h2;obtain⟨xs,rfl,h3⟩:=hasW_list h1;obtain⟨ns,rfl⟩:=items_int h3;have J2:ns.length<=n:=by
  unfold OpenLaw.pre at hc;have h4:(WTm.not (.lt (.lit (.int (n:Ad))) (.len (.arg 0)))).holds [] {args:=[.list (ns.map .int)]}=Aa:=by
   have h4:=(holds_andW hc).1;rw[hn]at h4;exact h4
  have h5:=condW_of h4 (w_not (w_lt w_lit (w_len_list (w_arg rfl))));rw[A6]at h5;refine Nat.le_of_not_lt λq=>?_
  have q':(n:Ad)<((ns.length:Ag):Ad):=by omega
  first
   |(rw[Cm q']at h5;exact absurd h5 (by decide))
   |(simp at h5;omega)
 cases hwl with
 |cons w1 w2=>
  cases w2;cases w1 with
  |list ho Ò=>exact⟨_,_,ns,rfl,rfl,ho,kK ns _ Ò,J2⟩
theorem mZ(l:Hh)(args:Ac WData):l.row.toRowW.claim.post args (.bool Aa) args=Aa:=
 postW_of (r:=l.row.toRowW) (X:=(Aa==Aa))
  (show eK [] (.bool Aa) .bool=Aa by first|rfl|decide|simp[eK,WShape.arms,WShape.armsAll])
  (show (WTm.eq .res (.lit (.bool Aa))).value [] {args:=args,res:=Ab (.bool Aa),after:=args}=Ab (.bool (Aa==Aa)) from w_eq_bool (w_res rfl) w_lit) rfl
theorem attach_call(hn:l.most=Ab n)(Ĺ:d.params.defaults=[])(call:∀(w:AJ)(s₀ s₁:Aq)(mg mb:Al->Ar Aj)(fa:Ak)(o:DE)(pm cd doc:Aj)(a:Ak)(vs:Ac Aj)(ns:Ac Ad),
   Ground q loose [] XP w s₀ mg mb s₁.heap->YP w s₁.heap ->
   s₁.heap.get? fa=Ab o->o.data=.func (docDef d.name d.params d.body d.scope pm cd doc)->s₁.heap.CodeRec cd d.name->mg d.name=Ab (.ref fa) ->
   s₁.heap.get? a=Ab { cls:=.type "list",data:=.seq vs.toArray }->DB vs ns->ns.length<=n->s₁.gens=#[] ->
   GZ (model l.prog w) Jj (.call (.ref fa) ⟨[.ref a],[]⟩) (λr s'=>r=.ok (.ret (.bool Aa))/\OldK s₁.heap s'.heap/\s'.os=s₁.os/\GW s'.gens) s₁):WalkO q loose XP YP l.row.toRowW d [] (λf vs=>Mr f vs):=by
 intro w s₀ s₁ mg mb G Y_ fa o pm cd doc dV kV ho hd ó hD ł hg args vals as ϑ hlay hrd hwl hlo;obtain rfl:dV=.none:=Dflts.none hD Ĺ;obtain rfl:kV=.none:=Dflts.noKw hD;obtain⟨a,vs,ns,rfl,rfl,Η,Ϲ,J2⟩:=nO hn ϑ hwl;refine enter_call (Lb (call w s₀ s₁ mg mb fa o pm cd doc a vs ns G Y_ ho (fd_plain hd) ó ł Η Ϲ J2 hg) λr s' hq=>?_)
 obtain⟨rfl,h2,h3,h4⟩:=hq;exact⟨.inl ⟨.bool Aa,.bool Aa,[],rfl,λ_=>rfl,.bool Aa,mZ l _,λ_=>⟨aJ,λ_ hm=>(nomatch hm)⟩⟩,h2,h3,h4⟩
end Att
namespace L2
open PySem PySem.Spec PyProof.Rows
theorem VR:∀{vs:Ac Aj}{ns:Ac Ad},DB vs ns->Bv (ns.map V.int) vs
 |_,_,.nil=>.nil
 |_,_,.cons n t h=>.cons ⟨t,rfl⟩ (VR h)
def QT(H:Hp):Prop:=∀ b,H b=Af\/∃ o xs,H b=Ab (.frz o (.L xs))
theorem pX{K:Fg}(KX:K.In s₁.heap)(hns:s₁.heap.Ns By mg)(hb:s₁.heap.Ns Ky mb)(ž:∀ x:Al,x≠"__name__"->mb x=DP x)(hlim:s₁.heap.NoLimit)(hg:s₁.gens=#[])(ha:s₁.heap.get? a=Ab { cls:=.type "list",data:=.seq vs.toArray })(hi:DB vs ns)(hl:ns.length<=sizeLine)(hr:y8 k Jj)(F:∀ base:AO,K.In base->base.Ns By mg->y7 P w K mg base CX k fa fd [x] sp)(Ķ:∀(s:Aq)(u:Aj),Ji s fd ⟨[u],[]⟩ [(x,u)])(Ŭ:∀ H:Hp,QT H->zp K H a (ns.map V.int)->sp [.ref a] H (λv _=>v=.bl Aa) λ_ _ _=>BR)(hCX:∀ H e s',CX [] H s₁ (λ_ _ _=>BR) e s'->BR):GZ (model P w) Jj (.call (.ref fa) ⟨[.ref a],[]⟩) (λr s'=>r=.ok (.ret (.bool Aa))/\OldK s₁.heap s'.heap/\s'.os=s₁.os/\GW s'.gens) s₁:=by
 have rv:=VR hi;have lenV:=hi.length
 have core:∀ H:Hp,QT H->zp K H a (ns.map V.int)->yt P w H s₁.heap->(∀ b,H b≠Af->b=a)->(H a≠Af->K.lookup a=Af) ->
   GZ (model P w) Jj (.call (.ref fa) ⟨[.ref a],[]⟩) (λr s'=>r=.ok (.ret (.bool Aa))/\OldK s₁.heap s'.heap/\s'.os=s₁.os/\GW s'.gens) s₁:=by
  intro H hO hS hok hA hK;have Ü:∀{b:Ak}{o:DE},s₁.heap.get? b=Ab o->H b=Af->(KQ s₁.heap H).get? b=Ab o:=λe n=>rX e n
  have Œ:∀{b:Ak}{o:DE}{es:Ax DictEntry}{ep:Ag},s₁.heap.get? b=Ab o->o.data=.dict es ep->H b=Af:=λ{b o es ep} e d=>by
   cases q:H b with
   |none=>rfl
   |some u=>
    have e':b=a:=hA b (by rw[q];simp)
    subst e';rw[ha]at e;cases e;have d':Nw vs.toArray _=Data.dict es ep:=d;cases d'
  have Ė:∀{b:Ak}{m:Al->Ar Aj},s₁.heap.Ns b m->(KQ s₁.heap H).Ns b m:=λ{b m} ⟨o,es,ep,e,d,r⟩=>⟨o,es,ep,Ü e (Œ e d),d,r⟩
  have hKb:K.In (KQ s₁.heap H):=λb o e=>Ü (KX b o e) (by
   cases q:H b with
   |none=>rfl
   |some u=>
    have e':b=a:=hA b (by rw[q];simp)
    subst e';rw[hK (by rw[q];simp)]at e;cases e)
  have hM:Mod K mg (KQ s₁.heap H):=⟨hKb,Ė hns,⟨mb,Ė hb,ž⟩,let ⟨mc,h1,h2⟩:=hlim;⟨mc,Ė h1,h2⟩⟩
  have e0:ϰ P w K mg (KQ s₁.heap H) Jj [] s₁ H:=⟨rfl,hM,λb o e=>wN e,bM (nX _ _),trivial,λb hb=>absurd (show b∈([]:Ac Ak) from hb) (by simp),hok,.of_eq hg⟩
  refine Lb ((F _ hKb (Ė hns)).run Jj [] s₁ H ⟨[.ref a],[]⟩ [.ref a] [.ref a] _ _ hr e0 (Ķ s₁ (.ref a)) (.cons rfl .nil) (Ŭ H hO hS)) λr s' h=>?_
  cases r with
  |error e=>exact(hCX H e s' h).elim
  |ok fl=>
   cases fl with
   |next=>exact FF h
   |brk=>exact FF h
   |cont=>exact FF h
   |ret u=>
    obtain⟨v,H',os,bare,un,hok',r',q⟩:=h;have q':v=.bl Aa:=q;subst q';obtain rfl:u=Mq Aa:=r';refine⟨rfl,OldK.of_keep λb o e=>?_,os,bare⟩
    cases q:H b with
    |none=>exact un.keep b o e q (by intro z;exact absurd (show b∈([]:Ac Ak) from z) (by simp)) (by simp)
    |some u=>
     rcases hO b with z|⟨ob,xs,z⟩
     .rw[q]at z;cases z
     .have z2:=un.frzs b ob _ z;obtain⟨e1,_⟩:=hok b _ z;obtain⟨e2,_⟩:=hok' b _ z2;rw[e]at e1;cases e1;exact e2
 cases hk:K.lookup a with
 |some o=>
  have e:=KX a o hk;rw[ha]at e;cases e;refine core (λ_=>Af) (λ_=>.inl rfl) (.inr ⟨_,vs.toArray,_,hk,rfl,rfl,rfl,by rw[AT,lenV];exact hl,by simpa using rv⟩) (λb u z=>by have z':(Af:Ar HO)=Ab u:=z;cases z') (λb z=>absurd rfl z) λz=>absurd rfl z
 |none=>
  refine core (λb=>if b=a then Ab (.frz { cls:=.type "list",data:=.seq vs.toArray } (.L (ns.map V.int))) else Af) (λb=>?_) (.inl (.inr ⟨{ cls:=.type "list",data:=.seq vs.toArray },AB rfl⟩)) (λb u z=>?_) (λb z=>?_) λ_=>hk
  .by_cases hb:b=a
   .exact .inr ⟨_,_,AB hb⟩
   .exact .inl (AF hb)
  .by_cases hb:b=a
   .have z':=(AB hb).symm.trans z;cases z';subst hb;exact⟨ha,by rw[A6];exact hl,vs,_,rv,ha⟩
   .have z':=(AF hb).symm.trans z;cases z'
  .by_cases hb:b=a
   .exact hb
   .exact absurd (AF hb) z
theorem walk_of{l:Hh}{K:Ny->Fg}{CX:AJ->CXT}{sp:AJ->Sp}(hn:l.most=Ab n)(hn2:n<=sizeLine)(Ĺ:d.params.defaults=[])(hr:y8 k Jj)(hY:∀(w:AJ)(h:AO),YP w h->(K w.params).In h)(F:∀(w:AJ)(mg:Al->Ar Aj)(fa:Ak)(h:AO),(K w.params).In h->h.Ns By mg->mg d.name=Ab (.ref fa) ->
   ∃ fd:Dm,(∀(s:Aq)(u:Aj),Ji s fd ⟨[u],[]⟩ [(x,u)]) /\
    ∀ base:AO,(K w.params).In base->base.Ns By mg->y7 l.prog w (K w.params) mg base (CX w) k fa fd [x] (sp w))(Ŭ:∀(w:AJ)(H:Hp)(a:Ak)(ns:Ac Ad),ns.length<=n->QT H->zp (K w.params) H a (ns.map V.int)->sp w [.ref a] H (λv _=>v=.bl Aa) λ_ _ _=>BR)(hCX:∀(w:AJ)(H:Hp)(s:Aq)(e:Aj)(s':Aq),CX w [] H s (λ_ _ _=>BR) e s'->BR):eL q loose XP YP l.row.toRowW d [] (λf vs=>Mr f vs):=by
 refine Att.attach_call hn Ĺ λw s₀ s₁ mg mb fa o pm cd doc a vs ns G Y_ ho hd ó ł Η Ϲ J2 hg=>?_
 have KX:=hY w _ Y_;obtain⟨fd,hb,hF⟩:=F w mg fa _ KX G.T.g ł;exact pX KX G.T.g G.T.b G.T.builtins G.T.nolimit hg Η Ϲ (CM J2 hn2) hr hF hb (λH hO hS=>Ŭ w H a ns J2 hO hS) λH e s'=>hCX w H s₁ e s'
end L2
namespace L2
open PySem PySem.Spec PyProof.Rows
def L5(s:A8):Arguments:=match s with
  |.FunctionDef _ a _ _ _ _ _ _ _ _=>a
  |_=>{posonlyargs:=[],args:=[],vararg:=Af,kwonlyargs:=[],kw_defaults:=[],kwarg:=Af,defaults:=[]}
noncomputable def JZ(s:A8):Ac A8:=match s with
  |.FunctionDef _ _ b _ _ _ _ _ _ _=>b
  |_=>[]
def JC(s:A8):CP:=match s with
  |.FunctionDef _ _ _ _ _ _ sc _ _ _=>sc
  |_=>{kind:=.function,names:=[],isGenerator:=Ae,isCoroutine:=Ae}
structure ġ (K:Fg) (x qual:Al) (st:A8) (f:Ak) (fd:Dm):Prop where
 ex:∃(oc:Aj)(od:Ar Ak)(kV doc pm:Aj)(an:Ar Ak)(cdv ct:Aj)(osl:Ax (Ar Aj)),
  fd=EN x qual (L5 st) (JZ st) (JC st) .none kV doc pm an cdv ct/\K.lookup f=Ab ⟨oc,od,.func fd,osl⟩/\GY K cdv qual=Aa
 kp:Ei K (.ref f)=Aa
section
variable{K:Fg}
theorem ġ.binds{st:A8}(F:ġ K x qual st f fd)(h:∀(kV doc pm:Aj)(an:Ar Ak)(cdv ct:Aj)(us:Ac Aj),us.length=ps.length->NA (EN x qual (L5 st) (JZ st) (JC st) .none kV doc pm an cdv ct) ⟨us,[]⟩=pure (ps.zip us)):Ϡ K fd ps []:=by
 obtain⟨oc,od,kV,doc,pm,an,cdv,ct,osl,rfl,lk,ó⟩:=F.ex;exact .all (h kV doc pm an cdv ct)
theorem pc{st:A8}{kV:Aj}(l:K.lookup f=Ab ⟨oc,od,.func (EN x qual (L5 st) (JZ st) (JC st) .none kV doc pm an cdv ct),osl⟩)(c:GY K cdv qual=Aa)(k:Ei K (.ref f)=Aa):ġ K x qual st f (EN x qual (L5 st) (JZ st) (JC st) .none kV doc pm an cdv ct):=⟨⟨oc,od,kV,doc,pm,an,cdv,ct,osl,rfl,l,c⟩,k⟩
end
def AV(H H':Hp):Prop:=∀ b o,H b=Ab o->H' b=Ab o
def AV.refl(H:Hp):AV H H:=λ_ _ h=>h
theorem AV.trans(a:AV H H1)(b:AV H1 H2):AV H H2:=λc o h=>b c o (a c o h)
theorem AV.free(e:AV H H')(h:H' l=Af):H l=Af:=by
 cases q:H l with
 |none=>rfl
 |some o=>
  rw[e l o q]at h;cases h
end L2
namespace Ov
open PySem
variable{P:Prop}{α:Type}
set_option genInjectivity true
inductive D where
 |O|bl (b:Ai)|int (i:Ad)|str (x:Al)|H (ds:Ac D)|L (ds:Ac D)
 |obj (c:Ag) (fs:Ac (Al×D))|exc (c:Ag) (fs:Ac (Al×D))|dic (kvs:Ac (Ac Ad×D))
 deriving Inhabited
structure Ex where
 c:Ag
 fs:Ac (Al×D)
 deriving Inhabited
inductive R (α:Type) where
 |ok (a:α)|exn (x:Ex)|bad
 deriving Inhabited
def BP(h:Ae=Aa):P:=nomatch h
def Hd{a:α}(h:Af=Ab a):P:=nomatch h
def EZ{a:α}(h:R.bad=.ok a):P:=nomatch h
def iZ{a:α}(h:R.exn x=.ok a):P:=nomatch h
noncomputable def R.bind{α β:Type}(r:R α)(f:α->R β):R β:=match r with
  |.ok a=>f a
  |.exn x=>.exn x
  |.bad=>.bad
@[simp]theorem R.bind_ok(a:α)(f:α->R β):(R.ok a).bind f=f a:=rfl
@[simp]theorem R.bind_exn(x:Ex)(f:α->R β):(R.exn x:R α).bind f=.exn x:=rfl
@[simp]theorem R.bind_bad(f:α->R β):(R.bad:R α).bind f=.bad:=rfl
theorem R.bind_assoc(r:R α)(f:α->R β)(g:β->R γ):(r.bind f).bind g=r.bind λa=>(f a).bind g:=by cases r<;>rfl
def Eo(n:Ag):Ai:=Fi n 1000000
noncomputable def Ew(i j:Ad):Ai:=(decide (-(18446744073709551616:Ad)<i)&&decide (i<18446744073709551616))||(decide (-(18446744073709551616:Ad)<j)&&decide (j<18446744073709551616))
noncomputable def GD(i j:Ad):Ai:=decide (i.natAbs<2 ^ 2000)&&decide (j.natAbs<2 ^ 2000)
def Ey:Hm->D->D->R D
 |.Add,.int i,.int j=>.ok (.int (i+j))
 |.Sub,.int i,.int j=>.ok (.int (i-j))
 |.Mult,.int i,.int j=>if (Ew i j||GD i j)=Aa then .ok (.int (i*j)) else .bad
 |.FloorDiv,.int i,.int j=>if 0<j/\j<1073741824 then .ok (.int (i/j)) else .bad
 |.Mod,.int i,.int j=>if 0<j then .ok (.int (i%j)) else .bad
 |.Pow,.int i,.int j=>if (0<=j/\j<=1000000)/\(-(18446744073709551616:Ad)<i/\i<18446744073709551616) then .ok (.int (i ^ j.toNat)) else .bad
 |.Add,.str x,.str y=>if Eo (x.length+y.length)=Aa then .ok (.str (x++y)) else .bad
 |.Add,.L x,.L y=>if Eo (x.length+y.length)=Aa then .ok (.L (x++y)) else .bad
 |.Add,.H x,.H y=>if (!x.isEmpty&&Eo (x.length+y.length))=Aa then .ok (.H (x++y)) else .bad
 |_,_,_=>.bad
noncomputable def Ġ:LO->D->R D
 |.USub,.int i=>.ok (.int (-i))
 |_,_=>.bad
def Ĩ(b:Ai):Ad:=if b=Aa then 1 else 0
mutual
noncomputable def Y0:D->D->Ai
 |.O,.O=>Aa
 |.bl a,.bl b=>a==b
 |.bl a,.int j=>Ĩ a==j
 |.int i,.bl b=>i==Ĩ b
 |.int i,.int j=>i==j
 |.str x,.str y=>x==y
 |.H xs,.H ys=>OV xs ys
 |.L xs,.L ys=>OV xs ys
 |_,_=>Ae
noncomputable def OV:Ac D->Ac D->Ai
 |[],[]=>Aa
 |x::xs,y::ys=>Y0 x y&&OV xs ys
 |_,_=>Ae
end
noncomputable def Tm:Ag->D->Ai
 |_,.O=>Aa
 |_,.bl _=>Aa
 |_,.int _=>Aa
 |_,.str _=>Aa
 |n+1,.H xs=>xs.all (Tm n)
 |n+1,.L xs=>xs.all (Tm n)
 |_,_=>Ae
noncomputable def Oh:D->Ar (Ac Ad)
 |.H ds=>keyDs ds
 |_=>Af
where keyDs:Ac D->Ar (Ac Ad)
 |[]=>Ab []
 |.int i::r=>(keyDs r).map (i :: ·)
 |_=>Af
noncomputable def yx:Ag->D->D->Ai
 |0,.int i,.int j=>decide (i<j)
 |n+1,.H xs,.H ys=>ltDs (yx n) xs ys
 |_,_,_=>Ae
where ltDs (lt:D->D->Ai):Ac D->Ac D->Ai
 |[],[]=>Ae
 |[],_::_=>Aa
 |_::_,[]=>Ae
 |x::xs,y::ys=>if Y0 x y=Aa then ltDs lt xs ys else lt x y
noncomputable def Ϩ:Ag->D->Ai
 |0,.int _=>Aa
 |n+1,.H xs=>xs.all (Ϩ n)
 |_,_=>Ae
noncomputable def Ke(lt:D->D->Ai)(x:D):Ac D->Ac D
 |[]=>[x]
 |y::ys=>if lt y x=Aa then y::Ke lt x ys else x::y::ys
def Me(lt:D->D->Ai):Ac D->Ac D
 |[]=>[]
 |x::xs=>Ke lt x (Me lt xs)
def JM:Ac D->Ai
 |[]=>Aa
 |x::xs=>xs.all (λy=>!Y0 x y)&&JM xs
noncomputable def μ:D->Ai
 |.H [.int _,.int _,.int _]=>Aa
 |_=>Ae
def JL:D->Ai
 |.H [x,y,z]=>μ x&&μ y&&μ z
 |_=>Ae
def Md(xs:Ac D):R (Ac D):=if (xs.all JL&&JM xs&&decide (xs.length<=1000))=Aa then .ok (Me (yx 2) xs) else .bad
def F3(xs:Ac D):R (Ac D):=if (xs.all (λd=>Ϩ 1 d && !Y0 d (.H []))&&JM xs&&decide (xs.length<=1000))=Aa then .ok (Me (yx 1) xs) else Md xs
def Dr:El->D->D->R D
  |.Eq,x,y=>if (Tm 5 x&&Tm 5 y)=Aa then .ok (.bl (Y0 x y)) else .bad
  |.NotEq,x,y=>if (Tm 5 x&&Tm 5 y)=Aa then .ok (.bl (!Y0 x y)) else .bad
  |.Lt,.int i,.int j=>.ok (.bl (decide (i<j)))
  |.LtE,.int i,.int j=>.ok (.bl (decide (i<=j)))
  |.Gt,.int i,.int j=>.ok (.bl (decide (j<i)))
  |.GtE,.int i,.int j=>.ok (.bl (decide (j<=i)))
  |.In,x,.L ys=>if (Tm 5 x&&ys.all (Tm 5))=Aa then .ok (.bl (ys.any λy=>Y0 y x)) else .bad
  |.In,x,.dic kvs=>match Oh x with
    |some k=>.ok (.bl (kvs.any λp=>p.1==k))
    |none=>.bad
  |.In,x,.H ys=>if (Tm 5 x&&ys.all (Tm 5))=Aa then .ok (.bl (ys.any λy=>Y0 y x)) else .bad
  |.NotIn,x,.L ys=>if (Tm 5 x&&ys.all (Tm 5))=Aa then .ok (.bl (!ys.any λy=>Y0 y x)) else .bad
  |.NotIn,x,.H ys=>if (Tm 5 x&&ys.all (Tm 5))=Aa then .ok (.bl (!ys.any λy=>Y0 y x)) else .bad
  |.Is,.O,.O=>.ok (.bl Aa)
  |.Is,.bl _,.O=>.ok (.bl Ae)
  |.Is,.int _,.O=>.ok (.bl Ae)
  |.Is,.str _,.O=>.ok (.bl Ae)
  |.Is,.H _,.O=>.ok (.bl Ae)
  |.Is,.L _,.O=>.ok (.bl Ae)
  |.Is,.obj _ _,.O=>.ok (.bl Ae)
  |.Is,.bl a,.bl b=>.ok (.bl (a==b))
  |.IsNot,.bl a,.bl b=>.ok (.bl (!(a==b)))
  |.IsNot,.O,.O=>.ok (.bl Ae)
  |.IsNot,.bl _,.O=>.ok (.bl Aa)
  |.IsNot,.int _,.O=>.ok (.bl Aa)
  |.IsNot,.str _,.O=>.ok (.bl Aa)
  |.IsNot,.H _,.O=>.ok (.bl Aa)
  |.IsNot,.L _,.O=>.ok (.bl Aa)
  |.IsNot,.obj _ _,.O=>.ok (.bl Aa)
  |_,_,_=>.bad
noncomputable def DJ:D->R Ai
 |.O=>.ok Ae
 |.bl b=>.ok b
 |.int i=>.ok (i != 0)
 |.str x=>if Eo x.length=Aa then .ok (x.length != 0) else .bad
 |.H xs=>.ok (!xs.isEmpty)
 |.L xs=>.ok (!xs.isEmpty)
 |_=>.bad
noncomputable def ä(n:Ag)(i:Ad):Ar Ag:=if 0<=i then (if i<n then Ab i.toNat else Af) else if -(n:Ad)<=i then Ab (i+n).toNat else Af
noncomputable def Dz(xs:Ac D)(i:Ad):R D:=match ä xs.length i with
  |some k=>match xs[k]? with
    |some d=>.ok d
    |none=>.bad
  |none=>.bad
noncomputable def n9(kvs:Ac (Ac Ad×D))(k:Ac Ad):Ar D:=(kvs.find? λp=>p.1==k).map (·.2)
noncomputable def Zb(kvs:Ac (Ac Ad×D))(k:Ac Ad)(v:D):Ac (Ac Ad×D):=if (kvs.any λp=>p.1==k)=Aa then kvs.map (λp=>if (p.1==k)=Aa then (k,v) else p) else kvs++[(k,v)]
def Cw:D->D->R D
  |.L xs,.int i=>Dz xs i
  |.H xs,.int i=>Dz xs i
  |.dic kvs,k=>match (Oh k).bind (n9 kvs) with
    |some d=>.ok d
    |none=>.bad
  |_,_=>.bad
noncomputable def Gd:D->R Ad
 |.int i=>.ok i
 |_=>.bad
noncomputable def E1:D->R Ai
 |.bl b=>.ok b
 |_=>.bad
noncomputable def Db:D->R (Ac D)
 |.L xs=>.ok xs
 |.H xs=>.ok xs
 |_=>.bad
noncomputable def Qt:D->R (Ac D)
 |.L xs=>.ok xs
 |_=>.bad
set_option genInjectivity false
inductive BI where
 |len|abs|max|min|int|list|tuple|all|any|sum|sorted|str|count|stp|lset|tmin|tmax|tlt|rvs
 deriving DecidableEq,Inhabited
inductive Ki where
 |int|bool|str|list|tuple|verr|cls (c:Ag)
 deriving DecidableEq,Inhabited
mutual
inductive E where
 |O|bl (b:Ai)|int (i:Ad)|str (x:Al)
 |var (i:Ag)|glob (g:Ag)
 |B (op:Hm) (a b:E)|un (op:LO) (a:E)|no (a:E)
 |and (es:Es)|or (es:Es)
 |cmp (op:El) (a b:E)|cmp2 (op op':El) (a b c:E)
 |ite (c a b:E)
 |call (f:Ag) (as:Es)|bi (b:BI) (as:Es)
 |isi (a:E) (ks:Ac Ki)
 |idx (a i:E)|sl (a lo hi:E)
 |H (es:Es)|L (es:Es)
 |comp (elt:E) (t:Ag) (it:I) (c:E)|compT (elt:E) (ts:Ac Ag) (it:I) (c:E)|tupI (it:I)|dnew
 |fld (o:E) (f:Al)
inductive Es where
 |nil|cons (e:E) (es:Es)
inductive I where
 |e (a:E)|rng (a:E)|rng2 (a b:E)|zip (a b:E)|zip3 (a b c:E)|enm (a:E)
end
abbrev Sl:=Ar (D×Ai)
abbrev Rho:=Ac Sl
structure Y7 where
 F:Ag->Ac D->R D
 G:Ag->D
 up:Ag->Ac Ag
 fr:Ag->Ai
 xn:Ag->Ac D->R Ex
noncomputable def FS(lo:Ad)(n:Ag):Ac D:=(B5 n).map fun(k:Ag)=>D.int (lo+(k:Ad))
def D8(lo hi:Ad):R (Ac D):=if (-(4611686018427387904:Ad)<=lo/\lo<4611686018427387904)/\(-(4611686018427387904:Ad)<=hi/\hi<4611686018427387904)/\hi-lo<1000000 then .ok (FS lo (hi-lo).toNat) else .bad
noncomputable def wr(up:Ag->Ac Ag):Ki->D->Ai
 |.int,.int _=>Aa
 |.int,.bl _=>Aa
 |.bool,.bl _=>Aa
 |.str,.str _=>Aa
 |.list,.L _=>Aa
 |.tuple,.H _=>Aa
 |.cls c,.obj k _=>(up k).contains c
 |.cls c,.exc k _=>(up k).contains c
 |.verr,.exc _ _=>Aa
 |_,_=>Ae
noncomputable def He:Ki->Ai
 |.cls _=>Aa
 |.verr=>Aa
 |_=>Ae
def IX(up:Ag->Ac Ag)(ks:Ac Ki)(x:D):R D:=match x with
  |.obj _ _=>.bad
  |.exc _ _=>if ks.all He=Aa then .ok (.bl (ks.any λk=>wr up k x)) else .bad
  |.dic _=>.bad
  |_=>if ks.any He=Aa then .bad else .ok (.bl (ks.any λk=>wr up k x))
noncomputable def Iz:D->R Ai
 |.O=>.ok Ae
 |.bl b=>.ok b
 |.int i=>.ok (i != 0)
 |_=>.bad
def Ir:Ac D->R Ai
 |[]=>.ok Aa
 |x::r=>(Iz x).bind λb=>(Ir r).bind λc=>.ok (b&&c)
def Qo:Ac D->R Ai
 |[]=>.ok Ae
 |x::r=>(Iz x).bind λb=>(Qo r).bind λc=>.ok (b||c)
noncomputable def Iw:Ad->Ac D->R Ad
 |a,[]=>.ok a
 |a,.int i::r=>Iw (a+i) r
 |_,_=>.bad
noncomputable def Ha:Ac D->Ac D->Ac D
 |x::xs,y::ys=>.H [x,y]::Ha xs ys
 |_,_=>[]
noncomputable def TZ:Ac D->Ac D->Ac D->Ac D
 |x::xs,y::ys,z::zs=>.H [x,y,z]::TZ xs ys zs
 |_,_,_=>[]
def Nj(x y z:D):R (Ac D):=(Db x).bind λxs=>(Db y).bind λys=>(Db z).bind λzs=>if 0<xs.length/\xs.length<=1000/\ys.length=xs.length/\zs.length=xs.length then .ok (TZ xs ys zs) else .bad
noncomputable def Hq:Ad->Ac D->Ac D
 |_,[]=>[]
 |i,x::xs=>.H [.int i,x]::Hq (i+1) xs
noncomputable def ű:Ag->D->Ai
 |_,.O=>Aa
 |_,.bl _=>Aa
 |_,.int _=>Aa
 |_,.str _=>Aa
 |n+1,.H xs=>xs.all (ű n)
 |_,_=>Ae
def Nl(fr:Ai):D->Ai
 |.L ds=>fr&&ds.all (ű 5)
 |d=>ű 5 d
noncomputable def KO:Ac D->Ar (Ac Ad)
 |[]=>Ab []
 |.int i::r=>(KO r).map (i :: ·)
 |_=>Af
noncomputable def Kc(i:Ad):Ac Ad->Ad
 |[]=>i
 |j::r=>Kc (if j<i then j else i) r
def pk2(k n:Ag):Ac Ag:=(B5 ((n-min k n+1)/2)).map λj=>min k n+2*j
noncomputable def kC(k:Ag)(xs:Ac D):Ac D:=(pk2 k xs.length).filterMap λi=>xs[i]?
def ddS(acc:Ac Ad)(x:Ad):Ac Ad:=if acc.any (· == x)=Aa then acc else acc++[x]
def ddN(is:Ac Ad):Ag:=(is.foldl ddS []).length
def gU(xs:Ac D):R D:=match KO xs with
  |some is=>if Fi is.length 4000=Aa then .ok (.int (ddN is)) else .bad
  |none=>.bad
def mmD(mx:Ai)(x y:D):R D:=if [x,y].all (λd=>Ϩ 1 d && !Y0 d (.H []))=Aa then .ok (if (if mx=Aa then yx 1 x y else yx 1 y x)=Aa then y else x) else .bad
def UI(x y:D):R D:=if [x,y].all (λd=>Ϩ 1 d && !Y0 d (.H []))=Aa then .ok (.bl (yx 1 x y)) else .bad
def jF(k:Ac Ad):Ad:=Mt (Ff (k.map hashInt))
def Zy:Ac D->Ar (Ac (Ac Ad))
 |[]=>Ab []
 |.H xs::r=>(KO xs).bind λk=>(Zy r).map (k :: ·)
 |_=>Af
noncomputable def UH:Ac Ad->Ai
 |[]=>Aa
 |h::r=>!r.contains h&&UH r
def gS(xs:Ac D):R D:=match Zy xs with
  |some ks=>if (Fi ks.length 3&&UH (ks.map jF))=Aa then .ok (.int ks.length) else .bad
  |none=>.bad
def zc:BI->Ac D->R D
  |.len,[.L xs]=>.ok (.int xs.length)
  |.len,[.H xs]=>.ok (.int xs.length)
  |.len,[.str x]=>if Eo x.length=Aa then .ok (.int x.length) else .bad
  |.abs,[.int i]=>.ok (.int (if i<0 then -i else i))
  |.max,[.int i,.int j]=>.ok (.int (if i<j then j else i))
  |.min,[.int i,.int j]=>.ok (.int (if j<i then j else i))
  |.min,[.L xs]=>match KO xs with
    |some (i::is)=>.ok (.int (Kc i is))
    |_=>.bad
  |.int,[.int i]=>.ok (.int i)
  |.int,[.bl b]=>.ok (.int (Ĩ b))
  |.list,[.L xs]=>.ok (.L xs)
  |.list,[.H xs]=>.ok (.L xs)
  |.tuple,[.L xs]=>.ok (.H xs)
  |.tuple,[.H xs]=>.ok (.H xs)
  |.all,[.L xs]=>(Ir xs).bind λb=>.ok (.bl b)
  |.any,[.L xs]=>(Qo xs).bind λb=>.ok (.bl b)
  |.any,[.H xs]=>(Qo xs).bind λb=>.ok (.bl b)
  |.sum,[.L xs]=>(Iw 0 xs).bind λi=>.ok (.int i)
  |.sum,[.H xs]=>(Iw 0 xs).bind λi=>.ok (.int i)
  |.sorted,[.L xs]=>(F3 xs).bind λys=>.ok (.L ys)
  |.count,[.L xs,x]=>if (Tm 5 x&&xs.all (Tm 5))=Aa then .ok (.int ((xs.filter λy=>Y0 y x).length:Ag)) else .bad
  |.len,[.dic kvs]=>.ok (.int kvs.length)
  |.stp,[.L xs,.int k]=>.ok (.L (kC k.toNat xs))
  |.lset,[.L xs]=>gU xs
  |.lset,[.H xs]=>gS xs
  |.tmin,[x,y]=>mmD Ae x y
  |.tmax,[x,y]=>mmD Aa x y
  |.tlt,[x,y]=>UI x y
  |.rvs,[.L xs]=>.ok (.L xs.reverse)
  |_,_=>.bad
def slE(c:E)(d:D):R (Ar Ad):=match c with
  |.O=>.ok Af
  |_=>(Gd d).bind λi=>.ok (Ab i)
noncomputable def Kb(n d:Ag):Ar Ad->Ag
 |none=>d
 |some i=>if i<0 then (i+n).toNat else min i.toNat n
def LJ(xs:Ac D)(lo hi:Ar Ad):Ac D:=(xs.drop (Kb xs.length 0 lo)).take (Kb xs.length xs.length hi-Kb xs.length 0 lo)
def Â:D->Ar Ad->Ar Ad->R D
 |.L xs,l,h=>.ok (.L (LJ xs l h))
 |.H xs,l,h=>if (Kb xs.length 0 l==0&&Kb xs.length xs.length h==xs.length)=Aa then .bad else .ok (.H (LJ xs l h))
 |_,_,_=>.bad
noncomputable def UZ:D->Al->R D
  |.exc _ fs,f=>match fs.lookup f with
    |some d=>.ok d
    |none=>.bad
  |_,_=>.bad
noncomputable def Hc(Y:Rho)(i:Ag):R D:=match Y[i]? with
  |some (Ab (d,Ae))=>.ok d
  |_=>.bad
noncomputable def kJ:D->R D
 |.L xs=>.ok (.L xs)
 |_=>.bad
def Hb(Y:Rho)(i:Ag):R D:=match Y[i]? with
  |some (Ab (d,Ae))=>.ok d
  |some (Ab (d,Aa))=>kJ d
  |_=>.bad
noncomputable def ï(Y:Rho):E->Ai
  | .var i=>(match Y[i]? with
    |some (Ab (_,Aa))=>Ae
    | _=>Aa)
  |_=>Aa
noncomputable def LF(Y:Rho):Es->Ai
 |.nil=>Aa
 |.cons e es=>ï Y e&&LF Y es
noncomputable def Gc:Ac Ag->Ac D->Rho->Ar Rho
 |[],[],Y=>Ab Y
 |t::ts,d::ds,Y=>Gc ts ds (Y.set t (Ab (d,Ae)))
 |_,_,_=>Af
def HR(ts:Ac Ag)(d:D)(Y:Rho):R Rho:=match d with
  | .H xs=>(match Gc ts xs Y with
    |some Y'=>.ok Y'
    | none=>.bad)
  |_=>.bad
def Mj(ts:Ac Ag)(d:D)(Y:Rho):R Rho:=match d with
  | .L xs=>(match Gc ts xs Y with
    |some Y'=>.ok Y'
    | none=>.bad)
  |d=>HR ts d Y
noncomputable def B7(g:D->R Ai)(f:D->R D):Ac D->R (Ac D)
 |[]=>.ok []
 |x::xs=>(g x).bind λb=>if b=Aa then (f x).bind λy=>(B7 g f xs).bind λys=>.ok (y::ys) else B7 g f xs
noncomputable def â{α:Type}:R α->R α
 |.ok a=>.ok a
 |_=>.bad
def top(Y:Rho)(e:E)(r:R D):R D:=match e with
  |.var i=>Hb Y i
  |_=>r
mutual
def evE(J:Y7)(Y:Rho):E->R D
 |.O=>.ok .O
 |.bl b=>.ok (.bl b)
 |.int i=>.ok (.int i)
 |.str x=>.ok (.str x)
 |.var i=>Hc Y i
 |.glob g=>.ok (J.G g)
 |.B op a b=>(top Y a (evE J Y a)).bind λx=>(top Y b (evE J Y b)).bind λy=>Ey op x y
 |.un op a=>(top Y a (evE J Y a)).bind λx=>Ġ op x
 |.no a=>(top Y a (evE J Y a)).bind λx=>(E1 x).bind λb=>.ok (.bl (!b))
 |.and es=>evN J Y es
 |.or es=>evO J Y es
 |.cmp op a b=>(top Y a (evE J Y a)).bind λx=>(top Y b (evE J Y b)).bind λy=>Dr op x y
 |.cmp2 op op' a b c=>(top Y a (evE J Y a)).bind λx=>(top Y b (evE J Y b)).bind λy=>(Dr op x y).bind λz=>(E1 z).bind λk=>if k=Aa then (top Y c (evE J Y c)).bind λu=>Dr op' y u else .ok (.bl Ae)
 |.ite c a b=>(top Y c (evE J Y c)).bind λx=>(DJ x).bind λk=>if k=Aa then evE J Y a else evE J Y b
 |.call f as=>(Ð J Y as).bind λxs=>(J.F f xs).bind λd=>if LF Y as=Aa then .ok d else if Nl (J.fr f) d=Aa then .ok d else .bad
 |.bi b as=>(Ð J Y as).bind λxs=>zc b xs
 |.isi a ks=>(top Y a (evE J Y a)).bind λx=>IX J.up ks x
 |.idx a i=>(top Y a (evE J Y a)).bind λx=>(top Y i (evE J Y i)).bind λy=>Cw x y
 |.sl a lo hi=>(top Y a (evE J Y a)).bind λx=>(top Y lo (evE J Y lo)).bind λl=>(slE lo l).bind λl'=>(top Y hi (evE J Y hi)).bind λh=>(slE hi h).bind λh'=>Â x l' h'
 |.H es=>(í J Y es).bind λxs=>.ok (.H xs)
 |.L es=>(í J Y es).bind λxs=>.ok (.L xs)
 |.comp elt t it c=>(ad J Y it).bind λxs=>(â (B7 (λx=>(top (Y.set t (Ab (x,Ae))) c (evE J (Y.set t (Ab (x,Ae))) c)).bind DJ) (λx=>evE J (Y.set t (Ab (x,Ae))) elt) xs)).bind λys=>.ok (.L ys)
 |.compT elt ts it c=>(ad J Y it).bind λxs=>(â (B7 (λx=>(HR ts x Y).bind λY'=>(top Y' c (evE J Y' c)).bind DJ) (λx=>(HR ts x Y).bind λY'=>evE J Y' elt) xs)).bind λys=>.ok (.L ys)
 |.tupI it=>(ad J Y it).bind λxs=>.ok (.H xs)
 |.dnew=>.ok (.dic [])
 |.fld o f=>(top Y o (evE J Y o)).bind λx=>UZ x f
def evN(J:Y7)(Y:Rho):Es->R D
 |.nil=>.bad
 |.cons e .nil=>evE J Y e
 |.cons e (.cons e' es)=>(evE J Y e).bind λx=>(E1 x).bind λc=>if c=Aa then evN J Y (.cons e' es) else .ok (.bl Ae)
def evO(J:Y7)(Y:Rho):Es->R D
 |.nil=>.bad
 |.cons e .nil=>evE J Y e
 |.cons e (.cons e' es)=>(evE J Y e).bind λx=>(E1 x).bind λc=>if c=Aa then .ok (.bl Aa) else evO J Y (.cons e' es)
def í(J:Y7)(Y:Rho):Es->R (Ac D)
 |.nil=>.ok []
 |.cons e es=>(evE J Y e).bind λx=>(í J Y es).bind λxs=>.ok (x::xs)
def Ð(J:Y7)(Y:Rho):Es->R (Ac D)
 |.nil=>.ok []
 |.cons e es=>(top Y e (evE J Y e)).bind λx=>(Ð J Y es).bind λxs=>.ok (x::xs)
def ad(J:Y7)(Y:Rho):I->R (Ac D)
 |.e a=>(evE J Y a).bind Db
 |.rng a=>(top Y a (evE J Y a)).bind λx=>(Gd x).bind λj=>D8 0 j
 |.rng2 a b=>(top Y a (evE J Y a)).bind λx=>(top Y b (evE J Y b)).bind λy=>(Gd x).bind λi=>(Gd y).bind λj=>D8 i j
 |.zip a b=>(evE J Y a).bind λx=>(evE J Y b).bind λy=>(Db x).bind λxs=>(Db y).bind λys=>.ok (Ha xs ys)
 |.zip3 a b c=>(evE J Y a).bind λx=>(evE J Y b).bind λy=>(evE J Y c).bind λz=>Nj x y z
 |.enm a=>(evE J Y a).bind λx=>(Db x).bind λxs=>.ok (Hq 0 xs)
end
noncomputable def E0(J:Y7):E->Ai
 |.L _=>Aa
 |.comp _ _ _ _=>Aa
 |.compT _ _ _ _=>Aa
 |.dnew=>Aa
 |.B .Add _ _=>Aa
 |.bi .list _=>Aa
 |.bi .sorted _=>Aa
 |.sl _ _ _=>Aa
 |.call f _=>J.fr f
 |_=>Ae
mutual
inductive S where
 |pass
 |asg (i:Ag) (fresh:Ai) (e:E)
 |asgT (ts:Ac Ag) (e:E)
 |expr (e:E)
 |ret (e:E)|retN
 |ife (c:E) (a b:Ss)
 |fors (t:Ag) (it:I) (body:Ss)
 |forT (ts:Ac Ag) (it:I) (body:Ss)
 |forO (i:Ag) (ts:Ac Ag) (body:Ss)
 |cnt (d i t:Ag) (body:Ss) (k:E)
 |whl (c:E) (body:Ss)
 |rais (c:Ag) (as:Es)
 |tryx (body:Ss) (c:Ag) (x:Ag) (h:Ss)
 |try2 (body:Ss) (c:Ag) (x:Ag) (h:Ss) (c':Ag) (h' els:Ss)
 |app (i:Ag) (e:E)|ext (i:Ag) (e:E)|ins (i:Ag) (k e:E)|rev (i:Ag)|clr (i:Ag)
 |dput (i:Ag) (k e:E)|dsd (i:Ag) (k e:E)
 |put (i:Ag) (k e:E)
 |swp (i k l:Ag)
 |apop (j i:Ag) (e:E)
 |brk|cont
 |rel (i:Ag)
inductive Ss where
 |nil|cons (s:S) (ss:Ss)
end
inductive O where
 |next (Y:Rho)|ret (d:D) (fr:Ai)|brk (Y:Rho)|cont (Y:Rho)|exn (x:Ex) (Y:Rho)|bad
 deriving Inhabited
noncomputable def O.of{α:Type}(Y:Rho)(r:R α)(f:α->O):O:=match r with
  |.ok a=>f a
  |.exn x=>.exn x Y
  |.bad=>.bad
@[simp]theorem O.of_ok(Y:Rho)(a:α)(f:α->O):O.of Y (.ok a) f=f a:=rfl
@[simp]theorem O.of_exn(Y:Rho)(x:Ex)(f:α->O):O.of Y (.exn x:R α) f=.exn x Y:=rfl
@[simp]theorem O.of_bad(Y:Rho)(f:α->O):O.of Y (.bad:R α) f=.bad:=rfl
def KR(J:Y7)(Y:Rho)(i:I):R (Ac D):=ad J Y i
noncomputable def DR(Y:Rho)(i:Ag):R (Ac D):=match Y[i]? with
  |some (Ab (.L xs,Aa))=>.ok xs
  |_=>.bad
noncomputable def Vc(Y:Rho)(i:Ag):R (Ac (Ac Ad×D)):=match Y[i]? with
  |some (Ab (.dic xs,Aa))=>.ok xs
  |_=>.bad
def ZU(d:D):R (Ac Ad):=match Oh d with
  |some k=>.ok k
  |none=>.bad
def gC:Ag:=4096
noncomputable def O.seq(o:O)(f:Rho->O):O:=match o with
  |.next Y=>f Y
  |.ret d b=>.ret d b
  |.brk Y=>.brk Y
  |.cont Y=>.cont Y
  |.exn x Y=>.exn x Y
  |.bad=>.bad
noncomputable def O.turn(o:O)(f:Rho->O):O:=match o with
  |.next Y=>f Y
  |.cont Y=>f Y
  |.brk Y=>.next Y
  |.ret d b=>.ret d b
  |.exn x Y=>.exn x Y
  |.bad=>.bad
noncomputable def DG(body:D->Rho->O):Ac D->Rho->O
 |[],Y=>.next Y
 |x::xs,Y=>(body x Y).turn (DG body xs)
def UN(c:Rho->R Ai)(body:Rho->O):Ag->Rho->O
 |0,_=>.bad
 |n+1,Y=>O.of Y (c Y) λb=>if b=Aa then (body Y).turn (UN c body n) else .next Y
def ZI(Y:Rho)(k:Ag):R Ad:=(Hc Y k).bind Gd
def kB(Y:Rho)(d:D)(i k l:Ag):O:=match d with
  |.H [x,y]=>O.of Y (DR Y i) λxs=>O.of Y (ZI Y k) λa=>O.of Y (ZI Y l) λb=>match ä xs.length a,ä xs.length b with
    |some m,Ab n=>.next (Y.set i (Ab (.L ((xs.set m x).set n y),Aa)))
    |_,_=>.bad
  |_=>.bad
noncomputable def apD(Y:Rho)(j i:Ag)(ys xs:Ac D)(n:Ad):O:=match ä xs.length n with
  | some m=>(match xs[m]? with
    |some d=>if (j != i&&(Eo xs.length&&Eo (ys.length+1)))=Aa then .next ((Y.set i (Ab (.L (xs.eraseIdx m),Aa))).set j (Ab (.L (ys++[d]),Aa))) else .bad
    | none=>.bad)
  |none=>.bad
noncomputable def hdO(i:Ag)(y:Ex)(Y':Rho)(fh:Rho->O):O:=match fh (Y'.set i (Ab (.exc y.c y.fs,Ae))) with
  |.next np=>.next (np.set i Af)
  |.ret d f=>.ret d f
  |_=>.bad
noncomputable def UF(Y:Rho)(i:Ag):D->O
 |.L xs=>.next (Y.set i (Ab (.L xs,Ae)))
 |_=>.bad
noncomputable def Mk(Y:Rho)(i:Ag):Ai:=match Y[i]? with
  |some (Ab (.O,Aa))=>Aa
  |_=>Ae
def tq(i:Ag)(xs:Ac D):O->O
 |.next Y=>if Mk Y i=Aa then .next (Y.set i (Ab (.L xs,Aa))) else .bad
 |.ret d fr=>.ret d fr
 |_=>.bad
def Gh(Y:Rho)(i d:Ag):Ai:=Mk Y i&&Mk Y d
noncomputable def Ol(o:O)(g:Rho->R D)(h:D->Rho->O):O:=match o with
  | .next Y=>(match g Y with
    |.ok k=>h k Y
    | _=>.bad)
  |.ret d fr=>.ret d fr
  |_=>.bad
def Kf(f:D->Rho->O)(g:Rho->R D):Ac D->Ac D->Rho->O
 |[],_,Y=>.next Y
 |x::xs,ks,Y=>Ol (f x Y) g λk Y'=>if (JL k&&ks.all λy=>!Y0 k y)=Aa then Kf f g xs (k::ks) Y' else .bad
def ϙ(i d:Ag)(xs:Ac D):O->O
 |.next Y=>if Gh Y i d=Aa then .next ((Y.set i (Ab (.L xs,Aa))).set d Af) else .bad
 |.ret d fr=>.ret d fr
 |_=>.bad
mutual
def yh(J:Y7)(Y:Rho):S->O
  |.pass=>.next Y
  | .asg i fresh e=>O.of Y (evE J Y e) λd=>if fresh=Aa then (if E0 J e=Aa then (match d with
      |.L xs=>.next (Y.set i (Ab (.L xs,Aa)))
      |.dic xs=>.next (Y.set i (Ab (.dic xs,Aa)))
      | _=>.bad) else .bad) else .next (Y.set i (Ab (d,Ae)))
  |.asgT ts e=>O.of Y (evE J Y e) λd=>O.of Y (Mj ts d Y) λY'=>.next Y'
  |.expr e=>O.of Y (evE J Y e) λ_=>.next Y
  |.ret e=>O.of Y (top Y e (evE J Y e)) λd=>.ret d (E0 J e||(match e with | .var i=>(match Y[i]? with|some (Ab (_,o))=>o|_=>Ae)|_=>Ae))
  |.retN=>.ret .O Ae
  |.ife c a b=>O.of Y ((top Y c (evE J Y c)).bind DJ) λk=>if k=Aa then Y6 J Y a else Y6 J Y b
  |.fors t it body=>O.of Y (KR J Y it) λxs=>DG (λx Y'=>Y6 J (Y'.set t (Ab (x,Ae))) body) xs Y
  |.forT ts it body=>O.of Y (KR J Y it) λxs=>DG (λx Y'=>O.of Y' (HR ts x Y') λnp=>Y6 J np body) xs Y
  |.cnt d i t body k=>O.of Y (DR Y i) λxs=>if (decide (xs.length<=1000)&&decide (d≠i)&&decide (d<Y.length))=Aa then ϙ i d xs (Kf (λx Y'=>if Gh Y' i d=Aa then Y6 J (Y'.set t (Ab (x,Ae))) body else .bad) (λY'=>if Gh Y' i d=Aa then evE J Y' k else .bad) xs [] ((Y.set i (Ab (.O,Aa))).set d (Ab (.O,Aa)))) else .bad
  |.forO i ts body=>O.of Y (DR Y i) λxs=>tq i xs (DG (λx Y'=>if Mk Y' i=Aa then O.of Y' (HR ts x Y') λnp=>Y6 J np body else .bad) (Hq 0 xs) (Y.set i (Ab (.O,Aa))))
  |.whl c body=>UN (λY'=>(top Y' c (evE J Y' c)).bind DJ) (λY'=>Y6 J Y' body) gC Y
  |.rais c as=>O.of Y (â (í J Y as)) λxs=>O.of Y (J.xn c xs) λx=>.exn x Y
  |.tryx body c x h=>match Y6 J Y body with
      | .exn y Y'=>if (J.up y.c).contains c=Aa then (match Y6 J (Y'.set x (Ab (.exc y.c y.fs,Ae))) h with
          |.next np=>.next (np.set x Af)
          |.ret d f=>.ret d f
          | _=>.bad) else .bad
      |o=>o
  |.try2 body c x h c' h' els=>match Y6 J Y body with
      |.exn y Y'=>if (J.up y.c).contains c=Aa then hdO x y Y' (λr=>Y6 J r h) else if (J.up y.c).contains c'=Aa then hdO x y Y' (λr=>Y6 J r h') else .bad
      |.next Y'=>Y6 J Y' els
      |o=>o
  |.app i e=>O.of Y (DR Y i) λxs=>O.of Y (evE J Y e) λd=>if Eo (xs.length+1)=Aa then .next (Y.set i (Ab (.L (xs++[d]),Aa))) else .bad
  |.ext i e=>O.of Y (DR Y i) λxs=>O.of Y (evE J Y e) λd=>O.of Y (Qt d) λys=>if Eo (xs.length+ys.length)=Aa then .next (Y.set i (Ab (.L (xs++ys),Aa))) else .bad
  |.ins i k e=>O.of Y (DR Y i) λxs=>O.of Y ((top Y k (evE J Y k)).bind Gd) λj=>O.of Y (evE J Y e) λd=>if (Eo (xs.length+1)&&decide (0<=j)&&decide (j<=xs.length))=Aa then .next (Y.set i (Ab (.L (xs.take j.toNat++d::xs.drop j.toNat),Aa))) else .bad
  |.rev i=>O.of Y (DR Y i) λxs=>.next (Y.set i (Ab (.L xs.reverse,Aa)))
  |.clr i=>O.of Y (DR Y i) λ_=>.next (Y.set i (Ab (.L [],Aa)))
  |.dput i k e=>O.of Y (evE J Y e) λd=>O.of Y (Vc Y i) λxs=>O.of Y ((evE J Y k).bind ZU) λj=>if Eo (xs.length+1)=Aa then .next (Y.set i (Ab (.dic (Zb xs j d),Aa))) else .bad
  |.dsd i k e=>O.of Y (Vc Y i) λxs=>O.of Y ((evE J Y k).bind ZU) λj=>O.of Y (evE J Y e) λd=>if Eo (xs.length+1)=Aa then .next (Y.set i (Ab (.dic (if (xs.any λp=>p.1==j)=Aa then xs else Zb xs j d),Aa))) else .bad
  |.put i k e=>O.of Y (evE J Y e) λd=>O.of Y (DR Y i) λxs=>O.of Y ((top Y k (evE J Y k)).bind Gd) λj=>match ä xs.length j with
      |some n=>.next (Y.set i (Ab (.L (xs.set n d),Aa)))
      |none=>.bad
  |.swp i k l=>O.of Y (evE J Y (.H (.cons (.idx (.var i) (.var l)) (.cons (.idx (.var i) (.var k)) .nil)))) λd=>kB Y d i k l
  |.apop j i e=>O.of Y (DR Y j) λys=>O.of Y (DR Y i) λxs=>O.of Y (evE J Y e) λd=>O.of Y (Gd d) λn=>apD Y j i ys xs n
  |.brk=>.brk Y
  |.cont=>.cont Y
  |.rel i=>match Y[i]? with
      |some (Ab (d,Aa))=>UF Y i d
      |_=>.next Y
def Y6(J:Y7)(Y:Rho):Ss->O
 |.nil=>.next Y
 |.cons s ss=>(yh J Y s).seq λY'=>Y6 J Y' ss
end
structure Df where
 n:Ag
 fr:Ai
 body:Ss
noncomputable def Co(n:Ag)(ds:Ac D):Rho:=ds.map (λd=>Ab (d,Ae))++Ik (n-ds.length) Af
noncomputable def ŋ:D->Ai
 |.L _=>Aa
 |.dic _=>Aa
 |_=>Ae
def O.ans(fr:Ai)(o:O):R D:=match o with
  |.ret d b=>if (fr&&(!b&&ŋ d))=Aa then .bad else .ok d
  |.next _=>if fr=Aa then .bad else .ok .O
  |.exn x _=>.exn x
  |_=>.bad
def Df.run(J:Y7)(f:Df)(ds:Ac D):R D:=(Y6 J (Co f.n ds) f.body).ans f.fr
structure Prg where
 xs:Ai
 defs:Ag->Df
 G:Ag->D
 up:Ag->Ac Ag
 xn:Ag->Ac D->R Ex
noncomputable def LG(xs:Ai)(r:R D):R D:=match xs with
  |true=>r
  |false=>â r
def LE(P:Prg):Ag->Y7
 |0=>⟨λ_ _=>.bad,P.G,P.up,λi=>(P.defs i).fr,P.xn⟩
 |n+1=>⟨λi ds=>LG P.xs ((P.defs i).run (LE P n) ds),P.G,P.up,λi=>(P.defs i).fr,P.xn⟩
end Ov
namespace Ov
open PySem
variable{n:Ag}{x:D}
section
variable(J:Y7)(Y:Rho)
noncomputable instance:Insert E Es:=⟨.cons⟩
noncomputable instance:Singleton E Es:=⟨λe=>.cons e .nil⟩
noncomputable instance:Insert S Ss:=⟨.cons⟩
noncomputable instance:Singleton S Ss:=⟨λe=>.cons e .nil⟩
@[simp]theorem ZDJ(a:E)(l:Es):(insert a l:Es)=.cons a l:=rfl
@[simp]theorem ZDs(a:E):({a}:Es)=.cons a .nil:=rfl
@[simp]theorem ZDI(a:S)(l:Ss):(insert a l:Ss)=.cons a l:=rfl
@[simp]theorem ZDr(a:S):({a}:Ss)=.cons a .nil:=rfl
@[simp]theorem ZBe:evE J Y .O=.ok .O:=rfl
@[simp]theorem ZCU(b):evE J Y (.bl b)=.ok (.bl b):=rfl
@[simp]theorem ZBh(b):evE J Y (.int b)=.ok (.int b):=rfl
@[simp]theorem ZBd(b):evE J Y (.str b)=.ok (.str b):=rfl
@[simp]theorem ZBb(i):evE J Y (.var i)=Hc Y i:=rfl
@[simp]theorem Zya(i):evE J Y (.glob i)=.ok (J.G i):=rfl
@[simp]theorem ZBl(op a b):evE J Y (.B op a b)=(top Y a (evE J Y a)).bind λx=>(top Y b (evE J Y b)).bind λy=>Ey op x y:=rfl
@[simp]theorem ZCQ(op a):evE J Y (.un op a)=(top Y a (evE J Y a)).bind λx=>Ġ op x:=rfl
@[simp]theorem ZCT(a):evE J Y (.no a)=(top Y a (evE J Y a)).bind λx=>(E1 x).bind λb=>.ok (.bl (!b)):=rfl
@[simp]theorem ZBm(es):evE J Y (.and es)=evN J Y es:=rfl
@[simp]theorem ZCS(es):evE J Y (.or es)=evO J Y es:=rfl
@[simp]theorem ZA7(e):evN J Y (.cons e .nil)=evE J Y e:=rfl
@[simp]theorem Zx3(e e' es):evN J Y (.cons e (.cons e' es))=(evE J Y e).bind λx=>(E1 x).bind λc=>if c=Aa then evN J Y (.cons e' es) else .ok (.bl Ae):=rfl
@[simp]theorem ZA6(e):evO J Y (.cons e .nil)=evE J Y e:=rfl
@[simp]theorem Zx2(e e' es):evO J Y (.cons e (.cons e' es))=(evE J Y e).bind λx=>(E1 x).bind λc=>if c=Aa then .ok (.bl Aa) else evO J Y (.cons e' es):=rfl
@[simp]theorem ZBk(op a b):evE J Y (.cmp op a b)=(top Y a (evE J Y a)).bind λx=>(top Y b (evE J Y b)).bind λy=>Dr op x y:=rfl
@[simp]theorem Zyc(op op' a b c):evE J Y (.cmp2 op op' a b c)=(top Y a (evE J Y a)).bind λx=>(top Y b (evE J Y b)).bind λy=>(Dr op x y).bind λz=>(E1 z).bind λk=>if k=Aa then (top Y c (evE J Y c)).bind λu=>Dr op' y u else .ok (.bl Ae):=rfl
@[simp]theorem Zyd(f as):evE J Y (.call f as)=(Ð J Y as).bind λxs=>(J.F f xs).bind λd=>if LF Y as=Aa then .ok d else if Nl (J.fr f) d=Aa then .ok d else .bad:=rfl
@[simp]theorem ZCV(f as):evE J Y (.bi f as)=(Ð J Y as).bind λxs=>zc f xs:=rfl
@[simp]theorem ZBg(a ks):evE J Y (.isi a ks)=(top Y a (evE J Y a)).bind λx=>IX J.up ks x:=rfl
@[simp]theorem ZBi(a i):evE J Y (.idx a i)=(top Y a (evE J Y a)).bind λx=>(top Y i (evE J Y i)).bind λy=>Cw x y:=rfl
@[simp]theorem ZCR(a lo hi):evE J Y (.sl a lo hi)=(top Y a (evE J Y a)).bind λx=>(top Y lo (evE J Y lo)).bind λl=>(slE lo l).bind λl'=>(top Y hi (evE J Y hi)).bind λh=>(slE hi h).bind λh'=>Â x l' h':=rfl
@[simp]theorem ZBc(es):evE J Y (.H es)=(í J Y es).bind λxs=>.ok (.H xs):=rfl
@[simp]theorem ZBf(es):evE J Y (.L es)=(í J Y es).bind λxs=>.ok (.L xs):=rfl
def cG(J:Y7)(Y:Rho)(t:Ag)(c:E):D->R Ai:=λx=>(top (Y.set t (Ab (x,Ae))) c (evE J (Y.set t (Ab (x,Ae))) c)).bind DJ
def cF(J:Y7)(Y:Rho)(t:Ag)(elt:E):D->R D:=λx=>evE J (Y.set t (Ab (x,Ae))) elt
noncomputable def mkL(r:R (Ac D)):R D:=(â r).bind λys=>.ok (.L ys)
@[simp]theorem ZCw(ys):mkL (.ok ys)=.ok (.L ys):=rfl
@[simp]theorem Zyb(elt t it c):evE J Y (.comp elt t it c)=(ad J Y it).bind λxs=>mkL (B7 (cG J Y t c) (cF J Y t elt) xs):=rfl
def cGT(J:Y7)(Y:Rho)(ts:Ac Ag)(c:E):D->R Ai:=λx=>(HR ts x Y).bind λY'=>(top Y' c (evE J Y' c)).bind DJ
def cFT(J:Y7)(Y:Rho)(ts:Ac Ag)(elt:E):D->R D:=λx=>(HR ts x Y).bind λY'=>evE J Y' elt
@[simp]theorem ZwD(elt ts it c):evE J Y (.compT elt ts it c)=(ad J Y it).bind λxs=>mkL (B7 (cGT J Y ts c) (cFT J Y ts elt) xs):=rfl
@[simp]theorem Zx9(it):evE J Y (.tupI it)=(ad J Y it).bind λxs=>.ok (.H xs):=rfl
@[simp]theorem ZBj(o f):evE J Y (.fld o f)=(top Y o (evE J Y o)).bind λx=>UZ x f:=rfl
@[simp]theorem ZBo:í J Y .nil=.ok []:=rfl
@[simp]theorem WT(e es):í J Y (.cons e es)=(evE J Y e).bind λx=>(í J Y es).bind λxs=>.ok (x::xs):=rfl
@[simp]theorem ZBn:Ð J Y .nil=.ok []:=rfl
@[simp]theorem Wq(e es):Ð J Y (.cons e es)=(top Y e (evE J Y e)).bind λx=>(Ð J Y es).bind λxs=>.ok (x::xs):=rfl
@[simp]theorem ZDR(a):ad J Y (.e a)=(evE J Y a).bind Db:=rfl
@[simp]theorem ZA9(a):ad J Y (.rng a)=(top Y a (evE J Y a)).bind λx=>(Gd x).bind λj=>D8 0 j:=rfl
@[simp]theorem Zx8(a b):ad J Y (.rng2 a b)=(top Y a (evE J Y a)).bind λx=>(top Y b (evE J Y b)).bind λy=>(Gd x).bind λi=>(Gd y).bind λj=>D8 i j:=rfl
@[simp]theorem ZA8(a b):ad J Y (.zip a b)=(evE J Y a).bind λx=>(evE J Y b).bind λy=>(Db x).bind λxs=>(Db y).bind λys=>.ok (Ha xs ys):=rfl
@[simp]theorem Zx7(a b c):ad J Y (.zip3 a b c)=(evE J Y a).bind λx=>(evE J Y b).bind λy=>(evE J Y c).bind λz=>Nj x y z:=rfl
@[simp]theorem ZBa(a):ad J Y (.enm a)=(evE J Y a).bind λx=>(Db x).bind λxs=>.ok (Hq 0 xs):=rfl
@[simp]theorem Zx4(a b):KR J Y (.zip a b)=ad J Y (.zip a b):=rfl
@[simp]theorem Zx6(a):KR J Y (.enm a)=ad J Y (.enm a):=rfl
@[simp]theorem ZCP(a):KR J Y (.e a)=(evE J Y a).bind Db:=rfl
@[simp]theorem Zx5(a):KR J Y (.rng a)=ad J Y (.rng a):=rfl
@[simp]theorem ZwC(a b):KR J Y (.rng2 a b)=ad J Y (.rng2 a b):=rfl
variable(r:R D)
@[simp]theorem Zyu(i):top Y (.var i) r=Hb Y i:=rfl
@[simp]theorem Zyx:top Y .O r=r:=rfl
@[simp]theorem ZB4(b):top Y (.bl b) r=r:=rfl
@[simp]theorem ZyA(b):top Y (.int b) r=r:=rfl
@[simp]theorem Zyw(b):top Y (.str b) r=r:=rfl
@[simp]theorem ZxB(b):top Y (.glob b) r=r:=rfl
@[simp]theorem ZyD(op a b):top Y (.B op a b) r=r:=rfl
@[simp]theorem ZB3(a):top Y (.no a) r=r:=rfl
@[simp]theorem ZyE(a):top Y (.and a) r=r:=rfl
@[simp]theorem ZB2(a):top Y (.or a) r=r:=rfl
@[simp]theorem ZyC(op a b):top Y (.cmp op a b) r=r:=rfl
@[simp]theorem ZxD(a b):top Y (.call a b) r=r:=rfl
@[simp]theorem ZB5(a b):top Y (.bi a b) r=r:=rfl
@[simp]theorem Zyz(a b):top Y (.isi a b) r=r:=rfl
@[simp]theorem ZyB(a b):top Y (.idx a b) r=r:=rfl
@[simp]theorem ZB1(a b c):top Y (.sl a b c) r=r:=rfl
@[simp]theorem Zyv(a):top Y (.H a) r=r:=rfl
@[simp]theorem Zyy(a):top Y (.L a) r=r:=rfl
@[simp]theorem ZxC(a b c d):top Y (.comp a b c d) r=r:=rfl
@[simp]theorem ZtT(a b c d):top Y (.compT a b c d) r=r:=rfl
@[simp]theorem ZxA(a):top Y (.tupI a) r=r:=rfl
end
@[simp]theorem ZtI(d:D)(Y:Rho):Hb (Ab (d,Ae)::Y) 0=.ok d:=rfl
@[simp]theorem Ztp(xs:Ac D)(Y:Rho):Hb (Ab (.L xs,Aa)::Y) 0=.ok (.L xs):=rfl
@[simp]theorem ZtJ(x:D)(Y:Rho):Hc (Ab (x,Ae)::Y) 0=.ok x:=rfl
@[simp]theorem Ztq(x:Sl)(Y:Rho)(i:Ag)[NeZero i]:Hb (x::Y) i=Hb Y (i-1):=by
 obtain⟨j,rfl⟩:∃ j,i=j+1:=⟨i-1,by have:=Nr i;lia⟩
 rfl
@[simp]theorem Ztr(x:Sl)(Y:Rho)(i:Ag)[NeZero i]:Hc (x::Y) i=Hc Y (i-1):=by
 obtain⟨j,rfl⟩:∃ j,i=j+1:=⟨i-1,by have:=Nr i;lia⟩
 rfl
noncomputable def ξ(Y:Rho)(i:Ag):Ai:=match Y[i]? with
    |some (Ab (_,Aa))=>Ae
    |_=>Aa
@[simp]theorem ZxF(x:D)(b:Ai)(Y:Rho):ξ (Ab (x,b)::Y) 0=!b:=by cases b<;>rfl
@[simp]theorem Zum(x:Sl)(Y:Rho)(i:Ag)[NeZero i]:ξ (x::Y) i=ξ Y (i-1):=by
 obtain⟨j,rfl⟩:∃ j,i=j+1:=⟨i-1,by have:=Nr i;lia⟩
 rfl
section
variable(Y:Rho)
@[simp]theorem Zy3(i):ï Y (.var i)=ξ Y i:=rfl
@[simp]theorem Zy6(b):ï Y (.int b)=Aa:=rfl
@[simp]theorem Zy9(op a b):ï Y (.B op a b)=Aa:=rfl
@[simp]theorem Zy8(op a b):ï Y (.cmp op a b)=Aa:=rfl
@[simp]theorem ZxI(a b):ï Y (.call a b)=Aa:=rfl
@[simp]theorem ZCe(a b):ï Y (.bi a b)=Aa:=rfl
@[simp]theorem Zy7(a b):ï Y (.idx a b)=Aa:=rfl
@[simp]theorem ZCd(a b c):ï Y (.sl a b c)=Aa:=rfl
@[simp]theorem Zy4(a):ï Y (.H a)=Aa:=rfl
@[simp]theorem Zy5(a):ï Y (.L a)=Aa:=rfl
@[simp]theorem ZxH(a b c d):ï Y (.comp a b c d)=Aa:=rfl
@[simp]theorem Zun(a b c d):ï Y (.compT a b c d)=Aa:=rfl
@[simp]theorem ZxG:LF Y .nil=Aa:=rfl
@[simp]theorem nN(e es):LF Y (.cons e es)=(ï Y e&&LF Y es):=rfl
end
@[simp]theorem Ztt(Y:Rho):Gc [] [] Y=Ab Y:=rfl
@[simp]theorem Zqr(t ts d ds)(Y:Rho):Gc (t::ts) (d::ds) Y=Gc ts ds (Y.set t (Ab (d,Ae))):=rfl
@[simp]theorem pQ(ts ds)(Y:Rho):Mj ts (.L ds) Y=match Gc ts ds Y with
  |some Y'=>.ok Y'
  |none=>.bad:=rfl
@[simp]theorem VA(ts ds)(Y:Rho):HR ts (.H ds) Y=match Gc ts ds Y with
  |some Y'=>.ok Y'
  |none=>.bad:=rfl
@[simp]theorem Zyj(c:Prop)[FE c](a b:R α)(f:α->R β):(if c then a else b).bind f=if c then a.bind f else b.bind f:=by split<;>rfl
@[simp]theorem ZCp(Y:Rho)(c:Prop)[FE c](a b:R α)(f:α->O):O.of Y (if c then a else b) f=if c then O.of Y a f else O.of Y b f:=by split<;>rfl
@[simp]theorem ZAj(Y:Rho)(a:R α)(g:α->R β)(f:β->O):O.of Y (a.bind g) f=O.of Y a λx=>O.of Y (g x) f:=by cases a<;>rfl
@[simp]theorem ZBO(fr:Ai)(c:Prop)[FE c](a b:O):O.ans fr (if c then a else b)=if c then a.ans fr else b.ans fr:=by split<;>rfl
@[simp]theorem ZtO(Y f):O.turn (.next Y) f=f Y:=rfl
@[simp]theorem Zyl(Y):O.ans Ae (.next Y)=.ok .O:=rfl
@[simp]theorem ZBN(d b):O.ans Ae (.ret d b)=.ok d:=rfl
@[simp]theorem Zyk(d b):O.ans Aa (.ret d b)=if (!b&&ŋ d)=Aa then .bad else .ok d:=rfl
@[simp]theorem ZAM(d):ŋ (.L d)=Aa:=rfl
@[simp]theorem ZBP(fr x Y):O.ans fr (.exn x Y)=.exn x:=rfl
@[simp]theorem ZBQ(fr):O.ans fr .bad=.bad:=rfl
@[simp]theorem ZC3(i j:Ad):Ey .Add (.int i) (.int j)=.ok (.int (i+j)):=rfl
@[simp]theorem ZCb(i j:Ad):Ey .Sub (.int i) (.int j)=.ok (.int (i-j)):=rfl
@[simp]theorem ju(i j:Ad):Ey .Mult (.int i) (.int j)=if (Ew i j||GD i j)=Aa then .ok (.int (i*j)) else .bad:=rfl
@[simp]theorem aa(i j:Ad):Ey .FloorDiv (.int i) (.int j)=if 0<j/\j<1073741824 then .ok (.int (i/j)) else .bad:=rfl
@[simp]theorem jw(i j:Ad):Ey .Mod (.int i) (.int j)=if 0<j then .ok (.int (i%j)) else .bad:=rfl
@[simp]theorem d7(i j:Ad):Ey .Pow (.int i) (.int j)=if (0<=j/\j<=1000000)/\(-(18446744073709551616:Ad)<i/\i<18446744073709551616) then .ok (.int (i ^ j.toNat)) else .bad:=rfl
@[simp]theorem YT(x y:Al):Ey .Add (.str x) (.str y)=if Eo (x.length+y.length)=Aa then .ok (.str (x++y)) else .bad:=rfl
@[simp]theorem YU(x y:Ac D):Ey .Add (.L x) (.L y)=if Eo (x.length+y.length)=Aa then .ok (.L (x++y)) else .bad:=rfl
@[simp]theorem YS(x y:Ac D):Ey .Add (.H x) (.H y)=if (!x.isEmpty&&Eo (x.length+y.length))=Aa then .ok (.H (x++y)) else .bad:=rfl
@[simp]theorem ZDC(i:Ad):Ġ .USub (.int i)=.ok (.int (-i)):=rfl
@[simp]theorem iK(x y:D):Dr .Eq x y=if (Tm 5 x&&Tm 5 y)=Aa then .ok (.bl (Y0 x y)) else .bad:=rfl
@[simp]theorem gP(x y:D):Dr .NotEq x y=if (Tm 5 x&&Tm 5 y)=Aa then .ok (.bl (!Y0 x y)) else .bad:=rfl
@[simp]theorem ZDD(i j:Ad):Dr .Lt (.int i) (.int j)=.ok (.bl (decide (i<j))):=rfl
@[simp]theorem ZDG(i j:Ad):Dr .LtE (.int i) (.int j)=.ok (.bl (decide (i<=j))):=rfl
@[simp]theorem ZDQ(i j:Ad):Dr .Gt (.int i) (.int j)=.ok (.bl (decide (j<i))):=rfl
@[simp]theorem jC(x:D)(ys:Ac D):Dr .In x (.L ys)=if (Tm 5 x&&ys.all (Tm 5))=Aa then .ok (.bl (ys.any λy=>Y0 y x)) else .bad:=rfl
@[simp]theorem jB(x:D)(ys:Ac D):Dr .In x (.H ys)=if (Tm 5 x&&ys.all (Tm 5))=Aa then .ok (.bl (ys.any λy=>Y0 y x)) else .bad:=rfl
@[simp]theorem gN(x:D)(ys:Ac D):Dr .NotIn x (.L ys)=if (Tm 5 x&&ys.all (Tm 5))=Aa then .ok (.bl (!ys.any λy=>Y0 y x)) else .bad:=rfl
@[simp]theorem gM(x:D)(ys:Ac D):Dr .NotIn x (.H ys)=if (Tm 5 x&&ys.all (Tm 5))=Aa then .ok (.bl (!ys.any λy=>Y0 y x)) else .bad:=rfl
@[simp]theorem ZCH:Dr .Is .O .O=.ok (.bl Aa):=rfl
@[simp]theorem ZCG(i):Dr .Is (.H i) .O=.ok (.bl Ae):=rfl
@[simp]theorem ZCE(a b):Dr .IsNot (.bl a) (.bl b)=.ok (.bl (!(a==b))):=rfl
@[simp]theorem ZAE:Dr .IsNot .O .O=.ok (.bl Ae):=rfl
@[simp]theorem ZAD(i):Dr .IsNot (.H i) .O=.ok (.bl Aa):=rfl
@[simp]theorem ZBt(i j:Ad):Y0 (.int i) (.int j)=(i==j):=rfl
@[simp]theorem ZCW(i j:Ai):Y0 (.bl i) (.bl j)=(i==j):=rfl
@[simp]theorem ZBr(i j:Al):Y0 (.str i) (.str j)=(i==j):=rfl
@[simp]theorem ZBq(i j:Ac D):Y0 (.H i) (.H j)=OV i j:=rfl
@[simp]theorem ZBs(i j:Ac D):Y0 (.L i) (.L j)=OV i j:=rfl
@[simp]theorem Zye:OV [] []=Aa:=rfl
@[simp]theorem R7(x y:D)(xs ys:Ac D):OV (x::xs) (y::ys)=(Y0 x y&&OV xs ys):=rfl
@[simp]theorem ZA0(n)(i:Ad):Tm n (.int i)=Aa:=by cases n<;>rfl
@[simp]theorem ZCO(n)(i:Ai):Tm n (.bl i)=Aa:=by cases n<;>rfl
@[simp]theorem ZAZ(n):Tm n .O=Aa:=by cases n<;>rfl
@[simp]theorem ZxS(i):Tm 5 (.H i)=i.all (Tm 4):=rfl
@[simp]theorem ZxU(i):Tm 5 (.L i)=i.all (Tm 4):=rfl
@[simp]theorem ZxT(i):Tm 4 (.H i)=i.all (Tm 3):=rfl
@[simp]theorem Zys(b):DJ (.bl b)=.ok b:=rfl
@[simp]theorem Zyt(b):Iz (.bl b)=.ok b:=rfl
@[simp]theorem Zxt:Ir []=.ok Aa:=rfl
@[simp]theorem RX(x r):Ir (x::r)=(Iz x).bind λb=>(Ir r).bind λc=>.ok (b&&c):=rfl
@[simp]theorem ZAm(a:α):â (.ok a)=.ok a:=rfl
@[simp]theorem ZBL(b):E1 (.bl b)=.ok b:=rfl
@[simp]theorem pS(b):Gd (.int b)=.ok b:=rfl
@[simp]theorem pR(b):Qt (.L b)=.ok b:=rfl
@[simp]theorem Zxn(b):Db (.L b)=.ok b:=rfl
@[simp]theorem Zxm(b):Db (.H b)=.ok b:=rfl
@[simp]theorem fW(xs i):Cw (.L xs) (.int i)=Dz xs i:=rfl
@[simp]theorem fV(xs i):Cw (.H xs) (.int i)=Dz xs i:=rfl
@[simp]theorem ZDF(xs):zc .len [.L xs]=.ok (.int xs.length):=rfl
@[simp]theorem ZDE(xs):zc .len [.H xs]=.ok (.int xs.length):=rfl
@[simp]theorem ZCy(i j):zc .max [.int i,.int j]=.ok (.int (if i<j then j else i)):=rfl
@[simp]theorem ZCx(i j):zc .min [.int i,.int j]=.ok (.int (if j<i then j else i)):=rfl
@[simp]theorem ZCC(i):zc .list [.L i]=.ok (.L i):=rfl
@[simp]theorem ZCB(i):zc .list [.H i]=.ok (.L i):=rfl
@[simp]theorem Zyr(i):zc .tuple [.L i]=.ok (.H i):=rfl
@[simp]theorem iH(i):zc .all [.L i]=(Ir i).bind λb=>.ok (.bl b):=rfl
@[simp]theorem ZDY(i):zc .any [.L i]=(Qo i).bind λb=>.ok (.bl b):=rfl
@[simp]theorem ZDp(i):zc .sum [.L i]=(Iw 0 i).bind λb=>.ok (.int b):=rfl
@[simp]theorem ZxE(i):zc .sorted [.L i]=(F3 i).bind λb=>.ok (.L b):=rfl
@[simp]theorem ZDd(x y):zc .tlt [x,y]=UI x y:=rfl
@[simp]theorem kD(xs lo hi):Â (.H xs) lo hi=if (Kb xs.length 0 lo==0&&Kb xs.length xs.length hi==xs.length)=Aa then .bad else .ok (.H (LJ xs lo hi)):=rfl
@[simp]theorem ZD7(xs lo hi):Â (.L xs) lo hi=.ok (.L (LJ xs lo hi)):=rfl
@[simp]theorem Zy1(d):slE .O d=.ok Af:=rfl
@[simp]theorem Zy2(k i):slE (.int k) (.int i)=.ok (Ab i):=rfl
@[simp]theorem Zy0(k i):slE (.var k) (.int i)=.ok (Ab i):=rfl
@[simp]theorem ZAH(up ks):IX up ks .O=if ks.any He=Aa then .bad else .ok (.bl (ks.any λk=>wr up k .O)):=rfl
@[simp]theorem ZCF(up ks b):IX up ks (.bl b)=if ks.any He=Aa then .bad else .ok (.bl (ks.any λk=>wr up k (.bl b))):=rfl
@[simp]theorem ZAJ(up ks b):IX up ks (.int b)=if ks.any He=Aa then .bad else .ok (.bl (ks.any λk=>wr up k (.int b))):=rfl
@[simp]theorem ZAG(up ks b):IX up ks (.str b)=if ks.any He=Aa then .bad else .ok (.bl (ks.any λk=>wr up k (.str b))):=rfl
@[simp]theorem ZAF(up ks b):IX up ks (.H b)=if ks.any He=Aa then .bad else .ok (.bl (ks.any λk=>wr up k (.H b))):=rfl
@[simp]theorem ZAI(up ks b):IX up ks (.L b)=if ks.any He=Aa then .bad else .ok (.bl (ks.any λk=>wr up k (.L b))):=rfl
@[simp]theorem ZAK(up ks c f):IX up ks (.exc c f)=if ks.all He=Aa then .ok (.bl (ks.any λk=>wr up k (.exc c f))) else .bad:=rfl
@[simp]theorem Zyh:He .int=Ae:=rfl
@[simp]theorem ZwU:He .bool=Ae:=rfl
@[simp]theorem Zyg:He .str=Ae:=rfl
@[simp]theorem ZwT:He .list=Ae:=rfl
@[simp]theorem ZtA:He .tuple=Ae:=rfl
@[simp]theorem Ztx(up i):wr up .int (.int i)=Aa:=rfl
@[simp]theorem Ztw(up):wr up .int .O=Ae:=rfl
@[simp]theorem Zr3(up i):wr up .bool (.int i)=Ae:=rfl
@[simp]theorem Ztv(up i):wr up .int (.H i)=Ae:=rfl
@[simp]theorem Zty(up i):wr up .bool (.bl i)=Aa:=rfl
@[simp]theorem Zr2(up):wr up .bool .O=Ae:=rfl
@[simp]theorem Zr1(up i):wr up .list (.L i)=Aa:=rfl
@[simp]theorem Zpf(up i):wr up .tuple (.H i)=Aa:=rfl
@[simp]theorem Zpg(up):wr up .tuple .O=Ae:=rfl
theorem rZ(xs:Ac D)(k:Ag)(h:k<xs.length):Dz xs (k:Ad)=.ok (xs[k]):=by
 unfold Dz ä;have h1:(0:Ad)<=k:=Int.natCast_nonneg k;have h2:(k:Ad)<(xs.length:Ag):=by lia
 rw[AB h1,AB h2];simp[h]
theorem Sr(h0:0<=i)(h:xs[i.toNat]?=Ab d):Dz xs i=.ok d:=by
 unfold Dz ä;obtain⟨h1,_⟩:=Bh.mp h;rw[AB h0,AB (by lia)]
 dsimp only;rw[h]
section
variable(J:Y7)(Y:Rho)
@[simp]theorem ZxV:Y6 J Y .nil=.next Y:=rfl
def HX(J:Y7)(ss:Ss)(o:O):O:=o.seq λY'=>Y6 J Y' ss
@[simp]theorem ZwA(s ss):Y6 J Y (.cons s ss)=HX J ss (yh J Y s):=rfl
@[simp]theorem Ta(ss):HX J ss (.next Y)=Y6 J Y ss:=rfl
@[simp]theorem ZCI(ss d b):HX J ss (.ret d b)=.ret d b:=rfl
@[simp]theorem ZCK(ss x):HX J ss (.exn x Y)=.exn x Y:=rfl
@[simp]theorem ZCL(ss):HX J ss .bad=.bad:=rfl
@[simp]theorem ZCJ(ss)(c:Prop)[FE c](a b:O):HX J ss (if c then a else b)=if c then HX J ss a else HX J ss b:=by split<;>rfl
@[simp]theorem oo(o:O):HX J .nil o=o:=by cases o<;>rfl
def CI(J:Y7)(t:Ag)(body:Ss):D->Rho->O:=λx Y'=>Y6 J (Y'.set t (Ab (x,Ae))) body
def QJ(J:Y7)(t:Ag)(body:Ss)(Y:Rho)(r:R (Ac D)):O:=O.of Y r λxs=>DG (CI J t body) xs Y
@[simp]theorem ZAW(t body xs):QJ J t body Y (.ok xs)=DG (CI J t body) xs Y:=rfl
@[simp]theorem ZA5(i e):yh J Y (.asg i Ae e)=O.of Y (evE J Y e) λd=>.next (Y.set i (Ab (d,Ae))):=rfl
@[simp]theorem Zx0(e):yh J Y (.expr e)=O.of Y (evE J Y e) λ_=>.next Y:=rfl
@[simp]theorem ZCs(es):E0 J (.L es)=Aa:=rfl
@[simp]theorem ZAk(a b c e):E0 J (.comp a b c e)=Aa:=rfl
@[simp]theorem ZAl(f es):E0 J (.call f es)=J.fr f:=rfl
@[simp]theorem ZCq(i):E0 J (.var i)=Ae:=rfl
@[simp]theorem ZCr(es):E0 J (.H es)=Ae:=rfl
@[simp]theorem ZDA(b):E0 J (.bl b)=Ae:=rfl
@[simp]theorem ZCu(es):E0 J (.bi .list es)=Aa:=rfl
@[simp]theorem ZCt(es):E0 J (.bi .tuple es)=Ae:=rfl
@[simp]theorem ae(e):yh J Y (.ret e)=O.of Y (top Y e (evE J Y e)) λd=>.ret d (E0 J e||(match e with | .var i=>(match Y[i]? with|some (Ab (_,o))=>o|_=>Ae)|_=>Ae)):=rfl
@[simp]theorem ZA3(c a b):yh J Y (.ife c a b)=O.of Y ((top Y c (evE J Y c)).bind DJ) λk=>if k=Aa then Y6 J Y a else Y6 J Y b:=rfl
@[simp]theorem ZxY(t it body):yh J Y (.fors t it body)=QJ J t body Y (KR J Y it):=rfl
def N8(J:Y7)(ts:Ac Ag)(body:Ss):D->Rho->O:=λx Y'=>O.of Y' (HR ts x Y') λnp=>Y6 J np body
def ZM(J:Y7)(ts:Ac Ag)(body:Ss)(Y:Rho)(r:R (Ac D)):O:=O.of Y r λxs=>DG (N8 J ts body) xs Y
@[simp]theorem ZxR(t body xs):ZM J t body Y (.ok xs)=DG (N8 J t body) xs Y:=rfl
@[simp]theorem ZxZ(t it body):yh J Y (.forT t it body)=ZM J t body Y (KR J Y it):=rfl
def On(J:Y7)(i d t:Ag)(body:Ss):D->Rho->O:=λx Y'=>if Gh Y' i d=Aa then Y6 J (Y'.set t (Ab (x,Ae))) body else .bad
def Om(J:Y7)(i d:Ag)(k:E):Rho->R D:=λY'=>if Gh Y' i d=Aa then evE J Y' k else .bad
theorem ag(d i t body k):yh J Y (.cnt d i t body k)=O.of Y (DR Y i) λxs=>if (decide (xs.length<=1000)&&decide (d≠i)&&decide (d<Y.length))=Aa then ϙ i d xs (Kf (On J i d t body) (Om J i d k) xs [] ((Y.set i (Ab (.O,Aa))).set d (Ab (.O,Aa)))) else .bad:=rfl
@[simp]theorem Zx1(ts e):yh J Y (.asgT ts e)=O.of Y (evE J Y e) λd=>O.of Y (Mj ts d Y) λY'=>.next Y':=rfl
theorem sB(i e):yh J Y (.asg i Aa e)=O.of Y (evE J Y e) λd=>if E0 J e=Aa then (match d with
      |.L xs=>.next (Y.set i (Ab (.L xs,Aa)))
      |.dic xs=>.next (Y.set i (Ab (.dic xs,Aa)))
      | _=>.bad) else .bad:=rfl
noncomputable def setF(Y:Rho)(i:Ag):D->O
 |.L xs=>.next (Y.set i (Ab (.L xs,Aa)))
 |.dic xs=>.next (Y.set i (Ab (.dic xs,Aa)))
 |_=>.bad
@[simp]theorem ZCf(i xs):setF Y i (.L xs)=.next (Y.set i (Ab (.L xs,Aa))):=rfl
@[simp]theorem ZwB(i e):yh J Y (.asg i Aa e)=O.of Y (evE J Y e) λd=>if E0 J e=Aa then setF Y i d else .bad:=by
 rw[sB]
 congr 1
@[simp]theorem ah(i e):yh J Y (.app i e)=O.of Y (DR Y i) λxs=>O.of Y (evE J Y e) λd=>if Eo (xs.length+1)=Aa then .next (Y.set i (Ab (.L (xs++[d]),Aa))) else .bad:=rfl
@[simp]theorem ZA4(i e):yh J Y (.ext i e)=O.of Y (DR Y i) λxs=>O.of Y (evE J Y e) λd=>O.of Y (Qt d) λys=>if Eo (xs.length+ys.length)=Aa then .next (Y.set i (Ab (.L (xs++ys),Aa))) else .bad:=rfl
theorem Sz(i k e):yh J Y (.put i k e)=O.of Y (evE J Y e) λd=>O.of Y (DR Y i) λxs=>O.of Y ((top Y k (evE J Y k)).bind Gd) λj=>match ä xs.length j with
      |some n=>.next (Y.set i (Ab (.L (xs.set n d),Aa)))
      |none=>.bad:=rfl
@[simp]theorem ZxJ(Y:Rho)(i)(xs):UF Y i (.L xs)=.next (Y.set i (Ab (.L xs,Ae))):=rfl
@[simp]theorem ZxW(body c x h):yh J Y (.tryx body c x h)=match Y6 J Y body with
      | .exn y Y'=>if (J.up y.c).contains c=Aa then (match Y6 J (Y'.set x (Ab (.exc y.c y.fs,Ae))) h with
          |.next np=>.next (np.set x Af)
          |.ret d f=>.ret d f
          | _=>.bad) else .bad
      |o=>o:=rfl
@[simp]theorem ZxX(c as):yh J Y (.rais c as)=O.of Y (â (í J Y as)) λxs=>O.of Y (J.xn c xs) λx=>.exn x Y:=rfl
end
end Ov
namespace Ov
open PySem
theorem Su(P:Rho->Prop):∀(xs:Ac D)(Y:Rho),P Y->(∀ x∈xs,∀ Y,P Y->∃ Y',body x Y=.next Y'/\P Y')->∃ Y',DG body xs Y=.next Y'/\P Y'
 |[],Y,h,_=>⟨Y,rfl,h⟩
 |x::xs,Y,h,k=>by
  obtain⟨Y1,e1,h1⟩:=k x Av Y h;obtain⟨Y2,e2,h2⟩:=Su P xs Y1 h1 λy hy=>k y (As _ hy)
  exact⟨Y2,by show (body x Y).turn _=_;rw[e1];exact e2,h2⟩
theorem Vw(P:Ag->Rho->Prop):∀(xs:Ac D)(n:Ag)(Y:Rho),P n Y->(∀ i x,xs[i]?=Ab x->∀ Y,P (n+i) Y->∃ Y',body x Y=.next Y'/\P (n+i+1) Y')->∃ Y',DG body xs Y=.next Y'/\P (n+xs.length) Y'
 |[],n,Y,h,_=>⟨Y,rfl,h⟩
 |x::xs,n,Y,h,k=>by
  obtain⟨Y1,e1,h1⟩:=k 0 x rfl Y h;obtain⟨Y2,e2,h2⟩:=Vw P xs (n+1) Y1 h1 λi y hy Y hρ=>by
   have:=k (i+1) y (by simpa using hy) Y (by rw[show n+(i+1)=n+1+i by lia];exact hρ)
   rw[show n+(i+1)=n+1+i by lia]at this
   exact this
  exact⟨Y2,by show (body x Y).turn _=_;rw[e1];exact e2,by rw[show n+(x::xs).length=n+1+xs.length by simp;lia];exact h2⟩
theorem mS(h1:0<=lo)(h2:lo<1000000)(h3:0<=hi)(h4:hi<1000000):D8 lo hi=.ok (FS lo (hi-lo).toNat):=by
 unfold D8;rw[AB (by omega)]
theorem mT(h3:0<=hi)(h4:hi<1000000):D8 0 hi=.ok (FS 0 hi.toNat):=by
 rw[mS (by lia) (by lia) h3 h4,K1]
theorem WD(h:x∈FS lo n):∃ k:Ag,k<n/\x=.int (lo+(k:Ad)):=by
 obtain⟨k,hk,e⟩:=Bp.mp h;exact⟨k,Dl.mp hk,e.symm⟩
def ON(lo:Ad)(n:Ag):(FS lo n).length=n:=by simp[FS]
theorem Wl(h:(FS lo n)[i]?=Ab x):i<n/\x=.int (lo+(i:Ad)):=by
 have hl:=(Bh.mp h).1;rw[ON]at hl;unfold FS at h;rw[EB,List.getElem?_range hl]at h;cases h;exact⟨hl,rfl⟩
noncomputable def Ss.take:Ag->Ss->Ss
 |0,_=>.nil
 |_,.nil=>.nil
 |n+1,.cons s ss=>.cons s (ss.take n)
noncomputable def Ss.drop:Ag->Ss->Ss
 |0,ss=>ss
 |_,.nil=>.nil
 |n+1,.cons _ ss=>ss.drop n
theorem NP(J:Y7):∀(n:Ag)(ss:Ss)(Y:Rho),Y6 J Y ss=HX J (ss.drop n) (Y6 J Y (ss.take n))
 |0,_,_=>rfl
 |_+1,.nil,_=>rfl
 |n+1,.cons s ss,Y=>by
  show (yh J Y s).seq (λY'=>Y6 J Y' ss)=HX J (ss.drop n) ((yh J Y s).seq λY'=>Y6 J Y' (ss.take n))
  cases yh J Y s with
  |next Y'=>exact NP J n ss Y'
  |_=>rfl
end Ov
namespace Ov
end Ov
namespace OvC
open PySem Ov PyProof.Rows
noncomputable abbrev zh(ns:Ac Ad):D:=.L (ns.map .int)
abbrev sh(d:D):Sl:=Ab (d,Ae)
abbrev si(i:Ad):Sl:=Ab (.int i,Ae)
theorem four{j:Ad}{P:Ag->Prop}(h0:P 0)(h1:P 1)(h2:P 2)(h3:P 3):P (j%4).toNat:=by
 have:(j%4).toNat=0\/(j%4).toNat=1\/(j%4).toNat=2\/(j%4).toNat=3:=by lia
 rcases this with e|e|e|e<;>rw[e]<;>assumption
def P4(p:Ad):Prop:=p=3\/p=5\/p=7\/p=11
theorem P4.pos(h:P4 p):0<p:=by rcases h with rfl|rfl|rfl|rfl<;>decide
theorem P4.lo(h:P4 p):3<=p:=by rcases h with rfl|rfl|rfl|rfl<;>decide
theorem P4.hi(h:P4 p):p<=11:=by rcases h with rfl|rfl|rfl|rfl<;>decide
theorem JA(h0:-18446744073709551616<i)(h1:i<18446744073709551616):Ew i j=Aa:=by simp[Ew];left;exact⟨h0,h1⟩
theorem Pt(h0:-18446744073709551616<j)(h1:j<18446744073709551616):Ew i j=Aa:=by simp[Ew];right;exact⟨h0,h1⟩
def TN:Df:=⟨2,Ae,{.ret (.B .Mod (.var 1) (.var 0))}⟩
def Lw(J:Y7):Prop:=∀ p n:Ad,0<p->J.F 1 [.int p,.int n]=.ok (.int (n%p))
theorem fu(J:Y7)(p n:Ad)(h:0<p):TN.run J [.int p,.int n]=.ok (.int (n%p)):=by simp[TN,Df.run,Co,h]
end OvC
namespace Ov
open PySem PySem.Spec PyProof.Rows L2
variable{A:Ak->Prop}{H:Hp}{a b q:Ak}{xs vs:Ac V}{v:V}{d:D}{r:R D}{e c iter elt:Am}{i n j k:Ag}{Z:L2.St}{K:Fg}{pI:Pn}{s:Aq}{ys us:Ax Aj}{h h' h2:AO}{zx:Ac Aj}{es ifs:Ac Am}{fs:Rho->R (Ac D)}{x:Al}{p pos:Bm}{α:Type}{as:D->Rho->R Rho}{w:AJ}{o:DE}{ts:Ac Ag}
abbrev ClA:=Ag->Ar Ak
def KL(K:Fg)(a:Ak)(xs:Ac V):Prop:=∃(o:DE)(its:Ax Aj)(n:Ag),K.lookup a=Ab o/\o.cls=.type "list"/\o.dict=Af/\o.data=.seq its n/\its.size<=sizeLine/\Bv xs its.toList
def KT(K:Fg)(a:Ak)(xs:Ac V):Prop:=∃(o:DE)(its:Ax Aj)(n:Ag),K.lookup a=Ab o/\o.cls=.type "tuple"/\o.data=.seq its n/\its.size<=sizeLine/\Bv xs its.toList
section
variable(K:Fg)(CL:ClA)(H:Hp)(A:Ak->Prop)
mutual
def Y5:V->D->Prop
 |v,.O=>v=.O
 |v,.bl b=>v=.bl b
 |v,.int i=>v=.int i
 |v,.str x=>v=.str x
 |v,.H ds=>∃ a xs,v=.ref a/\(¬ A a\/KT K a xs)/\yr K H a xs/\Z9 xs ds
 |v,.L ds=>∃ a xs,v=.ref a/\(¬ A a\/KL K a xs)/\zp K H a xs/\Z9 xs ds
 |v,.obj c fs=>∃ a C dx vs,v=.ref a/\¬ A a/\CL c=Ab C/\H a=Ab (.ins C dx vs)/\zo vs fs
 |_,.dic _=>BR
 |v,.exc c fs=>∃ a C φ,v=.ref a/\¬ A a/\CL c=Ab C/\H a=Ab (.ext φ)/\(∀ h,φ h->∃ o,h.get? a=Ab o/\o.cls=.ref C)/\(fs=[]\/∃ dx vs,¬ A dx/\H dx=Ab (.xd vs)/\zo vs fs/\∀ h,φ h->∃ o,h.get? a=Ab o/\o.dict=Ab dx/\∃ us,o.data=.fields us)
def Z9:Ac V->Ac D->Prop
 |[],[]=>IM
 |v::vs,d::ds=>Y5 v d/\Z9 vs ds
 |_,_=>BR
def zo:Ac (Al×V)->Ac (Al×D)->Prop
 |[],[]=>IM
 |v::vs,d::ds=>yg v d/\zo vs ds
 |_,_=>BR
def yg:Al×V->Al×D->Prop
 |v,(n,d)=>v.1=n/\Y5 v.2 d
end
def DK(v:V)(d:D):Prop:=Y5 K CL H A v d\/∃ a xs ds,v=.ref a/\d=.L ds/\H a=Ab (.L xs)/\Z9 K CL H A xs ds
end
def Kp(A:Ak->Prop)(H H':Hp):Prop:=∀ b o,H b=Ab o->¬ A b->H' b=Ab o
def UV:HO->Prop
 |.L _=>IM
 |.ext _=>IM
 |_=>BR
def zw(H:Hp)(A:Ak->Prop):Prop:=∀ a,A a->∃ o,H a=Ab o/\UV o
def Kp.of(h:AV H H'):Kp A H H':=λb o e _=>h b o e
theorem zw.same(h:zw H A)(s:AV H H'):zw H' A:=λa ha=>let ⟨o,e,w⟩:=h a ha;⟨o,s _ _ e,w⟩
theorem zw.new{p:Ak}(h:zw H A)(e:H p=Af):¬ A p:=λha=>by
 obtain⟨o,q,_⟩:=h p ha;rw[e]at q;cases q
section
variable{K:Fg}{CL:ClA}{H H':Hp}{A B:Ak->Prop}
theorem Zq(k:Kp A H H')(na:¬ A a)(h:Rd H a u):Rd H' a u:=by
 rcases h with h|⟨o,h⟩
 .exact .inl (k _ _ h na)
 .exact .inr ⟨o,k _ _ h na⟩
theorem PY(k:Kp A H H')(na:¬ A a\/KL K a xs)(h:zp K H a xs):zp K H' a xs:=na.elim (λna=>h.imp (Zq k na) id) .inr
theorem PX(k:Kp A H H')(na:¬ A a\/KT K a xs)(h:yr K H a xs):yr K H' a xs:=na.elim (λna=>h.imp (Zq k na) id) .inr
mutual
theorem Y5.kp(k:Kp A H H'):∀{v:V}(d:D),Y5 K CL H A v d->Y5 K CL H' A v d
 |_,.O,h=>h
 |_,.bl _,h=>h
 |_,.int _,h=>h
 |_,.str _,h=>h
 |_,.dic _,h=>h.elim
 |_,.H ds,h=>by
  obtain⟨a,xs,e,na,s,r⟩:=h;exact⟨a,xs,e,na,by first|exact PX k na s|exact PY k na s,Z9.kp k ds r⟩
 |_,.L ds,h=>by
  obtain⟨a,xs,e,na,s,r⟩:=h;exact⟨a,xs,e,na,by first|exact PX k na s|exact PY k na s,Z9.kp k ds r⟩
 |_,.obj c fs,h=>by
  obtain⟨a,C,dx,vs,e,na,c,s,r⟩:=h;exact⟨a,C,dx,vs,e,na,c,k _ _ s na,zo.kp k fs r⟩
 |_,.exc c fs,h=>by
  obtain⟨a,C,φ,e,na,c,s,p,q⟩:=h;refine⟨a,C,φ,e,na,c,k _ _ s na,p,q.imp id ?_⟩;rintro⟨dx,vs,nx,s2,r,z⟩;exact⟨dx,vs,nx,k _ _ s2 nx,zo.kp k fs r,z⟩
theorem Z9.kp(k:Kp A H H'):∀{vs:Ac V}(ds:Ac D),Z9 K CL H A vs ds->Z9 K CL H' A vs ds
 |[],[],h=>h
 |_::_,d::ds,h=>⟨Y5.kp k d h.1,Z9.kp k ds h.2⟩
 |[],_::_,h=>h.elim
 |_::_,[],h=>h.elim
theorem zo.kp(k:Kp A H H'):∀{vs:Ac (Al×V)}(ds:Ac (Al×D)),zo K CL H A vs ds->zo K CL H' A vs ds
 |[],[],h=>h
 |_::_,d::ds,h=>⟨yg.kp k d h.1,zo.kp k ds h.2⟩
 |[],_::_,h=>h.elim
 |_::_,[],h=>h.elim
theorem yg.kp(k:Kp A H H'):∀{v:Al×V}(d:Al×D),yg K CL H A v d->yg K CL H' A v d
 |_,(_,d),h=>⟨h.1,Y5.kp k d h.2⟩
end
mutual
theorem Y5.sub(k:∀ a,B a->A a):∀{v:V}(d:D),Y5 K CL H A v d->Y5 K CL H B v d
 |_,.O,h=>h
 |_,.bl _,h=>h
 |_,.int _,h=>h
 |_,.str _,h=>h
 |_,.dic _,h=>h.elim
 |_,.H ds,h=>by
  obtain⟨a,xs,e,na,s,r⟩:=h;exact⟨a,xs,e,na.imp (λna z=>na (k _ z)) id,s,Z9.sub k ds r⟩
 |_,.L ds,h=>by
  obtain⟨a,xs,e,na,s,r⟩:=h;exact⟨a,xs,e,na.imp (λna z=>na (k _ z)) id,s,Z9.sub k ds r⟩
 |_,.obj c fs,h=>by
  obtain⟨a,C,dx,vs,e,na,c,s,r⟩:=h;exact⟨a,C,dx,vs,e,λz=>na (k _ z),c,s,zo.sub k fs r⟩
 |_,.exc c fs,h=>by
  obtain⟨a,C,φ,e,na,c,s,p,q⟩:=h;refine⟨a,C,φ,e,λz=>na (k _ z),c,s,p,q.imp id ?_⟩
  rintro⟨dx,vs,nx,s2,r,z⟩;exact⟨dx,vs,λz=>nx (k _ z),s2,zo.sub k fs r,z⟩
theorem Z9.sub(k:∀ a,B a->A a):∀{vs:Ac V}(ds:Ac D),Z9 K CL H A vs ds->Z9 K CL H B vs ds
 |[],[],h=>h
 |_::_,d::ds,h=>⟨Y5.sub k d h.1,Z9.sub k ds h.2⟩
 |[],_::_,h=>h.elim
 |_::_,[],h=>h.elim
theorem zo.sub(k:∀ a,B a->A a):∀{vs:Ac (Al×V)}(ds:Ac (Al×D)),zo K CL H A vs ds->zo K CL H B vs ds
 |[],[],h=>h
 |_::_,d::ds,h=>⟨yg.sub k d h.1,zo.sub k ds h.2⟩
 |[],_::_,h=>h.elim
 |_::_,[],h=>h.elim
theorem yg.sub(k:∀ a,B a->A a):∀{v:Al×V}(d:Al×D),yg K CL H A v d->yg K CL H B v d
 |_,(_,d),h=>⟨h.1,Y5.sub k d h.2⟩
end
mutual
theorem Y5.wide(hp:∀ a,B a->A a\/H a=Af):∀{v:V}(d:D),Y5 K CL H A v d->Y5 K CL H B v d
 |_,.O,h=>h
 |_,.bl _,h=>h
 |_,.int _,h=>h
 |_,.str _,h=>h
 |_,.dic _,h=>h.elim
 |_,.H ds,h=>by
  obtain⟨a,xs,e,na,s,r⟩:=h;refine⟨a,xs,e,?_,s,Z9.wide hp ds r⟩;rcases s with s|s
  .refine na.imp (λna z=>(hp _ z).elim na λe=>?_) id
   rcases s with s|⟨o,s⟩<;>rw[e]at s<;>exact Hd s
  .exact .inr s
 |_,.L ds,h=>by
  obtain⟨a,xs,e,na,s,r⟩:=h;refine⟨a,xs,e,?_,s,Z9.wide hp ds r⟩;rcases s with s|s
  .refine na.imp (λna z=>(hp _ z).elim na λe=>?_) id
   rcases s with s|⟨o,s⟩<;>rw[e]at s<;>exact Hd s
  .exact .inr s
 |_,.obj c fs,h=>by
  obtain⟨a,C,dx,vs,e,na,c,s,r⟩:=h;exact⟨a,C,dx,vs,e,(λz=>(hp _ z).elim na λe=>by rw[e]at s;cases s),c,s,zo.wide hp fs r⟩
 |_,.exc c fs,h=>by
  obtain⟨a,C,φ,e,na,c,s,p,q⟩:=h;refine⟨a,C,φ,e,(λz=>(hp _ z).elim na λe=>by rw[e]at s;cases s),c,s,p,q.imp id ?_⟩
  rintro⟨dx,vs,nx,s2,r,z⟩;exact⟨dx,vs,(λz=>(hp _ z).elim nx λe=>by rw[e]at s2;cases s2),s2,zo.wide hp fs r,z⟩
theorem Z9.wide(hp:∀ a,B a->A a\/H a=Af):∀{vs:Ac V}(ds:Ac D),Z9 K CL H A vs ds->Z9 K CL H B vs ds
 |[],[],h=>h
 |_::_,d::ds,h=>⟨Y5.wide hp d h.1,Z9.wide hp ds h.2⟩
 |[],_::_,h=>h.elim
 |_::_,[],h=>h.elim
theorem zo.wide(hp:∀ a,B a->A a\/H a=Af):∀{vs:Ac (Al×V)}(ds:Ac (Al×D)),zo K CL H A vs ds->zo K CL H B vs ds
 |[],[],h=>h
 |_::_,d::ds,h=>⟨yg.wide hp d h.1,zo.wide hp ds h.2⟩
 |[],_::_,h=>h.elim
 |_::_,[],h=>h.elim
theorem yg.wide(hp:∀ a,B a->A a\/H a=Af):∀{v:Al×V}(d:Al×D),yg K CL H A v d->yg K CL H B v d
 |_,(_,d),h=>⟨h.1,Y5.wide hp d h.2⟩
end
theorem Y5.same(s:AV H H')(h:Y5 K CL H A v d):Y5 K CL H' A v d:=Y5.kp (Kp.of s) d h
theorem Z9.same{v:Ac V}{d:Ac D}(s:AV H H')(h:Z9 K CL H A v d):Z9 K CL H' A v d:=Z9.kp (Kp.of s) d h
theorem DK.same{v:V}{d:D}(s:AV H H')(h:DK K CL H A v d):DK K CL H' A v d:=by
 rcases h with h|⟨a,xs,ds,e,e2,q,r⟩
 .exact .inl (h.same s)
 .exact .inr ⟨a,xs,ds,e,e2,s _ _ q,r.same s⟩
theorem Z9.length:∀{vs:Ac V}{ds:Ac D},Z9 K CL H A vs ds->vs.length=ds.length
 |[],[],_=>rfl
 |_::_,_::_,h=>congrArg (· + 1) (Z9.length h.2)
 |[],_::_,h=>h.elim
 |_::_,[],h=>h.elim
theorem Z9.append:∀{vs ws:Ac V}{ds es:Ac D},Z9 K CL H A vs ds->Z9 K CL H A ws es->Z9 K CL H A (vs++ws) (ds++es)
 |[],_,[],_,_,h=>h
 |_::_,_,_::_,_,h,g=>⟨h.1,Z9.append h.2 g⟩
 |[],_,_::_,_,h,_=>h.elim
 |_::_,_,[],_,h,_=>h.elim
theorem Z9.get:∀{vs:Ac V}{ds:Ac D}{i:Ag}{d:D},Z9 K CL H A vs ds->ds[i]?=Ab d->∃ v,vs[i]?=Ab v/\Y5 K CL H A v d
 |[],[],_,_,_,e=>by simp at e
 |v::_,_::_,0,_,h,e=>by simp at e;subst e;exact⟨v,rfl,h.1⟩
 |_::_,_::_,i+1,_,h,e=>by
  obtain⟨v,q,r⟩:=Z9.get (i:=i) h.2 (by simpa using e)
  exact⟨v,by simpa using q,r⟩
 |[],_::_,_,_,h,_=>h.elim
 |_::_,[],_,_,h,_=>h.elim
theorem Z9.take:∀{vs:Ac V}{ds:Ac D}(n:Ag),Z9 K CL H A vs ds->Z9 K CL H A (vs.take n) (ds.take n)
 |_,_,0,_=>trivial
 |[],[],_+1,_=>trivial
 |_::_,_::_,n+1,h=>⟨h.1,Z9.take n h.2⟩
 |[],_::_,_+1,h=>h.elim
 |_::_,[],_+1,h=>h.elim
theorem Z9.drop:∀{vs:Ac V}{ds:Ac D}(n:Ag),Z9 K CL H A vs ds->Z9 K CL H A (vs.drop n) (ds.drop n)
 |_,_,0,h=>h
 |[],[],_+1,_=>trivial
 |_::_,_::_,n+1,h=>Z9.drop n h.2
 |[],_::_,_+1,h=>h.elim
 |_::_,[],_+1,h=>h.elim
theorem Z9.set{x:V}{e:D}(r:Y5 K CL H A x e):∀{vs:Ac V}{ds:Ac D}(n:Ag),Z9 K CL H A vs ds->Z9 K CL H A (vs.set n x) (ds.set n e)
 |[],[],_,_=>trivial
 |_::_,_::_,0,h=>⟨r,h.2⟩
 |_::_,_::_,n+1,h=>⟨h.1,Z9.set r n h.2⟩
 |[],_::_,_,h=>h.elim
 |_::_,[],_,h=>h.elim
end
structure Y4 (K:Fg) (CL:ClA) (A:Ak->Prop) (Y:Rho) (Z:L2.St) (H:Hp):Prop where
 sh:∀(i:Ag)(d:D),Y[i]?=Ab (Ab (d,Ae))->∃ v,Z[i]?=Ab (Ab v)/\Y5 K CL H A v d
 ow:∀(i:Ag)(d:D),Y[i]?=Ab (Ab (d,Aa))->d≠.O->∃ a xs ds,Z[i]?=Ab (Ab (.ref a))/\d=.L ds/\A a/\H a=Ab (.L xs)/\Z9 K CL H A xs ds
 len:Y.length=Z.length
theorem Y4.same{K:Fg}{A:Ak->Prop}{Z:L2.St}{H:Hp}(g:Y4 K CL A Y Z H)(s:AV H H'):Y4 K CL A Y Z H':=
 ⟨λi d e=>let ⟨v,q,r⟩:=g.sh i d e;⟨v,q,r.same s⟩,λi d e hn=>let ⟨a,xs,ds,q,z,na,h,r⟩:=g.ow i d e hn;⟨a,xs,ds,q,z,na,s _ _ h,r.same s⟩,g.len⟩
abbrev XW:=Ex->Hp->Prop
def BO(Rp:Hp->V->D->Prop)(W:XW)(H:Hp)(r:R D)(Q:VK):Prop:=match r with
  |.ok d=>∀ v H',AV H H'->Rp H' v d->Q v H'
  |.exn x=>∀ H',AV H H'->W x H'
  |.bad=>BR
def IU(Rp:Hp->Ac V->Ac D->Prop)(W:XW)(H:Hp)(r:R (Ac D))(Q:Ac V->Hp->Prop):Prop:=match r with
  |.ok d=>∀ v H',AV H H'->Rp H' v d->Q v H'
  |.exn x=>∀ H',AV H H'->W x H'
  |.bad=>BR
def Ed(W:XW)(H:Hp)(r:R Ai)(Q:Ai->Hp->Prop):Prop:=match r with
  |.ok b=>∀ H',AV H H'->Q b H'
  |.exn x=>∀ H',AV H H'->W x H'
  |.bad=>BR
theorem BO.same(s:AV H H')(h:BO Rp W H r Q):BO Rp W H' r Q:=by
 cases r with
 |ok d=>exact λv H2 s2 q=>h v H2 (s.trans s2) q
 |exn x=>exact λH2 s2=>h H2 (s.trans s2)
 |bad=>exact h
theorem Ed.same{r:R Ai}(s:AV H H')(h:Ed W H r Q):Ed W H' r Q:=by
 cases r with
 |ok d=>exact λH2 s2=>h H2 (s.trans s2)
 |exn x=>exact λH2 s2=>h H2 (s.trans s2)
 |bad=>exact h
theorem BO.bind(h:BO Rq W H (r.bind f) Q)(k:∀ d v H',r=.ok d->AV H H'->Rp H' v d->BO Rq W H' (f d) Q->Q' v H'):BO Rp W H r Q':=by
 cases r with
 |ok d=>exact λv H2 s2 q=>k d v H2 rfl s2 q (BO.same s2 h)
 |exn x=>exact h
 |bad=>exact h
section
variable(X:Cx)(CL:ClA)(W:XW)
def SE(e:Am)(f:Rho->R D):Prop:=∀ A,PE X e (λZ H Q=>zw H A/\∃ Y,Y4 X.K CL A Y Z H/\BO (λH=>Y5 X.K CL H A) W H (f Y) Q)
def ST(e:Am)(f:Rho->R D):Prop:=∀ A,PE X e (λZ H Q=>zw H A/\∃ Y,Y4 X.K CL A Y Z H/\BO (λH=>DK X.K CL H A) W H (f Y) Q)
def SB(e:Am)(f:Rho->R Ai):Prop:=∀ A,PT X e (λZ H Q=>zw H A/\∃ Y,Y4 X.K CL A Y Z H/\Ed W H (f Y) Q)
def SA(es:Ac Am)(f:Rho->R (Ac D)):Prop:=∀ A,PA X es (λZ H Q=>zw H A/\∃ Y,Y4 X.K CL A Y Z H/\IU (λH=>Z9 X.K CL H A) W H (f Y) Q)
end
theorem PE.weak(h:PE X e t)(k:∀ Z H Q,t' Z H Q->t Z H Q):PE X e t':=λpI s Z H Q I q=>h pI s Z H Q I (k _ _ _ q)
theorem PT.weak(h:PT X e t)(k:∀ Z H Q,t' Z H Q->t Z H Q):PT X e t':=λpI s Z H Q I q=>h pI s Z H Q I (k _ _ _ q)
theorem PA.weak{e:Ac Am}(h:PA X e t)(k:∀ Z H Q,t' Z H Q->t Z H Q):PA X e t':=λpos pI s Z H Q I q=>h pos pI s Z H Q I (k _ _ _ q)
def Î(X:Cx)(CL:ClA)(W:XW)(f:Aj->Aj->D7 Aj)(g:D->D->R D):Prop:=
 ∀ A,yq X f (λx y H Q=>zw H A/\∃ dx dy,DK X.K CL H A x dx/\DK X.K CL H A y dy/\BO (λH=>Y5 X.K CL H A) W H (g dx dy) Q)
section
variable{a b:Am}{fa fb:Rho->R D}
theorem SE.st(h:SE X CL W a fa):ST X CL W a fa:=λA=>PE.weak (h A) λZ H Q ⟨hA,Y,g,p⟩=>⟨hA,Y,g,by
 cases e:fa Y with
 |ok d=>rw[e]at p;exact λv H' s r=>p v H' s (.inl r)
 |exn x=>rw[e]at p;exact p
 | bad=>rw[e]at p;exact p⟩
theorem Qm(h:PE X a (tC v))(r:∀ H A,zw H A->Y5 X.K CL H A v d):SE X CL W a (λ_=>.ok d):=λA=>PE.weak h λZ H Q ⟨hA,Y,g,p⟩=>p v H (AV.refl H) (r H A hA)
theorem iw{i j}:SE X CL W (.Constant (.int i) j pos) (λ_=>.ok (.int i)):=Qm ku λ_ _ _=>rfl
theorem vy{b j}:SE X CL W (.Constant (.bool b) j pos) (λ_=>.ok (.bl b)):=Qm uf λ_ _ _=>rfl
theorem io{j}:SE X CL W (.Constant .none j pos) (λ_=>.ok .O):=Qm ko λ_ _ _=>rfl
theorem ig{x j}:SE X CL W (.Constant (.str x) j pos) (λ_=>.ok (.str x)):=Qm ki λ_ _ _=>rfl
theorem tL(h:Hc Y i=.ok d):Y[i]?=Ab (Ab (d,Ae)):=by
 unfold Hc at h;split at h
 .rename_i e;cases h;exact e
 .exact EZ h
theorem Xh(h:Hb Y i=.ok d):∃ o,Y[i]?=Ab (Ab (d,o))/\(o=Aa->d≠.O):=by
 unfold Hb at h;split at h
 .rename_i e;cases h;exact⟨_,e,λz=>nomatch z⟩
 .rename_i x e;cases x with
  |L xs=>cases h;exact⟨_,e,λ_ z=>nomatch z⟩
  |_=>exact EZ h
 .exact EZ h
theorem pJ{x:Ex}(h:Hc Y i=.exn x):BR:=by
 unfold Hc at h;split at h<;>cases h
theorem WN{x:Ex}(h:Hb Y i=.exn x):BR:=by
 unfold Hb at h;split at h
 .cases h
 .rename_i y _;cases y<;>cases h
 .cases h
theorem i9(h:PE X a (IB i)):SE X CL W a (λY=>Hc Y i):=λA=>PE.weak h λZ H Q ⟨hA,Y,g,p⟩=>by
 dsimp only at p;cases e:Hc Y i with
 |ok d=>
  rw[e]at p;obtain⟨v,q,r⟩:=g.sh i d (tL e);exact⟨v,q,p v H (AV.refl H) r⟩
 |exn x=>exact(pJ e).elim
 |bad=>rw[e]at p;exact p.elim
theorem gm(h:PE X a (IB i)):ST X CL W a (λY=>Hb Y i):=λA=>PE.weak h λZ H Q ⟨hA,Y,g,p⟩=>by
 dsimp only at p;cases e:Hb Y i with
 |ok d=>
  rw[e]at p;obtain⟨o,e,hn⟩:=Xh e;cases o with
  |false=>
   obtain⟨v,q,r⟩:=g.sh i d e;exact⟨v,q,p v H (AV.refl H) (.inl r)⟩
  |true=>
   obtain⟨x,xs,ds,q,rfl,ha,hh,r⟩:=g.ow i d e (hn rfl);exact⟨_,q,p _ H (AV.refl H) (.inr ⟨x,xs,ds,rfl,rfl,hh,r⟩)⟩
 |exn x=>exact(WN e).elim
 |bad=>rw[e]at p;exact p.elim
theorem ã{g:D->D->R D}{X:Cx}(h:zw H A/\∃ Y,Y4 X.K CL A Y Z H/\BO Rq W H ((fa Y).bind λx=>(fb Y).bind λy=>g x y) Q):zw H A/\∃ Y,Y4 X.K CL A Y Z H/\BO (λH=>DK X.K CL H A) W H (fa Y) (λx H1=>zw H1 A/\∃ Y,Y4 X.K CL A Y Z H1/\BO (λH=>DK X.K CL H A) W H1 (fb Y) (λy H2=>zw H2 A/\∃ dx dy,DK X.K CL H2 A x dx/\DK X.K CL H2 A y dy/\BO Rq W H2 (g dx dy) Q)):=by
 obtain⟨hA,Y,gd,p⟩:=h;refine⟨hA,Y,gd,BO.bind p λdx x H1 _ s1 r1 p1=>⟨hA.same s1,Y,gd.same s1,BO.bind p1 λdy y H2 _ s2 r2 p2=>⟨(hA.same s1).same s2,dx,dy,r1.same s2,r2,p2⟩⟩⟩
theorem YF(ho:Î X CL W (C2 op) g)(ha:ST X CL W a fa)(hb:ST X CL W b fb):SE X CL W (.BinOp a op b pos) (λY=>(fa Y).bind λx=>(fb Y).bind λy=>g x y):=
 λA=>PE.weak (ZB (ho A) (ha A) (hb A)) λZ H Q h=>ã h
theorem j9(ho:Î X CL W (Du op) g)(ha:ST X CL W a fa)(hb:ST X CL W b fb)(hm:IJ op b=Ae):SE X CL W (.Compare a [op] [b] pos) (λY=>(fa Y).bind λx=>(fb Y).bind λy=>g x y):=
 λA=>PE.weak (xE (ho A) (ha A) (hb A) hm) λZ H Q h=>ã h
theorem DK.int_of{i:Ad}(h:DK K CL H A v (.int i)):v=.int i:=by
 rcases h with h|⟨_,_,_,_,e,_⟩
 .exact h
 .cases e
theorem DK.str_of{i:Al}(h:DK K CL H A v (.str i)):v=.str i:=by
 rcases h with h|⟨_,_,_,_,e,_⟩
 .exact h
 .cases e
theorem DK.bl_of{i:Ai}(h:DK K CL H A v (.bl i)):v=.bl i:=by
 rcases h with h|⟨_,_,_,_,e,_⟩
 .exact h
 .cases e
theorem DK.non_of(h:DK K CL H A v .O):v=.O:=by
 rcases h with h|⟨_,_,_,_,e,_⟩
 .exact h
 .cases e
theorem DK.lst_of(h:DK K CL H A v (.L ds)):∃ a xs,v=.ref a/\zp K H a xs/\Z9 K CL H A xs ds:=by
 rcases h with ⟨a,xs,e,_,s,r⟩|⟨a,xs,es,rfl,e,s,r⟩
 .exact⟨a,xs,e,s,r⟩
 .cases e;exact⟨a,xs,rfl,zp.of s,r⟩
theorem DK.tup_of(h:DK K CL H A v (.H ds)):∃ a xs,v=.ref a/\(¬ A a\/KT K a xs)/\yr K H a xs/\Z9 K CL H A xs ds:=by
 rcases h with ⟨a,xs,e,n,s,r⟩|⟨_,_,_,_,e,_⟩
 .exact⟨a,xs,e,n,s,r⟩
 .cases e
theorem wV{i j:Ad}(h:Ew i j=Aa):QH i j:=by
 unfold Ew at h;simp only[DX,An,AN]at h;unfold QH;omega
theorem X7{a:Ad}(h:a.natAbs<2 ^ 2000):bW a<=2 ^ 20:=by
 unfold bW;split
 .lia
 .rename_i hz;have h0:a.natAbs≠0:=by intro z;exact hz (by rw[Int.natAbs_eq_zero.mp z];rfl)
  have:=(Nat.log2_lt h0).mpr h
  lia
theorem wU{i j:Ad}(h:(Ew i j||GD i j)=Aa):Nx i j:=by
 rcases Bool.or_eq_true_iff.mp h with h|h
 .exact(wV h).ok
 .unfold GD at h;rw[An,AN,AN]at h;exact .of_bits (X7 h.1) (X7 h.2)
theorem xQ:yq X (C2 .Mult) (rI Nx λi j=>.int (i*j)):=Ę λ_ _ _ _ _ _ _ hc q=>mul_int q hc
theorem Ll(h:Eo n=Aa):n<=sizeLine:=by
 unfold Eo at h;rw[Dt];have:=Hu h
 lia
theorem XV{p:Ak}(hA:zw H A)(hp:H p=Af)(r:Z9 K CL H A xs ds):Y5 K CL (upd H p (.L xs)) A (.ref p) (.L ds):=
 ⟨p,xs,rfl,.inl (hA.new hp),zp.of HP,r.same λb o e=>by rw[Dp (Hn e hp)];exact e⟩
theorem MO{p:Ak}(hA:zw H A)(hp:H p=Af)(r:Z9 K CL H A xs ds):Y5 K CL (upd H p (.H xs)) A (.ref p) (.H ds):=
 ⟨p,xs,rfl,.inl (hA.new hp),yr.of HP,r.same λb o e=>by rw[Dp (Hn e hp)];exact e⟩
theorem G7{p:Ak}(h:H p=Af)(o:HO):AV H (upd H p o):=λb u q=>by rw[Dp (Hn q h)];exact q
def vn(K:Fg):R2:=λx y H Q=>∃ l b xs zs,x=.ref l/\y=.ref b/\zp K H l xs/\zp K H b zs/\xs.length+zs.length<=sizeLine/\∀ p,H p=Af->Q (.ref p) (upd H p (.L (xs++zs)))
end
section
variable{X:Cx}{CL:ClA}
theorem XN:yq X (C2 .Add) (vn X.K):=by
 intro pI s Z H x y v u Q I rx ry h;obtain⟨l,b,xs,zs,rfl,rfl,hH,hB,hz,q⟩:=h;cases rx;cases ry;obtain⟨its,r,⟨o,n,e,c,dd,dt⟩,z⟩:=I.list hH;obtain⟨zx,r2,⟨o2,n2,e2,c2,Ź,dt2⟩,z2⟩:=I.list hB;have hl:=r.length;have hl2:=r2.length;obtain⟨cls,dd0,data,sl⟩:=o;obtain⟨cls2,dd02,data2,ŵ⟩:=o2;simp only at c dd dt c2 Ź dt2;subst c dd dt c2 Ź dt2;have ea:its.toArray++zx.toArray=(its++zx).toArray:=by simp
 refine Lc ⟨_,e,rfl⟩ ⟨_,e2,rfl⟩ noFill_list_add seq_list_add PySem.F.slot_list_add PySem.F.entry_list_add (PySem.F.args_list_add_2 _ _) (list_addW l b its.toArray zx.toArray n n2 Af Af sl ŵ (by simp;lia)) ⟨e,e2,?_⟩
 rw[ea];exact⟨.ref _,_,I.lnew (t':=s.toks) (r.append r2) (by rw[BL];lia),rfl,q _ I.fresh⟩
theorem XM:Î X CL W (C2 .Add) (Ey .Add):=by
 intro A pI s Z H x y v u Q I rx ry ⟨hA,dx,dy,hx,hy,p⟩;cases dx with
 |int i=>
  cases dy with
  |int j=>
   have ex:=hx.int_of;have ey:=hy.int_of
   subst ex ey;exact m8 pI s Z H _ _ v u Q I rx ry ⟨i,j,rfl,rfl,p _ H (AV.refl H) rfl⟩
  |_=>exact p.elim
 |str i=>
  cases dy with
  |str j=>
   have ex:=hx.str_of;have ey:=hy.str_of
   subst ex ey;simp only[YT]at p;split at p
   .rename_i h;exact lU pI s Z H _ _ v u Q I rx ry ⟨i,j,rfl,rfl,Ll h,p _ H (AV.refl H) rfl⟩
   .exact p.elim
  |_=>exact p.elim
 |L ds=>
  cases dy with
  |L es=>
   obtain⟨a,xs,rfl,s1,r1⟩:=hx.lst_of;obtain⟨b,ys,rfl,s2,r2⟩:=hy.lst_of;simp only[YU]at p;split at p
   .rename_i h;refine XN pI s Z H _ _ v u Q I rx ry ⟨a,b,xs,ys,rfl,rfl,s1,s2,by rw[r1.length,r2.length];exact Ll h,λq hq=>?_⟩
    exact p _ _ (G7 hq _) (XV hA hq (r1.append r2))
   .exact p.elim
  |_=>exact p.elim
 |H ds=>
  cases dy with
  |H es=>
   obtain⟨a,xs,rfl,na1,s1,r1⟩:=hx.tup_of;obtain⟨b,ys,rfl,_,s2,r2⟩:=hy.tup_of;simp only[YS]at p;split at p
   .rename_i h;simp only[An]at h;refine xS pI s Z H _ _ v u Q I rx ry ⟨a,b,xs,ys,rfl,rfl,s1,s2,?_,by rw[r1.length,r2.length];exact Ll h.2,λhy0=>?_,λ_ q hq=>?_⟩
    .rintro rfl;cases ds with
     |nil=>cases h.1
     |cons _ _=>exact r1.elim
    .subst hy0;cases es with
     |nil=>rw[Cr]at p;exact p _ H (AV.refl H) ⟨a,xs,rfl,na1,s1,r1⟩
     |cons _ _=>exact r2.elim
    .exact p _ _ (G7 hq _) (MO hA hq (r1.append r2))
   .exact p.elim
  |_=>exact p.elim
 |_=>exact p.elim
theorem Pj{g:Ad->Ad->Ad}(ho:yq X (C2 op) (rI C λi j=>.int (g i j)))(hg:∀ dx dy,(∃ i j,dx=.int i/\dy=.int j/\((C i j/\Ey op dx dy=.ok (.int (g i j)))\/Ey op dx dy=.bad))\/Ey op dx dy=.bad):Î X CL W (C2 op) (Ey op):=by
 intro A pI s Z H x y v u Q I rx ry ⟨hA,dx,dy,hx,hy,p⟩;rcases hg dx dy with ⟨i,j,rfl,rfl,⟨c,e⟩|e⟩|e
 .have ex:=hx.int_of;have ey:=hy.int_of
  subst ex ey;rw[e]at p;exact ho pI s Z H _ _ v u Q I rx ry ⟨i,j,rfl,rfl,c,p _ H (AV.refl H) rfl⟩
 .rw[e]at p;exact p.elim
 .rw[e]at p;exact p.elim
theorem xL:Î X CL W (C2 .Sub) (Ey .Sub):=by
 intro A pI s Z H x y v u Q I rx ry ⟨hA,dx,dy,hx,hy,p⟩;cases dx with
 |int i=>
  cases dy with
  |int j=>
   have ex:=hx.int_of;have ey:=hy.int_of
   subst ex ey;exact lq pI s Z H _ _ v u Q I rx ry ⟨i,j,rfl,rfl,p _ H (AV.refl H) rfl⟩
  |_=>exact p.elim
 |_=>exact p.elim
theorem xN:Î X CL W (C2 .Mult) (Ey .Mult):=Pj xQ λdx dy=>by
 cases dx with
 |int i=>
  cases dy with
  |int j=>
   refine .inl ⟨i,j,rfl,rfl,?_⟩;rw[ju];split
   .rename_i h;exact .inl ⟨wU h,rfl⟩
   .exact .inr rfl
  |_=>exact .inr rfl
 |_=>exact .inr rfl
theorem qC:Î X CL W (C2 .FloorDiv) (Ey .FloorDiv):=Pj xR λdx dy=>by
 cases dx with
 |int i=>
  cases dy with
  |int j=>
   refine .inl ⟨i,j,rfl,rfl,?_⟩;rw[aa];split
   .rename_i h;exact .inl ⟨h,rfl⟩
   .exact .inr rfl
  |_=>exact .inr rfl
 |_=>exact .inr rfl
theorem xO:Î X CL W (C2 .Mod) (Ey .Mod):=Pj m6 λdx dy=>by
 cases dx with
 |int i=>
  cases dy with
  |int j=>
   refine .inl ⟨i,j,rfl,rfl,?_⟩;rw[jw];split
   .rename_i h;exact .inl ⟨h,rfl⟩
   .exact .inr rfl
  |_=>exact .inr rfl
 |_=>exact .inr rfl
theorem xM:Î X CL W (C2 .Pow) (Ey .Pow):=Pj lw λdx dy=>by
 cases dx with
 |int i=>
  cases dy with
  |int j=>
   refine .inl ⟨i,j,rfl,rfl,?_⟩;rw[d7];split
   .rename_i h;exact .inl ⟨⟨h.1.1,h.1.2,by omega⟩,rfl⟩
   .exact .inr rfl
  |_=>exact .inr rfl
 |_=>exact .inr rfl
theorem W9(op:Hm):Î X CL W (C2 op) (Ey op):=by
 cases op with
 |Add=>exact XM
 |Sub=>exact xL
 |Mult=>exact xN
 |FloorDiv=>exact qC
 |Mod=>exact xO
 |Pow=>exact xM
 |_=>
  intro A pI s Z H x y v u Q I rx ry ⟨hA,dx,dy,hx,hy,p⟩;exact p.elim
abbrev A0:Ak->Prop:=λ_=>BR
theorem DK.plain(h:DK K CL H A v d):Y5 K CL H A0 v d:=by
 rcases h with h|⟨a,xs,ds,rfl,rfl,e,r⟩
 .exact Y5.sub (λ_ z=>z.elim) d h
 .exact⟨a,xs,rfl,.inl λz=>z.elim,zp.of e,Z9.sub (λ_ z=>z.elim) ds r⟩
mutual
theorem sC:∀(n:Ag)(d:D),Tm n d=Aa->Y0 d d=Aa
 |_,.O,_=>rfl
 |_,.bl b,_=>by simp
 |_,.int i,_=>by simp
 |_,.str x,_=>by simp
 |n+1,.H ds,h=>by
  show OV ds ds=Aa;exact ze n ds h
 |n+1,.L ds,h=>by
  show OV ds ds=Aa;exact ze n ds h
 |0,.H ds,h=>by exact BP h
 |0,.L ds,h=>by exact BP h
 |n,.obj _ _,h=>by cases n<;>exact BP h
 |n,.exc _ _,h=>by cases n<;>exact BP h
 |n,.dic _,h=>by cases n<;>exact BP h
theorem ze:∀(n:Ag)(ds:Ac D),ds.all (Tm n)=Aa->OV ds ds=Aa
 |_,[],_=>rfl
 |n,d::ds,h=>by
  simp only[Ea,An]at h;simp only[R7,An];exact⟨sC n d h.1,ze n ds h.2⟩
end
theorem VD{ys:Ac V}(I:Z4 X pI Z H s)(h:zp X.K H a xs)(h':yr X.K H a ys):BR:=by
 obtain⟨its,r,⟨o,n,e,c,_,_⟩,_⟩:=I.list h;obtain⟨its',r',⟨o',e',c',_⟩,_⟩:=I.tuple h';rw[e]at e';cases e';rw[c]at c'
 injection c' with z
 exact absurd z (by decide)
mutual
theorem Ph{pI:Pn}{Z:L2.St}{H:Hp}{s:Aq}(I:Z4 X pI Z H s):∀(n:Ag)(d e:D){v:V},Tm n d=Aa->Tm n e=Aa->Y5 X.K CL H A0 v d->Y5 X.K CL H A0 v e->d=e
 |n,.H ds,e,v,hd,he,r,q=>by
  obtain⟨a,xs,rfl,_,s1,r1⟩:=r;cases e with
  |H es=>
   obtain⟨b,ys,e,_,s2,r2⟩:=q;cases e;have z:=I.tuple_inj s1 s2;subst z;cases n with
   |zero=>exact BP hd
   |succ n=>rw[xo I n ds es hd he r1 r2]
  |L es=>
   obtain⟨b,ys,e,_,s2,r2⟩:=q;cases e;exact(VD I s2 s1).elim
  |obj=>cases n<;>exact BP he
  |exc=>cases n<;>exact BP he
  |dic=>cases n<;>exact BP he
  |_=>cases q
 |n,.L ds,e,v,hd,he,r,q=>by
  obtain⟨a,xs,rfl,_,s1,r1⟩:=r;cases e with
  |L es=>
   obtain⟨b,ys,e,_,s2,r2⟩:=q;cases e;have z:=I.list_inj s1 s2;subst z;cases n with
   |zero=>exact BP hd
   |succ n=>rw[xo I n ds es hd he r1 r2]
  |H es=>
   obtain⟨b,ys,e,_,s2,r2⟩:=q;cases e;exact(VD I s1 s2).elim
  |obj=>cases n<;>exact BP he
  |exc=>cases n<;>exact BP he
  |dic=>cases n<;>exact BP he
  |_=>cases q
 |n,.obj _ _,e,v,hd,he,r,q=>by cases n<;>exact BP hd
 |n,.exc _ _,e,v,hd,he,r,q=>by cases n<;>exact BP hd
 |n,.dic _,e,v,hd,he,r,q=>by cases n<;>exact BP hd
 |n,.O,e,v,hd,he,r,q=>by
  cases r;cases e with
  |H=>obtain⟨_,_,z,_⟩:=q;cases z
  |L=>obtain⟨_,_,z,_⟩:=q;cases z
  |obj=>cases n<;>exact BP he
  |exc=>cases n<;>exact BP he
  |dic=>cases n<;>exact BP he
  |_=>cases q<;>rfl
 |n,.bl b,e,v,hd,he,r,q=>by
  cases r;cases e with
  |H=>obtain⟨_,_,z,_⟩:=q;cases z
  |L=>obtain⟨_,_,z,_⟩:=q;cases z
  |obj=>cases n<;>exact BP he
  |exc=>cases n<;>exact BP he
  |dic=>cases n<;>exact BP he
  |_=>cases q<;>rfl
 |n,.int b,e,v,hd,he,r,q=>by
  cases r;cases e with
  |H=>obtain⟨_,_,z,_⟩:=q;cases z
  |L=>obtain⟨_,_,z,_⟩:=q;cases z
  |obj=>cases n<;>exact BP he
  |exc=>cases n<;>exact BP he
  |dic=>cases n<;>exact BP he
  |_=>cases q<;>rfl
 |n,.str b,e,v,hd,he,r,q=>by
  cases r;cases e with
  |H=>obtain⟨_,_,z,_⟩:=q;cases z
  |L=>obtain⟨_,_,z,_⟩:=q;cases z
  |obj=>cases n<;>exact BP he
  |exc=>cases n<;>exact BP he
  |dic=>cases n<;>exact BP he
  |_=>cases q<;>rfl
theorem xo{pI:Pn}{Z:L2.St}{H:Hp}{s:Aq}(I:Z4 X pI Z H s):∀(n:Ag)(ds es:Ac D){xs:Ac V},ds.all (Tm n)=Aa->es.all (Tm n)=Aa->Z9 X.K CL H A0 xs ds->Z9 X.K CL H A0 xs es->ds=es
 |_,[],[],_,_,_,_,_=>rfl
 |n,d::ds,e::es,x::xs,hd,he,r,q=>by
  simp only[Ea,An]at hd he;rw[Ph I n d e hd.1 he.1 r.1 q.1,xo I n ds es hd.2 he.2 r.2 q.2]
 |_,[],_::_,[],_,_,_,q=>q.elim
 |_,[],_::_,_::_,_,_,r,_=>r.elim
 |_,_::_,[],[],_,_,r,_=>r.elim
 |_,_::_,[],_::_,_,_,_,q=>q.elim
 |_,_::_,_::_,[],_,_,r,_=>r.elim
end
theorem NQ:∀{ds es:Ac D},ds.length≠es.length->OV ds es=Ae
 |[],[],h=>absurd rfl h
 |[],_::_,_=>rfl
 |_::_,[],_=>rfl
 |d::ds,e::es,h=>by
  simp only[R7,NQ (ds:=ds) (es:=es) (by simpa using h),Ig]
theorem Vi(n:Ag)(f:Ag->Ai):(B5 (n+1)).all f=(f 0&&(B5 n).all λj=>f (j+1)):=by
 rw[FN,Ea,Hx];rfl
theorem NR:∀{ds es:Ac D},ds.length=es.length->OV ds es=(B5 ds.length).all λj=>Y0 (ds.getD j .O) (es.getD j .O)
 |[],[],_=>rfl
 |d::ds,e::es,h=>by
  rw[R7,NR (ds:=ds) (es:=es) (by simpa using h),BV,Vi]
  rfl
 |[],_::_,h=>by cases h
 |_::_,[],h=>by cases h
theorem Mb(r:Z9 K CL H A0 xs ds)(rv:Bv xs its)(h:j<its.length):∃ x,Y5 K CL H A0 x (ds.getD j .O)/\Cp x its[j]:=by
 have e1:=rv.length;have e2:=r.length;have hd:ds[j]?=Ab (ds.getD j .O):=by
  rw[B9,AU (by lia)];rfl
 obtain⟨x,hx,q⟩:=r.get hd;obtain⟨u,hu,ru⟩:=rv.get hx;refine⟨x,q,?_⟩;rw[AU h]at hu;cases hu;exact ru
theorem LX{ds:Ac D}(h:ds.all (Tm n)=Aa)(j:Ag):Tm n (ds.getD j .O)=Aa:=by
 rw[B9];cases e:ds[j]? with
 |none=>cases n<;>rfl
 |some d=>exact Cj.mp h d (Et e)
def DH(B:A9)(s:Aq)(u t:Aj)(k:Ai):Prop:=Mp B s u t k/\HJ B s u t k/\K8 B s u t (!k)
section
open SeqAt
theorem wt:DH B s .none .none Aa:=⟨RcAt.none_none,EqAt.same _,RcNeAt.none_none⟩
theorem ux(a b:Ai):DH B s (.bool a) (.bool b) (a==b):=⟨RcAt.bool_bool _ _,EqAt.bool_bool _ _,RcNeAt.bool_bool _ _⟩
theorem ww(b:Ai):DH B s .none (.bool b) Ae:=⟨RcAt.none_bool _,EqAt.none_bool _,RcNeAt.none_bool _⟩
theorem uu(b:Ai):DH B s (.bool b) .none Ae:=⟨RcAt.bool_none _,EqAt.bool_none _,RcNeAt.bool_none _⟩
theorem um(a:Ad)(t:Eu)(b:Ad)(u:Eu):DH B s (.int a t) (.int b u) (a==b):=⟨RcAt.int_int _ _ _ _,EqAt.int_int _ _ _ _,RcNeAt.int_int _ _ _ _⟩
theorem wg(a:Al)(t:Eu)(b:Al)(u:Eu):DH B s (.str a t) (.str b u) (a==b):=⟨RcAt.str_str _ _ _ _,EqAt.str_str _ _ _ _,RcNeAt.str_str _ _ _ _⟩
theorem uj(a:Ad)(t:Eu)(b:Al)(u:Eu):DH B s (.int a t) (.str b u) Ae:=⟨RcAt.int_str _ _ _ _,EqAt.int_str _ _ _ _,RcNeAt.int_str _ _ _ _⟩
theorem wm(a:Al)(t:Eu)(b:Ad)(u:Eu):DH B s (.str a t) (.int b u) Ae:=⟨RcAt.str_int _ _ _ _,EqAt.str_int _ _ _ _,RcNeAt.str_int _ _ _ _⟩
theorem wv(b:Ad)(u:Eu):DH B s .none (.int b u) Ae:=⟨RcAt.none_int _ _,EqAt.none_int _ _,RcNeAt.none_int _ _⟩
theorem uk(b:Ad)(u:Eu):DH B s (.int b u) .none Ae:=⟨RcAt.int_none _ _,EqAt.int_none _ _,RcNeAt.int_none _ _⟩
theorem wq(b:Al)(u:Eu):DH B s .none (.str b u) Ae:=⟨RcAt.none_str _ _,EqAt.none_str _ _,RcNeAt.none_str _ _⟩
theorem wj(b:Al)(u:Eu):DH B s (.str b u) .none Ae:=⟨RcAt.str_none _ _,EqAt.str_none _ _,RcNeAt.str_none _ _⟩
theorem uw(a:Ai)(b:Ad)(u:Eu):DH B s (.bool a) (.int b u) (Ĩ a==b):=⟨RcAt.bool_int _ _ _,EqAt.bool_int _ _ _,RcNeAt.bool_int _ _ _⟩
theorem uo(a:Ai)(b:Ad)(u:Eu):DH B s (.int b u) (.bool a) (b==Ĩ a):=⟨RcAt.int_bool _ _ _,EqAt.int_bool _ _ _,RcNeAt.int_bool _ _ _⟩
theorem ut(a:Ai)(b:Al)(u:Eu):DH B s (.bool a) (.str b u) Ae:=⟨RcAt.bool_str _ _ _,EqAt.bool_str _ _ _,RcNeAt.bool_str _ _ _⟩
theorem wn(a:Ai)(b:Al)(u:Eu):DH B s (.str b u) (.bool a) Ae:=⟨RcAt.str_bool _ _ _,EqAt.str_bool _ _ _,RcNeAt.str_bool _ _ _⟩
theorem x8(h:s.heap.IsList l items)(hu:B.units<Cf):DH B s (.ref l) .none Ae:=⟨RcAt.list_none h hu,EqAt.list_none h hu,RcNeAt.list_none h hu⟩
theorem wu(h:s.heap.IsList l items)(hu:B.units<Cf):DH B s .none (.ref l) Ae:=⟨RcAt.none_list h hu,EqAt.none_list h hu,RcNeAt.none_list h hu⟩
theorem xa(b:Ai)(h:s.heap.IsList l items)(hu:B.units<Cf):DH B s (.ref l) (.bool b) Ae:=⟨RcAt.list_bool b h hu,EqAt.list_bool b h hu,RcNeAt.list_bool b h hu⟩
theorem uv(b:Ai)(h:s.heap.IsList l items)(hu:B.units<Cf):DH B s (.bool b) (.ref l) Ae:=⟨RcAt.bool_list b h hu,EqAt.bool_list b h hu,RcNeAt.bool_list b h hu⟩
theorem x9(b:Ad)(u:Eu)(h:s.heap.IsList l items)(hu:B.units<Cf):DH B s (.ref l) (.int b u) Ae:=⟨RcAt.list_int b u h hu,EqAt.list_int b u h hu,RcNeAt.list_int b u h hu⟩
theorem ul(b:Ad)(u:Eu)(h:s.heap.IsList l items)(hu:B.units<Cf):DH B s (.int b u) (.ref l) Ae:=⟨RcAt.int_list b u h hu,EqAt.int_list b u h hu,RcNeAt.int_list b u h hu⟩
theorem x6(b:Al)(u:Eu)(h:s.heap.IsList l items)(hu:B.units<Cf):DH B s (.ref l) (.str b u) Ae:=⟨RcAt.list_str b u h hu,EqAt.list_str b u h hu,RcNeAt.list_str b u h hu⟩
theorem wk(b:Al)(u:Eu)(h:s.heap.IsList l items)(hu:B.units<Cf):DH B s (.str b u) (.ref l) Ae:=⟨RcAt.str_list b u h hu,EqAt.str_list b u h hu,RcNeAt.str_list b u h hu⟩
theorem w9(h:s.heap.IsTuple l items)(hu:B.units<Cf):DH B s (.ref l) .none Ae:=⟨RcAt.tuple_none h hu,EqAt.tuple_none h hu,RcNeAt.tuple_none h hu⟩
theorem wo(h:s.heap.IsTuple l items)(hu:B.units<Cf):DH B s .none (.ref l) Ae:=⟨RcAt.none_tuple h hu,EqAt.none_tuple h hu,RcNeAt.none_tuple h hu⟩
theorem wc(b:Ai)(h:s.heap.IsTuple l items)(hu:B.units<Cf):DH B s (.ref l) (.bool b) Ae:=⟨RcAt.tuple_bool b h hu,EqAt.tuple_bool b h hu,RcNeAt.tuple_bool b h hu⟩
theorem ur(b:Ai)(h:s.heap.IsTuple l items)(hu:B.units<Cf):DH B s (.bool b) (.ref l) Ae:=⟨RcAt.bool_tuple b h hu,EqAt.bool_tuple b h hu,RcNeAt.bool_tuple b h hu⟩
theorem wb(b:Ad)(u:Eu)(h:s.heap.IsTuple l items)(hu:B.units<Cf):DH B s (.ref l) (.int b u) Ae:=⟨RcAt.tuple_int b u h hu,EqAt.tuple_int b u h hu,RcNeAt.tuple_int b u h hu⟩
theorem ui(b:Ad)(u:Eu)(h:s.heap.IsTuple l items)(hu:B.units<Cf):DH B s (.int b u) (.ref l) Ae:=⟨RcAt.int_tuple b u h hu,EqAt.int_tuple b u h hu,RcNeAt.int_tuple b u h hu⟩
theorem w6(b:Al)(u:Eu)(h:s.heap.IsTuple l items)(hu:B.units<Cf):DH B s (.ref l) (.str b u) Ae:=⟨RcAt.tuple_str b u h hu,EqAt.tuple_str b u h hu,RcNeAt.tuple_str b u h hu⟩
theorem wf(b:Al)(u:Eu)(h:s.heap.IsTuple l items)(hu:B.units<Cf):DH B s (.str b u) (.ref l) Ae:=⟨RcAt.str_tuple b u h hu,EqAt.str_tuple b u h hu,RcNeAt.str_tuple b u h hu⟩
theorem wy(h:s.heap.IsList l items)(h2:s.heap.IsTuple b yj)(hu:B.units<Cf):DH B s (.ref l) (.ref b) Ae:=⟨RcAt.list_tuple h h2 hu,EqAt.list_tuple h h2 hu,RcNeAt.list_tuple h h2 hu⟩
theorem wa(h:s.heap.IsTuple l items)(h2:s.heap.IsList b yj)(hu:B.units<Cf):DH B s (.ref l) (.ref b) Ae:=⟨RcAt.tuple_list h h2 hu,EqAt.tuple_list h h2 hu,RcNeAt.tuple_list h h2 hu⟩
end
end
section
variable{CL:ClA}
theorem Ls(x:PlainL h a its):h.IsList a its:=let ⟨o,n,e,c,_,d⟩:=x;⟨o,e,c,n,d⟩
def iU(X:Cx)(CL:ClA)(H:Hp)(s:Aq)(d:D)(u:Aj):Prop:=match d with
  |.O=>u=.none
  |.bl b=>u=.bool b
  |.int i=>∃ t,u=.int i t
  |.str x=>∃ t,u=.str x t
  |.H ds=>∃ a xs its,u=.ref a/\Z9 X.K CL H A0 xs ds/\Bv xs its/\s.heap.IsTuple a its.toArray
  |.L ds=>∃ a xs its,u=.ref a/\Z9 X.K CL H A0 xs ds/\Bv xs its/\s.heap.IsList a its.toArray
  |_=>BR
theorem Xp(I:Z4 X pI Z H s)(hd:Tm n d=Aa)(r:Y5 X.K CL H A0 v d)(q:Cp v u):iU X CL H s d u:=by
 cases d with
 |O=>cases r;exact q
 |bl b=>cases r;exact q
 |int b=>cases r;exact q
 |str b=>cases r;exact q
 |H ds=>
  obtain⟨a,xs,rfl,_,sq,r⟩:=r;obtain⟨its,rv,p,_⟩:=I.tuple sq;cases q;exact⟨a,xs,its,rfl,r,rv,p⟩
 |L ds=>
  obtain⟨a,xs,rfl,_,sq,r⟩:=r;obtain⟨its,rv,p,_⟩:=I.list sq;cases q;exact⟨a,xs,its,rfl,r,rv,Ls p⟩
 |obj=>cases n<;>exact BP hd
 |exc=>cases n<;>exact BP hd
 |dic=>cases n<;>exact BP hd
theorem vZ{its:Ac Aj}{es:Ac D}(hl:s.heap.IsList l its.toArray)(hb:s.heap.IsList b zx.toArray)(e1:its.length=ds.length)(e2:zx.length=es.length)(hu:B.units<Cf)(hs:l=b->OV ds es=Aa)(he:∀ j (h1:j<its.length) (h2:j<zx.length),HJ B.in1 s its[j] zx[j] (Y0 (ds.getD j .O) (es.getD j .O))):DH B s (.ref l) (.ref b) (OV ds es):=by
 have rc:Mp B s (.ref l) (.ref b) (OV ds es):=by
  by_cases hz:its.length=zx.length
  .have q:=SeqAt.RcAt.lists (e:=λj=>Y0 (ds.getD j .O) (es.getD j .O)) hl hb (by simpa using hz) hu (λj h1 h2=>by simpa using he j (by simpa using h1) (by simpa using h2))
   rw[NR (by lia)]
   have e:its.toArray.size=ds.length:=by simpa using e1
   rw[e]at q;exact q
  .rw[NQ (by lia)]
   exact SeqAt.RcAt.lists_lengths hl hb (by simpa using hz) hu
 have ne:K8 B s (.ref l) (.ref b) (!OV ds es):=by
  by_cases hz:its.length=zx.length
  .have q:=SeqAt.RcNeAt.lists (e:=λj=>Y0 (ds.getD j .O) (es.getD j .O)) hl hb (by simpa using hz) hu (λj h1 h2=>by simpa using he j (by simpa using h1) (by simpa using h2))
   rw[NR (by lia)]
   have e:its.toArray.size=ds.length:=by simpa using e1
   rw[e]at q;exact q
  .rw[NQ (by lia)]
   exact SeqAt.RcNeAt.lists_lengths hl hb (by simpa using hz) hu
 refine⟨rc,?_,ne⟩;by_cases hlb:l=b
 .rw[hs hlb,hlb];exact dY _
 .exact dX hlb rc
theorem vY{its:Ac Aj}{es:Ac D}(hl:s.heap.IsTuple l its.toArray)(hb:s.heap.IsTuple b zx.toArray)(e1:its.length=ds.length)(e2:zx.length=es.length)(hu:B.units<Cf)(hs:l=b->OV ds es=Aa)(he:∀ j (h1:j<its.length) (h2:j<zx.length),HJ B.in1 s its[j] zx[j] (Y0 (ds.getD j .O) (es.getD j .O))):DH B s (.ref l) (.ref b) (OV ds es):=by
 have rc:Mp B s (.ref l) (.ref b) (OV ds es):=by
  have q:=SeqAt.RcAt.tuples (e:=λj=>Y0 (ds.getD j .O) (es.getD j .O)) hl hb hu (λj h1 h2=>by simpa using he j (by simpa using h1) (by simpa using h2))
  have e:its.toArray.size=ds.length:=by simpa using e1
  have e':zx.toArray.size=es.length:=by simpa using e2
  rw[e,e']at q;by_cases hz:ds.length=es.length
  .rw[NR hz];rw[hz,bO,Gi,II]at q;rw[hz];exact q
  .rw[NQ hz];rw[D4.mpr hz,Ig]at q;exact q
 have ne:K8 B s (.ref l) (.ref b) (!OV ds es):=by
  have q:=SeqAt.RcNeAt.tuples (e:=λj=>Y0 (ds.getD j .O) (es.getD j .O)) hl hb hu (λj h1 h2=>by simpa using he j (by simpa using h1) (by simpa using h2))
  have e:its.toArray.size=ds.length:=by simpa using e1
  have e':zx.toArray.size=es.length:=by simpa using e2
  rw[e,e']at q;by_cases hz:ds.length=es.length
  .rw[NR hz];rw[hz,bO,Gi,II]at q;rw[hz];exact q
  .rw[NQ hz];rw[D4.mpr hz,Ig]at q;exact q
 refine⟨rc,?_,ne⟩;by_cases hlb:l=b
 .rw[hs hlb,hlb];exact dY _
 .exact dX hlb rc
theorem N0{pI:Pn}{Z:L2.St}{H:Hp}{s:Aq}(I:Z4 X pI Z H s):∀(n:Ag)(d e:D)(v w':V)(u t:Aj)(B:A9),Tm n d=Aa->Tm n e=Aa->Y5 X.K CL H A0 v d->Y5 X.K CL H A0 w' e->Cp v u->Cp w' t->B.units+n<Cf->DH B s u t (Y0 d e)
  |n,d,e,v,w',u,t,B,hd,he,r,q,rv,xh,hu=>by
    have sn:B.units<Cf:=by lia
    have sd:=Xp I hd r rv;have se:=Xp I he q xh
    match d,e,sd,se with
    |.O,.O,s1,s2=>cases s1;cases s2;exact wt
    |.O,.bl b,s1,s2=>cases s1;cases s2;exact ww b
    |.O,.int b,s1,s2=>cases s1;obtain⟨_,rfl⟩:=s2;exact wv b _
    |.O,.str b,s1,s2=>cases s1;obtain⟨_,rfl⟩:=s2;exact wq b _
    |.O,.H es,s1,s2=>cases s1;obtain⟨_,_,_,rfl,_,_,p⟩:=s2;exact wo p sn
    |.O,.L es,s1,s2=>cases s1;obtain⟨_,_,_,rfl,_,_,p⟩:=s2;exact wu p sn
    |.bl a,.O,s1,s2=>cases s1;cases s2;exact uu a
    |.bl a,.bl b,s1,s2=>cases s1;cases s2;exact ux a b
    |.bl a,.int b,s1,s2=>cases s1;obtain⟨_,rfl⟩:=s2;exact uw a b _
    |.bl a,.str b,s1,s2=>cases s1;obtain⟨_,rfl⟩:=s2;exact ut a b _
    |.bl a,.H es,s1,s2=>cases s1;obtain⟨_,_,_,rfl,_,_,p⟩:=s2;exact ur a p sn
    |.bl a,.L es,s1,s2=>cases s1;obtain⟨_,_,_,rfl,_,_,p⟩:=s2;exact uv a p sn
    |.int a,.O,s1,s2=>obtain⟨_,rfl⟩:=s1;cases s2;exact uk a _
    |.int a,.bl b,s1,s2=>obtain⟨_,rfl⟩:=s1;cases s2;exact uo b a _
    |.int a,.int b,s1,s2=>obtain⟨_,rfl⟩:=s1;obtain⟨_,rfl⟩:=s2;exact um a _ b _
    |.int a,.str b,s1,s2=>obtain⟨_,rfl⟩:=s1;obtain⟨_,rfl⟩:=s2;exact uj a _ b _
    |.int a,.H es,s1,s2=>obtain⟨_,rfl⟩:=s1;obtain⟨_,_,_,rfl,_,_,p⟩:=s2;exact ui a _ p sn
    |.int a,.L es,s1,s2=>obtain⟨_,rfl⟩:=s1;obtain⟨_,_,_,rfl,_,_,p⟩:=s2;exact ul a _ p sn
    |.str a,.O,s1,s2=>obtain⟨_,rfl⟩:=s1;cases s2;exact wj a _
    |.str a,.bl b,s1,s2=>obtain⟨_,rfl⟩:=s1;cases s2;exact wn b a _
    |.str a,.int b,s1,s2=>obtain⟨_,rfl⟩:=s1;obtain⟨_,rfl⟩:=s2;exact wm a _ b _
    |.str a,.str b,s1,s2=>obtain⟨_,rfl⟩:=s1;obtain⟨_,rfl⟩:=s2;exact wg a _ b _
    |.str a,.H es,s1,s2=>obtain⟨_,rfl⟩:=s1;obtain⟨_,_,_,rfl,_,_,p⟩:=s2;exact wf a _ p sn
    |.str a,.L es,s1,s2=>obtain⟨_,rfl⟩:=s1;obtain⟨_,_,_,rfl,_,_,p⟩:=s2;exact wk a _ p sn
    |.H ds,.O,s1,s2=>cases s2;obtain⟨_,_,_,rfl,_,_,p⟩:=s1;exact w9 p sn
    |.H ds,.bl b,s1,s2=>cases s2;obtain⟨_,_,_,rfl,_,_,p⟩:=s1;exact wc b p sn
    |.H ds,.int b,s1,s2=>obtain⟨_,rfl⟩:=s2;obtain⟨_,_,_,rfl,_,_,p⟩:=s1;exact wb b _ p sn
    |.H ds,.str b,s1,s2=>obtain⟨_,rfl⟩:=s2;obtain⟨_,_,_,rfl,_,_,p⟩:=s1;exact w6 b _ p sn
    |.H ds,.L es,s1,s2=>obtain⟨_,_,_,rfl,_,_,p⟩:=s1;obtain⟨_,_,_,rfl,_,_,p2⟩:=s2;exact wa p p2 sn
    |.L ds,.O,s1,s2=>cases s2;obtain⟨_,_,_,rfl,_,_,p⟩:=s1;exact x8 p sn
    |.L ds,.bl b,s1,s2=>cases s2;obtain⟨_,_,_,rfl,_,_,p⟩:=s1;exact xa b p sn
    |.L ds,.int b,s1,s2=>obtain⟨_,rfl⟩:=s2;obtain⟨_,_,_,rfl,_,_,p⟩:=s1;exact x9 b _ p sn
    |.L ds,.str b,s1,s2=>obtain⟨_,rfl⟩:=s2;obtain⟨_,_,_,rfl,_,_,p⟩:=s1;exact x6 b _ p sn
    |.L ds,.H es,s1,s2=>obtain⟨_,_,_,rfl,_,_,p⟩:=s1;obtain⟨_,_,_,rfl,_,_,p2⟩:=s2;exact wy p p2 sn
    |.H ds,.H es,s1,s2=>
      match n,hd,he,hu with
      |n+1,hd,he,hu=>
        obtain⟨a,xs,its,rfl,r1,v1,p1⟩:=s1;obtain⟨b,ys,zx,rfl,r2,v2,p2⟩:=s2;have l1:=v1.length;have l2:=r1.length;have l3:=v2.length;have l4:=r2.length
        refine vY p1 p2 (by lia) (by lia) sn (λÑ=>?_) λj h1 h2=>?_
        · have e1:v=.ref a:=Cp.inj rv rfl;have e2:w'=.ref b:=Cp.inj xh rfl;subst e1 e2 Ñ;have z:=Ph I (n+1) _ _ hd he r q
          injection z with z
          rw[z];exact ze n es he
        · obtain⟨x,rx,qx⟩:=Mb r1 v1 h1;obtain⟨y,ry,qy⟩:=Mb r2 v2 h2;exact(N0 I n _ _ x y _ _ B.in1 (LX hd j) (LX he j) rx ry qx qy (by show B.units+1+n<Cf;lia)).2.1
    |.L ds,.L es,s1,s2=>
      match n,hd,he,hu with
      |n+1,hd,he,hu=>
        obtain⟨a,xs,its,rfl,r1,v1,p1⟩:=s1;obtain⟨b,ys,zx,rfl,r2,v2,p2⟩:=s2;have l1:=v1.length;have l2:=r1.length;have l3:=v2.length;have l4:=r2.length
        refine vZ p1 p2 (by lia) (by lia) sn (λÑ=>?_) λj h1 h2=>?_
        · have e1:v=.ref a:=Cp.inj rv rfl;have e2:w'=.ref b:=Cp.inj xh rfl;subst e1 e2 Ñ;have z:=Ph I (n+1) _ _ hd he r q
          injection z with z
          rw[z];exact ze n es he
        · obtain⟨x,rx,qx⟩:=Mb r1 v1 h1;obtain⟨y,ry,qy⟩:=Mb r2 v2 h2;exact(N0 I n _ _ x y _ _ B.in1 (LX hd j) (LX he j) rx ry qx qy (by show B.units+1+n<Cf;lia)).2.1
    |.obj _ _,_,s1,_=>exact s1.elim
    |.exc _ _,_,s1,_=>exact s1.elim
    |.dic _,_,s1,_=>exact s1.elim
    |_,.obj _ _,_,s2=>exact s2.elim
    |_,.exc _ _,_,s2=>exact s2.elim
    |_,.dic _,_,s2=>exact s2.elim
end
theorem PQ(I:Z4 X pI Z H s)(B:A9)(hd:Tm n d=Aa)(hs:ds.all (Tm n)=Aa)(r:Z9 X.K CL H A0 xs ds)(rv:Bv xs its)(q:Y5 X.K CL H A0 v d)(qv:Cp v u)(hu:B.units+n<Cf):∃ e:Aj->Ai,(∀ y,y∈its.toArray->HJ B s y u (e y))/\its.toArray.any e=ds.any λy=>Y0 y d:=by
 have l1:=rv.length;have l2:=r.length
 have key:∀ y,y∈its->∃ k:Ai,HJ B s y u k/\∀ j (h:j<its.length),its[j]=y->Y0 (ds.getD j .O) d=k:=λy hy=>by
  obtain⟨j,hj,rfl⟩:=Ft hy;obtain⟨x,rx,qx⟩:=Mb r rv hj;refine⟨Y0 (ds.getD j .O) d,(N0 I n _ _ x v _ _ B (LX hs j) hd rx q qx qv hu).2.1,λj' ζ e=>?_⟩
  obtain⟨x',ŗ,qx'⟩:=Mb r rv ζ;rw[e]at qx';have z:=Cp.inj qx qx';subst z;rw[Ph I n _ _ (LX hs j') (LX hs j) ŗ rx]
 have ϒ:∀ y,∃ k:Ai,y∈its->HJ B s y u k/\∀ j (h:j<its.length),its[j]=y->Y0 (ds.getD j .O) d=k:=λy=>by
  by_cases hy:y∈its
  .obtain⟨k,hk⟩:=key y hy;exact⟨k,λ_=>hk⟩
  .exact⟨Aa,λh=>absurd h hy⟩
 refine⟨λy=>Z_6 (ϒ y),λy hy=>(FW (ϒ y) (by simpa using hy)).1,?_⟩
 rw[ET];simp only[List.any_toArray,aL];constructor
 .rintro⟨y,hy,hk⟩;obtain⟨j,hj,rfl⟩:=Ft hy;have z:=(FW (ϒ its[j]) hy).2 j hj rfl;rw[hk]at z;refine⟨ds.getD j .O,?_,z⟩;rw[B9,AU (by omega)]
  exact Eb _
 .rintro⟨y,hy,hk⟩;obtain⟨j,hj,rfl⟩:=Ft hy;have ζ:j<its.length:=by omega
  refine⟨its[j],Eb _,?_⟩;have z:=(FW (ϒ its[j]) (Eb _)).2 j ζ rfl;rw[<-z,B9,AU hj];exact hk
theorem O7{g:Ad->Ad->Ai}(ho:yq X (Du op) (ϗ λi j=>.bl (g i j)))(hg:∀ dx dy,(∃ i j,dx=.int i/\dy=.int j/\Dr op dx dy=.ok (.bl (g i j)))\/Dr op dx dy=.bad):Î X CL W (Du op) (Dr op):=by
 intro A pI s Z H x y v u Q I rx ry ⟨hA,dx,dy,hx,hy,p⟩;rcases hg dx dy with ⟨i,j,rfl,rfl,e⟩|e
 .have ex:=hx.int_of;have ey:=hy.int_of
  subst ex ey;rw[e]at p;exact ho pI s Z H _ _ v u Q I rx ry ⟨i,j,rfl,rfl,p _ H (AV.refl H) rfl⟩
 .rw[e]at p;exact p.elim
theorem Y_2{X:Cx}{x:V}(h:DK X.K CL H A x d)(hd:d≠.O):x≠.O:=by
 rintro rfl;have h:=h.plain;cases d with
 |O=>exact hd rfl
 |H=>obtain⟨_,_,e,_⟩:=h;cases e
 |L=>obtain⟨_,_,e,_⟩:=h;cases e
 |obj=>obtain⟨_,_,_,_,e,_⟩:=h;cases e
 |exc=>obtain⟨_,_,_,e,_⟩:=h;cases e
 |dic=>exact h.elim
 |_=>cases h
theorem MN(hu:X.A.units+64<Cf)(op:El):Î X CL W (Du op) (Dr op):=by
 cases op with
 |Eq=>
  intro A pI s Z H x y v u Q I rx ry ⟨hA,dx,dy,hx,hy,p⟩;rw[iK]at p;split at p
  .rename_i h;simp only[An]at h;exact(N0 I 5 dx dy x y v u X.A h.1 h.2 hx.plain hy.plain rx ry (by lia)).1 X.prog X.w X.xe _ ⟨.bl _,H,I,rfl,p _ H (AV.refl H) rfl⟩
  .exact p.elim
 |NotEq=>
  intro A pI s Z H x y v u Q I rx ry ⟨hA,dx,dy,hx,hy,p⟩;rw[gP]at p;split at p
  .rename_i h;simp only[An]at h;exact(N0 I 5 dx dy x y v u X.A h.1 h.2 hx.plain hy.plain rx ry (by lia)).2.2 X.prog X.w X.xe _ ⟨.bl _,H,I,rfl,p _ H (AV.refl H) rfl⟩
  .exact p.elim
 |Lt=>
  refine O7 gI λdx dy=>?_
  cases dx with
  |int i=>
   cases dy with
   |int j=>exact .inl ⟨i,j,rfl,rfl,rfl⟩
   |_=>exact .inr rfl
  |_=>exact .inr rfl
 |LtE=>
  refine O7 gJ λdx dy=>?_
  cases dx with
  |int i=>
   cases dy with
   |int j=>exact .inl ⟨i,j,rfl,rfl,rfl⟩
   |_=>exact .inr rfl
  |_=>exact .inr rfl
 |Gt=>
  refine O7 gK λdx dy=>?_
  cases dx with
  |int i=>
   cases dy with
   |int j=>exact .inl ⟨i,j,rfl,rfl,rfl⟩
   |_=>exact .inr rfl
  |_=>exact .inr rfl
 |GtE=>
  refine O7 gL λdx dy=>?_
  cases dx with
  |int i=>
   cases dy with
   |int j=>exact .inl ⟨i,j,rfl,rfl,rfl⟩
   |_=>exact .inr rfl
  |_=>exact .inr rfl
 |In=>
  intro A pI s Z H x y v u Q I rx ry ⟨hA,dx,dy,hx,hy,p⟩;cases dy with
  |L es=>
   rw[jC]at p;split at p
   .rename_i h;simp only[An]at h;obtain⟨a,xs,e,_,sq,r⟩:=hy.plain;subst e;cases ry;obtain⟨its,rv,pl,_⟩:=I.list sq;obtain⟨e,he,ha⟩:=PQ I (n:=5) X.A.in1 h.1 h.2 r rv hx.plain rx (by show X.A.units+1+5<Cf;lia)
    refine SeqAt.in_listAt e (Ls pl) he ?_;rw[ha];exact⟨.bl _,H,I,rfl,p _ H (AV.refl H) rfl⟩
   .exact p.elim
  |H es=>
   rw[jB]at p;split at p
   .rename_i h;simp only[An]at h;obtain⟨a,xs,e,_,sq,r⟩:=hy.plain;subst e;cases ry;obtain⟨its,rv,pl,_⟩:=I.tuple sq;obtain⟨e,he,ha⟩:=PQ I (n:=5) X.A.in1 h.1 h.2 r rv hx.plain rx (by show X.A.units+1+5<Cf;lia)
    refine SeqAt.in_tupleAt e pl he ?_;rw[ha];exact⟨.bl _,H,I,rfl,p _ H (AV.refl H) rfl⟩
   .exact p.elim
  |dic kvs=>exact hy.plain.elim
  |_=>exact p.elim
 |NotIn=>
  intro A pI s Z H x y v u Q I rx ry ⟨hA,dx,dy,hx,hy,p⟩;cases dy with
  |L es=>
   rw[gN]at p;split at p
   .rename_i h;simp only[An]at h;obtain⟨a,xs,e,_,sq,r⟩:=hy.plain;subst e;cases ry;obtain⟨its,rv,pl,_⟩:=I.list sq;obtain⟨e,he,ha⟩:=PQ I (n:=5) X.A.in1 h.1 h.2 r rv hx.plain rx (by show X.A.units+1+5<Cf;lia)
    refine SeqAt.notIn_listAt e (Ls pl) he ?_;rw[ha];exact⟨.bl _,H,I,rfl,p _ H (AV.refl H) rfl⟩
   .exact p.elim
  |H es=>
   rw[gM]at p;split at p
   .rename_i h;simp only[An]at h;obtain⟨a,xs,e,_,sq,r⟩:=hy.plain;subst e;cases ry;obtain⟨its,rv,pl,_⟩:=I.tuple sq;obtain⟨e,he,ha⟩:=PQ I (n:=5) X.A.in1 h.1 h.2 r rv hx.plain rx (by show X.A.units+1+5<Cf;lia)
    refine SeqAt.notIn_tupleAt e pl he ?_;rw[ha];exact⟨.bl _,H,I,rfl,p _ H (AV.refl H) rfl⟩
   .exact p.elim
  |_=>exact p.elim
 |Is=>
  intro A pI s Z H x y v u Q I rx ry ⟨hA,dx,dy,hx,hy,p⟩;cases dy with
  |O=>
   have ey:=hy.non_of;subst ey;refine m7 pI s Z H _ _ v u Q I rx ry ⟨rfl,?_⟩;cases dx with
   |O=>
    have ex:=hx.non_of;subst ex;exact p _ H (AV.refl H) rfl
   |exc=>exact p.elim
   |dic=>exact p.elim
   |_=>rw[CK (Y_2 hx (by simp))];exact p _ H (AV.refl H) rfl
  |bl b=>
   cases dx with
   |bl a=>
    have ey:=hy.bl_of;have ex:=hx.bl_of;subst ex ey;cases rx;cases ry;refine wpAny_is_plain rfl ⟨.bl (a==b),H,I,?_,p _ H (AV.refl H) rfl⟩;cases a<;>cases b<;>rfl
   |_=>exact p.elim
  |_=>cases dx<;>exact p.elim
 |IsNot=>
  intro A pI s Z H x y v u Q I rx ry ⟨hA,dx,dy,hx,hy,p⟩;cases dy with
  |O=>
   have ey:=hy.non_of;subst ey;refine xP pI s Z H _ _ v u Q I rx ry ⟨rfl,?_⟩;cases dx with
   |O=>
    have ex:=hx.non_of;subst ex;exact p _ H (AV.refl H) rfl
   |exc=>exact p.elim
   |dic=>exact p.elim
   |_=>rw[CK (Y_2 hx (by simp))];exact p _ H (AV.refl H) rfl
  |bl b=>
   cases dx with
   |bl a=>
    have ey:=hy.bl_of;have ex:=hx.bl_of;subst ex ey;cases rx;cases ry;refine wpAny_isNot_plain rfl ⟨.bl (!(a==b)),H,I,?_,p _ H (AV.refl H) rfl⟩;cases a<;>cases b<;>rfl
   |_=>exact p.elim
  |_=>cases dx<;>exact p.elim
section
variable{a b:Am}
theorem Ed.bind(h:Ed W H (r.bind f) Q)(k:∀ d v H',r=.ok d->AV H H'->Rp H' v d->Ed W H' (f d) Q->Q' v H'):BO Rp W H r Q':=by
 cases r with
 |ok d=>exact λv H2 s2 q=>k d v H2 rfl s2 q (Ed.same s2 h)
 |exn x=>exact h
 |bad=>exact h
theorem Ed.bindB{r:R Ai}(h:Ed W H (r.bind f) Q)(k:∀ b H',r=.ok b->AV H H'->Ed W H' (f b) Q->Q' b H'):Ed W H r Q':=by
 cases r with
 |ok d=>exact λH2 s2=>k d H2 rfl s2 (Ed.same s2 h)
 |exn x=>exact h
 |bad=>exact h
theorem IU.bind{r:R (Ac D)}(h:BO Rq W H (r.bind f) Q)(k:∀ d v H',r=.ok d->AV H H'->Rp H' v d->BO Rq W H' (f d) Q->Q' v H'):IU Rp W H r Q':=by
 cases r with
 |ok d=>exact λv H2 s2 q=>k d v H2 rfl s2 q (BO.same s2 h)
 |exn x=>exact h
 |bad=>exact h
theorem iq(ha:ST X CL W a fa):SE X CL W (.UnaryOp .USub a pos) (λY=>(fa Y).bind λx=>Ġ .USub x):=λA=>PE.weak (ua bh (ha A)) λZ H Q ⟨hA,Y,g,p⟩=>⟨hA,Y,g,BO.bind p λd v H1 _ s1 r1 p1=>by
 cases d with
 |int i=>
  have e:=r1.int_of;subst e;exact⟨i,rfl,p1 _ H1 (AV.refl H1) rfl⟩
 | _=>exact p1.elim⟩
theorem OY(h:BO Rq W H ((E1 d).bind f) Q):∃ c,d=.bl c/\BO Rq W H (f c) Q:=by
 cases d with
 |bl c=>exact⟨c,rfl,h⟩
 |_=>exact h.elim
theorem ii(ha:ST X CL W a fa):SE X CL W (.UnaryOp .Not a pos) (λY=>(fa Y).bind λx=>(E1 x).bind λb=>.ok (.bl (!b))):=λA=>PE.weak (kn (ha A)) λZ H Q ⟨hA,Y,g,p⟩=>⟨hA,Y,g,BO.bind p λd v H1 _ s1 r1 p1=>by
 obtain⟨c,rfl,p2⟩:=OY p1;exact⟨c,r1.bl_of,p2 _ H1 (AV.refl H1) rfl⟩⟩
theorem YE(ha:SE X CL W a fa):SE X CL W (.BoolOp op [a] pos) fa:=λA=>kj (ha A)
theorem d8{rest:Ac Am}(ha:SE X CL W a fa)(hb:SE X CL W (.BoolOp .And (b::rest) pos) fb):SE X CL W (.BoolOp .And (a::b::rest) pos) (λY=>(fa Y).bind λx=>(E1 x).bind λc=>if c=Aa then fb Y else .ok (.bl Ae)):=
 λA=>PE.weak (lg (ha A) (hb A)) λZ H Q ⟨hA,Y,g,p⟩=>⟨hA,Y,g,BO.bind p λd v H1 _ s1 r1 p1=>by
  obtain⟨c,rfl,p2⟩:=OY p1;refine⟨c,r1,?_⟩;cases c with
  |true=>exact⟨hA.same s1,Y,g.same s1,p2⟩
  | false=>exact p2 _ H1 (AV.refl H1) rfl⟩
theorem vw{rest:Ac Am}(ha:SE X CL W a fa)(hb:SE X CL W (.BoolOp .Or (b::rest) pos) fb):SE X CL W (.BoolOp .Or (a::b::rest) pos) (λY=>(fa Y).bind λx=>(E1 x).bind λc=>if c=Aa then .ok (.bl Aa) else fb Y):=
 λA=>PE.weak (uc (ha A) (hb A)) λZ H Q ⟨hA,Y,g,p⟩=>⟨hA,Y,g,BO.bind p λd v H1 _ s1 r1 p1=>by
  obtain⟨c,rfl,p2⟩:=OY p1;refine⟨c,r1,?_⟩;cases c with
  |false=>exact⟨hA.same s1,Y,g.same s1,p2⟩
  | true=>exact p2 _ H1 (AV.refl H1) rfl⟩
theorem qU(hu:X.A.units+64<Cf)(ha:ST X CL W a fa)(hb:ST X CL W b fb)(hc:ST X CL W c fc)(hm:Le [op,op'] [b,c]=Ae):SE X CL W (.Compare a [op,op'] [b,c] pos) (λY=>(fa Y).bind λx=>(fb Y).bind λy=>(Dr op x y).bind λz=>(E1 z).bind λk=>if k=Aa then (fc Y).bind λu=>Dr op' y u else .ok (.bl Ae)):=
 λA=>PE.weak (rN (MN hu op A) (MN hu op' A) (ha A) (hb A) (hc A) hm) λZ H Q ⟨hA,Y,g,p⟩=>⟨hA,Y,g,BO.bind p λdx x H1 _ s1 r1 p1=>⟨hA.same s1,Y,g.same s1,BO.bind p1 λdy y H2 _ s2 r2 p2=>
  ⟨(hA.same s1).same s2,dx,dy,r1.same s2,r2,BO.bind p2 λdz z H3 _ s3 r3 p3=>by
   obtain⟨k,rfl,p4⟩:=OY p3;refine⟨k,r3,?_⟩;cases k with
   |false=>exact p4 _ H3 (AV.refl H3) rfl
   | true=>exact⟨((hA.same s1).same s2).same s3,Y,((g.same s1).same s2).same s3,BO.bind p4 λdu u H4 _ s4 r4 p5=>⟨(((hA.same s1).same s2).same s3).same s4,dy,du,(r2.same s3).same s4,r4,p5⟩⟩⟩⟩⟩
theorem zS{xs:Ac D}{i:Ad}(h:Dz xs i=.ok d):∃ k,ä xs.length i=Ab k/\xs[k]?=Ab d:=by
 unfold Dz at h;split at h
 .rename_i k e;split at h
  .rename_i d' e';cases h;exact⟨k,e,e'⟩
  .exact EZ h
 .exact EZ h
theorem Wm{xs:Ac D}{i:Ad}{x:Ex}(h:Dz xs i=.exn x):BR:=by
 unfold Dz at h;split at h
 .split at h<;>cases h
 .cases h
theorem X8{i:Ad}(r:Z9 K CL H A xs ds)(h:Dz ds i=.ok d):∃ v,Å xs i=Ab v/\Y5 K CL H A v d:=by
 obtain⟨k,e,q⟩:=zS h;obtain⟨v,hv,rv⟩:=r.get q;refine⟨v,?_,rv⟩;unfold Å;have:ŭ xs.length i=Ab k:=by rw[r.length];exact e
 rw[this];exact hv
theorem j7(hs:Th b)(ha:ST X CL W a fa)(hb:ST X CL W b fb):SE X CL W (.Subscript a b pos) (λY=>(fa Y).bind λx=>(fb Y).bind λy=>Cw x y):=
 λA=>PE.weak (ud (r:=λx y H Q=>Vb X.K x y H Q\/Va X.K x y H Q) (wD.or ji) (ha A) (hb A) hs) λZ H Q h=>by
  obtain⟨hA,Y,g,h⟩:=ã h;refine⟨hA,Y,g,?_⟩;cases e:fa Y with
  |bad=>rw[e]at h;exact h
  |exn x=>rw[e]at h;exact h
  |ok dx0=>
   rw[e]at h;intro x H1 s1 r1;obtain⟨hA1,Y1,g1,h1⟩:=h x H1 s1 r1;refine⟨hA1,Y1,g1,?_⟩;cases e1:fb Y1 with
   |bad=>rw[e1]at h1;exact h1
   |exn x=>rw[e1]at h1;exact h1
   |ok dy0=>
    rw[e1]at h1;intro y H2 s2 r2;obtain⟨hA2,dx,dy,rx,ry,p⟩:=h1 y H2 s2 r2;cases dy with
    |int i=>
     have ey:=ry.int_of;subst ey;cases dx with
     |L ds=>
      obtain⟨q,xs,rfl,sq,r⟩:=rx.lst_of;rw[fW]at p;cases e2:Dz ds i with
      |ok d=>
       rw[e2]at p;obtain⟨v,hv,rv⟩:=X8 r e2;exact .inl ⟨q,xs,i,v,rfl,rfl,sq,hv,p v H2 (AV.refl H2) rv⟩
      |exn x=>exact(Wm e2).elim
      |bad=>rw[e2]at p;exact p.elim
     |H ds=>
      obtain⟨q,xs,rfl,_,sq,r⟩:=rx.tup_of;rw[fV]at p;cases e2:Dz ds i with
      |ok d=>
       rw[e2]at p;obtain⟨v,hv,rv⟩:=X8 r e2;exact .inr ⟨q,xs,i,v,rfl,rfl,sq,hv,p v H2 (AV.refl H2) rv⟩
      |exn x=>exact(Wm e2).elim
      |bad=>rw[e2]at p;exact p.elim
     |dic=>exact rx.plain.elim
     |_=>exact p.elim
    |_=>cases dx<;>first|exact p.elim|exact rx.plain.elim
theorem dh:SA X CL W [] (λ_=>.ok []):=λA=>PA.weak IR λZ H Q ⟨hA,Y,g,p⟩=>p [] H (AV.refl H) trivial
theorem vW(ha:SE X CL W a fa)(hs:SA X CL W es fs)(î:AR (a::es) X.env=(Ae,eval a X.env)::AR es X.env):SA X CL W (a::es) (λY=>(fa Y).bind λx=>(fs Y).bind λxs=>.ok (x::xs)):=
 λA=>PA.weak (GP (ha A) (hs A) î) λZ H Q ⟨hA,Y,g,p⟩=>by
  dsimp only at p;refine⟨hA,Y,g,?_⟩;cases e:fa Y with
  |bad=>rw[e]at p;exact p
  |exn x=>rw[e]at p;exact p
  |ok d=>
   rw[e]at p;intro v H1 s1 r1;refine⟨hA.same s1,Y,g.same s1,?_⟩;cases e1:fs Y with
   |bad=>rw[R.bind_ok,e1]at p;exact p
   |exn x=>rw[R.bind_ok,e1]at p;exact λH2 s2=>p H2 (s1.trans s2)
   |ok ds=>
    rw[R.bind_ok,e1]at p;exact λvs H2 s2 r2=>p (v::vs) H2 (s1.trans s2) ⟨r1.same s2,r2⟩
theorem ie(hs:SA X CL W es fs)(hz:∀ Y ds,fs Y=.ok ds->ds.length<=100000):SE X CL W (.Tuple es k pos) (λY=>(fs Y).bind λxs=>.ok (.H xs)):=
 λA=>PE.weak (kh (hs A)) λZ H Q ⟨hA,Y,g,p⟩=>⟨hA,Y,g,IU.bind p λds vs H1 e s1 r1 p1=>⟨by
  rw[r1.length,Dt];have:=hz Y ds e;lia,λq hq=>p1 _ _ (G7 hq _) (MO (hA.same s1) hq r1)⟩⟩
def Oc(W:XW)(H:Hp)(r:R (Ar Ad))(Q:Ar Ad->Hp->Prop):Prop:=match r with
  |.ok o=>∀ H',AV H H'->Q o H'
  |.exn x=>∀ H',AV H H'->W x H'
  |.bad=>BR
def SO(X:Cx)(CL:ClA)(W:XW)(e:Ar Am)(f:Rho->R (Ar Ad)):Prop:=∀ A,PO X e (λZ H Q=>zw H A/\∃ Y,Y4 X.K CL A Y Z H/\Oc W H (f Y) Q)
theorem PO.weak{e:Ar Am}(h:PO X e t)(k:∀ Z H Q,t' Z H Q->t Z H Q):PO X e t':=λpI s Z H Q I q=>h pI s Z H Q I (k _ _ _ q)
theorem vN:SO X CL W Af (λ_=>.ok Af):=λA=>PO.weak tX λZ H Q ⟨hA,Y,g,p⟩=>p H (AV.refl H)
theorem vM(ha:ST X CL W a fa):SO X CL W (Ab a) (λY=>(fa Y).bind λd=>(Gd d).bind λi=>.ok (Ab i)):=λA=>PO.weak (tW (ha A)) λZ H Q ⟨hA,Y,g,p⟩=>by
 dsimp only at p;refine⟨hA,Y,g,?_⟩;cases e:fa Y with
 |bad=>rw[e]at p;exact p
 |exn x=>rw[e]at p;exact p
 |ok d=>
  rw[e]at p;intro v H1 s1 r1;cases d with
  |int i=>exact⟨i,r1.int_of,p H1 s1⟩
  |_=>exact p.elim
theorem XJ(lo hi:Ar Ad)(r:Z9 K CL H A xs ds):Z9 K CL H A (LH xs lo hi) (LJ ds lo hi):=by
 unfold LH LJ;have e:∀ d o,HT.sIx xs.length d o=Kb ds.length d o:=λd o=>by rw[r.length];cases o<;>rfl
 rw[e,e,r.length];exact(r.drop _).take _
end
section
variable{a:Am}
def JI(K:Fg)(CL:ClA)(H:Hp)(A:Ak->Prop):Ac V->Ac D->Prop
 |[],[]=>IM
 |v::vs,d::ds=>DK K CL H A v d/\JI K CL H A vs ds
 |_,_=>BR
theorem JI.one(h:JI K CL H A vs [d]):∃ v,vs=[v]/\DK K CL H A v d:=by
 cases vs with
 |nil=>exact h.elim
 |cons v vs=>
  cases vs with
  |nil=>exact⟨v,rfl,h.1⟩
  |cons=>exact h.2.elim
theorem JI.two{e:D}(h:JI K CL H A vs [d,e]):∃ v w',vs=[v,w']/\DK K CL H A v d/\DK K CL H A w' e:=by
 cases vs with
 |nil=>exact h.elim
 |cons v vs=>
  cases vs with
  |nil=>exact h.2.elim
  |cons w' vs=>
   cases vs with
   |nil=>exact⟨v,w',rfl,h.1,h.2.1⟩
   |cons=>exact h.2.2.elim
def Ä(X:Cx)(CL:ClA)(W:XW)(es:Ac Am)(f:Rho->R (Ac D)):Prop:=∀ A,PA X es (λZ H Q=>zw H A/\∃ Y,Y4 X.K CL A Y Z H/\IU (λH=>JI X.K CL H A) W H (f Y) Q)
theorem vV:Ä X CL W [] (λ_=>.ok []):=λA=>PA.weak IR λZ H Q ⟨hA,Y,g,p⟩=>p [] H (AV.refl H) trivial
theorem qW(ha:ST X CL W a fa)(hs:Ä X CL W es fs)(î:AR (a::es) X.env=(Ae,eval a X.env)::AR es X.env):Ä X CL W (a::es) (λY=>(fa Y).bind λx=>(fs Y).bind λxs=>.ok (x::xs)):=
 λA=>PA.weak (GP (ha A) (hs A) î) λZ H Q ⟨hA,Y,g,p⟩=>by
  dsimp only at p;refine⟨hA,Y,g,?_⟩;cases e:fa Y with
  |bad=>rw[e]at p;exact p
  |exn x=>rw[e]at p;exact p
  |ok d=>
   rw[e]at p;intro v H1 s1 r1;refine⟨hA.same s1,Y,g.same s1,?_⟩;cases e1:fs Y with
   |bad=>rw[R.bind_ok,e1]at p;exact p
   |exn x=>rw[R.bind_ok,e1]at p;exact λH2 s2=>p H2 (s1.trans s2)
   |ok ds=>
    rw[R.bind_ok,e1]at p;exact λvs H2 s2 r2=>p (v::vs) H2 (s1.trans s2) ⟨r1.same s2,r2⟩
def LA(X:Cx)(CL:ClA)(W:XW)(f:Aj)(g:Ac D->R D):Prop:=∀ A,IV X f (λxs H Q=>zw H A/\∃ ds,JI X.K CL H A xs ds/\BO (λH=>Y5 X.K CL H A) W H (g ds) Q)
theorem N1{id:DQ}(hc:LA X CL W (.builtin id) g)(hg:Gl X x)(hm:X.mg x=Af)(hv:DP x=Ab (.builtin id))(ha:Ä X CL W (e::es) fs)(hn:x≠"__name__")(ik:(x==("__debug__" : Al))=Ae)(he:AR (e::es) X.env=(Ae,eval e X.env)::AR es X.env)(yo:∀ pos,(DO pos (AR es X.env)).any (·.1)=Ae):SE X CL W (.Call (.Name x p) (e::es) [] pos) (λY=>(fs Y).bind g):=λA=>PE.weak (NN (hc A) hg hm hv (ha A) hn ik he (yo _)) λZ H Q ⟨hA,Y,gd,q⟩=>⟨hA,Y,gd,IU.bind q λds vs H1 _ s1 r1 p1=>⟨hA.same s1,ds,r1,p1⟩⟩
theorem jc(hc:LA X CL W (.type T) g)(hg:Gl X x)(hm:X.mg x=Af)(hv:DP x=Ab (.type T))(ha:Ä X CL W (e::es) fs)(hn:x≠"__name__")(ik:(x==("__debug__" : Al))=Ae)(he:AR (e::es) X.env=(Ae,eval e X.env)::AR es X.env)(yo:∀ pos,(DO pos (AR es X.env)).any (·.1)=Ae):SE X CL W (.Call (.Name x p) (e::es) [] pos) (λY=>(fs Y).bind g):=λA=>PE.weak (V3 (hc A) hg hm hv (ha A) hn ik he (yo _)) λZ H Q ⟨hA,Y,gd,q⟩=>⟨hA,Y,gd,IU.bind q λds vs H1 _ s1 r1 p1=>⟨hA.same s1,ds,r1,p1⟩⟩
theorem pz:LA X CL W (.builtin "len") (zc .len):=by
  intro A pI s Z H xs us Q I r ⟨hA,ds,rs,p⟩
  match ds,rs,p with
  |[.L es],rs,p=>
    obtain⟨v,rfl,rv⟩:=rs.one;obtain⟨q,ys,rfl,sq,ry⟩:=rv.lst_of;exact Re pI s Z H _ us Q I r ⟨q,ys,rfl,.inl sq,p _ H (AV.refl H) (by rw[ry.length];rfl)⟩
  |[.H es],rs,p=>
    obtain⟨v,rfl,rv⟩:=rs.one;obtain⟨q,ys,rfl,_,sq,ry⟩:=rv.tup_of;exact Re pI s Z H _ us Q I r ⟨q,ys,rfl,.inr sq,p _ H (AV.refl H) (by rw[ry.length];rfl)⟩
  |[.str x],rs,p=>
    obtain⟨v,rfl,rv⟩:=rs.one;have e:=rv.str_of;subst e;have p':BO (λH=>Y5 X.K CL H A) W H (if Eo x.length=Aa then .ok (.int x.length) else .bad) Q:=p
    split at p'
    · rename_i h;exact kX pI s Z H _ us Q I r ⟨x,rfl,Ll h,p' _ H (AV.refl H) rfl⟩
    · exact p'.elim
  |[],_,p=>exact p.elim
  |[.O],_,p=>exact p.elim
  |[.bl _],_,p=>exact p.elim
  |[.int _],_,p=>exact p.elim
  |[.obj _ _],_,p=>exact p.elim
  |[.exc _ _],_,p=>exact p.elim
  |[.dic _],rs,p=>first|exact p.elim|(obtain⟨v,rfl,rv⟩:=rs.one;exact rv.plain.elim)
  |x::_::_,_,p=>cases x<;>exact p.elim
def Mxc(ds:Ac D):Prop:=(∃ i j,ds=[.int i,.int j])\/zc .max ds=.bad
def ŏ(h:zc .max ds=.bad):Mxc ds:=.inr h
theorem oH(ds:Ac D):Mxc ds:=by
 cases ds with
 |nil=>exact ŏ rfl
 |cons x r=>
  cases x with
  |int i=>
   cases r with
   |nil=>exact ŏ rfl
   |cons y r=>
    cases y with
    |int j=>
     cases r with
     |nil=>exact .inl ⟨i,j,rfl⟩
     |cons=>exact ŏ rfl
    |_=>exact ŏ rfl
  |_=>exact ŏ rfl
theorem V5:∀(is:Ac Ad)(i:Ad),Kc i is∈i::is/\∀ a∈i::is,Kc i is<=a
 |[],i=>⟨Av,λa h=>by rw[Bc]at h;rw[h];exact IC _⟩
 |j::r,i=>by
  obtain⟨h1,h2⟩:=V5 r (if j<i then j else i)
  refine⟨?_,λa h=>?_⟩
  .show Kc (if j<i then j else i) r∈_
   rcases Ay.mp h1 with e|e
   .rw[e];split
    .exact As _ Av
    .exact Av
   .exact As _ (As _ e)
  .show Kc (if j<i then j else i) r<=a
   have h0:=h2 _ Av;rcases Ay.mp h with e|e
   .subst e;refine aA h0 ?_;split<;>lia
   .rcases Ay.mp e with e|e
    .subst e;refine aA h0 ?_;split<;>lia
    .exact h2 a (As _ e)
theorem Vu:∀{is:Ac Ad}{its:Ac Aj},Bv (is.map V.int) its->∃ xs:Ax (Ad×Eu),its.toArray=NB xs/\xs.toList.map (·.1)=is
 |[],_,h=>by cases h;exact⟨#[],by simp[NB],rfl⟩
 |i::is,_,h=>by
  cases h with
  |cons h1 h2=>
   obtain⟨t,rfl⟩:=h1;obtain⟨xs,e1,e2⟩:=Vu h2;refine⟨((i,t)::xs.toList).toArray,?_,?_⟩
   .apply Hk.mp
    have e1':=congrArg K0 e1;simp[NB]at e1' ⊢;exact e1'
   .simp[e2]
theorem nS(hc:X.calm=Aa):IV X (.builtin "min") (λxs H Q=>∃ a i is,xs=[.ref a]/\zp X.K H a ((i::is).map V.int)/\Q (.int (Kc i is)) H):=by
 intro pI s Z H xs us Q I r h;obtain⟨a,i,is,rfl,sq,q⟩:=h;obtain⟨u,rfl,ru⟩:=ϝ r;cases ru;obtain⟨its,rv,pl,hz⟩:=I.list sq;obtain⟨ys,e1,e2⟩:=Vu rv;have hsz:0<ys.size:=by
  have:=congrArg JV e2;simp at this;omega
 have hl:=pl.isList;rw[e1]at hl;refine min_intList (I.ok.hd hc) hl hsz λv h' tk hv hk=>?_
 obtain⟨t,rfl⟩:=intItems_at hv;obtain⟨h1,h2⟩:=argBest_lt (KA ys) (ys.size-1);have nm:∀ j,j<ys.size->KA ys j∈i::is:=λj hj=>by
  rw[<-e2];unfold KA;rw[Cc hj];simp only[FJ,Option.getD_some];exact Bp.mpr ⟨ys[j],by simp,rfl⟩
 have nx:∀ x∈i::is,∃ j,j<ys.size/\KA ys j=x:=λx hx=>by
  rw[<-e2]at hx;obtain⟨y,hy,rfl⟩:=Bp.mp hx;obtain⟨j,hj,ej⟩:=Array.mem_iff_getElem.mp (Array.mem_toList_iff.mp hy);refine⟨j,hj,?_⟩;unfold KA;rw[Cc hj,ej];rfl
 obtain⟨m1,m2⟩:=V5 is i;have em:KA ys (argBest (λi j=>decide (KA ys i<KA ys j)) (ys.size-1))=Kc i is:=by
  refine Int.le_antisymm ?_ (m2 _ (nm _ (by omega)))
  obtain⟨j,hj,ej⟩:=nx _ m1;rw[<-ej];exact h2 j (by omega)
 rw[em];exact⟨.int (Kc i is),H,I.kept hk,⟨_,rfl⟩,q⟩
theorem Vv{K:Fg}{H:Hp}{A:Ak->Prop}:∀{es:Ac D}{is:Ac Ad}{ys:Ac V},KO es=Ab is->Z9 K CL H A ys es->ys=is.map V.int
 |[],_,[],h,_=>by cases h;rfl
 |[],_,_::_,_,r=>r.elim
 |_::_,_,[],_,r=>r.elim
 |e::es,is,y::ys,h,r=>by
  cases e with
  |int i=>
   have h':(KO es).map (i :: ·)=Ab is:=h;cases e2:KO es with
   |none=>rw[e2]at h';cases h'
   |some js=>
    rw[e2]at h';cases h';have ih:=Vv e2 r.2;have e1:y=.int i:=r.1;rw[ih,e1];rfl
  |_=>exact Hd h
theorem oG(ds:Ac D)(hl:∀ es,ds≠[.L es]):(∃ i j,ds=[.int i,.int j])\/zc .min ds=.bad:=by
 have mn:∀ {ds},zc .min ds=.bad->(∃ i j,ds=[D.int i,.int j])\/zc .min ds=.bad:=.inr;rcases ds with _|⟨x,_|⟨y,_|⟨z,r⟩⟩⟩
 .exact mn rfl
 .cases x with
  |L es=>exact absurd rfl (hl es)
  |_=>exact mn rfl
 .cases x with
  |int i=>
   cases y with
   |int j=>exact .inl ⟨i,j,rfl⟩
   |_=>exact mn rfl
  |_=>exact mn rfl
 .cases x with
  |int i=>cases y<;>exact mn rfl
  |_=>exact mn rfl
theorem pv(hc:X.calm=Aa):LA X CL W (.builtin "max") (zc .max):=by
 intro A pI s Z H xs us Q I r ⟨hA,ds,rs,p⟩;rcases oH ds with ⟨i,j,rfl⟩|e
 .obtain⟨v,w',rfl,rv,xh⟩:=rs.two;have e1:=rv.int_of;have e2:=xh.int_of
  subst e1 e2;exact pO hc pI s Z H _ us Q I r ⟨i,j,rfl,p _ H (AV.refl H) rfl⟩
 .rw[e]at p;exact p.elim
theorem n5(hc:X.calm=Aa):LA X CL W (.builtin "min") (zc .min):=by
  intro A pI s Z H xs us Q I r ⟨hA,ds,rs,p⟩;by_cases hls:∃ es,ds=[.L es]
  · obtain⟨es,rfl⟩:=hls;obtain⟨v,rfl,rv⟩:=rs.one;obtain⟨a,ys,rfl,sq,ry⟩:=rv.lst_of;have p':BO (Y5 X.K CL · A) W H (match KO es with
      |some (i::is)=>R.ok (.int (Kc i is))
      | _=>.bad) Q:=p
    cases e1:KO es with
    |none=>rw[e1]at p';exact p'.elim
    |some is=>
      cases is with
      |nil=>rw[e1]at p';exact p'.elim
      |cons i is=>
        rw[e1]at p';have ey:=Vv e1 ry;subst ey;exact nS hc pI s Z H _ us Q I r ⟨a,i,is,rfl,sq,p' _ H (AV.refl H) rfl⟩
  rcases oG ds (λes z=>hls ⟨es,z⟩) with ⟨i,j,rfl⟩|e
  · obtain⟨v,w',rfl,rv,xh⟩:=rs.two;have e1:=rv.int_of;have e2:=xh.int_of
    subst e1 e2;exact pN hc pI s Z H _ us Q I r ⟨i,j,rfl,p _ H (AV.refl H) rfl⟩
  · rw[e]at p;exact p.elim
theorem sK:LA X CL W (.type "tuple") (zc .tuple):=by
  intro A pI s Z H xs us Q I r ⟨hA,ds,rs,p⟩
  match ds,rs,p with
  |[.L es],rs,p=>
    obtain⟨v,rfl,rv⟩:=rs.one;obtain⟨q,ys,rfl,sq,ry⟩:=rv.lst_of;exact Vh pI s Z H _ us Q I r ⟨q,ys,rfl,.inl ⟨sq,λl hl=>p _ _ (G7 hl _) (MO hA hl ry)⟩⟩
  |[.H es],rs,p=>
    obtain⟨v,rfl,rv⟩:=rs.one;obtain⟨q,ys,rfl,na,sq,ry⟩:=rv.tup_of;exact Vh pI s Z H _ us Q I r ⟨q,ys,rfl,.inr ⟨sq,p _ H (AV.refl H) ⟨q,ys,rfl,na,sq,ry⟩⟩⟩
  |[],_,p=>exact p.elim
  |[.O],_,p=>exact p.elim
  |[.bl _],_,p=>exact p.elim
  |[.int _],_,p=>exact p.elim
  |[.str _],_,p=>exact p.elim
  |[.obj _ _],_,p=>exact p.elim
  |[.exc _ _],_,p=>exact p.elim
  |[.dic _],rs,p=>first|exact p.elim|(obtain⟨v,rfl,rv⟩:=rs.one;exact rv.plain.elim)
  |x::_::_,_,p=>cases x<;>exact p.elim
end
section
variable{a b:Am}
theorem de(ha:SB X CL W a f):SB X CL W (.UnaryOp .Not a pos) (λY=>(f Y).bind λb=>.ok (!b)):=λA=>PT.weak (d6 (ha A)) λZ H Q ⟨hA,Y,g,p⟩=>⟨hA,Y,g,Ed.bindB p λb H1 _ s1 p1=>p1 H1 (AV.refl H1)⟩
def SW(X:Cx)(CL:ClA)(W:XW)(e:Am)(f:Rho->R Ai):Prop:=∀ A,PW X e (λZ H Q=>zw H A/\∃ Y,Y4 X.K CL A Y Z H/\Ed W H (f Y) Q)
theorem PW.weak(h:PW X e t)(k:∀ Z H Q,t' Z H Q->t Z H Q):PW X e t':=λwh pI s Z H Q I q=>h wh pI s Z H Q I (k _ _ _ q)
def SW.sb(h:SW X CL W a f):SB X CL W a f:=λA=>PW.pt (h A)
theorem uW(ha:SB X CL W a f):SW X CL W (.BoolOp .And [a] pos) f:=λA=>uV (ha A)
theorem ar(ha:SB X CL W a f):SW X CL W (.BoolOp .Or [a] pos) f:=λA=>cz (ha A)
theorem ay{rest:Ac Am}(ha:SB X CL W a f)(hb:SW X CL W (.BoolOp .And (b::rest) pos) g):SW X CL W (.BoolOp .And (a::b::rest) pos) (λY=>(f Y).bind λc=>if c=Aa then g Y else .ok Ae):=
 λA=>PW.weak (d5 (ha A) (hb A)) λZ H Q ⟨hA,Y,gd,p⟩=>⟨hA,Y,gd,Ed.bindB p λc H1 _ s1 p1=>by
  cases c with
  |true=>exact⟨hA.same s1,Y,gd.same s1,p1⟩
  | false=>exact p1 H1 (AV.refl H1)⟩
theorem rh{rest:Ac Am}(ha:SB X CL W a f)(hb:SW X CL W (.BoolOp .Or (b::rest) pos) g):SW X CL W (.BoolOp .Or (a::b::rest) pos) (λY=>(f Y).bind λc=>if c=Aa then .ok Aa else g Y):=
 λA=>PW.weak (tx (ha A) (hb A)) λZ H Q ⟨hA,Y,gd,p⟩=>⟨hA,Y,gd,Ed.bindB p λc H1 _ s1 p1=>by
  cases c with
  |false=>exact⟨hA.same s1,Y,gd.same s1,p1⟩
  | true=>exact p1 H1 (AV.refl H1)⟩
theorem dg(ho:Î X CL W (Du op) g)(ha:ST X CL W a fa)(hb:ST X CL W b fb)(hm:IJ op b=Ae):SB X CL W (.Compare a [op] [b] pos) (λY=>(fa Y).bind λx=>(fb Y).bind λy=>(g x y).bind E1):=
 λA=>PT.weak (Xf (ho A) (ha A) (hb A) hm) λZ H Q ⟨hA,Y,gd,p⟩=>⟨hA,Y,gd,Ed.bind p λdx x H1 _ s1 r1 p1=>⟨hA.same s1,Y,gd.same s1,Ed.bind p1 λdy y H2 _ s2 r2 p2=>
  ⟨(hA.same s1).same s2,dx,dy,r1.same s2,r2,Ed.bind p2 λdz z H3 _ s3 r3 p3=>by
   cases dz with
   |bl k=>exact⟨k,r3,p3 H3 (AV.refl H3)⟩
   | _=>exact p3.elim⟩⟩⟩
theorem qV(hu:X.A.units+64<Cf)(ha:ST X CL W a fa)(hb:ST X CL W b fb)(hc:ST X CL W c fc)(hm:Le [op,op'] [b,c]=Ae):SB X CL W (.Compare a [op,op'] [b,c] pos) (λY=>(fa Y).bind λx=>(fb Y).bind λy=>(Dr op x y).bind λz=>(E1 z).bind λk=>if k=Aa then (fc Y).bind λu=>(Dr op' y u).bind E1 else .ok Ae):=
  λA=>PT.weak (rG (MN hu op A) (MN hu op' A) (ha A) (hb A) (hc A) hm) λZ H Q ⟨hA,Y,g,p⟩=>⟨hA,Y,g,Ed.bind p λdx x H1 _ s1 r1 p1=>⟨hA.same s1,Y,g.same s1,Ed.bind p1 λdy y H2 _ s2 r2 p2=>
    ⟨(hA.same s1).same s2,dx,dy,r1.same s2,r2,Ed.bind p2 λdz z H3 _ s3 r3 p3=>by
      cases dz with
      |bl k=>
        refine⟨k,r3,?_⟩;cases k with
        |false=>exact⟨Ae,rfl,p3 H3 (AV.refl H3)⟩
        | true=>exact⟨((hA.same s1).same s2).same s3,Y,((g.same s1).same s2).same s3,Ed.bind p3 λdu u H4 _ s4 r4 p5=>⟨(((hA.same s1).same s2).same s3).same s4,dy,du,(r2.same s3).same s4,r4,Ed.bind p5 λdv v H5 _ s5 r5 p6=>by
            cases dv with
            |bl k'=>exact⟨k',r5,p6 H5 (AV.refl H5)⟩
            | _=>exact p6.elim⟩⟩
      | _=>exact p3.elim⟩⟩⟩
theorem d9(ha:ST X CL W a fa)(he:∀ whole,Ko a X.env whole=(do let v <-whole;Ks a.pos;holding [v] (truthy v))):SB X CL W a (λY=>(fa Y).bind DJ):=
 λA=>PT.weak (rF (ha A) he) λZ H Q ⟨hA,Y,g,p⟩=>⟨hA,Y,g,Ed.bind p λd v H1 _ s1 r1 p1=>by
  cases d with
  |O=>
   have e:=r1.non_of;subst e;exact⟨Ae,rfl,p1 H1 (AV.refl H1)⟩
  |bl b=>
   have e:=r1.bl_of;subst e;exact⟨b,rfl,p1 H1 (AV.refl H1)⟩
  |int i=>
   have e:=r1.int_of;subst e;exact⟨_,rfl,p1 H1 (AV.refl H1)⟩
  |str x=>
   have e:=r1.str_of;subst e;have p2:Ed W H1 (if Eo x.length=Aa then .ok (x.length != 0) else .bad) Q:=p1
   split at p2
   .rename_i h;refine⟨_,⟨Ll h,rfl⟩,?_⟩;have e:((x.length:Ad) != 0)=(x.length != 0):=by
     rw[ET];simp
    rw[e];exact p2 H1 (AV.refl H1)
   .exact p2.elim
  |H ds=>
   obtain⟨q,xs,rfl,_,sq,r⟩:=r1.tup_of;refine⟨_,.inr (.inl ⟨xs,sq,rfl⟩),?_⟩;have e:xs.isEmpty=ds.isEmpty:=by
    have:=r.length;cases xs<;>cases ds<;>first|rfl|cases this
   rw[e];exact p1 H1 (AV.refl H1)
  |L ds=>
   obtain⟨q,xs,rfl,sq,r⟩:=r1.lst_of;refine⟨_,.inl ⟨xs,sq,rfl⟩,?_⟩;have e:xs.isEmpty=ds.isEmpty:=by
    have:=r.length;cases xs<;>cases ds<;>first|rfl|cases this
   rw[e];exact p1 H1 (AV.refl H1)
  | _=>exact p1.elim⟩
def iS(K:Fg)(CL:ClA)(H:Hp)(A:Ak->Prop)(cls:Aj)(dx:Ar Ak)(x:Ex):Prop:=
 ∃ C,CL x.c=Ab C/\cls=.ref C/\(x.fs=[]\/∃ d vs,dx=Ab d/\¬ A d/\H d=Ab (.xd vs)/\zo K CL H A vs x.fs)
def ϟ(K:Fg)(CL:ClA)(H:Hp)(cls:Aj)(dx:Ar Ak)(x:Ex):Prop:=∀ A,zw H A->iS K CL H A cls dx x
end
structure Fr where
 f:Ak->HO->Prop
 pin:Ag->Ak->HO->Prop
instance:CoeFun Fr λ_=>Ak->HO->Prop:=⟨Fr.f⟩
def Ch(B:Ak->Prop)(Y:Rho)(Z:L2.St):Ak->Prop:=λa=>B a\/∃(j:Ag)(d:D),Y[j]?=Ab (Ab (d,Aa))/\Z[j]?=Ab (Ab (.ref a))
structure Sx (K:Fg) (CL:ClA) (Fz:Fr) (B:Ak->Prop) (Y:Rho) (Z:L2.St) (H:Hp):Prop where
 good:Y4 K CL (Ch B Y Z) Y Z H
 aok:zw H (Ch B Y Z)
 new:∀(j:Ag)(d:D)(a:Ak),Y[j]?=Ab (Ab (d,Aa))->Z[j]?=Ab (Ab (.ref a))->(∀ o,¬ Fz a o)/\¬ B a
 dis:∀(i j:Ag)(d e:D)(a:Ak),Y[i]?=Ab (Ab (d,Aa))->Y[j]?=Ab (Ab (e,Aa))->Z[i]?=Ab (Ab (.ref a))->Z[j]?=Ab (Ab (.ref a))->i=j
 same:∀ b o,Fz b o->H b=Ab o
 len:Y.length=Z.length
 pin:∀ j:Ag,Y[j]?=Ab (Ab (.O,Aa))->∃ a o,Fz.pin j a o/\Z[j]?=Ab (Ab (.ref a))/\H a=Ab o
def CH(K:Fg)(CL:ClA)(Fz:Fr)(B:Ak->Prop)(W:XW)(o:O)(D:ϯ):Prop:=match o with
  |.next Y=>∀ Z H,Sx K CL Fz B Y Z H->D.nx Z H
  |.brk Y=>∀ Z H,Sx K CL Fz B Y Z H->D.bk Z H
  |.cont Y=>∀ Z H,Sx K CL Fz B Y Z H->D.ct Z H
  |.ret d fr=>∀ v H,(∀ b o,Fz b o->H b=Ab o)->Y5 K CL H B v d->(fr=Aa->∀ ds,d=.L ds->∃ a xs,v=.ref a/\(∀ o,¬ Fz a o)/\H a=Ab (.L xs)/\Z9 K CL H (λb=>B b\/b=a) xs ds)->D.rt v H
  |.exn x _=>∀ H,(∀ b o,Fz b o->H b=Ab o)->W x H
  |.bad=>BR
theorem Sx.mono(k:∀ b o,Fz b o->Fy b o)(kp:∀ j a xs,Fy.pin j a xs->Fz.pin j a xs)(x:Sx K CL Fy B Y Z H):Sx K CL Fz B Y Z H:=⟨x.good,x.aok,λj d a h1 h2=>⟨λo z=>(x.new j d a h1 h2).1 o (k _ _ z),(x.new j d a h1 h2).2⟩,x.dis,λb o z=>x.same b o (k _ _ z),x.len,λj h=>let ⟨a,xs,h1,h2⟩:=x.pin j h;⟨a,xs,kp _ _ _ h1,h2⟩⟩
theorem Sx.grow(x:Sx K CL Fz B Y Z H)(s:AV H H'):Sx K CL Fz B Y Z H':=⟨x.good.same s,x.aok.same s,x.new,x.dis,λb o z=>s _ _ (x.same b o z),x.len,λj h=>let ⟨a,xs,h1,h2,h3⟩:=x.pin j h;⟨a,xs,h1,h2,s _ _ h3⟩⟩
theorem Dc{l:Ac α}{v:α}(h:i≠j):(l.set i v)[j]?=l[j]?:=by rw[Hz h]
theorem HQ{l:Ac α}{v w':α}(h:(l.set i v)[i]?=Ab w'):w'=v:=by
 rw[G1]at h;cases e:l[i]? with
 |none=>rw[e]at h;cases h
 |some x=>rw[e]at h;cases h;rfl
theorem Sx.set(x:Sx K CL Fz B Y Z H){v:V}{d:D}(i:Ag)(r:Y5 K CL H (Ch B Y Z) v d):Sx K CL Fz B (Y.set i (Ab (d,Ae))) (Z.set i (Ab v)) H:=by
 have own:∀(j:Ag)(e:D),(Y.set i (Ab (d,Ae)))[j]?=Ab (Ab (e,Aa))->i≠j/\Y[j]?=Ab (Ab (e,Aa)):=λj e h=>by
  by_cases hj:i=j
  .subst hj;have:=HQ h;cases this
  .exact⟨hj,by rw[Dc hj]at h;exact h⟩
 have sub:∀ a,Ch B (Y.set i (Ab (d,Ae))) (Z.set i (Ab v)) a->Ch B Y Z a:=λa h=>by
  rcases h with h|⟨j,e,h1,h2⟩
  .exact .inl h
  .obtain⟨hj,h1⟩:=own j e h1;rw[Dc hj]at h2;exact .inr ⟨j,e,h1,h2⟩
 refine⟨⟨λj e h=>?_,λj e h hn=>?_,by rw[Bj,Bj];exact x.len⟩,λa h=>x.aok a (sub a h),λj e a h1 h2=>?_,λj k e f a h1 h2 h3 h4=>?_,x.same,by rw[Bj,Bj];exact x.len,λj h=>?_⟩
 .by_cases hj:i=j
  .subst hj;have e1:=HQ h;cases e1;refine⟨v,?_,Y5.sub sub _ r⟩;have hl:i<Z.length:=by
    rw[<-x.len];have:=(Bh.mp h).1;simpa using this
   rw[Ci hl]
  .rw[Dc hj]at h;obtain⟨w',q,xh⟩:=x.good.sh j e h;exact⟨w',by rw[Dc hj];exact q,Y5.sub sub _ xh⟩
 .obtain⟨hj,h1⟩:=own j e h;obtain⟨a,xs,ds,q,z,ha,hh,rr⟩:=x.good.ow j e h1 hn;exact⟨a,xs,ds,by rw[Dc hj];exact q,z,.inr ⟨j,e,h,by rw[Dc hj];exact q⟩,hh,Z9.sub sub _ rr⟩
 .obtain⟨hj,h1⟩:=own j e h1;rw[Dc hj]at h2;exact x.new j e a h1 h2
 .obtain⟨hj,h1⟩:=own j e h1;obtain⟨hk,h2⟩:=own k f h2;rw[Dc hj]at h3;rw[Dc hk]at h4;exact x.dis j k e f a h1 h2 h3 h4
 .obtain⟨hj,h1⟩:=own j _ h;obtain⟨a,xs,p1,p2,p3⟩:=x.pin j h1;exact⟨a,xs,p1,by rw[Dc hj];exact p2,p3⟩
section
variable{X:Cx}
def SS(X:Cx)(CL:ClA)(W:XW)(st:A8)(f:Rho->O):Prop:=∀ Fz B,PS X st (λD Z H=>∃ Y,Sx X.K CL Fz B Y Z H/\CH X.K CL Fz B W (f Y) D)
def Û(X:Cx)(CL:ClA)(W:XW)(st:Ac A8)(f:Rho->O):Prop:=∀ Fz B,xk X st (λD Z H=>∃ Y,Sx X.K CL Fz B Y Z H/\CH X.K CL Fz B W (f Y) D)
theorem PS.weak{e:A8}(h:PS X e t)(k:∀ D Z H,t' D Z H->t D Z H):PS X e t':=λpI s Z H D I q=>h pI s Z H D I (k _ _ _ q)
theorem xk.weak{e:Ac A8}(h:xk X e t)(k:∀ D Z H,t' D Z H->t D Z H):xk X e t':=λpI s Z H D I q=>h pI s Z H D I (k _ _ _ q)
theorem CH.ex(x:Sx X.K CL Fz B Y Z H)(h:CH X.K CL Fz B W (O.of Y r f) D')(k:∀ d v H',r=.ok d->AV H H'->Rp H' v d->Sx X.K CL Fz B Y Z H'->CH X.K CL Fz B W (f d) D'->Q v H'):BO Rp W H r Q:=by
 cases r with
 |ok d=>exact λv H' s r=>k d v H' rfl s r (x.grow s) h
 |exn y=>exact λH' s=>h H' λb o z=>s _ _ (x.same b o z)
 |bad=>exact h
theorem CH.exB{r:R Ai}(x:Sx X.K CL Fz B Y Z H)(h:CH X.K CL Fz B W (O.of Y r f) D')(k:∀ b H',r=.ok b->AV H H'->Sx X.K CL Fz B Y Z H'->CH X.K CL Fz B W (f b) D'->Q b H'):Ed W H r Q:=by
 cases r with
 |ok d=>exact λH' s=>k d H' rfl s (x.grow s) h
 |exn y=>exact λH' s=>h H' λb o z=>s _ _ (x.same b o z)
 |bad=>exact h
theorem vH(he:SE X CL W e fe)(hs:EO e Af pos.line X.env=pure Ae):SS X CL W (.Expr e pos) (λY=>O.of Y (fe Y) λ_=>.next Y):=λFz B pI s Z H D I ⟨Y,x,p⟩=>
 SQ (he (Ch B Y Z)) hs pI s Z H D I ⟨x.aok,Y,x.good,CH.ex x p λd v H' _ s r x' q=>q Z H' x'⟩
theorem vF(he:SE X CL W e fe):SS X CL W (.Return (Ab e) pos) (λY=>O.of Y (fe Y) λd=>.ret d Ae):=λFz B pI s Z H D I ⟨Y,x,p⟩=>
 Tp (he (Ch B Y Z)) pI s Z H D I ⟨x.aok,Y,x.good,CH.ex x p λd v H' _ s r x' q=>q v H' x'.same (Y5.sub (λa h=>.inl h) _ r) λz=>nomatch z⟩
theorem t7{a b:Ac A8}(hc:SB X CL W c fc)(ha:Û X CL W a fa)(hb:Û X CL W b fb):SS X CL W (.If c a b pos) (λY=>O.of Y (fc Y) λk=>if k=Aa then fa Y else fb Y):=λFz B pI s Z H D I ⟨Y,x,p⟩=>
 Zo (hc (Ch B Y Z)) (ha Fz B) (hb Fz B) pI s Z H D I ⟨x.aok,Y,x.good,CH.exB x p λk H' _ s x' q=>by
  cases k with
  |true=>exact⟨Y,x',q⟩
  | false=>exact⟨Y,x',q⟩⟩
theorem vC:Û X CL W [] (λY=>.next Y):=λFz B=>xk.weak Xg λD Z H ⟨Y,x,p⟩=>p Z H x
theorem oR{st:A8}{rest:Ac A8}(h1:SS X CL W st f)(h2:Û X CL W rest g):Û X CL W (st::rest) (λY=>(f Y).seq g):=λFz B=>xk.weak (O5 (h1 Fz B) (h2 Fz B)) λD Z H ⟨Y,x,p⟩=>⟨Y,x,by
 dsimp only at p;cases e:f Y with
 |next Y'=>rw[e]at p;exact λZ' H' x'=>⟨Y',x',p⟩
 |ret d b=>rw[e]at p;exact p
 |brk Y'=>rw[e]at p;exact p
 |cont Y'=>rw[e]at p;exact p
 |exn y Y'=>rw[e]at p;exact p
 | bad=>rw[e]at p;exact p⟩
end
def KP(K:Fg)(CL:ClA)(A:Ak->Prop)(ds:Ac D)(J_:It)(H1:Hp):Prop:=∀ H,Kp A H1 H->∀ i:Ag,(ds.length<=i->J_.stop i H)/\∀ d,ds[i]?=Ab d->J_.go i H/\∀ x H',J_.yld i H x H'->AV H H'/\∀ B,(∀ a,B a->A a\/H1 a=Af)->zw H B->Y5 K CL H' B x d
def Ge(K:Fg)(CL:ClA)(A:Ak->Prop)(W:XW)(H:Hp)(r:R (Ac D))(Q:It->Hp->Prop):Prop:=match r with
  |.ok ds=>∀ J_ H',AV H H'->KP K CL A ds J_ H'->ds.length<=sizeLine->Q J_ H'
  |.exn x=>∀ H',AV H H'->W x H'
  |.bad=>BR
def SI(X:Cx)(CL:ClA)(W:XW)(tg iter:Am)(f:Rho->R (Ac D)):Prop:=∀ A,PI X tg iter (λZ H R=>zw H A/\∃ Y,Y4 X.K CL A Y Z H/\Ge X.K CL A W H (f Y) R)
theorem PI.weak(h:PI X tg e t)(k:∀ Z H Q,t' Z H Q->t Z H Q):PI X tg e t':=λpI s Z H Q I q=>h pI s Z H Q I (k _ _ _ q)
section
variable{X:Cx}{CL:ClA}{a b:Am}
theorem Ge.ex(h:Ge X.K CL A W H (r.bind f) Q)(k:∀ d v H',r=.ok d->AV H H'->Rp H' v d->Ge X.K CL A W H' (f d) Q->Q' v H'):BO Rp W H r Q':=by
  cases r with
  | ok d=>exact λv H' s q=>k d v H' rfl s q (by
      have h':Ge X.K CL A W H (f d) Q:=h;cases e:f d with
      |ok ds=>rw[e]at h';exact λJ_ H2 s2 y z=>h' J_ H2 (s.trans s2) y z
      |exn y=>rw[e]at h';exact λH2 s2=>h' H2 (s.trans s2)
      | bad=>rw[e]at h';exact h')
  |exn y=>exact h
  |bad=>exact h
theorem NM{x:V}(r:Y5 K CL H1 A x d)(k:Kp A H1 H)(hB:∀ a,B a->A a\/H1 a=Af):Y5 K CL H B x d:=by
 have r1:Y5 K CL H1 (λa=>A a\/B a) x d:=Y5.wide (λa ha=>ha.elim .inl (hB a)) _ r
 have r2:Y5 K CL H (λa=>A a\/B a) x d:=Y5.kp (λb o e na=>k b o e λz=>na (.inl z)) _ r1
 exact Y5.sub (λa ha=>.inr ha) _ r2
theorem mG(na:¬ A q\/KL K q xs)(s:zp K H q xs)(r:Z9 K CL H A xs ds):KP K CL A ds (Itl K q) H:=λH' k i=>by
 have s':=PY k na s;refine⟨λh=>⟨xs,s',by rw[r.length];exact h⟩,λd hd=>?_⟩
 obtain⟨v,hv,rv⟩:=r.get hd;exact⟨⟨xs,v,s',hv⟩,λx H2 ⟨e,y⟩=>by
  subst e;have:=y xs s';rw[hv]at this;cases this;exact⟨AV.refl _,λB hB _=>NM rv k hB⟩⟩
theorem pH(na:¬ A q\/KT K q xs)(s:yr K H q xs)(r:Z9 K CL H A xs ds):KP K CL A ds (Itt K q) H:=λH' k i=>by
 have s':=PX k na s;refine⟨λh=>⟨xs,s',by rw[r.length];exact h⟩,λd hd=>?_⟩
 obtain⟨v,hv,rv⟩:=r.get hd;exact⟨⟨xs,v,s',hv⟩,λx H2 ⟨e,y⟩=>by
  subst e;have:=y xs s';rw[hv]at this;cases this;exact⟨AV.refl _,λB hB _=>NM rv k hB⟩⟩
theorem WL(lo:Ad)(n:Ag):KP K CL A (FS lo n) (ģ lo n) H:=λH' k i=>by
 refine⟨λh=>by rw[ON]at h;exact h,λd hd=>?_⟩
 obtain⟨h1,rfl⟩:=Wl hd;exact⟨h1,λx H2 ⟨e,y⟩=>by
  subst e y;exact⟨AV.refl _,λ_ _ _=>rfl⟩⟩
theorem Yn(hl:PE X l tl):PI X tg l (λZ H R=>tl Z H λx H1=>(∃ a,x=.ref a/\(∃ xs,zp X.K H1 a xs/\(xs.length<=sizeLine->R (Itl X.K a) H1)))\/∃ a,x=.ref a/\(∃ xs,yr X.K H1 a xs/\(xs.length<=sizeLine->R (Itt X.K a) H1))):=by
 intro pI s Z H R I h;refine J9 (hl pI s Z H _ I h) λv s1 ⟨x,H1,I1,r1,q1⟩=>?_
 rcases q1 with ⟨a,e,xs,hq,q⟩|⟨a,e,xs,hq,q⟩
 .subst e;cases r1;obtain⟨its,rv,p,hz⟩:=I1.list hq;refine FV p.isList ?_;refine⟨s1.heap.objs.size,[s1.heap.objs.size],_,_,H1,rfl,I1.kept (t':=s1.toks) λb o e=>At _ e,nF a _,⟨_,AG _ rfl,rfl,rfl⟩,λb hb=>?_,q hz⟩
  have e:b=s1.heap.objs.size:=by simpa using hb
  subst e;exact I1.fpOk (AE _) (I1.hok.fresh (AE _))
 .subst e;cases r1;obtain⟨its,rv,p,hz⟩:=I1.tuple hq;refine IG (show s1.heap.IsTuple a its.toArray from p) ?_
  refine⟨s1.heap.objs.size,[s1.heap.objs.size],_,_,H1,rfl,I1.kept (t':=s1.toks) λb o e=>At _ e,mH a _,⟨_,AG _ rfl,rfl,rfl⟩,λb hb=>?_,q hz⟩
  have e:b=s1.heap.objs.size:=by simpa using hb
  subst e;exact I1.fpOk (AE _) (I1.hok.fresh (AE _))
theorem kE(he:SE X CL W e fe):SI X CL W tg e (λY=>(fe Y).bind Db):=λA=>PI.weak (Yn (he A)) λZ H R ⟨hA,Y,g,p⟩=>⟨hA,Y,g,Ge.ex p λd v H1 _ s1 r1 p1=>by
 cases d with
 |L ds=>
  obtain⟨q,xs,rfl,na,sq,r⟩:=r1;exact .inl ⟨q,rfl,xs,sq,λhz=>p1 _ H1 (AV.refl H1) (mG na sq r) (by rw[<-r.length];exact hz)⟩
 |H ds=>
  obtain⟨q,xs,rfl,na,sq,r⟩:=r1;exact .inr ⟨q,rfl,xs,sq,λhz=>p1 _ H1 (AV.refl H1) (pH na sq r) (by rw[<-r.length];exact hz)⟩
 | _=>exact p1.elim⟩
theorem V0{lo:Ad}(h:D8 lo hi=.ok ds):(-(2 ^ 62)<=lo/\lo<2 ^ 62)/\(-(2 ^ 62)<=hi/\hi<2 ^ 62)/\ds=FS lo (hi-lo).toNat/\(FS lo (hi-lo).toNat).length<=sizeLine:=by
 unfold D8 at h;split at h
 .rename_i q;cases h;exact⟨by omega,by omega,rfl,by rw[ON,Dt];omega⟩
 .exact EZ h
theorem Vs{lo:Ad}{x:Ex}(h:D8 lo hi=.exn x):BR:=by
 unfold D8 at h;split at h<;>cases h
theorem i8(ha:ST X CL W a fa)(hg:Gl X "range")(hm:X.mg "range" = Af)(hs:AR [a] X.env=[(Ae,eval a X.env)]):SI X CL W tg (.Call (.Name "range" p) [a] [] pos) (λY=>(fa Y).bind λx=>(Gd x).bind λj=>D8 0 j):=
 λA=>PI.weak (mM hg hm (GP (ha A) IR hs) hs) λZ H R ⟨hA,Y,g,q⟩=>⟨hA,Y,g,Ge.ex q λd v H1 _ s1 r1 p1=>by
  cases d with
  |int j=>
   have e:=r1.int_of;subst e;have p2:Ge X.K CL A W H1 (D8 0 j) R:=p1;cases e2:D8 0 j with
   |ok ds=>
    rw[e2]at p2;obtain⟨_,h2,rfl,hz⟩:=V0 e2;exact⟨j,rfl,h2.1,h2.2,p2 _ H1 (AV.refl H1) (by rw[K1];exact WL 0 j.toNat) hz⟩
   |exn y=>exact(Vs e2).elim
   |bad=>rw[e2]at p2;exact p2.elim
  | _=>exact p1.elim⟩
theorem vQ(ha:ST X CL W a fa)(hb:ST X CL W b fb)(hg:Gl X "range")(hm:X.mg "range" = Af)(hs:AR [a,b] X.env=[(Ae,eval a X.env),(Ae,eval b X.env)])(y6:AR [b] X.env=[(Ae,eval b X.env)]):
  SI X CL W tg (.Call (.Name "range" p) [a,b] [] pos) (λY=>(fa Y).bind λx=>(fb Y).bind λy=>(Gd x).bind λi=>(Gd y).bind λj=>D8 i j):=
 λA=>PI.weak (nE hg hm (GP (ha A) (GP (hb A) IR y6) (by rw[hs,y6])) hs y6) λZ H R ⟨hA,Y,g,q⟩=>⟨hA,Y,g,Ge.ex q λd v H1 _ s1 r1 p1=>⟨hA.same s1,Y,g.same s1,Ge.ex p1 λd2 v2 H2 _ s2 r2 p2=>by
  cases d with
  |int i=>
   cases d2 with
   |int j=>
    have e:=r1.int_of;have e':=r2.int_of
    subst e e';have p3:Ge X.K CL A W H2 (D8 i j) R:=p2;cases e2:D8 i j with
    |ok ds=>
     rw[e2]at p3;obtain⟨h1,h2,rfl,hz⟩:=V0 e2;exact⟨i,j,rfl,⟨h1.1,h1.2,h2.1,h2.2⟩,p3 _ H2 (AV.refl H2) (WL _ _) hz⟩
    |exn y=>exact(Vs e2).elim
    |bad=>rw[e2]at p3;exact p3.elim
   |_=>exact p2.elim
  | _=>exact p2.elim⟩⟩
theorem CH.exI{r:R (Ac D)}(x:Sx X.K CL Fz B Y Z H)(h:CH X.K CL Fz B W (O.of Y r f) D')(k:∀ ds J_ H',r=.ok ds->AV H H'->KP X.K CL A ds J_ H'->ds.length<=sizeLine->Sx X.K CL Fz B Y Z H'->CH X.K CL Fz B W (f ds) D'->Q J_ H'):Ge X.K CL A W H r Q:=by
 cases r with
 |ok d=>exact λJ_ H' s y z=>k d J_ H' rfl s y z (x.grow s) h
 |exn y=>exact λH' s=>h H' λb o z=>s _ _ (x.same b o z)
 |bad=>exact h
theorem CH.turn{o:O}(hf:∀ b q,Fz b q->Fy b q)(hp:∀ j a xs,Fy.pin j a xs->Fz.pin j a xs)(h:CH K CL Fz B W (o.turn g) D')(k:∀ Y' Z' H',Sx K CL Fy B Y' Z' H'->CH K CL Fz B W (g Y') D'->N Z' H'):CH K CL Fy B W o {D' with nx:=N,ct:=N,bk:=D'.nx}:=by
 cases o with
 |next Y'=>exact λZ' H' x=>k Y' Z' H' x h
 |cont Y'=>exact λZ' H' x=>k Y' Z' H' x h
 |brk Y'=>exact λZ' H' x=>h Z' H' (x.mono hf hp)
 |ret d b=>exact λv H' s r n=>h v H' (λb o z=>s b o (hf b o z)) r λz ds e=>let ⟨a,xs,h1,h2,h3⟩:=n z ds e;⟨a,xs,h1,λo q=>h2 o (hf a o q),h3⟩
 |exn y Y'=>exact λH' s=>h H' (λb o z=>s b o (hf b o z))
 |bad=>exact h
noncomputable def GQ(ts:Ac Ag)(Y:Rho):Rho:=ts.foldl (λY t=>Y.set t Af) Y
def GT(K:Fg)(CL:ClA)(as:D->Rho->R Rho)(g:TG):Prop:=∀ Fz B Y Z H v d Y' Q,Sx K CL Fz B Y Z H->Y5 K CL H (Ch B Y Z) v d->as d Y=.ok Y'->(∀ Z',Sx K CL Fz B Y' Z' H->Q Z' H)->g v Z H Q
theorem zL(i:Ag):GT K CL (λd Y=>.ok (Y.set i (Ab (d,Ae)))) (Gg i):=λFz B Y Z H v d Y' Q x r e k=>by
 cases e;exact k _ (x.set i r)
theorem Tx{K:Fg}{H:Hp}:∀(ts:Ac Ag)(ds:Ac D)(vs:Ac V)(Y Y':Rho)(Z:L2.St)(Q:L2.St->Hp->Prop),Sx K CL Fz B Y Z H->Z9 K CL H (Ch B Y Z) vs ds->Gc ts ds Y=Ab Y'->(∀ Z',Sx K CL Fz B Y' Z' H->Q Z' H)->(ts.foldr (λt u=>JF (Gg t) u) JK) vs Z H Q
 |[],[],[],Y,Y',Z,Q,x,_,e,k=>by
  cases e;exact⟨rfl,k Z x⟩
 |t::ts,d::ds,v::vs,Y,Y',Z,Q,x,r,e,k=>by
  refine⟨v,vs,rfl,Tx ts ds vs _ Y' _ Q (x.set t r.1) (Z9.sub (λa ha=>?_) ds r.2) e k⟩
  rcases ha with ha|⟨j,c,h1,h2⟩
  .exact .inl ha
  .by_cases hj:t=j
   .subst hj;have:=HQ h1;cases this
   .rw[Dc hj]at h1 h2;exact .inr ⟨j,c,h1,h2⟩
 |[],_::_,_,_,_,_,_,_,_,e,_=>by exact Hd e
 |_::_,[],_,_,_,_,_,_,_,e,_=>by exact Hd e
 |[],[],_::_,_,_,_,_,_,r,_,_=>r.elim
 |_::_,_::_,[],_,_,_,_,_,r,_,_=>r.elim
theorem OZ:∀(ts:Ac Ag)(ds:Ac D)(Y Y':Rho),Gc ts ds Y=Ab Y'->ds.length=ts.length
 |[],[],_,_,_=>rfl
 |_::ts,_::ds,_,_,e=>congrArg (· + 1) (OZ ts ds _ _ e)
 |[],_::_,_,_,e=>by exact Hd e
 |_::_,[],_,_,e=>by exact Hd e
theorem Y_6(ts:Ac Ag):GT K CL (HR ts) (Nq K ts.length (ts.foldr (λt u=>JF (Gg t) u) JK)):=λFz B Y Z H v d Y' Q x r e k=>by
 cases d with
 |H ds=>
  obtain⟨a,xs,rfl,na,sq,rs⟩:=r;rw[VA]at e;cases e2:Gc ts ds Y with
  |none=>rw[e2]at e;cases e
  |some Y2=>
   rw[e2]at e;cases e;exact⟨a,xs,rfl,sq,by rw[rs.length];exact OZ _ _ _ _ e2,Tx ts ds xs Y _ Z Q x rs e2 k⟩
 |_=>exact EZ e
theorem YC(hp:ID (model X.prog X.w) X.A X.env X.xe)(hc:X.calm=Aa)(hGT:GT X.K CL as g)(hg:PG X tg g)(hit:SI X CL W tg iter fi)(hb:Û X CL W body fbd)(hs:∀ x,DD iter X.env x=pure x)(hax:∀ d Y x,as d Y≠.exn x):SS X CL W (.For tg iter body [] pos) (λY=>O.of Y (fi Y) λxs=>DG (λx Y'=>O.of Y' (as x Y') fbd) xs Y):=λFz B pI s Z H D I ⟨Y,x,p⟩=>by
 refine YK hp hc (hit (Ch B Y Z)) hg (tb:=λD Z H=>∃ Fy,(λD Z H=>∃ Y,Sx X.K CL Fy B Y Z H/\CH X.K CL Fy B W (fbd Y) D) D Z H) (λpI s Z H D I ⟨Fy,q⟩=>hb Fy B pI s Z H D I q) hs pI s Z H D I ⟨x.aok,Y,x.good,CH.exI x p λds J_ H1 _ s1 y _ x1 q=>?_⟩
 let Fy:Fr:=⟨λb o=>H1 b=Ab o/\¬ ∃(j:Ag)(d:Ov.D),Y[j]?=Ab (Ab (d,Aa))/\Z[j]?=Ab (Ab (.ref b)),Fz.pin⟩
 have hfy:∀ b o,Fz b o->Fy b o:=λb o z=>⟨x1.same b o z,λ⟨j,d,h1,h2⟩=>(x1.new j d b h1 h2).1 o z⟩
 have xy:Sx X.K CL Fy B Y Z H1:=⟨x1.good,x1.aok,λj d a h1 h2=>⟨λo z=>z.2 ⟨j,d,h1,h2⟩,(x1.new j d a h1 h2).2⟩,x1.dis,λb o z=>z.1,x1.len,x1.pin⟩
 refine⟨λk m Z' H'=>m=ds.length-k/\k<=ds.length/\∃ Y',Sx X.K CL Fy B Y' Z' H'/\CH X.K CL Fz B W (DG (λx Y'=>O.of Y' (as x Y') fbd) (ds.drop k) Y') D,⟨ds.length,by simp,Ds _,Y,xy,q⟩,?_⟩
 rintro k m Z' H' ⟨rfl,hk,Y',x',q'⟩;have kp:Kp (Ch B Y Z) H1 H':=λb o e na=>x'.same b o ⟨e,λz=>na (.inr z)⟩
 obtain⟨yst,ygo⟩:=y H' kp k;by_cases zd:k<ds.length
 .have hd:ds[k]?=Ab ds[k]:=AU zd;obtain⟨hgo,hyl⟩:=ygo _ hd;refine .inr ⟨hgo,λĦ Ģ=>∃ np,Sx X.K CL Fy B np Ħ Ģ/\CH X.K CL Fz B W (DG (λx Y'=>O.of Y' (as x Y') fbd) (ds.drop (k+1)) np) D,λĦ Ģ z=>⟨ds.length-(k+1),by omega,rfl,zd,z⟩,λv H2 hv=>?_⟩
  obtain⟨e2,rv⟩:=hyl v H2 hv;rw[CJ zd]at q';have q2:CH X.K CL Fz B W ((O.of Y' (as ds[k] Y') fbd).turn (DG (λx Y'=>O.of Y' (as x Y') fbd) (ds.drop (k+1)))) D:=q'
  have rv':Y5 X.K CL H2 (Ch B Y' Z') v ds[k]:=rv _ (λa ha=>by
    rcases ha with ha|⟨j,d,h1,h2⟩
    .exact .inl (.inl ha)
    .cases e:H1 a with
     |none=>exact .inr rfl
     |some o=>
      by_cases ho:∃(j:Ag)(d:Ov.D),Y[j]?=Ab (Ab (d,Aa))/\Z[j]?=Ab (Ab (.ref a))
      .exact .inl (.inr ho)
      .exact absurd ⟨e,ho⟩ ((x'.new j d a h1 h2).1 o)) x'.aok
  cases ea:as ds[k] Y' with
  |bad=>rw[ea]at q2;exact q2.elim
  |exn z=>exact absurd ea (hax _ _ z)
  |ok Y2=>
   rw[ea,O.of_ok]at q2;exact hGT Fy B Y' Z' H2 v ds[k] Y2 _ (x'.grow e2) rv' ea λZ3 x3=>⟨Fy,Y2,x3,CH.turn hfy (λ_ _ _ z=>z) q2 λY3 Z3 H3 x3 q3=>⟨Y3,x3,q3⟩⟩
 .have Ϻ:ds.length<=k:=by omega
  rw[FM Ϻ]at q';exact .inl ⟨yst Ϻ,q' Z' H' (x'.mono hfy λ_ _ _ z=>z)⟩
end
section
variable{X:Cx}{a b c:Am}
noncomputable def Ã:Ki->Ar DQ
 |.int=>Ab "int"
 |.bool=>Ab "bool"
 |.str=>Ab "str"
 |.list=>Ab "list"
 |.tuple=>Ab "tuple"
 |_=>Af
noncomputable def Tr:D->Ai
 |.obj _ _=>Ae
 |.exc _ _=>Ae
 |.dic _=>Ae
 |_=>Aa
theorem oi{k:Ki}{Q:Vq}{E:Vq}(I:Z4 X pI Z H s)(r:DK X.K CL H A v d)(q:Cp v u)(hT:Ã k=Ab T)(hd:Tr d=Aa)(h:∀ s',Z4 X pI Z H s'->Q (.bool (wr up k d)) s'):
  Az (model X.prog X.w) X.A (call (.builtin "isinstance") [u,.type T]) Q E s:=by
 have r':=r.plain;have it:=λt=>h _ (I.tok t)
 cases d with
 |obj=>exact BP hd
 |exc=>exact BP hd
 |dic=>exact BP hd
 |O=>
  cases r';cases q;cases k<;>simp only[Ã]at hT<;>cases hT
  .exact IsiPair.NoneType_int (it _)
  .exact IsiPair.NoneType_bool (it _)
  .exact IsiPair.NoneType_str (it _)
  .exact IsiPair.NoneType_list (it _)
  .exact IsiPair.NoneType_tuple (it _)
 |bl b=>
  cases r';cases q;cases k<;>simp only[Ã]at hT<;>cases hT
  .exact IsiPair.bool_int (h _ I)
  .exact IsiPair.bool_bool (h _ I)
  .exact IsiPair.bool_str (it _)
  .exact IsiPair.bool_list (it _)
  .exact IsiPair.bool_tuple (it _)
 |int i=>
  cases r';obtain⟨t,rfl⟩:=q;cases k<;>simp only[Ã]at hT<;>cases hT
  .exact IsiPair.int_int (h _ I)
  .exact IsiPair.int_bool (it _)
  .exact IsiPair.int_str (it _)
  .exact IsiPair.int_list (it _)
  .exact IsiPair.int_tuple (it _)
 |str x=>
  cases r';obtain⟨t,rfl⟩:=q;cases k<;>simp only[Ã]at hT<;>cases hT
  .exact IsiPair.str_int (it _)
  .exact IsiPair.str_bool (it _)
  .exact IsiPair.str_str (h _ I)
  .exact IsiPair.str_list (it _)
  .exact IsiPair.str_tuple (it _)
 |H ds=>
  obtain⟨p,xs,rfl,_,sq,rr⟩:=r';obtain⟨its,rv,pt,_⟩:=I.tuple sq;cases q;have Á:s.heap.IsTuple p its.toArray:=pt;cases k<;>simp only[Ã]at hT<;>cases hT
  .exact IsiPair.isTuple_int Á (λ_ _ e=>e) (it _)
  .exact IsiPair.isTuple_bool Á (λ_ _ e=>e) (it _)
  .exact IsiPair.isTuple_str Á (λ_ _ e=>e) (it _)
  .exact IsiPair.isTuple_list Á (λ_ _ e=>e) (it _)
  .exact IsiPair.isTuple_tuple Á (λ_ _ e=>e) (h _ I)
 |L ds=>
  obtain⟨p,xs,rfl,_,sq,rr⟩:=r';obtain⟨its,rv,pl,_⟩:=I.list sq;cases q;have Á:s.heap.IsList p its.toArray:=Ls pl;cases k<;>simp only[Ã]at hT<;>cases hT
  .exact IsiPair.isList_int Á (λ_ _ e=>e) (it _)
  .exact IsiPair.isList_bool Á (λ_ _ e=>e) (it _)
  .exact IsiPair.isList_str Á (λ_ _ e=>e) (it _)
  .exact IsiPair.isList_list Á (λ_ _ e=>e) (h _ I)
  .exact IsiPair.isList_tuple Á (λ_ _ e=>e) (it _)
theorem nV{k:Ki}(hT:Ã k=Ab T)(p:BO Rp W H (IX up [k] d) Q):Tr d=Aa/\BO Rp W H (.ok (.bl (wr up k d))) Q:=by
 cases k<;>simp only[Ã]at hT<;>cases hT<;>cases d<;>first|exact p.elim|exact⟨rfl,by simpa using p⟩
theorem ir{k:Ki}(hT:Ã k=Ab T)(hg:Gl X "isinstance")(hm:X.mg "isinstance" = Af)(hg2:Gl X x)(hm2:X.mg x=Af)(hv:DP x=Ab (.type T))(hn:x≠"__name__")(ik:(x==("__debug__" : Al))=Ae)(ha:ST X CL W a fa)(he:AR [a,.Name x p2] X.env=(Ae,eval a X.env)::AR [.Name x p2] X.env):SE X CL W (.Call (.Name "isinstance" p) [a,.Name x p2] [] pos) (λY=>(fa Y).bind λx=>IX up [k] x):=λA=>
 PE.weak (NN (r:=λxs H Q=>∃ y d,xs=[y,.ty T]/\DK X.K CL H A y d/\Tr d=Aa/\Q (.bl (wr up k d)) H) (λpI s Z H xs us Q I r ⟨y,d,e,ry,hd,q⟩=>by
   subst e;obtain⟨u,w',rfl,r1,r2⟩:=T4 r;cases r2;exact oi I ry r1 hT hd λs' I'=>⟨.bl _,H,I',rfl,q⟩)
  hg hm boot_isinstance (GP (ha A) (GP (xG (v:=.ty T) hg2 hm2 hv rfl hn ik) IR rfl) he) (by decide) (by decide) he rfl) λZ H Q ⟨hA,Y,g,q⟩=>⟨hA,Y,g,BO.bind q λd v H1 _ s1 r1 p1=>by
   obtain⟨hd,p2⟩:=nV hT p1;exact⟨v,d,rfl,r1,hd,p2 _ H1 (AV.refl H1) rfl⟩⟩
theorem tO{b:Ai}{E:Vq}(r:Y5 X.K CL H A v d)(q:Cp v u)(h:Iz d=.ok b)(hq:Q b s):Az (model prog w) A' (truthy u) Q E s:=by
 cases d with
 |O=>
  cases r;cases q;cases h;exact truthy_none hq
 |bl k=>
  cases r;cases q;cases h;exact Dj hq
 |int i=>
  cases r;obtain⟨t,rfl⟩:=q;cases h;exact truthy_int hq
 |_=>exact EZ h
theorem VF:∀{ds:Ac D}{b:Ai},Ir ds=.ok b->(∀ j,j<ds.length->∃ c,Iz (ds.getD j .O)=.ok c)/\b=(B5 ds.length).all λj=>match Iz (ds.getD j .O) with
  |.ok c=>c
  |_=>Ae
 |[],b,h=>by cases h;exact⟨λj hj=>absurd hj (JQ _),rfl⟩
 |d::ds,b,h=>by
  rw[RX]at h;cases e:Iz d with
  |bad=>rw[e]at h;cases h
  |exn x=>rw[e]at h;cases h
  |ok c=>
   rw[e,R.bind_ok]at h;cases e2:Ir ds with
   |bad=>rw[e2]at h;cases h
   |exn x=>rw[e2]at h;cases h
   |ok c2=>
    rw[e2,R.bind_ok]at h;cases h;obtain⟨h1,h2⟩:=VF e2;refine⟨λj hj=>?_,?_⟩
    .cases j with
     |zero=>exact⟨c,e⟩
     |succ j=>exact h1 j (by simpa using hj)
    .rw[BV,Vi,h2];show (c&&_)=((match Iz d with | .ok c=>c|_=>Ae)&&_)
     rw[e];rfl
theorem WP:∀(ds:Ac D)(a z:Ad),Iw a ds=.ok z->(∀ j,j<ds.length->∃ i,ds.getD j .O=.int i)/\z=a+Lg (λj=>match ds.getD j .O with
  |.int i=>i
  | _=>0) ds.length
 |[],a,z,h=>by cases h;exact⟨λj hj=>absurd hj (JQ _),by simp[Lg]⟩
 |.int i::ds,a,z,h=>by
  obtain⟨h1,h2⟩:=WP ds (a+i) z h;refine⟨λj hj=>?_,?_⟩
  .cases j with
   |zero=>exact⟨i,rfl⟩
   |succ j=>exact h1 j (by simpa using hj)
  .have key:∀ n,Lg (λj=>match (D.int i::ds).getD j .O with | .int i=>i|_=>0) (n+1)=i+Lg (λj=>match ds.getD j .O with | .int i=>i|_=>0) n:=by
    intro n
    induction n with
    |zero=>show (0:Ad)+i=i+0;lia
    |succ n ih=>
     show Lg _ (n+1)+(match ds.getD n .O with | .int i=>i|_=>0)=i+(Lg _ n+(match ds.getD n .O with | .int i=>i|_=>0))
     rw[ih]
     lia
   rw[h2,BV,key]
   lia
 |.O::_,_,_,h=>by exact EZ h
 |.bl _::_,_,_,h=>by exact EZ h
 |.str _::_,_,_,h=>by exact EZ h
 |.H _::_,_,_,h=>by exact EZ h
 |.L _::_,_,_,h=>by exact EZ h
 |.obj _ _::_,_,_,h=>by exact EZ h
 |.exc _ _::_,_,_,h=>by exact EZ h
 |.dic _::_,_,_,h=>by exact EZ h
theorem SK(r:Z9 X.K CL H A0 xs ds)(rv:Bv xs its){v:Aj}(h:its.toArray[j]?=Ab v):j<ds.length/\∃ x,Y5 X.K CL H A0 x (ds.getD j .O)/\Cp x v:=by
 have h':its[j]?=Ab v:=by simpa using h
 obtain⟨hj,e⟩:=Bh.mp h';obtain⟨x,rx,q⟩:=Mb r rv hj;have l1:=rv.length;have l2:=r.length
 exact⟨by lia,x,rx,by rw[<-e];exact q⟩
theorem Ub(k:∀ b q,b∉[h.objs.size]->(h.push o).get? b=Ab q->h'.get? b=Ab q):∀ b q,h.get? b=Ab q->h'.get? b=Ab q:=λb q e=>k b q (by
 intro z;have:=Bc.mp z;rw[this]at e;exact absurd (AK e) (BH _)) (At _ e)
theorem qb(hc:X.calm=Aa):LA X CL W (.builtin "all") (zc .all):=by
  intro A pI s Z H xs us Q I r ⟨hA,ds,rs,p⟩
  match ds,rs,p with
  |[.L es],rs,p=>
    obtain⟨v,rfl,rv⟩:=rs.one;obtain⟨q,ys,e,_,sq,ry⟩:=rv.plain;subst e;obtain⟨u,rfl,ru⟩:=ϝ r;cases ru;rw[iH]at p;cases e1:Ir es with
    |bad=>rw[e1]at p;exact p.elim
    |exn x=>
      exfalso
      have:∀(es:Ac D) x,Ir es≠.exn x:=by
        intro es
        induction es with
        |nil=>intro x h;cases h
        |cons d ds ih=>
          intro x h;rw[RX]at h;cases e:Iz d with
          |bad=>rw[e]at h;cases h
          |exn y=>cases d<;>cases e
          |ok c=>
            rw[e,R.bind_ok]at h;cases e2:Ir ds with
            |bad=>rw[e2]at h;cases h
            |exn y=>exact ih y e2
            |ok c2=>rw[e2]at h;cases h
      exact this es x e1
    |ok b=>
      rw[e1,R.bind_ok]at p;obtain⟨h1,h2⟩:=VF e1;obtain⟨its,ν,pl,_⟩:=I.list sq;have zd:q<s.heap.objs.size:=by obtain⟨o,n,e,_⟩:=pl;exact AK e
      have hl:its.toArray.size=es.length:=by rw[AT,<-ν.length,ry.length]
      refine call_all_walk (FV (Ls pl) ⟨s.heap.objs.size,_,_,_,_,_,(λj=>match Iz (es.getD j .O) with | .ok c=>c|_=>Ae),rfl,eT (A:=X.A.in1) (I.ok.hd hc) s.heap.objs.size q (Be zd) its.toArray,⟨⟨_,AG _ rfl,rfl,rfl⟩,(Ls pl).push _⟩,λj v s' Q' E' hv hQ=>?_,λh' tk k=>?_⟩)
      · obtain⟨hj,x,rx,qx⟩:=SK ry ν hv;obtain⟨c,ec⟩:=h1 j hj;exact tO rx qx ec (by dsimp only at hQ;rw[ec]at hQ;exact hQ)
      · rw[hl,<-h2];exact⟨.bl b,H,I.kept (Ub k),rfl,p _ H (AV.refl H) rfl⟩
  |[],_,p=>exact p.elim
  |[.O],_,p=>exact p.elim
  |[.bl _],_,p=>exact p.elim
  |[.int _],_,p=>exact p.elim
  |[.str _],_,p=>exact p.elim
  |[.H _],_,p=>exact p.elim
  |[.obj _ _],_,p=>exact p.elim
  |[.exc _ _],_,p=>exact p.elim
  |[.dic _],_,p=>exact p.elim
  |x::_::_,_,p=>cases x<;>exact p.elim
theorem Xn(hc:X.calm=Aa){ys:Ac V}{es:Ac D}(I:Z4 X pI Z H s)(sq:zp X.K H q ys\/yr X.K H q ys)(ry:Z9 X.K CL H A0 ys es)(p:BO (λH=>Y5 X.K CL H A) W H ((Iw 0 es).bind λb=>.ok (.int b)) Q):Az (model X.prog X.w) X.A (call (.builtin "sum") [.ref q]) (EP X pI Z Q) X.xe s:=by
 cases e1:Iw 0 es with
 |bad=>rw[e1]at p;exact p.elim
 |exn x=>
  exfalso
  have:∀(es:Ac D)(a:Ad) x,Iw a es≠.exn x:=by
   intro es
   induction es with
   |nil=>intro a x h;cases h
   |cons d ds ih=>
    intro a x h;cases d<;>first|exact ih _ _ h|cases h
  exact this es 0 x e1
 |ok z=>
  rw[e1,R.bind_ok]at p;obtain⟨h1,h2⟩:=WP es 0 z e1;rw[FX]at h2;rcases sq with sq|sq
  .obtain⟨its,ν,pl,_⟩:=I.list sq;have zd:q<s.heap.objs.size:=by obtain⟨o,n,e,_⟩:=pl;exact AK e
   have hl:its.toArray.size=es.length:=by rw[AT,<-ν.length,ry.length]
   refine eV (FV (Ls pl) ⟨s.heap.objs.size,_,_,_,_,_,(λj=>match es.getD j .O with | .int i=>i|_=>0),rfl,eT (A:=X.A.in1) (I.ok.hd hc) s.heap.objs.size q (Be zd) its.toArray,⟨⟨_,AG _ rfl,rfl,rfl⟩,(Ls pl).push _⟩,λb hb=>?_,λj v hv=>?_,λh' tk t' k=>?_⟩)
   .show b<(s.heap.push _).objs.size;rw[BW];rcases Ay.mp hb with rfl|hb
    .exact Hl _
    .rw[Bc.mp hb];exact DC zd
   .obtain⟨hj,x,rx,qx⟩:=SK ry ν hv;obtain⟨i,ei⟩:=h1 j hj;rw[ei]at rx;dsimp only;rw[ei];cases rx;exact qx
   .rw[hl,<-h2];exact⟨.int z,H,I.kept (Ub k),⟨_,rfl⟩,p _ H (AV.refl H) rfl⟩
  .obtain⟨its,ν,pl,_⟩:=I.tuple sq;have pl':s.heap.IsTuple q its.toArray:=pl;have zd:q<s.heap.objs.size:=by obtain⟨o,e,_⟩:=pl';exact AK e
   have hl:its.toArray.size=es.length:=by rw[AT,<-ν.length,ry.length]
   refine eV (IG pl' ⟨s.heap.objs.size,_,_,_,_,_,(λj=>match es.getD j .O with | .int i=>i|_=>0),rfl,Walks.tuple (A:=X.A.in1) (I.ok.hd hc) s.heap.objs.size q (Be zd) its.toArray,⟨⟨_,AG _ rfl,rfl,rfl⟩,pl'.push _⟩,λb hb=>?_,λj v hv=>?_,λh' tk t' k=>?_⟩)
   .show b<(s.heap.push _).objs.size;rw[BW];rcases Ay.mp hb with rfl|hb
    .exact Hl _
    .rw[Bc.mp hb];exact DC zd
   .obtain⟨hj,x,rx,qx⟩:=SK ry ν hv;obtain⟨i,ei⟩:=h1 j hj;rw[ei]at rx;dsimp only;rw[ei];cases rx;exact qx
   .rw[hl,<-h2];exact⟨.int z,H,I.kept (Ub k),⟨_,rfl⟩,p _ H (AV.refl H) rfl⟩
theorem mw(hc:X.calm=Aa):LA X CL W (.builtin "sum") (zc .sum):=by
  intro A pI s Z H xs us Q I r ⟨hA,ds,rs,p⟩
  match ds,rs,p with
  |[.L es],rs,p=>
    obtain⟨v,rfl,rv⟩:=rs.one;obtain⟨q,ys,e,_,sq,ry⟩:=rv.plain;subst e;obtain⟨u,rfl,ru⟩:=ϝ r;cases ru;exact Xn hc I (.inl sq) ry p
  |[.H es],rs,p=>
    obtain⟨v,rfl,rv⟩:=rs.one;obtain⟨q,ys,e,_,sq,ry⟩:=rv.plain;subst e;obtain⟨u,rfl,ru⟩:=ϝ r;cases ru;exact Xn hc I (.inr sq) ry p
  |[],_,p=>exact p.elim
  |[.O],_,p=>exact p.elim
  |[.bl _],_,p=>exact p.elim
  |[.int _],_,p=>exact p.elim
  |[.str _],_,p=>exact p.elim
  |[.obj _ _],_,p=>exact p.elim
  |[.exc _ _],_,p=>exact p.elim
  |[.dic _],_,p=>exact p.elim
  |x::_::_,_,p=>cases x<;>exact p.elim
end
section
variable(K:Fg)(CL:ClA)
def iJ(H0:Hp)(A:Ak->Prop)(H:Hp)(v:V)(d:D):Prop:=∀ ds,d=.L ds->∃ a xs,v=.ref a/\H0 a=Af/\H a=Ab (.L xs)/\Z9 K CL H (λb=>A b\/b=a) xs ds
def Fx(fr:Ai)(H0:Hp)(A:Ak->Prop)(H:Hp)(v:V)(d:D):Prop:=Y5 K CL H A v d/\(fr=Aa->iJ K CL H0 A H v d)
end
section
variable{CL:ClA}{a b:Am}
def SC(X:Cx)(CL:ClA)(W:XW)(fr:Ai)(e:Am)(f:Rho->R D):Prop:=∀ A,PE X e (λZ H Q=>zw H A/\∃ Y,Y4 X.K CL A Y Z H/\BO (Fx X.K CL fr H A) W H (f Y) Q)
theorem SC.se(h:SC X CL W fr a fa):SE X CL W a fa:=λA=>PE.weak (h A) λZ H Q ⟨hA,Y,g,p⟩=>⟨hA,Y,g,by
 cases e:fa Y with
 |ok d=>rw[e]at p;exact λv H' s r=>p v H' s r.1
 |exn x=>rw[e]at p;exact p
 | bad=>rw[e]at p;exact p⟩
theorem SE.sc(h:SE X CL W a fa):SC X CL W Ae a fa:=λA=>PE.weak (h A) λZ H Q ⟨hA,Y,g,p⟩=>⟨hA,Y,g,by
 cases e:fa Y with
 |ok d=>rw[e]at p;exact λv H' s r=>p v H' s ⟨r,λz=>nomatch z⟩
 |exn x=>rw[e]at p;exact p
 | bad=>rw[e]at p;exact p⟩
theorem SC.congr(h:SC X CL W fr a f)(e:∀ Y,g Y=f Y):SC X CL W fr a g:=λA=>PE.weak (h A) λZ H Q ⟨hA,Y,q,p⟩=>⟨hA,Y,q,by rw[<-e];exact p⟩
theorem LY{p:Ak}(s:AV H0 H)(hA:zw H A)(hp:H p=Af)(r:Z9 K CL H A xs ds):Fx K CL Aa H0 A (upd H p (.L xs)) (.ref p) (.L ds):=
 ⟨XV hA hp r,λ_ ϳ e=>by
  cases e;exact⟨p,xs,rfl,s.free hp,HP,(Z9.wide (λa ha=>ha.imp id λe=>by rw[e];exact hp) _ r).same (G7 hp _)⟩⟩
theorem Xd(r:Y5 K CL H A v d)(h:∀ ds,d≠.L ds):Fx K CL fr H0 A H v d:=⟨r,λ_ ds e=>absurd e (h ds)⟩
theorem gu(hs:SA X CL W es fs)(hz:∀ Y ds,fs Y=.ok ds->ds.length<=100000):SC X CL W Aa (.List es pos) (λY=>(fs Y).bind λxs=>.ok (.L xs)):=
 λA=>PE.weak (kq (hs A)) λZ H Q ⟨hA,Y,g,p⟩=>⟨hA,Y,g,IU.bind p λds vs H1 e s1 r1 p1=>⟨by
  rw[r1.length,Dt];have:=hz Y ds e;lia,λq hq=>p1 _ _ (G7 hq _) (LY s1 (hA.same s1) hq r1)⟩⟩
theorem BO.bindF(h:BO (Fx K CL fr H A) W H (r.bind f) Q)(k:∀ d v H',r=.ok d->AV H H'->Rp H' v d->BO (Fx K CL fr H A) W H' (f d) Q->Q' v H'):BO Rp W H r Q':=by
 cases r with
 |ok d=>exact λv H2 s2 q=>k d v H2 rfl s2 q (BO.same s2 h)
 |exn x=>exact h
 |bad=>exact h
theorem IU.bindF{r:R (Ac D)}(h:BO Rq W H (r.bind f) Q)(k:∀ d v H',r=.ok d->AV H H'->Rp H' v d->BO Rq W H' (f d) Q->Q' v H'):IU Rp W H r Q':=by
 cases r with
 |ok d=>exact λv H2 s2 q=>k d v H2 rfl s2 q (BO.same s2 h)
 |exn x=>exact h
 |bad=>exact h
theorem Oc.bindF{r:R (Ar Ad)}(h:BO Rq W H (r.bind f) Q)(k:∀ o H',r=.ok o->AV H H'->BO Rq W H' (f o) Q->Q' o H'):Oc W H r Q':=by
 cases r with
 |ok d=>exact λH2 s2=>k d H2 rfl s2 (BO.same s2 h)
 |exn x=>exact h
 |bad=>exact h
theorem tm{lo:Ar Am}(ha:ST X CL W a fa)(hl:SO X CL W lo fl)(hh:SO X CL W hi fh):SC X CL W Aa (.Subscript a (.Slice lo hi Af p2) pos) (λY=>(fa Y).bind λx=>(fl Y).bind λl=>(fh Y).bind λh=>Â x l h):=
 λA=>PE.weak (rM (r:=λx l h H Q=>U9 X.K x l h H Q\/U8 X.K x l h H Q) (λpI s Z H x v vl vu lo hi sl Q I rx hs pl pu h=>h.elim (vO pI s Z H x v vl vu lo hi sl Q I rx hs pl pu) (i6 pI s Z H x v vl vu lo hi sl Q I rx hs pl pu)) (ha A) (hl A) (hh A)) λZ H Q ⟨hA,Y,g,p⟩=>⟨hA,Y,g,BO.bindF p λdx x H1 _ s1 r1 p1=>⟨hA.same s1,Y,g.same s1,Oc.bindF p1 λl H2 _ s2 p2=>⟨(hA.same s1).same s2,Y,(g.same s1).same s2,Oc.bindF p2 λh H3 _ s3 p3=>by
  cases dx with
  |L ds=>
   obtain⟨q,xs,rfl,sq,r⟩:=((r1.same s2).same s3).lst_of;exact .inl ⟨q,xs,rfl,sq,λt ht=>p3 _ _ (G7 ht _) (LY ((s1.trans s2).trans s3) (((hA.same s1).same s2).same s3) ht (XJ l h r))⟩
  |H ds=>
   obtain⟨q,xs,rfl,_,sq,r⟩:=((r1.same s2).same s3).tup_of;rw[kD]at p3;split at p3
   .exact p3.elim
   .rename_i hw;refine .inr ⟨q,xs,rfl,sq,?_,λt ht=>p3 _ _ (G7 ht _) (Xd (MO (((hA.same s1).same s2).same s3) ht (XJ l h r)) (by intro _ z;cases z))⟩
    rintro⟨h1,h2⟩;refine hw ?_;have e:∀ d o,HT.sIx xs.length d o=Kb ds.length d o:=λd o=>by rw[r.length];cases o<;>rfl
    rw[e]at h1 h2;rw[r.length]at h2;simp[h1,h2]
  | _=>exact p3.elim⟩⟩⟩
def OpN(X:Cx)(CL:ClA)(W:XW)(f:Aj->Aj->D7 Aj)(g:D->D->R D):Prop:=
 ∀ A H0,yq X f (λx y H Q=>AV H0 H/\zw H A/\∃ dx dy,DK X.K CL H A x dx/\DK X.K CL H A y dy/\BO (Fx X.K CL Aa H0 A) W H (g dx dy) Q)
theorem xK:OpN X CL W (C2 .Add) (Ey .Add):=by
 intro A H0 pI s Z H x y v u Q I rx ry ⟨s0,hA,dx,dy,hx,hy,p⟩;have key:(∀ ds,dx≠.L ds)->EP X pI Z Q=EP X pI Z Q->Az (model X.prog X.w) X.A (C2 .Add v u) (EP X pI Z Q) X.xe s:=λhd _=>by
  refine XM (W:=W) A pI s Z H x y v u Q I rx ry ⟨hA,dx,dy,hx,hy,?_⟩;cases e:Ey .Add dx dy with
  |bad=>rw[e]at p;exact p
  |exn x=>rw[e]at p;exact p
  |ok d=>
   rw[e]at p;refine λv' H' s' r'=>p v' H' s' (Xd r' λds z=>?_)
   subst z;cases dx with
   |L ds=>exact hd _ rfl
   |H xs=>
    cases dy with
    |H ys=>rw[YS]at e;split at e<;>cases e
    |_=>exact EZ e
   |str xs=>
    cases dy with
    |str ys=>rw[YT]at e;split at e<;>cases e
    |_=>exact EZ e
   |int i=>cases dy<;>cases e
   |_=>exact EZ e
 cases dx with
 |L ds=>
  cases dy with
  |L es=>
   obtain⟨a,xs,rfl,s1,r1⟩:=hx.lst_of;obtain⟨b,ys,rfl,s2,r2⟩:=hy.lst_of;simp only[YU]at p;split at p
   .rename_i h;refine XN pI s Z H _ _ v u Q I rx ry ⟨a,b,xs,ys,rfl,rfl,s1,s2,by rw[r1.length,r2.length];exact Ll h,λq hq=>?_⟩
    exact p _ _ (G7 hq _) (LY s0 hA hq (r1.append r2))
   .exact p.elim
  |_=>exact p.elim
 |_=>exact key (by intro _ z;cases z) rfl
theorem gy(ha:ST X CL W a fa)(hb:ST X CL W b fb):SC X CL W Aa (.BinOp a .Add b pos) (λY=>(fa Y).bind λx=>(fb Y).bind λy=>Ey .Add x y):=
 λA pI s Z H Q I h=>by
  obtain⟨hA,Y,g,p⟩:=h;exact ZB (xK (W:=W) A H) (ha A) (hb A) pI s Z H Q I ⟨hA,Y,g,BO.bindF p λdx x H1 _ s1 r1 p1=>⟨hA.same s1,Y,g.same s1,BO.bind (Rq:=Fx X.K CL Aa H A) p1 λdy y H2 _ s2 r2 p2=>⟨s1.trans s2,(hA.same s1).same s2,dx,dy,r1.same s2,r2,p2⟩⟩⟩
def Qp(X:Cx)(CL:ClA)(W:XW)(f:Aj)(g:Ac D->R D):Prop:=∀ A H0,IV X f (λxs H Q=>AV H0 H/\zw H A/\∃ ds,JI X.K CL H A xs ds/\BO (Fx X.K CL Aa H0 A) W H (g ds) Q)
theorem yN:Qp X CL W (.type "list") (zc .list):=by
  intro A H0 pI s Z H xs us Q I r ⟨s0,hA,ds,rs,p⟩
  match ds,rs,p with
  |[.L es],rs,p=>
    obtain⟨v,rfl,rv⟩:=rs.one;obtain⟨q,ys,rfl,sq,ry⟩:=rv.lst_of;exact Vn pI s Z H _ us Q I r ⟨q,ys,rfl,.inl sq,λl hl=>p _ _ (G7 hl _) (LY s0 hA hl ry)⟩
  |[.H es],rs,p=>
    obtain⟨v,rfl,rv⟩:=rs.one;obtain⟨q,ys,rfl,_,sq,ry⟩:=rv.tup_of;exact Vn pI s Z H _ us Q I r ⟨q,ys,rfl,.inr sq,λl hl=>p _ _ (G7 hl _) (LY s0 hA hl ry)⟩
  |[],_,p=>exact p.elim
  |[.O],_,p=>exact p.elim
  |[.bl _],_,p=>exact p.elim
  |[.int _],_,p=>exact p.elim
  |[.str _],_,p=>exact p.elim
  |[.obj _ _],_,p=>exact p.elim
  |[.exc _ _],_,p=>exact p.elim
  |[.dic _],_,p=>exact p.elim
  |x::_::_,_,p=>cases x<;>exact p.elim
theorem gv(hc:Qp X CL W (.type T) g)(hg:Gl X x)(hm:X.mg x=Af)(hv:DP x=Ab (.type T))(ha:Ä X CL W (e::es) fs)(hn:x≠"__name__")(ik:(x==("__debug__" : Al))=Ae)(he:AR (e::es) X.env=(Ae,eval e X.env)::AR es X.env)(yo:∀ pos,(DO pos (AR es X.env)).any (·.1)=Ae):SC X CL W Aa (.Call (.Name x p) (e::es) [] pos) (λY=>(fs Y).bind g):=λA pI s Z H Q I ⟨hA,Y,gd,q⟩=>
 V3 (hc A H) hg hm hv (ha A) hn ik he (yo _) pI s Z H Q I ⟨hA,Y,gd,IU.bindF q λds vs H1 _ s1 r1 p1=>⟨s1,hA.same s1,ds,r1,p1⟩⟩
theorem gw{id:DQ}(hc:Qp X CL W (.builtin id) g)(hg:Gl X x)(hm:X.mg x=Af)(hv:DP x=Ab (.builtin id))(ha:Ä X CL W (e::es) fs)(hn:x≠"__name__")(ik:(x==("__debug__" : Al))=Ae)(he:AR (e::es) X.env=(Ae,eval e X.env)::AR es X.env)(yo:∀ pos,(DO pos (AR es X.env)).any (·.1)=Ae):SC X CL W Aa (.Call (.Name x p) (e::es) [] pos) (λY=>(fs Y).bind g):=λA pI s Z H Q I ⟨hA,Y,gd,q⟩=>
 NN (hc A H) hg hm hv (ha A) hn ik he (yo _) pI s Z H Q I ⟨hA,Y,gd,IU.bindF q λds vs H1 _ s1 r1 p1=>⟨s1,hA.same s1,ds,r1,p1⟩⟩
mutual
theorem Zv{K:Fg}{H:Hp}{A:Ak->Prop}(hA:zw H A):∀(n:Ag)(d:D){v:V},ű n d=Aa->Y5 K CL H A0 v d->Y5 K CL H A v d
 |_,.O,_,_,h=>h
 |_,.bl _,_,_,h=>h
 |_,.int _,_,_,h=>h
 |_,.str _,_,_,h=>h
 |0,.H _,_,hn,_=>by exact BP hn
 |n+1,.H ds,_,hn,h=>by
  obtain⟨a,xs,e,_,s,r⟩:=h;refine⟨a,xs,e,?_,s,ì hA n ds hn r⟩;rcases s with s|s
  .refine .inl λz=>?_
   obtain⟨ys,q,w⟩:=hA a z;rcases s with s|⟨o,s⟩<;>rw[q]at s<;>cases s<;>exact w
  .exact .inr s
 |n,.L _,_,hn,_=>by cases n<;>exact BP hn
 |n,.obj _ _,_,hn,_=>by cases n<;>exact BP hn
 |n,.exc _ _,_,hn,_=>by cases n<;>exact BP hn
 |n,.dic _,_,hn,_=>by cases n<;>exact BP hn
theorem ì{K:Fg}{H:Hp}{A:Ak->Prop}(hA:zw H A):∀(n:Ag)(ds:Ac D){vs:Ac V},ds.all (ű n)=Aa->Z9 K CL H A0 vs ds->Z9 K CL H A vs ds
 |_,[],[],_,h=>h
 |n,d::ds,_::_,hn,h=>by
  simp only[Ea,An]at hn;exact⟨Zv hA n d hn.1 h.1,ì hA n ds hn.2 h.2⟩
 |_,[],_::_,_,h=>h.elim
 |_,_::_,[],_,h=>h.elim
end
theorem o8(hA0:zw H0 A)(s:AV H0 H)(hc:Nl fr d=Aa)(r:Fx K CL fr H0 A0 H v d):Fx K CL fr H0 A H v d:=by
 have hA:=hA0.same s;cases d with
 |L ds=>
  have ú:(fr&&ds.all (ű 5))=Aa:=hc;rw[An]at ú;obtain⟨a,xs,e,h0,h1,rs⟩:=r.2 ú.1 ds rfl;have hA2:zw H (λb=>A b\/b=a):=λb hb=>hb.elim (hA b) λe=>by rw[e];exact⟨_,h1,trivial⟩
  have Ë:=ì hA2 5 ds ú.2 (Z9.sub (λ_ z=>z.elim) _ rs)
  refine⟨⟨a,xs,e,.inl (hA0.new h0),zp.of h1,Z9.sub (λ_ z=>.inl z) _ Ë⟩,λ_ ϳ e'=>?_⟩
  cases e';exact⟨a,xs,e,h0,h1,Ë⟩
 |_=>exact⟨Zv hA 5 _ hc r.1,λ_ _ z=>nomatch z⟩
def spD(K:Fg)(CL:ClA)(n:Ag)(fr:Ai)(F:Ac D->R D):Sp:=λvs H Q E=>∃(ds:Ac D)(A:Ak->Prop),vs.length=n/\zw H A/\Z9 K CL H A vs ds/\(match F ds with
  |.ok d=>∀ v H',AV H H'->Fx K CL fr H A H' v d->Q v H'
  |.exn x=>∀ cls dx H',AV H H'->ϟ K CL H' cls dx x->E cls dx H'
  | .bad=>BR)
def EKW(K:Fg)(CL:ClA)(A:Ak->Prop)(W:XW):XK:=λcls dx H'=>∃ x,ϟ K CL H' cls dx x/\W x H'
theorem JI.plain{K:Fg}{H:Hp}{A:Ak->Prop}:∀{vs:Ac V}{ds:Ac D},JI K CL H A vs ds->Z9 K CL H A0 vs ds
 |[],[],h=>trivial
 |_::_,_::_,h=>⟨h.1.plain,JI.plain h.2⟩
 |[],_::_,h=>h.elim
 |_::_,[],h=>h.elim
theorem vT{sh:Rho->Ai}(G:y7 X.prog X.w X.K X.mg X.base CX k f fd ps (spD X.K CL n fr F))(hr:y8 k X.A)(hg:Gl X x)(hm:X.mg x=Ab (.ref f))(hk:Ei X.K (.ref f)=Aa)(hb:Ϡ X.K fd ps [])(hx:∀ A,M6 CX X (EKW X.K CL A W))(ha:SA X CL W (e::es) fs)(hat:Ä X CL W (e::es) ft)(î:∀ Y,sh Y=Aa->ft Y=fs Y)(hn:∀ Y ds,ft Y=.ok ds->ds.length=n)(ik:(x==("__debug__" : Al))=Ae)(he:AR (e::es) X.env=(Ae,eval e X.env)::AR es X.env)(yo:∀ pos,(DO pos (AR es X.env)).any (·.1)=Ae):SC X CL W fr (.Call (.Name x p) (e::es) [] pos) (λY=>(ft Y).bind λds=>(F ds).bind λd=>if sh Y=Aa then .ok d else if Nl fr d=Aa then .ok d else .bad):=λA pI s Z H Q I ⟨hA,Y,gd,q⟩=>by
 dsimp only at q;by_cases hs:sh Y=Aa
 .rw[î Y hs]at q;refine W6 G hr hg hm hk hb .nil (hx A) (ha A) ik he (yo _) pI s Z H Q I ⟨hA,Y,gd,?_⟩;cases e1:fs Y with
  |bad=>rw[e1]at q;exact q
  |exn y=>rw[e1]at q;exact q
  |ok ds=>
   rw[e1]at q;intro vs H1 s1 r1;refine⟨ds,A,by rw[Cr,r1.length];exact hn Y ds (by rw[î Y hs];exact e1),hA.same s1,by rw[Cr];exact r1,?_⟩
   have q':BO (Fx X.K CL fr H A) W H ((F ds).bind λd=>if sh Y=Aa then .ok d else if Nl fr d=Aa then .ok d else .bad) Q:=q
   cases e2:F ds with
   |ok d=>
    rw[e2,R.bind_ok,AB hs]at q';exact λv H2 s2 r2=>q' v H2 (s1.trans s2) ⟨r2.1,λz ϳ e'=>let ⟨a,xs,z1,z2,z3⟩:=r2.2 z ϳ e';⟨a,xs,z1,s1.free z2,z3⟩⟩
   |exn y=>rw[e2]at q';exact λcls dx H2 s2 xr=>⟨y,xr,q' H2 (s1.trans s2)⟩
   |bad=>rw[e2]at q';exact q'.elim
 .refine W6 G hr hg hm hk hb .nil (hx A0) (hat A) ik he (yo _) pI s Z H Q I ⟨hA,Y,gd,?_⟩;cases e1:ft Y with
  |bad=>rw[e1]at q;exact q
  |exn y=>rw[e1]at q;exact q
  |ok ds=>
   rw[e1]at q;intro vs H1 s1 r1;refine⟨ds,A0,by rw[Cr,r1.plain.length];exact hn Y ds e1,λ_ z=>z.elim,by rw[Cr];exact r1.plain,?_⟩
   have q':BO (Fx X.K CL fr H A) W H ((F ds).bind λd=>if sh Y=Aa then .ok d else if Nl fr d=Aa then .ok d else .bad) Q:=q
   cases e2:F ds with
   |ok d=>
    rw[e2,R.bind_ok,AF hs]at q';split at q'
    .rename_i hc;exact λv H2 s2 r2=>q' v H2 (s1.trans s2) (o8 hA (s1.trans s2) hc ⟨r2.1,λz ϳ e'=>let ⟨a,xs,z1,z2,z3⟩:=r2.2 z ϳ e';⟨a,xs,z1,s1.free z2,z3⟩⟩)
    .exact q'.elim
   |exn y=>rw[e2]at q';exact λcls dx H2 s2 xr=>⟨y,xr,q' H2 (s1.trans s2)⟩
   |bad=>rw[e2]at q';exact q'.elim
end
theorem RP(env:DA):∀(ns:Ac (Al×Fo))(acc:Ac (Al×Ak)),(∀ x∈ns,x.2=.free->∃ c,env.cells.lookup x.1=Ab c)->(∀ x c,acc.lookup x=Ab c->env.cells.lookup x=Ab c) ->
  ∃ cl,(forIn ns acc fun(x:Al×Fo)(cs:Ac (Al×Ak))=>(if (x.2==.free)=Aa then do let c <-cellOf env x.1;pure (FH ((x.1,c)::cs)) else pure (FH cs):D7 (ForInStep (Ac (Al×Ak)))))=pure cl /\
   (∀ x c,cl.lookup x=Ab c->env.cells.lookup x=Ab c)/\(∀ x,((x,EX)∈ns\/∃ c,acc.lookup x=Ab c)->∃ c,cl.lookup x=Ab c)
 |[],acc,_,h2=>⟨acc,by rw[EF],h2,λx hx=>hx.elim (λz=>nomatch z) id⟩
 |(n,k)::r,acc,h1,h2=>by
  rw[EU];by_cases hk:k=.free
  .subst hk;obtain⟨c,hc⟩:=h1 (n,.free) Av rfl;obtain⟨cl,e,p,q⟩:=RP env r ((n,c)::acc) (λx hx=>h1 x (As _ hx)) (λx d hd=>by
    rw[Ct]at hd;split at hd
    .rename_i hx;cases hd;rw[eq_of_beq hx];exact hc
    .exact h2 x d hd)
   refine⟨cl,?_,p,λx hx=>q x ?_⟩
   .have e1:cellOf env n=pure c:=by unfold cellOf;dsimp only at hc;rw[hc]
    rw[AB (by rfl),e1]
    exact e
   .rcases hx with hx|⟨d,hd⟩
    .rcases Ay.mp hx with z|z
     .cases z;exact .inr ⟨c,by simp[Ct]⟩
     .exact .inl z
    .by_cases hxn:x=n
     .exact .inr ⟨c,by subst hxn;simp[Ct]⟩
     .exact .inr ⟨d,by rw[Ct];rw[D4.mpr hxn];exact hd⟩
  .obtain⟨cl,e,p,q⟩:=RP env r acc (λx hx=>h1 x (As _ hx)) h2
   refine⟨cl,?_,p,λx hx=>q x ?_⟩
   .rw[AF (by simpa using hk)]
    exact e
   .rcases hx with hx|hx
    .rcases Ay.mp hx with z|z
     .cases z;exact absurd rfl hk
     .exact .inl z
    .exact .inr hx
theorem Vy(h:∀ x∈scope.names,x.2=.free->∃ c,env.cells.lookup x.1=Ab c):∃ cl,closureFor scope env=pure cl/\(∀ x c,cl.lookup x=Ab c->env.cells.lookup x=Ab c)/\∀ x,(x,EX)∈scope.names->∃ c,cl.lookup x=Ab c:=by
 obtain⟨cl,e,p,q⟩:=RP env scope.names [] h (λx c z=>by simp at z)
 refine⟨cl,?_,p,λx hx=>q x (.inl hx)⟩
 unfold closureFor
 first
  |exact e
  |(simp only[bind_pure];exact e)
  |(rw[show (forIn scope.names ([]:Ac (Al×Ak)) _:D7 _)=pure cl from e];rfl)
theorem R9:∀(names:Ac (Al×Fo))(h:AO)(acc:Ac (Al×Ak))(x:Al)(c:Ak),(Ej h.objs.size names acc).lookup x=Ab c->acc.lookup x=Ab c\/((x,CB)∈names/\h.objs.size<=c/\(IE h names).IsCell c Af)
 |[],_,_,_,_,e=>.inl e
 |(n,k)::r,h,acc,x,c,e=>by
  unfold Ej at e;unfold IE;by_cases hk:(k==CB)=Aa
  .rw[AB hk]at e ⊢;have hs:h.objs.size+1=(h.push { cls:=.type "cell",data:=.cell Af }).objs.size:=(BW ..).symm;rw[hs]at e;rcases R9 r _ _ x c e with q|⟨q1,q2,q3⟩
   .rw[Ct]at q;cases hx:x==n with
    |true=>
     rw[hx]at q;cases q;refine .inr ⟨?_,AE _,?_⟩
     .rw[eq_of_beq hx,eq_of_beq hk];exact Av
     .exact⟨_,JT r _ _ _ (AG _ rfl),rfl⟩
    |false=>rw[hx]at q;exact .inl q
   .exact .inr ⟨As _ q1,by lia,q3⟩
  .rw[AF hk]at e ⊢;rcases R9 r h acc x c e with q|⟨q1,q2,q3⟩
   .exact .inl q
   .exact .inr ⟨As _ q1,q2,q3⟩
theorem Sa:∀(names:Ac (Al×Fo))(h:AO)(acc:Ac (Al×Ak)),(∀ x y c,acc.lookup x=Ab c->acc.lookup y=Ab c->x=y)->(∀ x c,acc.lookup x=Ab c->c<h.objs.size)->∀ x y c,(Ej h.objs.size names acc).lookup x=Ab c->(Ej h.objs.size names acc).lookup y=Ab c->x=y
 |[],_,_,i,_,x,y,c,e1,e2=>i x y c e1 e2
 |(n,k)::r,h,acc,i,b,x,y,c,e1,e2=>by
  unfold Ej at e1 e2;by_cases hk:(k==CB)=Aa
  .rw[AB hk]at e1 e2;have hs:h.objs.size+1=(h.push { cls:=.type "cell",data:=.cell Af }).objs.size:=(BW ..).symm;rw[hs]at e1 e2;have look:∀ z d,aW z ((n,h.objs.size)::acc)=Ab d->(z=n/\d=h.objs.size)\/(z≠n/\acc.lookup z=Ab d):=λz d q=>by
    rw[Ct]at q;cases hx:z==n with
    |true=>rw[hx]at q;cases q;exact .inl ⟨eq_of_beq hx,rfl⟩
    |false=>rw[hx]at q;exact .inr ⟨λe=>by rw[e]at hx;simp at hx,q⟩
   refine Sa r _ _ (λz z' d q q'=>?_) (λz d q=>?_) x y c e1 e2
   .rcases look z d q with ⟨rfl,q1⟩|⟨_,q1⟩<;>rcases look z' d q' with ⟨rfl,q2⟩|⟨_,q2⟩
    .rfl
    .exact absurd (b _ _ q2) (by rw[q1];exact BH _)
    .exact absurd (b _ _ q1) (by rw[q2];exact BH _)
    .exact i _ _ _ q1 q2
   .rw[<-hs];rcases look z d q with ⟨_,q1⟩|⟨_,q1⟩
    .rw[q1];exact Hl _
    .exact DC (b _ _ q1)
  .rw[AF hk]at e1 e2;exact Sa r h acc i b x y c e1 e2
theorem RT:∀(names:Ac (Al×Fo))(n:Ag)(acc:Ac (Al×Ak))(x:Al),(x,CB)∉names->(Ej n names acc).lookup x=acc.lookup x
 |[],_,_,_,_=>rfl
 |(m,k)::r,n,acc,x,hx=>by
  unfold Ej;have hr:(x,CB)∉r:=λz=>hx (As _ z)
  by_cases hk:(k==CB)=Aa
  .rw[AB hk,RT r _ _ x hr,Ct];cases q:x==m with
   |true=>exact absurd (by rw[eq_of_beq q,eq_of_beq hk];exact Av) hx
   |false=>rfl
  .rw[AF hk];exact RT r n acc x hr
theorem Sb(n0:Ag):∀(names:Ac (Al×Fo))(n:Ag)(acc:Ac (Al×Ak))(x:Al),n0<=n->((x,CB)∈names\/∃ c,acc.lookup x=Ab c/\n0<=c)->∃ c,(Ej n names acc).lookup x=Ab c/\n0<=c
 |[],_,_,_,_,h=>h.elim (λz=>nomatch z) id
 |(m,k)::r,n,acc,x,hn,h=>by
  unfold Ej;by_cases hk:(k==CB)=Aa
  .rw[AB hk];refine Sb n0 r _ _ x (by lia) ?_
   by_cases hx:(x==m)=Aa
   .exact .inr ⟨n,by rw[Ct,hx],hn⟩
   .rcases h with h|⟨c,h,hc⟩
    .rcases Ay.mp h with z|z
     .cases z;simp at hx
     .exact .inl z
    .exact .inr ⟨c,by rw[Ct];simp only[hx];exact h,hc⟩
  .rw[AF hk];refine Sb n0 r _ _ x hn (h.imp (λh=>?_) id)
   rcases Ay.mp h with z|z
   .cases z;simp at hk
   .exact z
theorem kP{A:A9}{E:Vq}(hQ:Q (newEnv scope s.heap.objs.size globals (Ej (s.heap.objs.size+1) scope.names cl) qual Af .none (Ab env) Ky) { s with heap:=IE (s.heap.push { cls:=.type "dict",data:=.dict #[] }) scope.names }):Az M A (Kq scope globals cl [] qual Af .none (Ab env)) Q E s:=by
 simp only[Kq,Option.isSome_some,Jm];refine Ah (wpAny_alloc ?_);refine Ah (wpAny_layCells _ (λname kind cells=>by cases hkc:kind==CB<;>simp[hkc]) _ _ _ _ ?_)
 rw[show ({ s with heap:=s.heap.push { cls:=.type "dict",data:=.dict #[] } }:Aq).heap.objs.size=s.heap.objs.size+1 from BW ..]
 rw[EF];exact Ah (Au (Au hQ))
noncomputable def yu(X:Cx)(scope:CP)(cl:Ac (Al×Ak))(C:Ak)(N':Ac Al)(s₀:Aq)(H₀:Hp)(fp:Ac Ak):Cx where
 prog:=X.prog
 w:=X.w
 K:=X.K
 mg:=X.mg
 base:=X.base
 A:=X.A
 N:=N'
 s₀:=s₀
 H₀:=H₀
 env:=compEnvC scope cl C X.env
 outer:=X.stack
 stack:=X.stack
 ex:=fp
 fn:=λx=>scope.names.lookup x==Ab CB
 calm:=X.calm
 pn:=[]
 xe:=λ_ _=>BR
theorem Ox{env:DA}:∀{names:Ac (Al×Fo)}{x:Al}{k:Fo},(names.map λ(n,k)=>if (k==EX&&env.scope.kind==.function&&env.kindOf n==Ab .cell) then (n,CB) else (n,k)).lookup x=Ab k->names.lookup x=Ab k\/(k=.cell/\names.lookup x=Ab .free)
 |[],_,_,h=>by simp at h
 |(n,j)::r,x,k,h=>by
  have ih:=@Ox env r x k;have h':aW x ((if (j==EX&&env.scope.kind==.function&&env.kindOf n==Ab .cell)=Aa then (n,CB) else (n,j))::(r.map λ(n,k)=>if (k==EX&&env.scope.kind==.function&&env.kindOf n==Ab .cell) then (n,CB) else (n,k)))=Ab k:=h
  by_cases hc:(j==EX&&env.scope.kind==.function&&env.kindOf n==Ab .cell)=Aa
  .rw[AB hc]at h';rw[Ct]at h' ⊢;cases hx:x==n with
   |true=>
    rw[hx]at h';cases h';simp only[An]at hc;exact .inr ⟨rfl,by rw[eq_of_beq hc.1.1]⟩
   |false=>rw[hx]at h';exact ih h'
  .rw[AF hc]at h';rw[Ct]at h' ⊢;cases hx:x==n with
   |true=>rw[hx]at h';exact .inl h'
   |false=>rw[hx]at h';exact ih h'
structure zk (X:Cx) (scope:CP) (N':Ac Al) (ts:Ac Ag):Prop where
 kind:scope.kind=.function
 uniq:∀ y∈scope.names,scope.names.lookup y.1=Ab y.2
 names:∀ y∈scope.names,y.2=.local->scope.names.lookup y.1=Ab .local
 free:∀ y∈scope.names,y.2=.free->X.env.scope.names.lookup y.1=Ab .cell\/X.env.scope.names.lookup y.1=Ab .free
 len:N'.length=X.N.length
 same:∀ i x,N'[i]?=Ab x->scope.names.lookup x=Ab .free->i∉ts->X.N[i]?=Ab x
 loc:∀ i x,N'[i]?=Ab x->(scope.names.lookup x=Ab .local\/scope.names.lookup x=Ab .cell)->i∈ts
structure ϭ (X:Cx) (scope:CP) (cl:Ac (Al×Ak)) (C:Ak) (h:AO):Prop where
 own:∀ x c,cl.lookup x=Ab c->X.env.cells.lookup x=Ab c\/(scope.names.lookup x=Ab .cell/\C<c/\h.IsCell c Af)
 inj:∀ x y c,cl.lookup x=Ab c->cl.lookup y=Ab c->x=y
 has:∀ x,scope.names.lookup x=Ab .cell->∃ c,cl.lookup x=Ab c/\C<c
 fr:∀ x,(x,EX)∈scope.names->∃ c,cl.lookup x=Ab c/\X.env.cells.lookup x=Ab c
section
variable{Z:L2.St}
noncomputable def hideT(ts:Ac Ag)(Z:L2.St):L2.St:=ts.foldl (λZ t=>Z.set t Af) Z
theorem RK:∀(ts:Ac Ag)(Z:L2.St),(hideT ts Z).length=Z.length
 |[],_=>rfl
 |t::ts,Z=>by show (hideT ts (Z.set t Af)).length=_;rw[RK ts,Bj]
theorem VG:∀(ts:Ac Ag)(Z:L2.St){i:Ag}{v:V},(hideT ts Z)[i]?=Ab (Ab v)->Z[i]?=Ab (Ab v)/\i∉ts
 |[],_,_,_,h=>⟨h,by simp⟩
 |t::ts,Z,i,v,h=>by
  obtain⟨h1,h2⟩:=VG ts (Z.set t Af) (i:=i) (v:=v) h;by_cases e:t=i
  .subst e;have:=HQ h1;cases this
  .rw[Dc e]at h1;exact⟨h1,by simp only[Ay,ES];exact⟨λz=>e z.symm,h2⟩⟩
theorem kU{fp:Ac Ak}(I:Z4 X pI Z H s)(B:zk X scope N' ts)(hf:∀ b∈fp,Iu X pI H b)(Β:∀ b∈fp,b<s.heap.objs.size)(hb:ϭ X scope cl C h')(hk:∀ b o,s.heap.get? b=Ab o->h'.get? b=Ab o)(hC:s.heap.objs.size<=C)(hn:h'.Ns C m):Z4 (yu X scope cl C N' s H fp) [] (hideT ts Z) H {s with heap:=h',toks:=tk}:=by
 have stf:∀ b∈fp,b∉ye X.stack:=λb hb z=>by
  rcases Ay.mp (I.stkSub b z) with e|e
  .exact(hf b hb).2.1 e
  .exact(hf b hb).2.2.1 e
 have Į:∀ x,((relabel scope X.env).names.lookup x=Ab .cell\/(relabel scope X.env).names.lookup x=Ab .free)->scope.names.lookup x=Ab .free\/scope.names.lookup x=Ab .cell:=λx hx=>by
  rcases hx with z|z
  .rcases Ox z with z|⟨_,z⟩
   .exact .inr z
   .exact .inl z
  .rcases Ox z with z|⟨z,_⟩
   .exact .inl z
   .cases z
 have gtC:∀ c:Ak,C<c->s.heap.objs.size<=c:=λc z=>CM hC (FY z)
 have cellK:∀ c v,s.heap.IsCell c v->h'.IsCell c v:=λc v ⟨o,ho,hd⟩=>⟨o,hk _ _ ho,hd⟩
 refine⟨⟨I.ok.mod,B.kind,I.ok.glob,I.ok.blt,hC,hb.inj,λx hx=>?_,λx c h e=>?_,I.ok.hd,I.ok.frames,.inl rfl,λb ž=>⟨?_,λx c e=>?_⟩,I.bs,CM I.ok.bsz I.sz,λb o e ž=>?_,stf,I.stack,I.stkFree⟩,rfl,I.bare,Un.kept hk,⟨m,hn,λi x v h1 h2 h3=>?_⟩,λx c e=>?_,I.hok.fresh hC,λx c e=>(hb.own x c e).elim (I.freeC x c) (λz=>I.hok.fresh (gtC c z.2.1)),λp hp=>absurd (show p∈([]:Pn) from hp) (by simp),I.hok.kept hk,?_⟩
 .rcases Į x hx with z|z
  .obtain⟨c,q,_⟩:=hb.fr x (DF z);exact⟨c,q⟩
  .obtain⟨c,q,_⟩:=hb.has x z;exact⟨c,q⟩
 .obtain⟨c',q,z⟩:=hb.has x (eq_of_beq h);have e':cl.lookup x=Ab c:=e;rw[q]at e';cases e';exact gtC _ z
 .intro z;have z':b=C:=z;have:=Β b ž;rw[z']at this;exact absurd (AS this hC) (BH _)
 .rcases hb.own x c e with z|z
  .exact(hf b ž).2.2.2.2.1 x c z
  .intro q;have:=Β b ž;have:=gtC c z.2.1;rw[q]at this;exact absurd ‹b<_› (GV.mpr this)
 .rcases (hf b ž).2.2.2.1 with z|z
  .exact I.ok.noex b o e z
  .exact absurd (AS (AK e) (CM I.ok.bsz z)) (BH _)
 .obtain⟨h2,hts⟩:=VG ts Z h2;have h3':(relabel scope X.env).names.lookup x=Ab .local\/(relabel scope X.env).names.lookup x=Ab .cell\/(relabel scope X.env).names.lookup x=Ab .free:=h3;have ı:N'[i]?=Ab x:=h1;rcases h3' with z|z
  .rcases Ox z with z|⟨z,_⟩
   .exact absurd (B.loc i x ı (.inl z)) hts
   .cases z
  .have fr:=(Į x z).resolve_right λq=>hts (B.loc i x ı (.inr q))
   have hm:=DF fr;have hX:=B.same i x ı fr hts;obtain⟨m0,hn0,hl0⟩:=I.loc;obtain⟨u,ru,lk⟩:=hl0 i x v hX h2 (by
    rcases B.free _ hm rfl with q|q
    .exact .inr (.inl q)
    .exact .inr (.inr q))
   refine⟨u,ru,?_⟩;obtain⟨c,hc,hcX⟩:=hb.fr x hm;rcases lk with ⟨q,_⟩|⟨_,c',ú,Þ⟩
   .have q':X.env.scope.names.lookup x=Ab .local:=q;rcases B.free _ hm rfl with p|p
    .rw[show X.env.scope.names.lookup x=_ from p]at q';cases q'
    .rw[show X.env.scope.names.lookup x=_ from p]at q';cases q'
   .have e:=hcX;rw[ú]at e;cases e;exact .inr ⟨z,c,hc,cellK _ _ Þ⟩
 .rcases hb.own x c e with z|z
  .obtain⟨v,q⟩:=I.cell x c z;exact⟨v,cellK _ _ q⟩
  .exact⟨_,z.2.2⟩
 .show (hideT ts Z).length=N'.length;rw[RK,I.len,B.len]
theorem Wd{D:Ak}{Z':L2.St}{ys:Ac Aj}(I:Z4 X pI Z H s)(hf:∀ b∈fp,Iu X pI H b)(I':Z4 (yu X scope cl C N' s H fp) mN Z' H' s')(hD:s.heap.objs.size<=D)(ϋ:D≠C)(hC:s.heap.objs.size<=C)(hd:s'.heap.get? D=Ab { cls:=.type "list",data:=.seq ys.toArray n })(ũ:H' D=Af)(rv:Bv xs ys)(hz:xs.length<=sizeLine)(hs:Fn C s'.heap gV):Z4 X pI Z (upd H' D (.L xs)) {s' with heap:=gV}:=by
  have u:Un (ye X.stack) fp H H' s.heap s'.heap:=I'.base;have lt:∀ b o,s.heap.get? b=Ab o->b≠C/\b≠D:=λb o e=>⟨λz=>absurd (AS (AK e) (z ▸ hC)) (BH _),λz=>absurd (AS (AK e) (z ▸ hD)) (BH _)⟩
  have HD:H D=Af:=I.hok.fresh hD;have Č:H' C=Af:=I'.free;have kb:∀ b o,b≠C->s'.heap.get? b=Ab o->gV.get? b=Ab o:=λb o hb e=>(hs.2 b hb).trans e
  have u2:Un (ye X.stack) fp H (upd H' D (.L xs)) s.heap gV:=⟨λb o e q hb hx=>kb b o (lt b o e).1 (u.keep b o e q hb hx),λb o e q hb hx=>by
      obtain⟨sl,e1⟩:=u.slot b o e q hb hx;exact⟨sl,kb b _ (lt b o e).1 e1⟩,λb o e q hx=>by rw[Dp (lt b o e).2];exact u.free b o e q hx,λb o e hx=>by
      obtain⟨o',e1⟩:=u.there b o e hx;exact⟨o',kb b _ (lt b o e).1 e1⟩,λb zs q=>by rw[Dp (Hn q HD)];exact u.tups b zs q,λb o zs q=>by rw[Dp (Hn q HD)];exact u.frzs b o zs q,λb ps q=>by rw[Dp (Hn q HD)];exact u.tbls b ps q⟩
  have hok:yt X.prog X.w (upd H' D (.L xs)) gV:=λb o e=>by
    by_cases hb:b=D
    · subst hb;rw[HP]at e;cases e;exact⟨hz,ys,n,rv,kb _ _ ϋ hd⟩
    · rw[Dp hb]at e;refine(I'.hok b o e).stay (λc v hc q=>kb c v ?_ q) (λc q=>by rw[Dp (Hn q ũ)];exact q) λc zs q=>by rw[Dp (Hn q ũ)];exact q
      rcases hc with rfl|hc
      · exact Hn e Č
      · exact Hn hc Č
  exact I.call' (s':={s' with heap:=gV}) (ch:=fp) I'.os u2 hok I'.bare λb hb=>⟨(hf b hb).2.2.2.1,(hf b hb).2.1,(hf b hb).2.2.2.2.1,(hf b hb).2.2.2.2.2⟩
end
def ŧ(X:Cx)(ifs:Ac Am)(tt:TT):Prop:=∀(pI:Pn)(s:Aq)(Z:L2.St)(H:Hp)(Q:Ai->Hp->Prop),Z4 X pI Z H s->tt Z H Q ->
 Az (model X.prog X.w) X.A (forIn ifs Aa λc r=>if r=Aa then do let ok <-Ko c X.env (eval c X.env);pure (FH ok) else pure (FH r)) (TP X pI Z Q) X.xe s
theorem tR:ŧ X [] (λZ H Q=>Q Aa H):=λpI s Z H Q I h=>wpAny_tests_nil ⟨H,I,h⟩
theorem tP(h:PT X c t):ŧ X [c] t:=λpI s Z H Q I q=>wpAny_tests_one (h pI s Z H Q I q)
theorem mC{D:Ak}{ys:Ac Aj}{E:Vq}{Q:Vq}(I:Z4 X ((D,{ cls:=.type "list",data:=.seq ys.toArray n })::pI) Z H s)(hD:X.s₀.heap.objs.size<=D)(hp:∀ p∈X.pn++pI,p.1≠D)(hc:∀ x c,X.env.cells.lookup x=Ab c->c≠D)(hz:ys.length<=sizeLine)(h:∀ s',Z4 X ((D,{ cls:=.type "list",data:=.seq (ys++[y]).toArray (n+1) })::pI) Z H s'->(∀ b o,b≠D->s.heap.get? b=Ab o->s'.heap.get? b=Ab o)->Q .none s'):Az (model X.prog X.w) X.A (call (.builtin "list.append") [.ref D,y]) Q E s:=by
 obtain⟨e,hn,hL,hfs,_⟩:=I.pin (D,{ cls:=.type "list",data:=.seq ys.toArray n }) (BZ _ Av);refine append_at (hsz:=by rw[AT];exact hz) e λh' hs hd=>?_
 have È:h'.get? D=Ab { cls:=.type "list",data:=.seq (ys++[y]).toArray (n+1) }:=by rw[hd];simp
 have kb:∀ b o,b≠D->s.heap.get? b=Ab o->h'.get? b=Ab o:=λb o hb q=>(hs.2 b hb).trans q
 have I0:Z4 X pI Z H s:=I.pins_of λp hp=>I.pin p (BZ _ (As _ hp))
 have I1:Z4 X pI Z H {s with heap:=h'}:=I0.turned (t':=s.toks) kb hn hL (.inr hD) hc hp
 refine h _ (I1.pins_of λp hp=>?_) kb
 rcases Ay.mp hp with rfl|hp
 .exact⟨È,hn,hL,hfs,λv z=>by
   have z':Nw _ _=Nt v:=z;cases z'⟩
 .exact I1.pin p (BZ _ hp)
theorem kT{scope:CP}{env:DA}{prog:AW}{w:AJ}{A:A9}{R:K7->Aq->Prop}{s:Aq}{target:Am}{it acc:Aj}(I:Ag->Aq->Prop)(turn:∀ n s,I n s->Az (model prog w) A (E5 it) (λr s₁=>match r with
      |none=>R (.ok .next) s₁
      | some v=>Az (model prog w) A (HK target it v) (λ_ s₁'=>Az (model prog w) A (assign target env v) (λ_ s₂=>
          Az (model prog w) A (forIn ifs Aa λc r=>if r=Aa then do let ok <-Ko c env (eval c env);pure (FH ok) else pure (FH r)) (λok s₃=>
            if ok=Aa then Az (model prog w) A (eval elt env) (λx s₄=>
              Az (model prog w) A (call (.builtin "list.append") [acc,x]) (λ_ s₅=>∃ m,m<n/\I m s₅) (Kr (model prog w) A env λe s'=>R (.error e) s') s₄) (Kr (model prog w) A env λe s'=>R (.error e) s') s₃
            else ∃ m,m<n/\I m s₃) (Kr (model prog w) A env λe s'=>R (.error e) s') s₂) (Kr (model prog w) A env λe s'=>R (.error e) s') s₁') (Kr (model prog w) A env λe s'=>R (.error e) s') s₁) (Kr (model prog w) A env λe s'=>R (.error e) s') s)(n:Ag)(h:I n s):GZ (model prog w) A (.compLoop (.ListComp elt [⟨target,iter,ifs,0⟩] scope pos) 0 it acc env) R s:=by
  refine codeAny_loop rfl I (λn s hI=>?_) n h
  show Az _ A ((compTurn (.ListComp elt [⟨target,iter,ifs,0⟩] scope pos) 0 it acc env).onRaise (λx=>do Lf x env;theTreesLotGoes x)) _ _ s
  refine wpAny_noted ?_;rw[compTurn_list];refine Ah (IL (Ah (Dx (turn n s hI) (λr s₁ h₁=>?_) λ_ _ h'=>h')))
  cases r with
  |none=>exact Au h₁
  |some v=>
    refine Ah (Dx h₁ (λ_ s₁' h₁'=>?_) λ_ _ h'=>h')
    refine Ah (Dx h₁' (λ_ s₂ h₂=>Ah (Dx h₂ (λok s₃ h₃=>?_) λ_ _ h'=>h')) λ_ _ h'=>h')
    cases ok with
    |false=>exact Au ⟨rfl,h₃⟩
    |true=>
      exact Ah (Ah (Dx h₃ (λx s₄ h₄=>Ah (Dx h₄ (λ_ s₅ h₅=>Au (Au ⟨rfl,h₅⟩)) λ_ _ h'=>h')) λ_ _ h'=>h'))
def NT(J_:It)(ts:Ac Ag)(g:TG)(tt:TT)(te:TE)(Z:L2.St)(H:Hp)(Q:VK):Prop:=∃ W:Ag->Ag->Ac V->L2.St->Hp->Prop,(∃ m,W 0 m [] (hideT ts Z) H)/\∀ i m xs Z H,W i m xs Z H ->
 (J_.stop i H/\∀ p,H p=Af->Q (.ref p) (upd H p (.L xs))) \/
 (J_.go i H/\xs.length<sizeLine/\∀ x H',J_.yld i H x H'->g x Z H' λZ2 H2=>tt Z2 H2 λb H3=>if b=Aa then te Z2 H3 λy H4=>∃ m',m'<m/\W (i+1) m' (xs++[y]) Z2 H4 else ∃ m',m'<m/\W (i+1) m' xs Z2 H3)
theorem WV{E:Vq}{RR:Aj->Ak->K7->Aq->Prop}(hc:X.calm=Aa)(B:zk X scope N' ts)(I:Z4 X pI Z H s)(T:é X.prog X.w X.K tg J_ fp it tn)(st:tn 0 s.heap)(hf:∀ b∈fp,Iu X pI H b)(Ó:∀ x c,cl.lookup x=Ab c->X.env.cells.lookup x=Ab c)(ϵ:∀ x,(x,EX)∈scope.names->∃ c,cl.lookup x=Ab c)(hg:∀ cl C s H,PG (yu X scope cl C N' s H fp) tg g)(ht:∀ cl C s H,ŧ (yu X scope cl C N' s H fp) ifs tt)(he:∀ cl C s H,PE (yu X scope cl C N' s H fp) elt te)(h:NT J_ ts g tt te Z H Q)(hRR:∀ cl D C s' H' Z' mN xs ys n m,Z4 (yu X scope cl C N' s H fp) mN Z' H' s'->s'.heap.get? D=Ab { cls:=.type "list",data:=.seq (D5 ys) n }->H' D=Af->Bv xs ys->xs.length<=sizeLine->s.heap.objs.size<=D->D≠C->s.heap.objs.size<=C->s'.heap.Ns C m->Q (.ref D) (upd H' D (.L xs))->RR (.ref D) C (.ok .next) s'):Az (model X.prog X.w) X.A (newList []) (λacc s₃=>Az (model X.prog X.w) X.A (Kq scope X.env.globals cl [] X.env.qual Af .none (Ab X.env)) (λī s₄=>GZ (model X.prog X.w) X.A (.compStart (.ListComp elt [⟨tg,iter,ifs,0⟩] scope pos) 0 (.ref it) acc {ī with scope:=relabel scope X.env}) (RR acc ī.locals) s₄) E s₃) E s:=by
 refine Di (kP ?_);dsimp only;generalize hH2:s.heap.push { cls:=.type "list",dict:=Af,data:=.seq ([]:Ac Aj).toArray }=H2;have Ń:(IE (H2.push { cls:=.type "dict",data:=.dict #[] }) scope.names).Ns H2.objs.size (λ_=>Af):=(Heap.Ns.new H2 (.type "dict")).keeps (JT _ _)
 have Ζ:∀ b o,H2.get? b=Ab o->(IE (H2.push { cls:=.type "dict",data:=.dict #[] }) scope.names).get? b=Ab o:=λb o e=>JT _ _ b o (At _ e)
 have Ϗ:=R9 scope.names (H2.push { cls:=.type "dict",data:=.dict #[] }) cl;have Δ:=Sa scope.names (H2.push { cls:=.type "dict",data:=.dict #[] }) cl;rw[BW]at Ϗ Δ;generalize hcl':Ej (H2.objs.size+1) scope.names cl=fI at Ϗ Δ;have hcf:∀ x,(x,CB)∉scope.names->fI.lookup x=cl.lookup x:=λx hx=>by rw[<-hcl'];exact RT _ _ _ x hx
 have Ç:∀ x,(x,CB)∈scope.names->∃ c,fI.lookup x=Ab c/\H2.objs.size+1<=c:=λx hx=>by rw[<-hcl'];exact Sb _ _ _ _ x (AE _) (.inl hx)
 generalize hh₁:IE (H2.push { cls:=.type "dict",data:=.dict #[] }) scope.names=h₁ at Ń Ζ Ϗ;have hC:H2.objs.size=s.heap.objs.size+1:=by rw[<-hH2,BW]
 have ϴ:s.heap.objs.size<=H2.objs.size:=by rw[hC];exact LQ _
 have ϋ:s.heap.objs.size≠H2.objs.size:=by rw[hC];exact Be (Hl _)
 have below:∀ b,b<s.heap.objs.size->b≠H2.objs.size:=λb hb=>by rw[hC];exact Be (DC hb)
 have old:∀ b o,s.heap.get? b=Ab o->h₁.get? b=Ab o:=λb o e=>Ζ b o (hH2 ▸ At _ e)
 have hacc:h₁.get? s.heap.objs.size=Ab { cls:=.type "list",data:=.seq ([]:Ac Aj).toArray 0 }:=Ζ _ _ (hH2 ▸ AG _ rfl);have clt:∀ x c,cl.lookup x=Ab c->c<s.heap.objs.size:=λx c e=>by
  obtain⟨v,q⟩:=I.cell x c (Ó x c e);exact q.lt
 have bc:ϭ X scope fI H2.objs.size h₁:=by
  refine⟨λx c e=>?_,Δ (λx y c e1 e2=>I.ok.inj x y c (Ó x c e1) (Ó y c e2)) (λx c e=>DC (AS (clt x c e) ϴ)),λx hx=>?_,λx hx=>?_⟩
  .rcases Ϗ x c e with q|⟨q1,q2,q3⟩
   .exact .inl (Ó x c q)
   .exact .inr ⟨B.uniq _ q1,q2,q3⟩
  .have hm:=DF hx;obtain⟨c,e,hc⟩:=Ç x hm;exact⟨c,e,hc⟩
  .have hno:(x,CB)∉scope.names:=λz=>by
    have e1:=B.uniq _ hx;have e2:=B.uniq _ z;rw[show scope.names.lookup x=_ from e1]at e2
    cases e2
   obtain⟨c,e⟩:=ϵ x hx;exact⟨c,by rw[hcf x hno];exact e,Ó x c e⟩
 have Β:∀ b∈fp,b<s.heap.objs.size:=λb hb=>by
  obtain⟨o,e,_⟩:=T.obj 0 _ st b hb;exact AK e
 generalize hD:s.heap.objs.size=D at *;generalize hC':H2.objs.size=C at *;have I0:Z4 (yu X scope fI C N' s H fp) [] (hideT ts Z) H {s with heap:=h₁,toks:=s.toks+([]:Ac (Al×Aj)).length}:=kU (tk:=s.toks+([]:Ac (Al×Aj)).length) I B hf (λb hb=>by rw[hD];exact Β b hb) bc old (by rw[hD];exact ϴ) Ń
 have nD:H D=Af:=I.hok.fresh (by rw[hD];exact AE _)
 have noD:∀ b∈fp,b≠D:=λb hb=>Be (Β b hb)
 have noC:∀ b∈fp,b≠C:=λb hb=>below b (Β b hb)
 have stfs:D∉ye X.stack:=λz=>by
  obtain⟨_,o,ho,_⟩:=I.stack.mem z;exact absurd (AK ho) (by rw[hD];exact BH _)
 have cD:∀ x c,fI.lookup x=Ab c->c≠D:=λx c e z=>by
  rcases bc.own x c e with q|⟨_,q,_⟩
  .obtain⟨v,q⟩:=I.cell x c q;exact absurd q.lt (by rw[z,hD];exact BH _)
  .rw[z]at q;exact absurd (AS q ϴ) (BH _)
 have I1:Z4 (yu X scope fI C N' s H fp) [(D,{ cls:=.type "list",data:=.seq ([]:Ac Aj).toArray 0 })] (hideT ts Z) H {s with heap:=h₁,toks:=s.toks+([]:Ac (Al×Aj)).length}:=I0.pins_of λp hp=>by
  have e:=Bc.mp hp;subst e;exact⟨hacc,nD,ϋ,stfs,λv z=>by
   have z':Nw _ _=Nt v:=z;cases z'⟩
 have st1:tn 0 h₁:=T.keep _ _ _ st λb _ o e=>old b o e
 obtain⟨W,⟨m0,w0⟩,turn⟩:=h;have fpk:∀{pl:Pn}{H':Hp},(∀ p∈pl,p.1=D)->(∀ b∈fp,H' b=Af)->∀ b∈fp,Iu (yu X scope fI C N' s H fp) pl H' b:=λ{pl H'} hp hn b hb=>
  ⟨hn b hb,noC b hb,λz=>by
   rcases Ay.mp (I.stkSub b z) with e|e
   .exact(hf b hb).2.1 e
   .exact(hf b hb).2.2.1 e,.inl hb,λx c e=>(bc.own x c e).elim ((hf b hb).2.2.2.2.1 x c) (λz q=>absurd (EK ϴ z.2.1) (GV.mpr (by rw[q];exact FY (Β b hb)))),λp hp'=>by
   have xj:p∈pl:=hp';rw[hp p xj];exact(noD b hb).symm⟩
 have loop:∀ s₃:Aq,s₃={s with heap:=h₁,toks:=s.toks+([]:Ac (Al×Aj)).length} ->
   GZ (model X.prog X.w) X.A (.compLoop (.ListComp elt [⟨tg,iter,ifs,0⟩] scope pos) 0 (.ref it) (.ref D) (compEnvC scope fI C X.env)) (RR (.ref D) C) s₃:=by
  rintro s₃ rfl;refine kT (λk s'=>∃ i Z' H' xs ys n,Z4 (yu X scope fI C N' s H fp) [(D,{ cls:=.type "list",data:=.seq (D5 ys) n })] Z' H' s'/\tn i s'.heap/\(∀ b∈fp,H' b=Af)/\Bv xs ys/\xs.length<=sizeLine/\W i k xs Z' H') ?_ m0
   ⟨0,_,H,[],[],0,I1,st1,λb hb=>(hf b hb).1,.nil,Ds _,w0⟩
  rintro k s' ⟨i,Z',H',xs,ys,n,I',Z8,ϊ,rv,hz,w'⟩;have one:∀ p∈[((D,{ cls:=.type "list",data:=.seq (D5 ys) n }):Ak×DE)],p.1=D:=λp hp=>by rw[Bc.mp hp]
  rcases turn i k xs Z' H' w' with ⟨stop,q⟩|⟨go,zd,step⟩
  .refine Dx (T.done (yu X scope fI C N' s H fp) rfl rfl rfl hc i _ s' Z' H' (λ_ _=>BR) I' (fpk one ϊ) Z8 stop) (λr s1 ⟨hr,Ĥ⟩=>?_) λ_ _ f=>f.elim
   subst hr;obtain⟨e,hn,_⟩:=Ĥ.pin _ (BZ _ Av);obtain⟨m,hm,_⟩:=Ĥ.loc;exact hRR fI D C s1 H' Z' _ xs ys n m Ĥ e hn rv hz (AE _) ϋ ϴ hm (q D hn)
  .refine Dx (T.item (yu X scope fI C N' s H fp) rfl rfl rfl hc i _ s' Z' H' (λ_ _=>BR) I' (fpk one ϊ) Z8 go) (λr s1 ⟨u,hr,h4⟩=>?_) λ_ _ f=>f.elim
   subst hr;refine Dx h4 (λ_ s5 ⟨x,H5,I5,r5,y5,Τ,fr5⟩=>?_) λ_ _ f=>f.elim
   have I5':=I5.pinned (fpk one fr5) (T.obj _ _ Τ);refine Dx (hg fI C s H _ s5 Z' H5 x u _ I5' r5 (step x H5 y5)) (λ_ s6 ⟨Z6,H6,I6,q6⟩=>?_) λ_ _ f=>f.elim
   refine Dx (ht fI C s H _ s6 Z6 H6 _ I6 q6) (λok s7 ⟨H7,I7,q7⟩=>?_) λ_ _ f=>f.elim
   have again:∀{s8:Aq}{H8:Hp}{å:Ac Aj}{n':Ag},Z4 (yu X scope fI C N' s H fp) ((D,{ cls:=.type "list",data:=.seq (D5 å) n' })::L8 fp s5.heap) Z6 H8 s8->Z4 (yu X scope fI C N' s H fp) [(D,{ cls:=.type "list",data:=.seq (D5 å) n' })] Z6 H8 s8/\tn (i+1) s8.heap/\∀ b∈fp,H8 b=Af:=λ{s8 H8 å n'} I8=>
    ⟨I8.pins_of λp hp=>I8.pin p (BZ _ (by rw[Bc.mp hp];exact Av)),T.keep _ _ _ Τ λb hb o e=>(I8.pin (b,o) (BZ _ (As _ (O0 hb e)))).1,λb hb=>by
     obtain⟨o,e,d⟩:=T.obj _ _ Τ b hb;exact(I8.pin (b,o) (BZ _ (As _ (O0 hb e)))).2.1⟩
   cases ok with
   |false=>
    rw[AF (by decide)]at q7
    obtain⟨m',hm,w7⟩:=q7;obtain⟨a1,a2,a3⟩:=again I7;rw[AF (by decide)]
    exact⟨m',hm,i+1,Z6,H7,xs,ys,n,a1,a2,a3,rv,hz,w7⟩
   |true=>
    rw[AB rfl]at q7;rw[AB rfl];refine Dx (he fI C s H _ s7 Z6 H7 _ I7 q7) (λval s8 ⟨y,H8,I8,r8,m',hm,w8⟩=>?_) λ_ _ f=>f.elim
    have hl:=rv.length;refine mC (X:=yu X scope fI C N' s H fp) (ys:=ys) (n:=n) (pI:=L8 fp s5.heap) I8 (by show s.heap.objs.size<=D;rw[hD];exact AE _) (λp hp=>?_) cD (by lia) λs9 I9 kb=>?_
    .have xj:p∈L8 fp s5.heap:=hp;exact noD _ (V4 xj).1
    .obtain⟨a1,a2,a3⟩:=again I9;exact⟨m',hm,i+1,Z6,H8,xs++[y],ys++[val],n+1,a1,a2,a3,rv.append (.cons r8 .nil),by rw[BL];exact zd,w8⟩
 exact codeAny_compStart_list (loop _ rfl) (T.self _ 0 _ _ _ st1 (loop _ rfl))
theorem xD(hc:X.calm=Aa)(B:zk X scope N' ts)(hi:PI X tg iter wi)(hg:∀ cl C s H fp,PG (yu X scope cl C N' s H fp) tg g)(ht:∀ cl C s H fp,ŧ (yu X scope cl C N' s H fp) ifs tt)(he:∀ cl C s H fp,PE (yu X scope cl C N' s H fp) elt te)(hs:∀ x,DD iter X.env x=pure x):PE X (.ListComp elt [⟨tg,iter,ifs,0⟩] scope pos) (λZ H Q=>wi Z H λJ_ H1=>NT J_ ts g tt te Z H1 Q):=by
 intro pI s Z H Q I h;obtain⟨cl,Ϸ,Ó,ϵ⟩:=Vy (scope:=scope) (env:=X.env) λx hx hk=>I.ok.has x.1 ((B.free x hx hk).imp id id)
 rw[eval_ListComp];refine fE (use:=Af) rfl hs Ϸ B.kind B.names (J9 (hi pI s Z H _ I h) λv s1 h1=>J9 h1 λĒ s2 h2=>?_)
 obtain⟨it,fp,tn,J_,H2,e,I2,T,ya,f2,h3⟩:=h2;subst e;refine WV (RR:=λacc C=>compPost (model X.prog X.w) X.A X.xe Af (EP X pI Z Q) acc C) hc B I2 T ya f2 Ó ϵ (λcl C s H=>hg cl C s H fp) (λcl C s H=>ht cl C s H fp) (λcl C s H=>he cl C s H fp) h3 λfI D C s' H' Z' mN xs ys n m I' hd ũ rv hz hD ϋ hC hm q=>?_
 exact⟨m,hm,λgV Ι=>⟨.ref D,_,Wd I2 f2 I' hD ϋ hC hd ũ rv hz Ι,rfl,q⟩⟩
theorem tU{n:Al}(hc:X.calm=Aa)(B:zk X scope N' ts)(hi:PI X tg iter wi)(hg:∀ cl C s H fp,PG (yu X scope cl C N' s H fp) tg g)(ht:∀ cl C s H fp,ŧ (yu X scope cl C N' s H fp) ifs tt)(he:∀ cl C s H fp,PE (yu X scope cl C N' s H fp) elt te)(hs:∀ x,DD iter X.env x=pure x)(hN:X.N.Nodup)(hni:X.N[i]?=Ab n)(hx:X.env.scope.names.lookup n=Ab .local)(Λ:EO (.ListComp elt [⟨tg,iter,ifs,0⟩] scope pos) (Ab (.Name n pos')) pos2.line X.env=pure Aa):PS X (.Assign [.Name n pos'] (.ListComp elt [⟨tg,iter,ifs,0⟩] scope pos) pos2) (Of (λZ H Q=>wi Z H λJ_ H1=>NT J_ ts g tt te Z H1 Q) (Gg i)):=by
 intro pI s Z H Dn I h;obtain⟨cl,Ϸ,Ó,ϵ⟩:=Vy (scope:=scope) (env:=X.env) λx hx hk=>I.ok.has x.1 ((B.free x hx hk).imp id id)
 rw[exec_Assign_Name_used _ _ _ _ Λ];refine Ah (IL (Ah ?_));show Az _ X.A (do let _ <-comprehension (.ListComp elt [⟨tg,iter,ifs,0⟩] scope pos) scope X.env _ (newList []) Ae (eval iter X.env) (Ab (assign (.Name n pos') X.env))) _ _ s
 refine Ah (Dx (fE (use:=Ab (assign (.Name n pos') X.env)) (Q:=λ_ s'=>SP X pI Dn .next s') rfl hs Ϸ B.kind B.names
  (J9 (hi pI s Z H _ I h) λv s1 h1=>J9 h1 λĒ s2 h2=>?_)) (λ_ s' hq=>Au (Au hq)) λ_ _ e=>e)
 obtain⟨it,fp,tn,J_,H2,e,I2,T,ya,f2,h3⟩:=h2;subst e;refine WV (RR:=λacc C=>compPost (model X.prog X.w) X.A X.xe (Ab (assign (.Name n pos') X.env)) (λ_ s'=>SP X pI Dn .next s') acc C) hc B I2 T ya f2 Ó ϵ (λcl C s H=>hg cl C s H fp) (λcl C s H=>ht cl C s H fp) (λcl C s H=>he cl C s H fp) h3 λfI D C s' H' Z' mN xs ys n' m I' hd ũ rv hz hD ϋ hC hm q=>?_
 have J_0:Z4 X pI Z (upd H' D (.L xs)) s':=Wd I2 f2 I' hD ϋ hC hd ũ rv hz (dQ ..);refine fD (VT J_0 hN hni (.inl hx) (show Cp (.ref D) (.ref D) from rfl) (λŘ Ĥ ⟨a,sb,ha⟩=>?_) (.inr hx))
 have hC0:X.s₀.heap.objs.size<=C:=CM I2.sz hC;have hL:C≠X.env.locals:=λz=>absurd (AS I2.lt (z ▸ hC)) (BH _)
 have hcC:∀ x c,X.env.cells.lookup x=Ab c->c≠C:=λx c e z=>by
  obtain⟨v,q'⟩:=I2.cell x c e;exact absurd (AS q'.lt (by rw[z];exact hC)) (BH _)
 have hp:∀ p∈X.pn++pI,p.1≠C:=λp hp z=>absurd (AS (AK (I2.pin p hp).1) (by rw[z];exact hC)) (BH _)
 have Č:upd H' D (.L xs) C=Af:=by rw[Dp ϋ.symm];exact I'.free
 have hCa:C≠a:=by
  rcases ha with rfl|ha
  .exact hL
  .exact λz=>hcC n a ha z.symm
 refine⟨m,hm.sameBut sb hCa,λgV Ι=>⟨_,_,Ĥ.turned (t':=Ř.toks) (λb o hb e=>(Ι.2 b hb).trans e) Č hL (.inr hC0) hcC hp,q⟩⟩
theorem MK:∀(ts:Ac Ag)(Y:Rho)(j:Ag),(GQ ts Y)[j]?=if j∈ts then (Y[j]?).map (λ_=>Af) else Y[j]?
 |[],Y,j=>by simp[GQ]
 |t::ts,Y,j=>by
  show (GQ ts (Y.set t Af))[j]?=_;rw[MK ts];by_cases h1:j∈ts
  .rw[AB h1,AB (As _ h1)];by_cases h2:t=j
   .subst h2;rw[G1];cases Y[t]?<;>rfl
   .rw[Dc h2]
  .rw[AF h1];by_cases h2:t=j
   .subst h2;rw[AB Av,G1];cases Y[t]?<;>rfl
   .rw[Dc h2,AF (by simp only[Ay,ES];exact⟨λz=>h2 z.symm,h1⟩)]
theorem OX:∀(ts:Ac Ag)(Y:Rho),(GQ ts Y).length=Y.length
 |[],_=>rfl
 |t::ts,Y=>by show (GQ ts (Y.set t Af)).length=_;rw[OX ts,Bj]
theorem RE:∀(ts:Ac Ag)(Z:L2.St){i:Ag},i∉ts->(hideT ts Z)[i]?=Z[i]?
 |[],_,_,_=>rfl
 |t::ts,Z,i,h=>by
  simp only[Ay,ES]at h;show (hideT ts (Z.set t Af))[i]?=_;rw[RE ts _ h.2,Dc (λz=>h.1 z.symm)]
theorem Vl:∀(ts:Ac Ag)(ds:Ac D)(Y1 Y2:Rho),Y1.length=Y2.length->(∀ j,j∉ts->Y1[j]?=Y2[j]?)->Gc ts ds Y1=Gc ts ds Y2
 |[],[],Y1,Y2,hl,h=>congrArg Ab (aN λj=>h j (by simp))
 |[],_::_,_,_,_,_=>rfl
 |_::_,[],_,_,_,_=>rfl
 |t::ts,d::ds,Y1,Y2,hl,h=>by
  refine Vl ts ds _ _ (by rw[Bj,Bj];exact hl) λj hj=>?_
  by_cases e:t=j
  .subst e;rw[Jb,Jb,AB rfl,AB rfl,hl]
  .rw[Dc e,Dc e];exact h j (by simp only[Ay,ES];exact⟨λz=>e z.symm,hj⟩)
theorem Vk:∀(ts us:Ac Ag)(ds:Ac D)(Y Y':Rho),(∀ t∈ts,t∈us)->Gc ts ds Y=Ab Y'->GQ us Y'=GQ us Y
 |[],us,[],Y,Y',_,e=>by cases e;rfl
 |t::ts,us,d::ds,Y,Y',hs,e=>by
  rw[Vk ts us ds _ Y' (λu hu=>hs u (As _ hu)) e]
  refine aN λj=>?_
  rw[MK,MK];by_cases h:j∈us
  .rw[AB h,AB h,Jb];split
   .rename_i e2;subst e2;split
    .rename_i h3;rw[AU h3];rfl
    .rename_i h3;rw[List.getElem?_eq_none (by lia)]
   .rfl
  .rw[AF h,AF h,Dc];rintro rfl;exact h (hs _ Av)
 |[],_,_::_,_,_,_,e=>by exact Hd e
 |_::_,_,[],_,_,_,e=>by exact Hd e
section
variable{Y':Rho}
theorem Y4.less(g:Y4 K CL A Y Z H)(hl:Y'.length=Y.length)(h:∀(i:Ag)(d:D)(o:Ai),Y'[i]?=Ab (Ab (d,o))->Y[i]?=Ab (Ab (d,o))):Y4 K CL A Y' Z H:=⟨λi d e=>g.sh i d (h i d Ae e),λi d e hn=>g.ow i d (h i d Aa e) hn,hl.trans g.len⟩
theorem Y4.put(g:Y4 K CL A Y Z H)(t:Ag)(r:Y5 K CL H A v d):Y4 K CL A (Y.set t (Ab (d,Ae))) (Z.set t (Ab v)) H:=by
 refine⟨λj e h=>?_,λj e h hn=>?_,by rw[Bj,Bj];exact g.len⟩
 .by_cases hj:t=j
  .subst hj;have e1:=HQ h;cases e1;have hl:t<Z.length:=by
    rw[<-g.len];have:=(Bh.mp h).1;simpa using this
   exact⟨v,by rw[Ci hl],r⟩
  .rw[Dc hj]at h;obtain⟨w',q,xh⟩:=g.sh j e h;exact⟨w',by rw[Dc hj];exact q,xh⟩
 .have hj:t≠j:=by
   rintro rfl;have:=HQ h;cases this
  rw[Dc hj]at h;obtain⟨a,xs,ds,q,z⟩:=g.ow j e h hn;exact⟨a,xs,ds,by rw[Dc hj];exact q,z⟩
theorem Y4.hide(g:Y4 K CL A Y Z H)(ts:Ac Ag):Y4 K CL A (GQ ts Y) Z H:=g.less (OX _ _) λi d o e=>by
 rw[MK]at e;split at e
 .cases q:Y[i]? with
  |none=>rw[q]at e;cases e
  |some x=>rw[q]at e;cases e
 .exact e
theorem Y4.hideT(g:Y4 K CL A Y Z H)(ts:Ac Ag):Y4 K CL A (GQ ts Y) (hideT ts Z) H:=by
 have key:∀ i x,(GQ ts Y)[i]?=Ab (Ab x)->Y[i]?=Ab (Ab x)/\i∉ts:=λi x e=>by
  rw[MK]at e;split at e
  .cases q:Y[i]? with
   |none=>rw[q]at e;cases e
   |some x=>rw[q]at e;cases e
  .exact⟨e,by assumption⟩
 refine⟨λi d e=>?_,λi d e hn=>?_,by rw[OX,RK];exact g.len⟩
 .obtain⟨e1,e2⟩:=key i _ e;obtain⟨v,q,r⟩:=g.sh i d e1;exact⟨v,by rw[RE _ _ e2];exact q,r⟩
 .obtain⟨e1,e2⟩:=key i _ e;obtain⟨a,xs,ds,q,r⟩:=g.ow i d e1 hn;exact⟨a,xs,ds,by rw[RE _ _ e2];exact q,r⟩
end
def GG(K:Fg)(CL:ClA)(ts:Ac Ag)(as:D->Rho->R Rho)(g:TG):Prop:=∀ A Y Z H v d Y' Q,Y4 K CL A (GQ ts Y) Z H->Y5 K CL H A v d->as d Y=.ok Y'->(∀ Z',Y4 K CL A Y' Z' H->Y4 K CL A (GQ ts Y) Z' H->Q Z' H)->g v Z H Q
theorem zO(i:Ag):GG K CL [i] (λd Y=>.ok (Y.set i (Ab (d,Ae)))) (Gg i):=λA Y Z H v d Y' Q g r e k=>by
 cases e;have g2:=g.put i r;have e1:(GQ [i] Y).set i (Ab (d,Ae))=Y.set i (Ab (d,Ae)):=by
  show (Y.set i Af).set i (Ab (d,Ae))=_;rw[K4]
 rw[e1]at g2;refine k _ g2 ?_;have:=g2.hide [i];have e2:GQ [i] (Y.set i (Ab (d,Ae)))=GQ [i] Y:=by
  show (Y.set i _).set i Af=Y.set i Af;rw[K4]
 rw[e2]at this;exact this
theorem Xz{K:Fg}{A:Ak->Prop}{H:Hp}:∀(ts:Ac Ag)(ds:Ac D)(vs:Ac V)(Y Y':Rho)(Z:L2.St)(Q:L2.St->Hp->Prop),Y4 K CL A Y Z H->Z9 K CL H A vs ds->Gc ts ds Y=Ab Y'->(∀ Z',Y4 K CL A Y' Z' H->Q Z' H)->(ts.foldr (λt u=>JF (Gg t) u) JK) vs Z H Q
 |[],[],[],Y,Y',Z,Q,x,_,e,k=>by
  cases e;exact⟨rfl,k Z x⟩
 |t::ts,d::ds,v::vs,Y,Y',Z,Q,x,r,e,k=>⟨v,vs,rfl,Xz ts ds vs _ Y' _ Q (x.put t r.1) r.2 e k⟩
 |[],_::_,_,_,_,_,_,_,_,e,_=>by exact Hd e
 |_::_,[],_,_,_,_,_,_,_,e,_=>by exact Hd e
 |[],[],_::_,_,_,_,_,_,r,_,_=>r.elim
 |_::_,_::_,[],_,_,_,_,_,r,_,_=>r.elim
theorem oq(ts:Ac Ag):GG K CL ts (HR ts) (Nq K ts.length (ts.foldr (λt u=>JF (Gg t) u) JK)):=λA Y Z H v d Y' Q g r e k=>by
 cases d with
 |H ds=>
  obtain⟨a,xs,rfl,na,sq,rs⟩:=r;rw[VA]at e;cases e2:Gc ts ds Y with
  |none=>rw[e2]at e;cases e
  |some Y2=>
   rw[e2]at e;cases e;have e3:Gc ts ds (GQ ts Y)=Ab Y':=by
    rw[<-e2];exact Vl ts ds _ _ (OX _ _) λj hj=>by rw[MK,AF hj]
   refine⟨a,xs,rfl,sq,by rw[rs.length];exact OZ _ _ _ _ e2,Xz ts ds xs _ Y' Z Q g rs e3 λZ' g'=>k Z' g' ?_⟩
   have:=g'.hide ts;rw[Vk ts ts ds Y Y' (λ_ h=>h) e2]at this
   exact this
 |_=>exact EZ e
abbrev W0:XW:=λ_ _=>BR
def Ÿ(X:Cx)(CL:ClA)(ifs:Ac Am)(f:Rho->R Ai):Prop:=∀ A,ŧ X ifs (λZ H Q=>zw H A/\∃ Y,Y4 X.K CL A Y Z H/\Ed W0 H (f Y) Q)
theorem uY:Ÿ X CL [] (λ_=>.ok Aa):=λA pI s Z H Q I ⟨hA,Y,g,p⟩=>tR pI s Z H Q I (p H (AV.refl H))
theorem uX(h:SB X CL W0 c f):Ÿ X CL [c] f:=λA pI s Z H Q I q=>tP (h A) pI s Z H Q I q
theorem kS{x:D}{xs ys:Ac D}(h:B7 g f (x::xs)=.ok ys):(g x=.ok Ae/\B7 g f xs=.ok ys)\/∃ y r,g x=.ok Aa/\f x=.ok y/\B7 g f xs=.ok r/\ys=y::r:=by
 unfold B7 at h;cases e:g x with
 |bad=>rw[e]at h;cases h
 |exn z=>rw[e]at h;cases h
 |ok b=>
  rw[e,R.bind_ok]at h;cases b with
  |false=>exact .inl ⟨rfl,h⟩
  |true=>
   rw[AB rfl]at h;cases e2:f x with
   |bad=>rw[e2]at h;cases h
   |exn z=>rw[e2]at h;cases h
   |ok y=>
    rw[e2,R.bind_ok]at h;cases e3:B7 g f xs with
    |bad=>rw[e3]at h;cases h
    |exn z=>rw[e3]at h;cases h
    |ok r=>
     rw[e3,R.bind_ok]at h;cases h;exact .inr ⟨y,r,rfl,rfl,rfl,rfl⟩
theorem LW{r:R α}{f:α->R β}{b:β}(h:r.bind f=.ok b):∃ a,r=.ok a/\f a=.ok b:=by
 cases r with
 |ok a=>exact⟨a,rfl,h⟩
 |exn x=>exact iZ h
 |bad=>exact EZ h
theorem nQ{ys:Ac D}(Æ:GG K CL ts as g)(hA:zw H1 A)(gd:Y4 K CL A Y Z H1)(yl:KP K CL A ds J_ H1)(hz:ds.length<=sizeLine)(hcp:B7 (λx=>(as x Y).bind fc) (λx=>(as x Y).bind fe) ds=.ok ys)(q:∀ xs H2,AV H1 H2->Z9 K CL H2 A xs ys->∀ p,H2 p=Af->Q (.ref p) (upd H2 p (.L xs))):NT J_ ts g (λZ H Q=>zw H A/\∃ Y,Y4 K CL A Y Z H/\Ed W0 H (fc Y) Q) (λZ H Q=>zw H A/\∃ Y,Y4 K CL A Y Z H/\BO (λH=>Y5 K CL H A) W0 H (fe Y) Q) Z H1 Q:=by
 refine⟨λi m xs Z' H'=>m=ds.length-i/\i<=ds.length/\xs.length<=i/\AV H1 H'/\Y4 K CL A (GQ ts Y) Z' H'/\∃ outs rest,Z9 K CL H' A xs outs/\B7 (λx=>(as x Y).bind fc) (λx=>(as x Y).bind fe) (ds.drop i)=.ok rest/\ys=outs++rest,
  ⟨ds.length,by simp,Ds _,AE _,AV.refl _,gd.hideT ts,[],ys,trivial,hcp,rfl⟩,?_⟩
 rintro i m xs Z' H' ⟨rfl,hi,hxl,sm,g',outs,rest,rs,hc,e⟩;obtain⟨yst,ygo⟩:=yl H' (Kp.of sm) i;by_cases zd:i<ds.length
 .have hd:ds[i]?=Ab ds[i]:=AU zd;obtain⟨hgo,hyl⟩:=ygo _ hd;refine .inr ⟨hgo,by lia,λx H2 hx=>?_⟩
  obtain⟨s2,rx⟩:=hyl x H2 hx;have ŗ:=rx A (λa ha=>.inl ha) (hA.same sm)
  rw[CJ zd]at hc;have Ś:=sm.trans s2;rcases kS hc with ⟨h1,h2⟩|⟨y,r,h1,h2,h3,h4⟩
  .obtain⟨Y',ea,ec⟩:=LW h1;refine Æ A Y Z' H2 x ds[i] Y' _ (g'.same s2) ŗ ea λZ3 g3 g4=>⟨hA.same Ś,Y',g3,?_⟩
   rw[ec];exact λH3 s3=>by
    dsimp only;rw[AF (by decide)]
    exact⟨ds.length-(i+1),by lia,rfl,zd,by lia,Ś.trans s3,g4.same s3,outs,rest,(rs.same s2).same s3,h2,e⟩
  .obtain⟨Y',ea,ec⟩:=LW h1;obtain⟨Y2,ea2,ee⟩:=LW h2;rw[ea]at ea2;cases ea2;refine Æ A Y Z' H2 x ds[i] Y' _ (g'.same s2) ŗ ea λZ3 g3 g4=>⟨hA.same Ś,Y',g3,?_⟩
   rw[ec];exact λH3 s3=>by
    dsimp only;rw[AB rfl];refine⟨(hA.same Ś).same s3,Y',g3.same s3,?_⟩;rw[ee];exact λv H4 s4 r4=>⟨ds.length-(i+1),by lia,rfl,zd,by rw[BL,aV];lia,(Ś.trans s3).trans s4,(g4.same s3).same s4,outs++[y],r,(((rs.same s2).same s3).same s4).append ⟨r4,trivial⟩,h3,by rw[e,h4];simp⟩
 .have Ϻ:ds.length<=i:=by lia
  rw[FM Ϻ]at hc;have hr:rest=[]:=by cases hc;rfl
  subst hr;rw[Cr]at e;subst e;exact .inl ⟨yst Ϻ,λp hp=>q xs H' sm rs p hp⟩
theorem Ge.ok_of{r:R (Ac D)}(h:BO Rq W H (r.bind f) Q)(k:∀ ds J_ H',r=.ok ds->AV H H'->KP K CL A ds J_ H'->ds.length<=sizeLine->BO Rq W H' (f ds) Q->Q' J_ H'):Ge K CL A W H r Q':=by
 cases r with
 |ok d=>exact λJ_ H2 s2 y z=>k d J_ H2 rfl s2 y z (BO.same s2 h)
 |exn x=>exact h
 |bad=>exact h
theorem jr{r:R α}{a:α}(h:â r=.ok a):r=.ok a:=by
 cases r with
 |ok b=>exact h
 |exn x=>exact EZ h
 |bad=>exact EZ h
theorem Wa{X:Cx}{fi:Rho->R (Ac D)}(Æ:GG X.K CL ts as g)(hA:zw H A)(gd:Y4 X.K CL A Y Z H)(p:BO (Fx X.K CL Aa H A) W H ((fi Y).bind λxs=>(â (B7 (λx=>(as x Y).bind fc) (λx=>(as x Y).bind fe) xs)).bind λys=>.ok (.L ys)) Q):Ge X.K CL A W H (fi Y) (λJ_ H1=>NT J_ ts g (λZ H Q=>zw H A/\∃ Y,Y4 X.K CL A Y Z H/\Ed W0 H (fc Y) Q) (λZ H Q=>zw H A/\∃ Y,Y4 X.K CL A Y Z H/\BO (λH=>Y5 X.K CL H A) W0 H (fe Y) Q) Z H1 Q):=
 Ge.ok_of p λds J_ H1 e1 s1 yl hz p1=>by
  cases e2:â (B7 (λx=>(as x Y).bind fc) (λx=>(as x Y).bind fe) ds) with
  |ok ys=>
   rw[e2]at p1;exact nQ Æ (hA.same s1) (gd.same s1) yl hz (jr e2) λxs H2 s2 rs q hq=>p1 _ _ (s2.trans (G7 hq _)) (LY (s1.trans s2) ((hA.same s1).same s2) hq rs)
  |exn x=>rw[e2]at p1;cases hq:B7 (λx=>(as x Y).bind fc) (λx=>(as x Y).bind fe) ds<;>rw[hq]at e2<;>cases e2
  |bad=>rw[e2]at p1;exact p1.elim
theorem vS(hc:X.calm=Aa)(B:zk X scope N' ts)(hi:SI X CL W tg iter fi)(Æ:GG X.K CL ts as g)(hg:∀ cl C s H fp,PG (yu X scope cl C N' s H fp) tg g)(ht:∀ cl C s H fp,Ÿ (yu X scope cl C N' s H fp) CL ifs fc)(he:∀ cl C s H fp,SE (yu X scope cl C N' s H fp) CL W0 elt fe)(hs:∀ x,DD iter X.env x=pure x):SC X CL W Aa (.ListComp elt [⟨tg,iter,ifs,0⟩] scope pos) (λY=>(fi Y).bind λxs=>(â (B7 (λx=>(as x Y).bind fc) (λx=>(as x Y).bind fe) xs)).bind λys=>.ok (.L ys)):=λA pI s Z H Q I ⟨hA,Y,gd,p⟩=>
 xD hc B (hi A) hg (λcl C s H fp=>ht cl C s H fp A) (λcl C s H fp=>he cl C s H fp A) hs pI s Z H Q I ⟨hA,Y,gd,Wa Æ hA gd p⟩
theorem Sx.setF(x:Sx K CL Fz B Y Z H)(s:AV H H')(h0:H a=Af)(h1:H' a=Ab (.L xs))(r:Z9 K CL H' (λb=>Ch B Y Z b\/b=a) xs ds):Sx K CL Fz B (Y.set i (Ab (.L ds,Aa))) (Z.set i (Ab (.ref a))) H':=by
 have nA:¬ Ch B Y Z a:=x.aok.new h0;have own:∀(j:Ag)(e:D),(Y.set i (Ab (.L ds,Aa)))[j]?=Ab (Ab (e,Aa))->(i=j/\e=.L ds)\/(i≠j/\Y[j]?=Ab (Ab (e,Aa))):=λj e h=>by
  by_cases hj:i=j
  .subst hj;have:=HQ h;cases this;exact .inl ⟨rfl,rfl⟩
  .exact .inr ⟨hj,by rw[Dc hj]at h;exact h⟩
 have Å:∀{j:Ag}{y:Sl},(Y.set i (Ab (.L ds,Aa)))[j]?=Ab y->i=j->(Z.set i (Ab (.ref a)))[j]?=Ab (Ab (.ref a)):=λ{j y} h e=>by
  subst e;have hl:i<Z.length:=by
   rw[<-x.len];have:=(Bh.mp h).1;simpa using this
  rw[Ci hl]
 have sub:∀ b,Ch B (Y.set i (Ab (.L ds,Aa))) (Z.set i (Ab (.ref a))) b->Ch B Y Z b\/b=a:=λb h=>by
  rcases h with h|⟨j,e,h1,h2⟩
  .exact .inl (.inl h)
  .rcases own j e h1 with ⟨hj,_⟩|⟨hj,ı⟩
   .rw[Å h1 hj]at h2;cases h2;exact .inr rfl
   .rw[Dc hj]at h2;exact .inl (.inr ⟨j,e,ı,h2⟩)
 have wide:∀{v:V}{d:D},Y5 K CL H (Ch B Y Z) v d->Y5 K CL H' (Ch B (Y.set i (Ab (.L ds,Aa))) (Z.set i (Ab (.ref a)))) v d:=λr=>(Y5.wide (λb hb=>(sub b hb).imp id λe=>by rw[e];exact h0) _ r).same s
 have ş:∀{v:Ac V}{d:Ac D},Z9 K CL H (Ch B Y Z) v d->Z9 K CL H' (Ch B (Y.set i (Ab (.L ds,Aa))) (Z.set i (Ab (.ref a)))) v d:=λr=>(Z9.wide (λb hb=>(sub b hb).imp id λe=>by rw[e];exact h0) _ r).same s
 refine⟨⟨λj e h=>?_,λj e h hn=>?_,by rw[Bj,Bj];exact x.len⟩,λb h=>?_,λj e b g1 g2=>?_,λj k e f b g1 g2 g3 g4=>?_,λb o z=>s _ _ (x.same b o z),by rw[Bj,Bj];exact x.len,λj h=>?_⟩
 .have hj:i≠j:=by
   rintro rfl;have:=HQ h;cases this
  rw[Dc hj]at h;obtain⟨w',q,xh⟩:=x.good.sh j e h;exact⟨w',by rw[Dc hj];exact q,wide xh⟩
 .rcases own j e h with ⟨hj,rfl⟩|⟨hj,h'⟩
  .have q:=Å h hj;exact⟨a,xs,ds,q,rfl,.inr ⟨j,_,h,q⟩,h1,Z9.sub sub _ r⟩
  .obtain⟨b,ys,es,q,z,ha,hh,rr⟩:=x.good.ow j e h' hn;have q':(Z.set i (Ab (.ref a)))[j]?=Ab (Ab (.ref b)):=by rw[Dc hj];exact q
   exact⟨b,ys,es,q',z,.inr ⟨j,e,h,q'⟩,s _ _ hh,ş rr⟩
 .rcases sub b h with z|z
  .obtain⟨ys,q,w⟩:=x.aok b z;exact⟨ys,s _ _ q,w⟩
  .rw[z];exact⟨_,h1,trivial⟩
 .rcases own j e g1 with ⟨hj,_⟩|⟨hj,h'⟩
  .rw[Å g1 hj]at g2;cases g2;refine⟨λo z=>?_,λz=>nA (.inl z)⟩
   have:=x.same a o z;rw[h0]at this;cases this
  .rw[Dc hj]at g2;exact x.new j e b h' g2
 .rcases own j e g1 with ⟨hj,_⟩|⟨hj,h'⟩
  .rw[Å g1 hj]at g3;cases g3;rcases own k f g2 with ⟨hk,_⟩|⟨hk,gV⟩
   .exact hj.symm.trans hk
   .rw[Dc hk]at g4;exact absurd (.inr ⟨k,f,gV,g4⟩) nA
  .rw[Dc hj]at g3;rcases own k f g2 with ⟨hk,_⟩|⟨hk,gV⟩
   .rw[Å g2 hk]at g4;cases g4;exact absurd (.inr ⟨j,e,h',g3⟩) nA
   .rw[Dc hk]at g4;exact x.dis j k e f b h' gV g3 g4
 .rcases own j _ h with ⟨_,z⟩|⟨hj,h'⟩
  .cases z
  .obtain⟨b,ys,p1,p2,p3⟩:=x.pin j h';exact⟨b,ys,p1,by rw[Dc hj];exact p2,s _ _ p3⟩
theorem Sx.upd(x:Sx K CL Fz B Y Z H){i:Ag}{d:D}{a:Ak}{xs:Ac V}(hi:Y[i]?=Ab (Ab (d,Aa)))(ha:Z[i]?=Ab (Ab (.ref a)))(r:Z9 K CL H (Ch B Y Z) xs ds):Sx K CL Fz B (Y.set i (Ab (.L ds,Aa))) Z (L2.upd H a (.L xs)):=by
 have oa:Ch B Y Z a:=.inr ⟨i,d,hi,ha⟩;have hil:i<Y.length:=(Bh.mp hi).1;have get:∀(j:Ag)(e:D),(Y.set i (Ab (.L ds,Aa)))[j]?=Ab (Ab (e,Aa))↔(i=j/\e=.L ds)\/(i≠j/\Y[j]?=Ab (Ab (e,Aa))):=λj e=>by
  by_cases hj:i=j
  .subst hj;rw[Ci hil];simp;exact⟨λz=>z.symm,λz=>z.symm⟩
  .rw[Dc hj];simp[hj]
 have same:∀ b,Ch B (Y.set i (Ab (.L ds,Aa))) Z b↔Ch B Y Z b:=λb=>by
  constructor
  .rintro (h|⟨j,e,h1,h2⟩)
   .exact .inl h
   .rcases (get j e).mp h1 with ⟨rfl,_⟩|⟨_,h1⟩
    .exact .inr ⟨i,d,hi,h2⟩
    .exact .inr ⟨j,e,h1,h2⟩
  .rintro (h|⟨j,e,h1,h2⟩)
   .exact .inl h
   .by_cases hj:i=j
    .subst hj;exact .inr ⟨i,.L ds,(get i _).mpr (.inl ⟨rfl,rfl⟩),h2⟩
    .exact .inr ⟨j,e,(get j e).mpr (.inr ⟨hj,h1⟩),h2⟩
 have kp:Kp (Ch B Y Z) H (L2.upd H a (.L xs)):=λb o e na=>by
  have il:b≠a:=by
   rintro rfl;exact na oa
  rw[Dp il];exact e
 refine⟨⟨λj e h=>?_,λj e h hn=>?_,by rw[Bj];exact x.len⟩,λb h=>?_,λj e b g1 g2=>?_,λj k e f b g1 g2 g3 g4=>?_,λb o z=>?_,by rw[Bj];exact x.len,λj h=>?_⟩
 .have hj:i≠j:=by
   rintro rfl;have:=HQ h;cases this
  rw[Dc hj]at h;obtain⟨w',q,xh⟩:=x.good.sh j e h;exact⟨w',q,Y5.sub (λb hb=>(same b).mp hb) _ (Y5.kp kp _ xh)⟩
 .rcases (get j e).mp h with ⟨rfl,rfl⟩|⟨hj,h'⟩
  .exact⟨a,xs,ds,ha,rfl,(same a).mpr oa,HP,Z9.sub (λb hb=>(same b).mp hb) _ (Z9.kp kp _ r)⟩
  .obtain⟨b,ys,es,q,z,hb,hh,rr⟩:=x.good.ow j e h' hn;have il:b≠a:=λz=>hj (x.dis i j d e a hi h' ha (z ▸ q))
   exact⟨b,ys,es,q,z,(same b).mpr hb,by rw[Dp il];exact hh,Z9.sub (λb hb=>(same b).mp hb) _ (Z9.kp kp _ rr)⟩
 .obtain⟨ys,q,w⟩:=x.aok b ((same b).mp h);by_cases e:b=a
  .rw[e];exact⟨_,HP,trivial⟩
  .exact⟨ys,by rw[Dp e];exact q,w⟩
 .rcases (get j e).mp g1 with ⟨rfl,_⟩|⟨_,h'⟩
  .exact x.new i d b hi g2
  .exact x.new j e b h' g2
 .rcases (get j e).mp g1 with ⟨rfl,_⟩|⟨hj,h'⟩
  .rcases (get k f).mp g2 with ⟨rfl,_⟩|⟨hk,gV⟩
   .rfl
   .exact x.dis i k d f b hi gV g3 g4
  .rcases (get k f).mp g2 with ⟨rfl,_⟩|⟨hk,gV⟩
   .exact x.dis j i e d b h' hi g3 g4
   .exact x.dis j k e f b h' gV g3 g4
 .have il:b≠a:=λe=>(x.new i d a hi ha).1 o (e ▸ z)
  rw[Dp il];exact x.same b o z
 .rcases (get j _).mp h with ⟨_,z⟩|⟨hj,h'⟩
  .cases z
  .obtain⟨b,ys,p1,p2,p3⟩:=x.pin j h';have il:b≠a:=λz=>hj (x.dis i j d _ a hi h' ha (z ▸ p2))
   exact⟨b,ys,p1,p2,by rw[Dp il];exact p3⟩
theorem Sx.rel(x:Sx K CL Fz B Y Z H)(hi:Y[i]?=Ab (Ab (d,Aa)))(hn:d≠.O):Sx K CL Fz B (Y.set i (Ab (d,Ae))) Z H:=by
 obtain⟨a,xs,ds,q,rfl,oa,hh,rr⟩:=x.good.ow i d hi hn;have own:∀(j:Ag)(e:D),(Y.set i (Ab (.L ds,Ae)))[j]?=Ab (Ab (e,Aa))->i≠j/\Y[j]?=Ab (Ab (e,Aa)):=λj e h=>by
  by_cases hj:i=j
  .subst hj;have:=HQ h;cases this
  .exact⟨hj,by rw[Dc hj]at h;exact h⟩
 have sub:∀ b,Ch B (Y.set i (Ab (.L ds,Ae))) Z b->Ch B Y Z b:=λb h=>by
  rcases h with h|⟨j,e,h1,h2⟩
  .exact .inl h
  .exact .inr ⟨j,e,(own j e h1).2,h2⟩
 have na:¬ Ch B (Y.set i (Ab (.L ds,Ae))) Z a:=λh=>by
  rcases h with h|⟨j,e,h1,h2⟩
  .exact(x.new i _ a hi q).2 h
  .obtain⟨hj,h1⟩:=own j e h1;exact hj (x.dis i j _ e a hi h1 q h2)
 refine⟨⟨λj e h=>?_,λj e h hn=>?_,by rw[Bj];exact x.len⟩,λb h=>x.aok b (sub b h),λj e b g1 g2=>x.new j e b (own j e g1).2 g2,λj k e f b g1 g2 g3 g4=>x.dis j k e f b (own j e g1).2 (own k f g2).2 g3 g4,x.same,by rw[Bj];exact x.len,λj h=>x.pin j (own j _ h).2⟩
 .by_cases hj:i=j
  .subst hj;have e1:=HQ h;cases e1;exact⟨_,q,a,xs,rfl,.inl na,zp.of hh,Z9.sub sub _ rr⟩
  .rw[Dc hj]at h;obtain⟨w',q',xh⟩:=x.good.sh j e h;exact⟨w',q',Y5.sub sub _ xh⟩
 .obtain⟨hj,h'⟩:=own j e h;obtain⟨b,ys,es,q',z,hb,hh',rr'⟩:=x.good.ow j e h' hn;exact⟨b,ys,es,q',z,.inr ⟨j,e,h,q'⟩,hh',Z9.sub sub _ rr'⟩
section
variable{X:Cx}{CL:ClA}{W:XW}
theorem CH.exC(x:Sx X.K CL Fz B Y Z H)(h:CH X.K CL Fz B W (O.of Y r f) D')(k:∀ d v H',r=.ok d->AV H H'->Fx X.K CL fr H A H' v d->Sx X.K CL Fz B Y Z H'->CH X.K CL Fz B W (f d) D'->Q v H'):BO (Fx X.K CL fr H A) W H r Q:=by
 cases r with
 |ok d=>exact λv H' s r=>k d v H' rfl s r (x.grow s) h
 |exn y=>exact λH' s=>h H' λb o z=>s _ _ (x.same b o z)
 |bad=>exact h
def Ũ(X:Cx)(CL:ClA)(W:XW)(fr:Ai)(i:Ag)(st:A8)(f:Rho->R D):Prop:=∀ A,PS X st (Of (λZ H Q=>zw H A/\∃ Y,Y4 X.K CL A Y Z H/\BO (Fx X.K CL fr H A) W H (f Y) Q) (Gg i))
theorem SC.sas{n:Al}(hN:X.N.Nodup)(hi:X.N[i]?=Ab n)(hx:Χ X.env.scope n)(he:SC X CL W fr e fe)(hs:EO e (Ab (.Name n pos')) pos.line X.env=pure Ae)(hf:X.fn n=Aa\/X.env.scope.names.lookup n=Ab .local):Ũ X CL W fr i (.Assign [.Name n pos'] e pos) fe:=
 λA=>YJ hN hi hx (he A) hs hf
theorem qX{n:Al}(hc:X.calm=Aa)(B:zk X scope N' ts)(hi:SI X CL W tg iter fi)(Æ:GG X.K CL ts as g)(hg:∀ cl C s H fp,PG (yu X scope cl C N' s H fp) tg g)(ht:∀ cl C s H fp,Ÿ (yu X scope cl C N' s H fp) CL ifs fc)(he:∀ cl C s H fp,SE (yu X scope cl C N' s H fp) CL W0 elt fe)(hs:∀ x,DD iter X.env x=pure x)(hN:X.N.Nodup)(hni:X.N[i]?=Ab n)(hx:X.env.scope.names.lookup n=Ab .local)(Λ:EO (.ListComp elt [⟨tg,iter,ifs,0⟩] scope pos) (Ab (.Name n pos')) pos2.line X.env=pure Aa):Ũ X CL W Aa i (.Assign [.Name n pos'] (.ListComp elt [⟨tg,iter,ifs,0⟩] scope pos) pos2) (λY=>(fi Y).bind λxs=>(â (B7 (λx=>(as x Y).bind fc) (λx=>(as x Y).bind fe) xs)).bind λys=>.ok (.L ys)):=λA pI s Z H Dn I ⟨hA,Y,gd,p⟩=>
 tU hc B (hi A) hg (λcl C s H fp=>ht cl C s H fp A) (λcl C s H fp=>he cl C s H fp A) hs hN hni hx Λ pI s Z H Dn I ⟨hA,Y,gd,Wa Æ hA gd p⟩
theorem YD{st:A8}(h:Ũ X CL W fr i st fe):SS X CL W st (λY=>O.of Y (fe Y) λd=>.next (Y.set i (Ab (d,Ae)))):=λFz B pI s Z H D I ⟨Y,x,p⟩=>
 h (Ch B Y Z) pI s Z H D I ⟨x.aok,Y,x.good,CH.exC x p λd v H' _ s r x' q=>q _ H' (x'.set i r.1)⟩
theorem vL{st:A8}(h:Ũ X CL W Aa i st fe):SS X CL W st (λY=>O.of Y (fe Y) λd=>setF Y i d):=λFz B pI s Z H D I ⟨Y,x,p⟩=>
 h (Ch B Y Z) pI s Z H D I ⟨x.aok,Y,x.good,CH.exC x p λd v H' _ s r x' q=>by
  cases d with
  |L ds=>
   obtain⟨a,xs,rfl,h0,h1,rs⟩:=r.2 rfl ds rfl;exact q _ H' (x.setF s h0 h1 rs)
  |dic ds=>exact r.1.elim
  | _=>exact q.elim⟩
theorem vG(he:SC X CL W Aa e fe):SS X CL W (.Return (Ab e) pos) (λY=>O.of Y (fe Y) λd=>.ret d Aa):=λFz B pI s Z H D I ⟨Y,x,p⟩=>
 Tp (he (Ch B Y Z)) pI s Z H D I ⟨x.aok,Y,x.good,CH.exC x p λd v H' _ s r x' q=>q v H' x'.same (Y5.sub (λa h=>.inl h) _ r.1) λ_ ds e=>by
  obtain⟨a,xs,h0,h1,h2,h3⟩:=r.2 rfl ds e;refine⟨a,xs,h0,λo z=>?_,h2,Z9.sub (λb hb=>hb.imp .inl id) _ h3⟩
  have:=x.same a o z;rw[h1]at this;cases this⟩
noncomputable def QK(Y:Rho)(i:Ag):Ai:=match Y[i]? with
  |some (Ab (_,o))=>o
  |_=>Ae
theorem vE(he:PE X e (IB i)):SS X CL W (.Return (Ab e) pos) (λY=>O.of Y (Hb Y i) λd=>.ret d (QK Y i)):=λFz B pI s Z H D I ⟨Y,x,p⟩=>
 Tp he pI s Z H D I (by
  dsimp only at p;cases e:Hb Y i with
  |bad=>rw[e]at p;exact p.elim
  |exn z=>exact(WN e).elim
  |ok d=>
   rw[e]at p;obtain⟨o,e,hn⟩:=Xh e;have eo:QK Y i=o:=by unfold QK;rw[e]
   rw[O.of_ok,eo]at p;cases o with
   |false=>
    obtain⟨v,q,r⟩:=x.good.sh i d e;exact⟨v,q,p v H x.same (Y5.sub (λa h=>.inl h) _ r) λz=>nomatch z⟩
   |true=>
    obtain⟨a,xs,ds,q,rfl,ha,hh,r⟩:=x.good.ow i d e (hn rfl);obtain⟨n1,n2⟩:=x.new i _ a e q;refine⟨_,q,p _ H x.same ⟨a,xs,rfl,.inl n2,zp.of hh,Z9.sub (λa h=>.inl h) _ r⟩ λ_ ϳ e'=>?_⟩
    cases e';exact⟨a,xs,rfl,n1,hh,Z9.sub (λb hb=>hb.elim .inl λz=>z ▸ ha) _ r⟩)
theorem Pi(h:DR Y i=.ok ds):Y[i]?=Ab (Ab (.L ds,Aa)):=by
 unfold DR at h;split at h
 .rename_i e;cases h;exact e
 .exact EZ h
theorem O6{x:Ex}(h:DR Y i=.exn x):BR:=by
 unfold DR at h;split at h<;>cases h
variable{o:Am}
theorem gr(ho:PE X o (IB i))(he:SE X CL W e fe)(ò:KZ o "append" X.env (eval o X.env)=eval o X.env)(ϸ:((DO cpos (AR [e] X.env)).all (λx=>!x.1)&&(Nz cpos (LR [] X.env)).all (λx=>x.1.isSome)&&decide ([e].length+([]:Ac Gs).length+(if ([]:Ac Gs).isEmpty then 0 else 1)<30))=Aa)(ô:(apos.endLine==cpos.line)=Aa)(hs:AR [e] X.env=[(Ae,eval e X.env)])(Λ:EO (.Call (.Attribute o "append" apos) [e] [] cpos) Af pos.line X.env=pure Ae):
  SS X CL W (.Expr (.Call (.Attribute o "append" apos) [e] [] cpos) pos) (λY=>O.of Y (DR Y i) λxs=>O.of Y (fe Y) λd=>if Eo (xs.length+1)=Aa then .next (Y.set i (Ab (.L (xs++[d]),Aa))) else .bad):=λFz B pI s Z H D I ⟨Y,x,p⟩=>by
 refine SQ (ZC dI PySem.F.slot_list_append PySem.F.type_list_append oF ho (GP (he (Ch B Y Z)) IR hs) ò ϸ ô hs rfl) Λ pI s Z H D I ?_;dsimp only at p;cases e1:DR Y i with
 |bad=>rw[e1]at p;exact p.elim
 |exn z=>exact(O6 e1).elim
 |ok ds=>
  rw[e1,O.of_ok]at p;have hi:=Pi e1;obtain⟨a,xs,ϳ,q,e2,ha,hh,r⟩:=x.good.ow i _ hi (λz=>nomatch z)
  cases e2;refine⟨_,q,.inl ⟨rfl,xs,zp.of hh⟩,x.aok,Y,x.good,CH.ex x p λd v H' _ s rv x' q'=>?_⟩
  split at q'
  .rename_i hz;refine⟨a,xs,v,rfl,rfl,s _ _ hh,?_,q' _ _ (x'.upd hi q ((r.same s).append ⟨rv,trivial⟩))⟩;have:=Ll hz;rw[r.length];lia
  .exact q'.elim
theorem gq(ho:PE X o (IB i))(he:SC X CL W Aa e fe)(ò:KZ o "extend" X.env (eval o X.env)=eval o X.env)(ϸ:((DO cpos (AR [e] X.env)).all (λx=>!x.1)&&(Nz cpos (LR [] X.env)).all (λx=>x.1.isSome)&&decide ([e].length+([]:Ac Gs).length+(if ([]:Ac Gs).isEmpty then 0 else 1)<30))=Aa)(ô:(apos.endLine==cpos.line)=Aa)(hs:AR [e] X.env=[(Ae,eval e X.env)])(Λ:EO (.Call (.Attribute o "extend" apos) [e] [] cpos) Af pos.line X.env=pure Ae):
  SS X CL W (.Expr (.Call (.Attribute o "extend" apos) [e] [] cpos) pos) (λY=>O.of Y (DR Y i) λxs=>O.of Y (fe Y) λd=>O.of Y (Qt d) λys=>if Eo (xs.length+ys.length)=Aa then .next (Y.set i (Ab (.L (xs++ys),Aa))) else .bad):=λFz B pI s Z H D I ⟨Y,x,p⟩=>by
 refine SQ (ZC dI PySem.F.slot_list_extend PySem.F.type_list_extend oE ho (GP (he (Ch B Y Z)) IR hs) ò ϸ ô hs rfl) Λ pI s Z H D I ?_;dsimp only at p;cases e1:DR Y i with
 |bad=>rw[e1]at p;exact p.elim
 |exn z=>exact(O6 e1).elim
 |ok ds=>
  rw[e1,O.of_ok]at p;have hi:=Pi e1;obtain⟨a,xs,ϳ,q,e2,ha,hh,r⟩:=x.good.ow i _ hi (λz=>nomatch z)
  cases e2;refine⟨_,q,.inl ⟨rfl,xs,zp.of hh⟩,x.aok,Y,x.good,CH.exC x p λd v H' _ s rv x' q'=>?_⟩
  cases d with
  |L es=>
   obtain⟨b,ys,rfl,h0,h1,rs⟩:=rv.2 rfl es rfl;rw[pR,O.of_ok]at q';split at q'
   .rename_i hz;refine⟨a,b,xs,ys,rfl,rfl,s _ _ hh,h1,?_,q' _ _ (x'.upd hi q ((r.same s).append (Z9.sub (λc hc=>.inl hc) _ rs)))⟩
    rw[r.length,rs.length];exact Ll hz
   .exact q'.elim
  |_=>exact q'.elim
theorem gp{pos:Bm}{e:Am}{fe:Rho->R D}{i:Ag}{k:Am}{fk:Rho->R Ov.D}{yw:Bm}(ho:PE X o (IB i))(hk:ST X CL W k fk)(he:SE X CL W e fe)(ha:∀ v,assign (.Subscript o k yw) X.env v=(do
      let ov <-holding [v] (eval o X.env)
      let iv <-holding [v,ov] (eval k X.env)
      Ks yw
      holding [v,ov,iv] (Mz ov iv v)
      release [v,ov,iv] []))(hs:Hj [.Subscript o k yw] e pos.line X.env=pure Ae)(hw:Gq [.Subscript o k yw] e X.env=pure Af)(h1:(CQ [.Subscript o k yw] X.env).map (·.2)=[assign (.Subscript o k yw) X.env]):
    SS X CL W (.Assign [.Subscript o k yw] e pos) (λY=>O.of Y (fe Y) λd=>O.of Y (DR Y i) λxs=>O.of Y ((fk Y).bind Gd) λj=>match ä xs.length j with
      |some n=>.next (Y.set i (Ab (.L (xs.set n d),Aa)))
      | none=>.bad):=λFz B pI s Z H D I ⟨Y,x,p⟩=>
  Tq (he (Ch B Y Z)) (Yo ho (hk (Ch B Y Z)) qS ha) hs hw h1 pI s Z H D I ⟨x.aok,Y,x.good,CH.ex x p λd v H' _ s rv x' q'=>by
    cases e1:DR Y i with
    |bad=>rw[e1]at q';exact q'.elim
    |exn z=>exact(O6 e1).elim
    |ok ds=>
      rw[e1,O.of_ok]at q';have hi:=Pi e1;obtain⟨a,xs,ϳ,q,e2,ha,hh,r⟩:=x'.good.ow i _ hi (λz=>nomatch z)
      cases e2;refine⟨_,q,x'.aok,Y,x'.good,?_⟩;cases e3:fk Y with
      |bad=>rw[e3]at q';exact q'.elim
      |exn z=>rw[e3]at q';exact λH2 s2=>q' H2 λb o z=>s2 _ _ (x'.same b o z)
      |ok dk=>
        rw[e3]at q';intro y H2 s2 ry;cases dk with
        |int j=>
          have ey:=ry.int_of;subst ey;rw[R.bind_ok,pS,O.of_ok]at q';cases e4:ä ds.length j with
          |none=>rw[e4]at q';exact q'.elim
          |some n=>
            rw[e4]at q';refine⟨a,xs,j,n,rfl,rfl,s2 _ _ hh,?_,q' _ _ ((x'.grow s2).upd hi q (Z9.set (rv.same s2) n (r.same s2)))⟩;rw[r.length];exact e4
        | _=>exact q'.elim⟩
theorem vJ{as:Ov.D->Rho->R Rho}(hGT:GT X.K CL as g)(hg:PG X tg g)(he:SE X CL W e fe)(hs:Hj [tg] e pos.line X.env=pure Ae)(hw:Gq [tg] e X.env=pure Af)(h1:(CQ [tg] X.env).map (·.2)=[assign tg X.env])(hax:∀ d Y x,as d Y≠.exn x):SS X CL W (.Assign [tg] e pos) (λY=>O.of Y (fe Y) λd=>O.of Y (as d Y) λY'=>.next Y'):=λFz B pI s Z H D I ⟨Y,x,p⟩=>
 Tq (he (Ch B Y Z)) hg hs hw h1 pI s Z H D I ⟨x.aok,Y,x.good,CH.ex x p λd v H' _ s rv x' q'=>by
  cases ea:as d Y with
  |bad=>rw[ea]at q';exact q'.elim
  |exn z=>exact absurd ea (hax _ _ z)
  |ok Y2=>
   rw[ea,O.of_ok]at q';exact hGT Fz B Y Z H' v d Y2 _ x' rv ea λZ' x3=>q' Z' H' x3⟩
theorem uZ{rest:Ac A8}{f:Rho->O}(i:Ag)(h:Û X CL W rest f):Û X CL W rest (λY=>(match Y[i]? with
   |some (Ab (d,Aa))=>UF Y i d
   | _=>O.next Y).seq f):=λFz B=>xk.weak (h Fz B) λD Z H ⟨Y,x,p⟩=>by
 dsimp only at p;split at p
 .rename_i d e;cases d with
  |L xs=>exact⟨_,x.rel e (λz=>nomatch z),p⟩
  |_=>exact p.elim
 .exact⟨Y,x,p⟩
end
theorem Bv.take(r:Bv xs its):∀ n,Bv (xs.take n) (its.take n):=by
 induction r with
 |nil=>intro n;simp;exact .nil
 |cons h _ ih=>
  intro n;cases n with
  |zero=>exact .nil
  |succ n=>exact .cons h (ih n)
theorem Bv.drop(r:Bv xs its):∀ n,Bv (xs.drop n) (its.drop n):=by
 induction r with
 |nil=>intro n;simp;exact .nil
 |cons h t ih=>
  intro n;cases n with
  |zero=>exact .cons h t
  |succ n=>exact ih n
section
variable{A:A9}{E:Vq}
theorem jn{j:Ak}{x:Aj}{Q:Vq}(st:s.heap.IsTupleIter j t k)(sq:s.heap.IsTuple t its)(at_:its[k]?=Ab x)(go:∀ h2,h2.IsTupleIter j t (k+1)->Fn j s.heap h2->Q x {s with heap:=h2}):Az (model prog w) A (Bi (.ref j)) Q E s:=by
 obtain⟨oj,gj,cj,dj⟩:=id st;obtain⟨ot,gt,_,nt,dt⟩:=sq;show Az _ _ (K9 _ _ >>= _) _ _ _;refine Ah (Cq st.typeIs EW (CC EW st.typeIs dG ?_ (dB _)));show Az _ _ (field (.ref j) 0 >>= _) _ _ _;refine Ah (Bx gj dj (x:=.ref t) rfl ?_);show Az _ _ (field (.ref j) 1 >>= _) _ _ _;refine Ah (Bx gj dj (x:=.int k 0) rfl ?_);refine Ah (Cb gt dt ?_);simp only[Ja,at_];exact Ah (G0 gj dj (by simp) (Au ⟨x,rfl,Au (go _ ⟨_,CV _ gj (F0 (Eh dj _)),(dS ..).trans cj,by rw[Eh dj];simp[CN]⟩ (Ie ..))⟩))
theorem oC{j:Ak}{Q:Vq}(calm:A.handled=Af)(st:s.heap.IsTupleIter j t k)(sq:s.heap.IsTuple t its)(at_:its[k]?=Af)(up:∀ h2 e,JW j s.heap h2->(∃ o,h2.get? e=Ab o/\o.cls=.type "StopIteration")->E (.ref e) {s with heap:=h2}):Az (model prog w) A (Bi (.ref j)) Q E s:=by
 obtain⟨oj,gj,cj,dj⟩:=id st;obtain⟨ot,gt,_,nt,dt⟩:=sq;show Az _ _ (K9 _ _ >>= _) _ _ _;refine Ah (Cq st.typeIs EW (CC EW st.typeIs dG ?_ (dB _)));show Az _ _ (field (.ref j) 0 >>= _) _ _ _;refine Ah (Bx gj dj (x:=.ref t) rfl ?_);show Az _ _ (field (.ref j) 1 >>= _) _ _ _;refine Ah (Bx gj dj (x:=.int k 0) rfl ?_);refine Ah (Cb gt dt ?_);simp only[Ja,at_];refine Ah (Fh (Ah (G0 gj dj (by simp) ?_)))
 refine Ah ?_;simp only[newExc,newTuple];refine Ah (Di ?_ (by size_fits))
 refine Ah (m:=eX _ _) (wpAny_of_eq (a:=.none) (by first|rfl|(simp only[eX];rfl)) (Di ?_ (by size_fits)))
 simp only[raiseNew];refine Ah (wpAny_handled ?_)
 first|rw[show A.in1.handled=Af from calm]|rw[calm]
 exact Ah (Au (wpAny_throw (up _ _ (((Ie ..).extBut.push _).push _) ⟨_,AG _ rfl,rfl⟩)))
end
structure Dw (prog:AW) (w:AJ) (A:A9) (j:Ak) (fp:Ac Ak) (n:Ag) (P:Ag->Aj->Prop) (S:Ag->AO->Prop):Prop where
 frame:∀ i h h2,S i h->(∀ c∈fp,∀ o,h.get? c=Ab o->h2.get? c=Ab o)->S i h2
 item:∀ i (s:Aq) (Q:Vq) (E:Vq),i<n->S i s.heap->(∀ x h2 tk,P i x->S (i+1) h2->Fn j s.heap h2->Q x {s with heap:=h2,toks:=tk})->Az (model prog w) A (Bi (.ref j)) Q E s
 done:∀ i (s:Aq) (Q:Vq) (E:Vq),n<=i->S i s.heap->(∀ h2 e,JW j s.heap h2->(∃ o,h2.get? e=Ab o/\o.cls=.type "StopIteration")->E (.ref e) {s with heap:=h2})->Az (model prog w) A (Bi (.ref j)) Q E s
def FU(t:Ai)(h:AO)(j l:Ak)(i:Ag):Prop:=match t with
  |true=>h.IsTupleIter j l i
  |false=>h.IsListIter j l i
def CO(t:Ai)(h:AO)(l:Ak)(its:Ax Aj):Prop:=match t with
  |true=>h.IsTuple l its
  |false=>h.IsList l its
theorem Ϟ{A:A9}(calm:A.handled=Af)(t:Ai)(j l:Ak)(ne:l≠j)(its:Ax Aj):Dw prog w A j [j,l] its.size (λi v=>its[i]?=Ab v) (λi h=>FU t h j l i/\CO t h l its):=by
 cases t with
 |true=>exact⟨λ_ _ _ z k=>⟨z.1.at λo e=>k j (by simp) o e,z.2.at λo e=>k l (by simp) o e⟩,λi s Q E hi z q=>jn z.1 z.2 (x:=its[i]) (by simp[hi]) λh2 z2 sb=>q _ h2 s.toks (by simp[hi]) ⟨z2,z.2.extBut sb.extBut ne⟩ sb,λi s Q E hi z q=>oC calm z.1 z.2 (by simp[hi]) q⟩
 |false=>exact⟨λ_ _ _ z k=>⟨z.1.at λo e=>k j (by simp) o e,z.2.at λo e=>k l (by simp) o e⟩,λi s Q E hi z q=>wpAny_nextOf_list_item z.1 z.2 (x:=its[i]) (by simp[hi]) λh2 z2 sb=>q _ h2 s.toks (by simp[hi]) ⟨z2,z.2.extBut sb.extBut ne⟩ sb,λi s Q E hi z q=>wpAny_nextOf_list_end calm z.1 z.2 (by simp[hi]) q⟩
theorem Ű{I c:Ag}(b:l<I)(h:c∈[I,l])(j:Ag):c≠I+(j+1):=by
 have h':c=I\/c=l:=by simpa using h
 lia
theorem ι{I c:Ag}(b:l<I)(h:c∈[I+1,l]):c≠I/\c≠I+3/\c≠I+4:=by
 have h':c=I+1\/c=l:=by simpa using h
 lia
def yk{I i j:Ag}(h:i≠j):I+i≠I+j:=by lia
def ϕ{I i:Ag}(h:i≠0):I+i≠I:=by lia
section
variable{A:A9}{E:Vq}
theorem oX{I k:Ag}{a b:Aj}{Q:Vq}(b1:l1<I)(b2:l2<I)(D1:Dw prog w A I [I,l1] n1 P1 S1)(D2:Dw prog w A (I+1) [I+1,l2] n2 P2 S2)(hz:HH s.heap (I+4) (I+2) (I+3) .none)(hI:FZ s.heap (I+2) (.ref I) (.ref (I+1)))(hO:FZ s.heap (I+3) a b)(g1:S1 k s.heap)(g2:S2 k s.heap)(k1:k<n1)(k2:k<n2)(go:∀ x y h2 tk,P1 k x->P2 k y->HH h2 (I+4) (I+2) (I+3) (CN s.heap.objs.size)->FZ h2 (I+3) x y->S1 (k+1) h2->S2 (k+1) h2->FZ h2 s.heap.objs.size x y ->
   (∀ c o,c∉[I,I+1,I+3,I+4]->s.heap.get? c=Ab o->h2.get? c=Ab o)->Q (.ref s.heap.objs.size) {s with heap:=h2,toks:=tk}):Az (model prog w) A (Builtin.«zip.__next__» ⟨[.ref (I+4)],[]⟩) (λfin s'=>∃ v,fin=.done (.ret v)/\Q v s') E s:=by
 refine Ah (m:=field (.ref (I+4)) 2) (Bx hz rfl (x:=.bool Ae) rfl ?_);refine Ah (m:=field (.ref (I+4)) 3) (Bx hz rfl (x:=.ref (I+2)) rfl (Ah (Cb hI rfl ?_)));refine Ah (m:=Bk (.ref (I+4))) ?_;simp only[Bk];refine Ah (Bx hz rfl (x:=.none) rfl (Au ?_));rw[AB rfl];refine Ah (Fh (Ah (Bx hz rfl (x:=.ref (I+3)) rfl (Ah (CA hz (by simp) λp1 z1 e1=>Ah ?_)))))
 have ο:HH p1 (I+4) (I+2) (I+3) .ellipsis:=z1;simp only[F7,HC,EU,EF];refine Ah (Ah (EC (Ah (m:=Bi (.ref I)) (D1.item k _ _ _ k1 (D1.frame _ _ _ g1 λc hc o q=>e1.extBut c o (Ű b1 hc 3) q) λx p2 t2 px s2 e2=>Au ?_))))
 have o2:FZ p2 (I+3) a b:=e2.extBut _ _ (ϕ (by decide)) (e1.extBut _ _ (yk (by decide)) hO)
 refine Ah (Cb o2 rfl (Ah (HN o2 λp3 o3 e3=>Ah (Gz (Au ?_)))))
 have o3':FZ p3 (I+3) x b:=o3;have g2':S2 k p3:=D2.frame _ _ _ g2 λc hc o q=>e3.extBut c o (ι b2 hc).2.1 (e2.extBut c o (ι b2 hc).1 (e1.extBut c o (ι b2 hc).2.2 q))
 refine Ah (Ah (EC (Ah (m:=Bi (.ref (I+1))) (D2.item k _ _ _ k2 g2' λy p4 t4 py s4 e4=>Au ?_))))
 have o4:FZ p4 (I+3) x b:=e4.extBut _ _ (yk (by decide)) o3'
 refine Ah (Cb o4 rfl (Ah (HN o4 λp5 o5 e5=>Ah (Gz (Au (Au ?_))))))
 have ė:FZ p5 (I+3) x y:=o5;have sz:p5.objs.size=s.heap.objs.size:=by rw[e5.1,e4.1,e3.1,e2.1,e1.1]
 have z5:HH p5 (I+4) (I+2) (I+3) .ellipsis:=e5.extBut _ _ (yk (by decide)) (e4.extBut _ _ (yk (by decide)) (e3.extBut _ _ (yk (by decide)) (e2.extBut _ _ (ϕ (by decide)) ο)))
 refine Ah (Cb ė rfl (Ah (Im ?_)));refine Ah (m:=DM (.ref (I+4)) (.ref p5.objs.size)) ?_;simp only[DM];have z6:HH (p5.push { cls:=.type "tuple",data:=.seq #[x,y] }) (I+4) (I+2) (I+3) .ellipsis:=At _ z5;refine Ah (CA z6 (by simp) λp7 z7 e7=>?_)
 have z7':HH p7 (I+4) (I+2) (I+3) (CN p5.objs.size):=z7;refine CA z7' (by simp) λp8 z8 e8=>Au ⟨_,rfl,?_⟩
 have z8':HH p8 (I+4) (I+2) (I+3) (CN p5.objs.size):=z8;have ō:I+4<p5.objs.size:=AK z5;have up:∀ c o,c≠I+4->p5.get? c=Ab o->p8.get? c=Ab o:=λc o nc q=>e8.extBut _ _ nc (e7.extBut _ _ nc (At _ q))
 have t8:FZ p8 p5.objs.size x y:=e8.extBut _ _ (D6 ō) (e7.extBut _ _ (D6 ō) (AG _ rfl));have a1:S1 (k+1) p8:=D1.frame _ _ _ s2 λc hc o q=>up c o (Ű b1 hc 3) (e5.extBut c o (Ű b1 hc 2) (e4.extBut c o (Ű b1 hc 0) (e3.extBut c o (Ű b1 hc 2) q)))
 have a2:S2 (k+1) p8:=D2.frame _ _ _ s4 λc hc o q=>up c o (ι b2 hc).2.2 (e5.extBut c o (ι b2 hc).2.1 q)
 have kp:∀ c o,c∉[I,I+1,I+3,I+4]->s.heap.get? c=Ab o->p8.get? c=Ab o:=λc o nc q=>by
  simp only[Ay,Bl,CD,ES]at nc;exact up c o nc.2.2.2 (e5.extBut c o nc.2.2.1 (e4.extBut c o nc.2.1 (e3.extBut c o nc.2.2.1 (e2.extBut c o nc.1 (e1.extBut c o nc.2.2.2 q)))))
 have q:=go x y p8 t4 px py (by rw[<-sz];exact z8') (up _ _ (yk (by decide)) ė) a1 a2 (by rw[<-sz];exact t8) kp
 rw[<-sz]at q;exact q
theorem sZ{I k:Ag}{a b:Aj}(b1:l1<I)(b2:l2<I)(D1:Dw prog w A I [I,l1] n1 P1 S1)(D2:Dw prog w A (I+1) [I+1,l2] n2 P2 S2)(hz:HH s.heap (I+4) (I+2) (I+3) .none)(hI:FZ s.heap (I+2) (.ref I) (.ref (I+1)))(hO:FZ s.heap (I+3) a b)(g1:S1 k s.heap)(g2:S2 k s.heap)(hk:n1<=k\/(k<n1/\n2<=k))(up:∀ h2 e tk,(∀ c o,c∉[I,I+1,I+3,I+4]->s.heap.get? c=Ab o->h2.get? c=Ab o)->(∃ o,h2.get? e=Ab o/\o.cls=.type "StopIteration")->E (.ref e) {s with heap:=h2,toks:=tk}):Az (model prog w) A (Builtin.«zip.__next__» ⟨[.ref (I+4)],[]⟩) Q E s:=by
 refine Ah (m:=field (.ref (I+4)) 2) (Bx hz rfl (x:=.bool Ae) rfl ?_);refine Ah (m:=field (.ref (I+4)) 3) (Bx hz rfl (x:=.ref (I+2)) rfl (Ah (Cb hI rfl ?_)));refine Ah (m:=Bk (.ref (I+4))) ?_;simp only[Bk];refine Ah (Bx hz rfl (x:=.none) rfl (Au ?_));rw[AB rfl];refine Ah (Fh (Ah (Bx hz rfl (x:=.ref (I+3)) rfl (Ah (CA hz (by simp) λp1 z1 e1=>Ah ?_)))))
 have ο:HH p1 (I+4) (I+2) (I+3) .ellipsis:=z1;simp only[F7,HC,EU,EF];have ĉ:S1 k p1:=D1.frame _ _ _ g1 λc hc o q=>e1.extBut c o (Ű b1 hc 3) q
 rcases hk with k1|⟨k1,k2⟩
 .refine Ah (Ah (EC (Ah (m:=Bi (.ref I)) (D1.done _ _ _ _ k1 ĉ λp2 e e2 he=>?_))))
  obtain⟨oe,ϻ,δ⟩:=he;have z2:HH p2 (I+4) (I+2) (I+3) .ellipsis:=e2 _ _ (ϕ (by decide)) ο
  have ne:e≠I+4:=λx=>by subst x;rw[z2]at ϻ;cases ϻ;simp at δ
  refine CA z2 (by simp) λp3 _ e3=>up p3 e s.toks (λc o nc q=>?_) ⟨oe,e3.extBut _ _ ne ϻ,δ⟩
  simp only[Ay,Bl,CD,ES]at nc;exact e3.extBut c o nc.2.2.2 (e2 c o nc.1 (e1.extBut c o nc.2.2.2 q))
 .refine Ah (Ah (EC (Ah (m:=Bi (.ref I)) (D1.item k _ _ _ k1 ĉ λx p2 t2 px s2 e2=>Au ?_))))
  have o2:FZ p2 (I+3) a b:=e2.extBut _ _ (ϕ (by decide)) (e1.extBut _ _ (yk (by decide)) hO)
  refine Ah (Cb o2 rfl (Ah (HN o2 λp3 o3 e3=>Ah (Gz (Au ?_)))))
  have g2':S2 k p3:=D2.frame _ _ _ g2 λc hc o q=>e3.extBut c o (ι b2 hc).2.1 (e2.extBut c o (ι b2 hc).1 (e1.extBut c o (ι b2 hc).2.2 q))
  refine Ah (Ah (EC (Ah (m:=Bi (.ref (I+1))) (D2.done _ _ _ _ k2 g2' λp4 e e4 he=>?_))))
  obtain⟨oe,ϻ,δ⟩:=he;have z4:HH p4 (I+4) (I+2) (I+3) .ellipsis:=e4 _ _ (yk (by decide)) (e3.extBut _ _ (yk (by decide)) (e2.extBut _ _ (ϕ (by decide)) ο))
  have ne:e≠I+4:=λx=>by subst x;rw[z4]at ϻ;cases ϻ;simp at δ
  refine CA z4 (by simp) λp5 _ e5=>up p5 e t2 (λc o nc q=>?_) ⟨oe,e5.extBut _ _ ne ϻ,δ⟩
  simp only[Ay,Bl,CD,ES]at nc;exact e5.extBut c o nc.2.2.2 (e4 c o nc.2.1 (e3.extBut c o nc.2.2.1 (e2.extBut c o nc.1 (e1.extBut c o nc.2.2.2 q))))
end
def xi(t:Ai)(K:Fg)(H:Hp)(a:Ak)(xs:Ac V):Prop:=match t with
  |true=>yr K H a xs
  |false=>zp K H a xs
theorem IS(I:Z4 X pI Z H s)(h:xi t X.K H a xs):∃ its:Ac Aj,Bv xs its/\CO t s.heap a its.toArray/\xs.length<=sizeLine:=by
 cases t with
 |true=>
  obtain⟨its,rv,p,z⟩:=I.tuple h;exact⟨its,rv,p,z⟩
 |false=>
  obtain⟨its,rv,p,z⟩:=I.list h;exact⟨its,rv,p.isList,z⟩
theorem RD{ys:Ac V}(I:Z4 X pI Z H s)(h:xi t X.K H a xs)(h2:xi t X.K H a ys):xs=ys:=by
 cases t with
 |true=>exact I.tuple_inj h h2
 |false=>exact I.list_inj h h2
def Itz(K:Fg)(t1 t2:Ai)(a b:Ak):It:=
  ⟨λi H=>∃ xs ys x y,xi t1 K H a xs/\xi t2 K H b ys/\xs[i]?=Ab x/\ys[i]?=Ab y,
   λi H v H'=>∃ p x y,H p=Af/\v=.ref p/\(∀ xs,xi t1 K H a xs->xs[i]?=Ab x)/\(∀ ys,xi t2 K H b ys->ys[i]?=Ab y)/\H'=upd H p (.H [x,y]),
   λi H=>∃ xs ys,xi t1 K H a xs/\xi t2 K H b ys/\(xs.length<=i\/(i<xs.length/\ys.length<=i))⟩
theorem Z4.turnedL(ch:Ac Ak)(I:Z4 X pI Z H s)(k:∀ b o,b∉ch->s.heap.get? b=Ab o->h'.get? b=Ab o)(hf:∀ b∈ch,Iu X pI H b):Z4 X pI Z H {s with heap:=h',toks:=t'}:=by
 have ő:∀ b u,H b=Ab u->b∉ch:=λb u e z=>by rw[(hf b z).1]at e;cases e
 refine I.step (g':=s.gens) (d':=s.drawn) (ch:=ch) (λb hb=>⟨(hf b hb).2.2.2.1,(hf b hb).2.1,(hf b hb).2.2.2.2.1,(hf b hb).2.2.2.2.2⟩) (λb o _ _ hc e _=>k b o hc e) (λb o _ _ hc e _=>⟨o.slots,k b o hc e⟩) (λ_ _ _ _ n=>n)
  (λb o hc e=>⟨o,k b o hc e⟩) (λ_ _ e=>e) (λ_ _ _ e=>e) (λb ps e=>⟨#[],by rw[e];simp⟩) (λm ⟨o,es,ep,ho,r⟩=>⟨o,es,ep,k _ o (λz=>(hf _ z).2.1 rfl) ho,r⟩) (λb u e=>(I.hok b u e).stay (λc v hc q=>k c v ?_ q) (λ_ q=>q) λ_ _ q=>q) I.bare
 rcases hc with z|z
 .rw[z];exact ő b u e
 .exact ő c _ z
def zTn(t1 t2:Ai)(I l1 l2:Ag)(i:Ag)(h:AO):Prop:=HH h (I+4) (I+2) (I+3) .none/\FZ h (I+2) (.ref I) (.ref (I+1))/\(∃ a b,FZ h (I+3) a b)/\FU t1 h I l1 i/\FU t2 h (I+1) l2 i
noncomputable def õ(I:Ag):Ac Ak:=[I,I+1,I+2,I+3,I+4]
theorem FU.obj{j:Ak}(z:FU t h j l i):∃ o,h.get? j=Ab o/\∀ v,o.data≠.cell v:=by
 cases t with
 |true=>obtain⟨o,e,c,d⟩:=z;exact⟨o,e,λv z=>by rw[d]at z;cases z⟩
 |false=>obtain⟨o,e,c,d⟩:=z;exact⟨o,e,λv z=>by rw[d]at z;cases z⟩
theorem FU.at'{j:Ak}(z:FU t h j l i)(k:∀ o,h.get? j=Ab o->h2.get? j=Ab o):FU t h2 j l i:=by
 cases t with
 |true=>exact PySem.Heap.IsTupleIter.at z k
 |false=>exact PySem.Heap.IsListIter.at z k
theorem pK(t1 t2:Ai)(I l1 l2:Ag)(b1:l1<I)(b2:l2<I):é P w K (.Tuple es n pos) (Itz K t1 t2 l1 l2) (õ I) (I+4) (zTn t1 t2 I l1 l2) where
  mem:=by simp[õ]
  obj:=λi h ⟨z1,z2,⟨a,b,z3⟩,z4,z5⟩ c hc=>by
    simp only[õ,Ay,Bl,CD]at hc;rcases hc with rfl|rfl|rfl|rfl|rfl
    · exact z4.obj
    · exact z5.obj
    · exact⟨_,z2,λv z=>by cases z⟩
    · exact⟨_,z3,λv z=>by cases z⟩
    · exact⟨_,z1,λv z=>by cases z⟩
  keep:=λi h h2 ⟨z1,z2,⟨a,b,z3⟩,z4,z5⟩ k=>⟨k _ (by simp[õ]) _ z1,k _ (by simp[õ]) _ z2,⟨a,b,k _ (by simp[õ]) _ z3⟩,z4.at' λo e=>k _ (by simp[õ]) o e,z5.at' λo e=>k _ (by simp[õ]) o e⟩
  item:=by
    intro X hP hw hK hc i pI s Z H E Iv hf ⟨z1,z2,⟨a,b,z3⟩,z4,z5⟩ ⟨xs,ys,x,y,q1,q2,hx,hy⟩;subst hP hw hK;obtain⟨us,rx,sx,_⟩:=IS Iv q1;obtain⟨vs,ry,sy,_⟩:=IS Iv q2;obtain⟨u,hu,ru⟩:=rx.get hx;obtain⟨v,hv,rv⟩:=ry.get hy;have hT:s.TypeIs (.ref (I+4)) "zip" := ⟨_,z1,rfl⟩;have calm:X.A.in1.handled=Af:=Iv.ok.hd hc;show Az _ _ (E5 _) _ _ _;simp only[E5];refine Ah (FB (Cq hT C9 (CC C9 hT Fm (oX (k:=i) b1 b2 (Ϟ calm t1 I l1 (Be b1) us.toArray) (Ϟ calm t2 (I+1) l2 (Be (DC b2)) vs.toArray) z1 z2 z3 ⟨z4,sx⟩ ⟨z5,sy⟩
      (by have:=(Bh.mp hu).1;simpa using this) (by have:=(Bh.mp hv).1;simpa using this) λx' y' h2 tk px py c1 c2 c3 c4 c5 kp=>Au ?_) (E3 _))))
    have ex:x'=u:=by
      have px':us[i]?=Ab x':=by simpa using px
      rw[hu]at px';exact(B6 px').symm
    have ey:y'=v:=by
      have py':vs[i]?=Ab y':=by simpa using py
      rw[hv]at py';exact(B6 py').symm
    subst ex ey;refine⟨_,rfl,wpAny_letOwnedTupleGo_zip c1 λh3 d1 sb=>?_⟩
    have lt4:I+4<s.heap.objs.size:=AK z1;have Ō:∀ c o,c∉õ I->s.heap.get? c=Ab o->h3.get? c=Ab o:=λc o nc q=>by
      simp only[õ,Ay,Bl,CD,ES]at nc;exact sb.extBut c o nc.2.2.2.2 (kp c o (by simp only[Ay,Bl,CD,ES];exact⟨nc.1,nc.2.1,nc.2.2.2.1,nc.2.2.2.2⟩) q)
    have nT:∀ c∈õ I,c≠s.heap.objs.size:=λc hc z=>by
      have:c<=I+4:=by
        simp only[õ,Ay,Bl,CD]at hc;rcases hc with z|z|z|z|z<;>rw[z]<;>simp
      exact absurd (z ▸ EK this lt4) (BH _)
    have I1:Z4 X pI Z (upd H s.heap.objs.size (.H [x,y])) { s with heap:=s.heap.push { cls:=.type "tuple",data:=.seq #[x',y'] },toks:=s.toks }:=
      Iv.laid (λ_ _ q=>At _ q) (AE _) ⟨(by decide:2<=sizeLine),[x',y'],.cons ru (.cons rv .nil),⟨_,AG _ rfl,rfl,_,rfl⟩⟩
    have ĺ:∀ b∈õ I,Iu X pI (upd H s.heap.objs.size (.H [x,y])) b:=λb hb=>⟨by rw[Dp (nT b hb)];exact(hf b hb).1,(hf b hb).2⟩
    have I2:Z4 X pI Z (upd H s.heap.objs.size (.H [x,y])) {s with heap:=h3,toks:=tk}:=Z4.turnedL (s:={ s with heap:=s.heap.push { cls:=.type "tuple",data:=.seq #[x',y'] },toks:=s.toks }) (õ I) I1 (λc o nc q=>by
      rcases dR q with ⟨e1,e2⟩|e1
      · subst e1 e2;exact sb.extBut _ _ (D6 lt4) c5
      · exact Ō c o nc e1) ĺ
    refine⟨.ref s.heap.objs.size,_,I2,rfl,⟨s.heap.objs.size,x,y,Iv.fresh,rfl,λzs hz=>by rw[RD Iv hz q1];exact hx,λzs hz=>by rw[RD Iv hz q2];exact hy,rfl⟩,⟨d1,sb.extBut _ _ (yk (by decide)) (kp _ _ (by simp) z2),⟨_,_,sb.extBut _ _ (yk (by decide)) c2⟩,c3.1.at' λo q=>sb.extBut _ o (Cy (ϕ (by decide))) q,c4.1.at' λo q=>sb.extBut _ o (yk (by decide)) q⟩,λb hb=>(ĺ b hb).1⟩
  done:=by
    intro X hP hw hK hc i pI s Z H E Iv hf ⟨z1,z2,⟨a,b,z3⟩,z4,z5⟩ ⟨xs,ys,q1,q2,hk⟩;subst hP hw hK;obtain⟨us,rx,sx,_⟩:=IS Iv q1;obtain⟨vs,ry,sy,_⟩:=IS Iv q2;have hT:s.TypeIs (.ref (I+4)) "zip" := ⟨_,z1,rfl⟩;have calm:X.A.in1.handled=Af:=Iv.ok.hd hc;have e1:=rx.length;have e2:=ry.length;simp only[E5];refine Ah (FB (Cq hT C9 (CC C9 hT Fm (sZ (k:=i) b1 b2 (Ϟ calm t1 I l1 (Be b1) us.toArray) (Ϟ calm t2 (I+1) l2 (Be (DC b2)) vs.toArray) z1 z2 z3 ⟨z4,sx⟩ ⟨z5,sy⟩
      (by simp only[AT];lia) λh2 e tk kp he=>?_) (E3 _))))
    obtain⟨o,ho,Ó⟩:=he;refine Ah (Gb (T := "StopIteration") (b:=Aa) ⟨o,ho,Ó⟩ eY (Au ⟨rfl,Z4.turnedL [I,I+1,I+3,I+4] Iv (λc o nc q=>kp c o nc q) λc hc=>hf c ?_⟩))
    simp only[Ay,Bl,CD]at hc;simp only[õ,Ay,Bl,CD];rcases hc with rfl|rfl|rfl|rfl<;>simp
  self:=λ_ _ _ _ _ st h=>fJ st.1 h
section
variable{A:A9}{E:Vq}
def y4(t:Ai)(l:Ak):DE:=match t with
  |true=>{ cls:=.type "tuple_iterator",data:=.fields #[.ref l,.int 0 0] }
  |false=>{ cls:=.type "list_iterator",data:=.fields #[.ref l,.int 0 0] }
theorem Lz{Q:Vq}(h:CO t s.heap l its)(q:Q (.ref s.heap.objs.size) {s with heap:=s.heap.push (y4 t l)}):Az (model prog w) A (Ms (.ref l)) Q E s:=by
 cases t with
 |true=>exact IG h q
 |false=>exact FV h q
theorem CO.push(z:CO t h l its)(o:DE):CO t (h.push o) l its:=by
 cases t with
 |true=>exact PySem.Heap.IsTuple.at z λ_ e=>At _ e
 |false=>exact PySem.Heap.IsList.at z λ_ e=>At _ e
theorem M5{j:Ak}(e:h.get? j=Ab (y4 t l)):FU t h j l 0:=by
 cases t with
 |true=>exact⟨_,e,rfl,rfl⟩
 |false=>exact⟨_,e,rfl,rfl⟩
def MV(t:Ai)(l:Ak):(y4 t l).isFreed=Ae:=by cases t<;>rfl
abbrev ţ(t1 t2:Ai)(h:AO)(l1 l2:Ak):AO:=(h.push (y4 t1 l1)).push (y4 t2 l2)
abbrev Ť(t1 t2:Ai)(h:AO)(l1 l2:Ak):AO:=(ţ t1 t2 h l1 l2).push { cls:=.type "tuple",data:=.seq #[.ref h.objs.size,.ref (h.push (y4 t1 l1)).objs.size] }
abbrev ť(t1 t2:Ai)(h:AO)(l1 l2:Ak):AO:=(Ť t1 t2 h l1 l2).push { cls:=.type "tuple",data:=.seq #[.none,.none] }
abbrev Ϭ(t1 t2:Ai)(h:AO)(l1 l2:Ak):AO:=(ť t1 t2 h l1 l2).push { cls:=.type "zip",data:=.fields #[.none,.bool Ae,.bool Ae,.ref (ţ t1 t2 h l1 l2).objs.size,.ref (Ť t1 t2 h l1 l2).objs.size] }
theorem sY(t1 t2:Ai)(l1 l2:Ak)(xs ys:Ax Aj):Meets (Builtin.«zip.__new__» ⟨[.type "zip",.ref l1,.ref l2],[]⟩) (λ_ R s=>CO t1 s.heap l1 xs/\CO t2 s.heap l2 ys/\R (.ok (.ret (.ref (ť t1 t2 s.heap l1 l2).objs.size))) {s with heap:=Ϭ t1 t2 s.heap l1 l2}):=
 .of_wp λprog w A R s h=>by
  obtain⟨hp,g,d,tk,os⟩:=s;obtain⟨a1,a2,q⟩:=h;have Κ:=sub_zip;have L1:CO t1 (Hg ⟨hp,g,d,tk,os⟩) l1 xs:=a1;have L2:CO t2 (Hg ⟨hp.push (y4 t1 l1),g,d,tk,os⟩) l2 ys:=a2.push _
  wp_walk using Lz L1,Lz L2
  exact⟨_,rfl,q⟩
theorem oY{xs:Ax Aj}{Q:Vq}(a1:CO t1 s.heap l1 xs)(a2:CO t2 s.heap l2 ys)(q:∀ h2,zTn t1 t2 s.heap.objs.size l1 l2 0 h2->(∀ c o,s.heap.get? c=Ab o->h2.get? c=Ab o)->Q (.ref (s.heap.objs.size+4)) {s with heap:=h2}):Az (model prog w) A (call (.type "zip") [.ref l1,.ref l2]) Q E s:=by
 refine La dC (by decide) (F.typeCall_zip_2 _ _) (F.newCall_zip_2 _ _) (λobj=>F.args_object_init_3 obj _ _) dH (sY t1 t2 l1 l2 xs ys) ⟨a1,a2,?_⟩
 have s1:(s.heap.push (y4 t1 l1)).objs.size=s.heap.objs.size+1:=BW ..;have s2:(ţ t1 t2 s.heap l1 l2).objs.size=s.heap.objs.size+2:=by rw[BW,s1]
 have s3:(Ť t1 t2 s.heap l1 l2).objs.size=s.heap.objs.size+3:=by rw[BW,s2]
 have s4:(ť t1 t2 s.heap l1 l2).objs.size=s.heap.objs.size+4:=by rw[BW,s3]
 have u5:∀ {c o},(ť t1 t2 s.heap l1 l2).get? c=Ab o->(Ϭ t1 t2 s.heap l1 l2).get? c=Ab o:=λe=>At _ e
 have u4:∀ {c o},(Ť t1 t2 s.heap l1 l2).get? c=Ab o->(Ϭ t1 t2 s.heap l1 l2).get? c=Ab o:=λe=>u5 (At _ e)
 have u3:∀ {c o},(ţ t1 t2 s.heap l1 l2).get? c=Ab o->(Ϭ t1 t2 s.heap l1 l2).get? c=Ab o:=λe=>u4 (At _ e)
 have u2:∀ {c o},(s.heap.push (y4 t1 l1)).get? c=Ab o->(Ϭ t1 t2 s.heap l1 l2).get? c=Ab o:=λe=>u3 (At _ e)
 have g5:(Ϭ t1 t2 s.heap l1 l2).get? (ť t1 t2 s.heap l1 l2).objs.size=Ab _:=AG _ rfl;have g4:(Ϭ t1 t2 s.heap l1 l2).get? (Ť t1 t2 s.heap l1 l2).objs.size=Ab _:=u5 (AG _ rfl);have g3:(Ϭ t1 t2 s.heap l1 l2).get? (ţ t1 t2 s.heap l1 l2).objs.size=Ab _:=u4 (AG _ rfl);have g2:(Ϭ t1 t2 s.heap l1 l2).get? (s.heap.push (y4 t1 l1)).objs.size=Ab _:=u3 (AG _ (MV _ _));have g1:(Ϭ t1 t2 s.heap l1 l2).get? s.heap.objs.size=Ab _:=u2 (AG _ (MV _ _));show _/\_;rw[s2,s3,s4]at g5;rw[s3]at g4;rw[s1,s2]at g3;rw[s1]at g2;rw[s4];exact⟨⟨_,g5,rfl⟩,q _ ⟨g5,g3,⟨_,_,g4⟩,M5 g1,M5 g2⟩ λc o e=>u2 (At _ e)⟩
end
def jD(K:Fg)(ta:TA):TI:=λZ H R=>ta Z H λvs H1=>∃ t1 t2 a b xs ys,vs=[.ref a,.ref b]/\xi t1 K H1 a xs/\xi t2 K H1 b ys/\(xs.length<=sizeLine->R (Itz K t1 t2 a b) H1)
theorem CO.lt(z:CO t h a its):a<h.objs.size:=by
 cases t with
 |true=>obtain⟨o,e,_⟩:=z;exact AK e
 |false=>obtain⟨o,e,_⟩:=z;exact AK e
theorem kf{a b:Am}(hg:Gl X "zip")(hm:X.mg "zip" = Af)(ha:PA X [a,b] ta)(hs:AR [a,b] X.env=[(Ae,eval a X.env),(Ae,eval b X.env)])(y6:AR [b] X.env=[(Ae,eval b X.env)]):
  PI X (.Tuple es n tpos) (.Call (.Name "zip" p) [a,b] [] pos) (jD X.K ta):=by
 intro pI s Z H R I h;refine Mn (KI I hg hm bS (CU (J9 (ha pos pI s Z H _ I h) λus s1 ⟨vs,H1,I1,r1,q1⟩=>?_) (by rw[hs,y6]) (by rw[y6];rfl)))
 obtain⟨t1,t2,c,d,xs,ys,e,sx,sy,q⟩:=q1;subst e;cases r1 with
 |cons r rr=>
  cases rr with
  |cons r' rr=>
   cases rr;cases r;cases r';obtain⟨us,ru,iu,zu⟩:=IS I1 sx;obtain⟨vs,rv,iv,_⟩:=IS I1 sy;refine oY iu iv λh2 z kp=>fJ z.1 ?_
   refine⟨s1.heap.objs.size+4,õ s1.heap.objs.size,_,_,H1,rfl,I1.kept (t':=s1.toks) kp,pK t1 t2 s1.heap.objs.size c d iu.lt iv.lt,z,λb hb=>?_,q zu⟩
   have yi:s1.heap.objs.size<=b:=by
    simp only[õ,Ay,Bl,CD]at hb;rcases hb with z|z|z|z|z<;>rw[z]<;>simp
   exact I1.fpOk yi (I1.hok.fresh yi)
theorem M8(r:Y5 K CL H A v d)(e:Db d=.ok ds):∃ t a xs,v=.ref a/\(∀ H2,Kp A H H2->xi t K H2 a xs)/\Z9 K CL H A xs ds:=by
 cases d with
 |L es=>
  cases e;obtain⟨q,xs,rfl,na,sq,r⟩:=r;exact⟨Ae,q,xs,rfl,λH2 k=>PY k na sq,r⟩
 |H es=>
  cases e;obtain⟨q,xs,rfl,na,sq,r⟩:=r;exact⟨Aa,q,xs,rfl,λH2 k=>PX k na sq,r⟩
 |_=>exact EZ e
theorem RY:∀(xs ys:Ac D),(Ha xs ys).length=min xs.length ys.length
 |[],_=>by simp[Ha]
 |_::_,[]=>by simp[Ha]
 |x::xs,y::ys=>by
  rw[Ha,BV,RY xs ys];simp only[BV]
  lia
theorem WJ:∀(xs ys:Ac D)(i:Ag)(d:D),(Ha xs ys)[i]?=Ab d->∃ x y,xs[i]?=Ab x/\ys[i]?=Ab y/\d=.H [x,y]
 |[],_,i,d,h=>by simp[Ha]at h
 |_::_,[],i,d,h=>by simp[Ha]at h
 |x::xs,y::ys,0,d,h=>by
  rw[Ha]at h;simp only[Fv,C1]at h;exact⟨x,y,rfl,rfl,h.symm⟩
 |x::xs,y::ys,i+1,d,h=>by
  rw[Ha]at h;simp only[Fu]at h ⊢;exact WJ xs ys i d h
theorem pG{ys:Ac V}{es:Ac D}(s1:∀ H2,Kp A H1 H2->xi t1 K H2 a xs)(s2:∀ H2,Kp A H1 H2->xi t2 K H2 b ys)(r1:Z9 K CL H1 A xs ds)(r2:Z9 K CL H1 A ys es):KP K CL A (Ha ds es) (Itz K t1 t2 a b) H1:=λH k i=>by
 refine⟨λhi=>⟨xs,ys,s1 H k,s2 H k,?_⟩,λd hd=>?_⟩
 .rw[RY]at hi;rw[r1.length,r2.length]
  lia
 .obtain⟨x,y,hx,hy,rfl⟩:=WJ _ _ _ _ hd;obtain⟨u,hu,ru⟩:=r1.get hx;obtain⟨v,hv,rv⟩:=r2.get hy;refine⟨⟨xs,ys,u,v,s1 H k,s2 H k,hu,hv⟩,?_⟩;rintro w' H' ⟨p,x',y',hp,rfl,c1,c2,rfl⟩;have ex:x'=u:=B6 ((c1 xs (s1 H k)).symm.trans hu);have ey:y'=v:=B6 ((c2 ys (s2 H k)).symm.trans hv);subst ex ey;have sm:=G7 hp (.H [x',y']);exact⟨sm,λB hB aB=>MO aB hp ⟨NM ru k hB,NM rv k hB,trivial⟩⟩
section
variable{a b:Am}
theorem i7(ha:SE X CL W a fa)(hb:SE X CL W b fb)(hg:Gl X "zip")(hm:X.mg "zip" = Af)(hs:AR [a,b] X.env=[(Ae,eval a X.env),(Ae,eval b X.env)])(y6:AR [b] X.env=[(Ae,eval b X.env)]):
  SI X CL W (.Tuple es n tpos) (.Call (.Name "zip" p) [a,b] [] pos) (λY=>(fa Y).bind λx=>(fb Y).bind λy=>(Db x).bind λxs=>(Db y).bind λys=>.ok (Ha xs ys)):=
 λA=>PI.weak (kf hg hm (GP (ha A) (GP (hb A) IR y6) (by rw[hs,y6])) hs y6) λZ H R ⟨hA,Y,g,q⟩=>⟨hA,Y,g,Ge.ex q λd v H1 _ s1 r1 p1=>⟨hA.same s1,Y,g.same s1,Ge.ex p1 λd2 v2 H2 _ s2 r2 p2=>by
  cases e1:Db d with
  |bad=>rw[e1]at p2;exact p2.elim
  |exn z=>exact absurd e1 (by cases d<;>simp[Db])
  |ok ds=>
   cases e2:Db d2 with
   |bad=>rw[e1,e2]at p2;exact p2.elim
   |exn z=>exact absurd e2 (by cases d2<;>simp[Db])
   |ok es=>
    rw[e1,e2]at p2;obtain⟨t1,c1,xs,rfl,k1,Ŗ⟩:=M8 (r1.same s2) e1;obtain⟨t2,c2,ys,rfl,k2,ě⟩:=M8 r2 e2;refine⟨t1,t2,c1,c2,xs,ys,rfl,k1 H2 (Kp.of (AV.refl H2)),k2 H2 (Kp.of (AV.refl H2)),λhz=>p2 _ H2 (AV.refl H2) (pG k1 k2 Ŗ ě) ?_⟩
    rw[RY,<-Ŗ.length];omega⟩⟩
end
theorem FU.live{l:Ag}(z:FU t h j l i):∃ o,h.get? j=Ab o/\∀ v,o.data≠.cell v:=by
 cases t with
 |true=>obtain⟨o,e,c,d⟩:=z;exact⟨o,e,λv z=>by rw[d]at z;cases z⟩
 |false=>obtain⟨o,e,c,d⟩:=z;exact⟨o,e,λv z=>by rw[d]at z;cases z⟩
theorem FU.keep{l:Ag}(z:FU t h j l i)(k:∀ o,h.get? j=Ab o->h2.get? j=Ab o):FU t h2 j l i:=by
 cases t with
 |true=>exact PySem.Heap.IsTupleIter.at z k
 |false=>exact PySem.Heap.IsListIter.at z k
theorem n8{A:A9}(calm:A.handled=Af)(t:Ai)(j l:Ak)(ne:l≠j)(its:Ax Aj):Draws prog w A j [j,l] its.size (λi v=>its[i]?=Ab v) (λi h=>FU t h j l i/\CO t h l its):=
 have d:=Ϟ (prog:=prog) (w:=w) calm t j l ne its
 ⟨λi h z=>let ⟨o,e,_⟩:=z.1.live;⟨o,e⟩,d.frame,d.item,λs Q E h q=>d.done _ s Q E (AE _) h q⟩
theorem ai{A:A9}(calm:A.handled=Af)(t:Ai)(j l:Ak)(ne:l≠j)(its:Ax Aj)(i:Ag)(hi:its.size<=i):Draws prog w A j [j,l] i (λ_ _=>BR) (λk h=>k=i/\FU t h j l i/\CO t h l its):=
 have d:=Ϟ (prog:=prog) (w:=w) calm t j l ne its
 ⟨λ_ h z=>let ⟨o,e,_⟩:=z.2.1.live;⟨o,e⟩,λk h h' z q=>⟨z.1,d.frame i h h' z.2 q⟩,λk s Q E lt z=>absurd z.1 (Be lt),λs Q E h q=>d.done i s Q E hi h.2 q⟩
def Ite(K:Fg)(t:Ai)(a:Ak):It:=
 ⟨λi H=>∃ xs x,xi t K H a xs/\xs[i]?=Ab x,λi H v H'=>∃ p x,H p=Af/\v=.ref p/\(∀ xs,xi t K H a xs->xs[i]?=Ab x)/\H'=upd H p (.H [.int i,x]),λi H=>∃ xs,xi t K H a xs/\xs.length<=i⟩
def eTn(t:Ai)(I l:Ag)(i:Ag)(h:AO):Prop:=(∃ old,IsEnum h (I+1) I i old)/\FU t h I l i
theorem nG(t:Ai)(I l:Ag)(b:l<I):é P w K (.Tuple es n pos) (Ite K t l) [I,I+1] (I+1) (eTn t I l) where
  mem:=by simp
  obj:=λi h ⟨⟨old,z1⟩,z2⟩ c hc=>by
    simp only[Ay,Bl,CD]at hc;rcases hc with rfl|rfl
    · exact z2.live
    · exact⟨_,z1,λv z=>by cases z⟩
  keep:=λi h h2 ⟨⟨old,z1⟩,z2⟩ k=>⟨⟨old,k _ (by simp) _ z1⟩,z2.keep λo e=>k _ (by simp) o e⟩
  item:=by
    intro X hP hw hK hc i pI s Z H E Iv hf ⟨⟨old,z1⟩,z2⟩ ⟨xs,x,q1,hx⟩;subst hP hw hK;obtain⟨us,rx,px,_⟩:=IS Iv q1;obtain⟨u,hu,ru⟩:=rx.get hx;have lu:i<us.toArray.size:=by
      have:=(Bh.mp hu).1;simpa using this
    refine wpAny_pyNext_enum_itemD (n8 (A:=X.A.in1) (Iv.ok.hd hc) t I l (Be b) us.toArray) z1 ⟨z2,px⟩ lu (ϕ (by decide)) (by simp only[Ay,Bl,CD,ES];exact⟨ϕ (by decide),D6 (AS b (Fk _ _))⟩) λu' h2 tk hu' ho it2 hT sz kp=>⟨_,rfl,wpAny_letOwnedTupleGo_enum ho λh3 d1 sb=>?_⟩
    have eu:u'=u:=by
      rw[aS,hu]at hu';exact(B6 hu').symm
    subst eu;have lt:I+1<s.heap.objs.size:=AK z1;have Ō:∀ c o,c∉[I,I+1]->s.heap.get? c=Ab o->h3.get? c=Ab o:=λc o nc q=>by
      simp only[Ay,Bl,CD,ES]at nc;exact sb.extBut c o nc.2 (kp c o nc.2 nc.1 q)
    have nT:∀ c∈[I,I+1],c≠s.heap.objs.size:=λc hc z=>by
      have:c<=I+1:=by
        simp only[Ay,Bl,CD]at hc;rcases hc with z|z<;>rw[z]<;>simp
      exact absurd (z ▸ EK this lt) (BH _)
    have I1:Z4 X pI Z (upd H s.heap.objs.size (.H [.int i,x])) { s with heap:=s.heap.push { cls:=.type "tuple",data:=.seq #[.int i tk,u'] },toks:=s.toks }:=
      Iv.laid (λ_ _ q=>At _ q) (AE _) ⟨(by decide:2<=sizeLine),[.int i tk,u'],.cons ⟨_,rfl⟩ (.cons ru .nil),⟨_,AG _ rfl,rfl,_,rfl⟩⟩
    have ĺ:∀ b∈[I,I+1],Iu X pI (upd H s.heap.objs.size (.H [.int i,x])) b:=λb hb=>⟨by rw[Dp (nT b hb)];exact(hf b hb).1,(hf b hb).2⟩
    have I2:Z4 X pI Z (upd H s.heap.objs.size (.H [.int i,x])) {s with heap:=h3,toks:=tk+1}:=Z4.turnedL (s:={ s with heap:=s.heap.push { cls:=.type "tuple",data:=.seq #[.int i tk,u'] },toks:=s.toks }) [I,I+1] I1 (λc o nc q=>by
      rcases dR q with ⟨e1,e2⟩|e1
      · subst e1 e2;exact sb.extBut _ _ (D6 lt) hT
      · exact Ō c o nc e1) ĺ
    exact⟨.ref s.heap.objs.size,_,I2,rfl,⟨s.heap.objs.size,x,Iv.fresh,rfl,λzs hz=>by rw[RD Iv hz q1];exact hx,rfl⟩,⟨⟨u',by simpa using d1⟩,it2.1.keep λo q=>sb.extBut _ o (Cy (ϕ (by decide))) q⟩,λb hb=>(ĺ b hb).1⟩
  done:=by
    intro X hP hw hK hc i pI s Z H E Iv hf ⟨⟨old,z1⟩,z2⟩ ⟨xs,q1,hk⟩;subst hP hw hK;obtain⟨us,rx,px,_⟩:=IS Iv q1;have e1:=rx.length;have e2:us.toArray.size<=i:=by rw[AT,<-e1];exact hk
    refine wpAny_pyNext_enum_endD (ai (A:=X.A.in1) (Iv.ok.hd hc) t I l (Be b) us.toArray i e2) z1 ⟨rfl,z2,px⟩ λh2 eb=>⟨rfl,Z4.turnedL [I] Iv (t':=s.toks) (λc o nc q=>eb c o (λz=>nc (by simp[z])) q) λc hc=>hf c ?_⟩
    have:c=I:=by simpa using hc
    subst this;simp
  self:=λ_ _ _ _ _ st h=>fH st.1.choose_spec h
theorem sE(t:Ai)(l:Ak)(xs:Ax Aj):Meets (Builtin.«enumerate.__new__» ⟨[.type "enumerate",.ref l],[]⟩) (λ_ R s=>CO t s.heap l xs /\
   R (.ok (.ret (.ref (s.heap.push (y4 t l)).objs.size))) { s with heap:=(s.heap.push (y4 t l)).push { cls:=.type "enumerate",data:=.fields #[.none,.bool Ae,.ref s.heap.objs.size,CN 0,.none,.none] } }):=
 .of_wp λprog w A R s h=>by
  obtain⟨hp,g,d,tk,os⟩:=s;obtain⟨hl,h⟩:=h;have Κ:=sub_enumerate;have hL:CO t (Hg ⟨hp,g,d,tk,os⟩) l xs:=hl
  wp_walk
  refine wpAny_stack_any λst=>Au ?_
  split
  .rename_i c _ _ _ _ _;cases (c==DV "enumerate")
   .wp_walk using Lz hL
    exact⟨_,rfl,h⟩
   .wp_walk using Lz hL
    exact⟨_,rfl,h⟩
  .wp_walk using Lz hL
   exact⟨_,rfl,h⟩
theorem oA{A:A9}{E:Vq}{xs:Ax Aj}{Q:Vq}(hL:CO t s.heap l xs)(h:∀ h',IsEnum h' (s.heap.objs.size+1) s.heap.objs.size 0 .none->FU t h' s.heap.objs.size l 0->(∀ b o,s.heap.get? b=Ab o->h'.get? b=Ab o)->Q (.ref (s.heap.objs.size+1)) {s with heap:=h'}):
    Az (model prog w) A (call (.type "enumerate") [.ref l]) Q E s:=by
  refine La F.called_enumerate (by decide) (F.typeCall_enumerate_1 _) (F.newCall_enumerate_1 _) (λobj=>cZ obj _) F.entry_enumerate_new (sE t l xs) ⟨hL,?_⟩
  have hz:(s.heap.push (y4 t l)).objs.size=s.heap.objs.size+1:=BW ..;show _/\_;rw[hz];have he:IsEnum ((s.heap.push (y4 t l)).push { cls:=.type "enumerate",data:=.fields #[.none,.bool Ae,.ref s.heap.objs.size,CN 0,.none,.none] }) (s.heap.objs.size+1) s.heap.objs.size 0 .none:=by
    have:=AG (s.heap.push (y4 t l)) (o:={ cls:=.type "enumerate",data:=.fields #[.none,.bool Ae,.ref s.heap.objs.size,CN 0,.none,.none] }) rfl;rw[hz]at this;exact this
  exact⟨⟨_,he,rfl⟩,h _ he (M5 (At _ (AG _ (MV _ _)))) λb o x=>At _ (At _ x)⟩
def jE(K:Fg)(ta:TA):TI:=λZ H R=>ta Z H λvs H1=>∃ t a xs,vs=[.ref a]/\xi t K H1 a xs/\(xs.length<=sizeLine->R (Ite K t a) H1)
theorem xC{a:Am}(hg:Gl X "enumerate")(hm:X.mg "enumerate" = Af)(ha:PA X [a] ta)(hs:AR [a] X.env=[(Ae,eval a X.env)]):
  PI X (.Tuple es n tpos) (.Call (.Name "enumerate" p) [a] [] pos) (jE X.K ta):=by
 intro pI s Z H R I h;refine Mn (KI I hg hm PyProof.Rows.boot_enumerate (CU (J9 (ha pos pI s Z H _ I h) λus s1 ⟨vs,H1,I1,r1,q1⟩=>?_) hs rfl))
 obtain⟨t,c,xs,e,sx,q⟩:=q1;subst e;cases r1 with
 |cons r rr=>
  cases rr;cases r;obtain⟨us,ru,pu,zu⟩:=IS I1 sx;refine oA pu λh2 z1 z2 kp=>fH z1 ?_
  refine⟨s1.heap.objs.size+1,[s1.heap.objs.size,s1.heap.objs.size+1],_,_,H1,rfl,I1.kept (t':=s1.toks) kp,nG t s1.heap.objs.size c pu.lt,⟨⟨_,z1⟩,z2⟩,λb hb=>?_,q zu⟩
  have yi:s1.heap.objs.size<=b:=by
   simp only[Ay,Bl,CD]at hb;rcases hb with z|z<;>rw[z]<;>simp
  exact I1.fpOk yi (I1.hok.fresh yi)
theorem Sv:∀(j:Ad)(xs:Ac D),(Hq j xs).length=xs.length
 |_,[]=>rfl
 |j,x::xs=>by rw[Hq,BV,Sv,BV]
theorem WU:∀(xs:Ac D)(j:Ad)(i:Ag)(d:D),(Hq j xs)[i]?=Ab d->∃ x,xs[i]?=Ab x/\d=.H [.int (j+i),x]
 |[],j,i,d,h=>by simp[Hq]at h
 |x::xs,j,0,d,h=>by
  rw[Hq]at h;simp only[Fv,C1]at h;exact⟨x,rfl,by rw[<-h];simp⟩
 |x::xs,j,i+1,d,h=>by
  rw[Hq]at h;simp only[Fu]at h ⊢;obtain⟨y,h1,h2⟩:=WU xs (j+1) i d h;exact⟨y,h1,by rw[h2];congr 3;lia⟩
theorem lL(sq:∀ H2,Kp A H1 H2->xi t K H2 a xs)(r1:Z9 K CL H1 A xs ds):KP K CL A (Hq 0 ds) (Ite K t a) H1:=λH k i=>by
 have s1:=sq H k;refine⟨λhi=>⟨xs,s1,?_⟩,λd hd=>?_⟩
 .rw[Sv]at hi;rw[r1.length];exact hi
 .obtain⟨x,hx,rfl⟩:=WU _ _ _ _ hd;obtain⟨u,hu,ru⟩:=r1.get hx;refine⟨⟨xs,u,s1,hu⟩,?_⟩;rintro w' H' ⟨p,x',hp,rfl,c1,rfl⟩;have ex:x'=u:=B6 ((c1 xs s1).symm.trans hu);subst ex;rw[FX];exact⟨G7 hp (.H [.int i,x']),λB hB aB=>MO aB hp ⟨rfl,NM ru k hB,trivial⟩⟩
theorem vR{a:Am}(ha:SE X CL W a fa)(hg:Gl X "enumerate")(hm:X.mg "enumerate" = Af)(hs:AR [a] X.env=[(Ae,eval a X.env)]):
  SI X CL W (.Tuple es n tpos) (.Call (.Name "enumerate" p) [a] [] pos) (λY=>(fa Y).bind λx=>(Db x).bind λxs=>.ok (Hq 0 xs)):=
 λA=>PI.weak (xC hg hm (GP (ha A) IR hs) hs) λZ H R ⟨hA,Y,g,q⟩=>⟨hA,Y,g,Ge.ex q λd v H1 _ s1 r1 p1=>by
  cases e1:Db d with
  |bad=>rw[e1]at p1;exact p1.elim
  |exn z=>exact absurd e1 (by cases d<;>simp[Db])
  |ok ds=>
   rw[e1]at p1;obtain⟨t,c,xs,rfl,k1,rs⟩:=M8 r1 e1;exact⟨t,c,xs,rfl,k1 H1 (Kp.of (AV.refl H1)),λhz=>p1 _ H1 (AV.refl H1) (lL k1 rs) (by rw[Sv,<-rs.length];exact hz)⟩⟩
abbrev FT(h:AO)(z TI TO:Ak)(f0 f1:Aj):Prop:=h.get? z=Ab { cls:=.type "zip",dict:=Af,data:=.fields #[f0,f1,.bool Ae,.ref TI,.ref TO],slots:=#[] }
abbrev FA(h:AO)(T:Ak)(a b c:Aj):Prop:=h.get? T=Ab { cls:=.type "tuple",data:=.seq #[a,b,c] }
section
variable{A:A9}{E:Vq}
theorem yz{I c:Ag}(b:l<I)(h:c∈[I+j,l])(i:Ag)(hi:i≠j):c≠I+i:=by
 have h':c=I+j\/c=l:=by simpa using h
 lia
theorem WH{z TI TO T1:Ag}(hz:FT s.heap z TI TO (CN T1) (.bool f1))(hT:s.heap.get? T1=Ab o1)(go:∀ h1,FT h1 z TI TO (CN T1) (.bool Aa)->(∀ c o,c≠z->s.heap.get? c=Ab o->h1.get? c=Ab o)->h1.objs.size=s.heap.objs.size->Q Ae {s with heap:=h1}):Az (model prog w) A (Bk (.ref z)) Q E s:=by
 simp only[Bk];refine Ah (Bx hz rfl (x:=CN T1) rfl ?_);show Az _ _ (loadIfAlive T1 >>= _) _ _ _;refine Ah (λJ p _=>?_)
 show Az _ _ _ _ _ _;rw[hT];show Az _ _ (field (.ref z) 1 >>= _) _ _ _;refine Ah (Bx hz rfl (x:=.bool f1) rfl ?_);cases f1 with
 |true=>exact Au (go s.heap hz (λ_ _ _ e=>e) rfl)
 |false=>exact Ah (CA hz (by simp) λh1 z1 sb=>Au (go h1 z1 (λc o nc e=>sb.extBut c o nc e) sb.1))
theorem WI{z TI TO:Ag}(hz:FT s.heap z TI TO f0 f1)(hf:f0=.none\/∃ T1:Ag,f0=CN T1/\s.heap.get? T1=Af)(go:Q Aa s):Az (model prog w) A (Bk (.ref z)) Q E s:=by
 simp only[Bk];rcases hf with rfl|⟨T1,rfl,hT⟩
 .exact Ah (Bx hz rfl (x:=.none) rfl (Au go))
 .refine Ah (Bx hz rfl (x:=CN T1) rfl ?_);show Az _ _ (loadIfAlive T1 >>= _) _ _ _;refine Ah (λJ p _=>?_)
  show Az _ _ _ _ _ _;rw[hT];exact Au go
theorem lI{I k T1:Ag}{Q:Vq}(b1:l1<I)(b2:l2<I)(b3:l3<I)(D1:Dw prog w A (I+0) [I+0,l1] n1 P1 S1)(D2:Dw prog w A (I+1) [I+1,l2] n2 P2 S2)(D3:Dw prog w A (I+2) [I+2,l3] n3 P3 S3)(hz:FT s.heap (I+5) (I+3) (I+4) (CN T1) (.bool f1))(hI:FA s.heap (I+3) (.ref (I+0)) (.ref (I+1)) (.ref (I+2)))(hT:s.heap.get? T1=Ab o1)(g1:S1 k s.heap)(g2:S2 k s.heap)(g3:S3 k s.heap)(k1:k<n1)(k2:k<n2)(k3:k<n3)(go:∀ x y u h2 tk,P1 k x->P2 k y->P3 k u->FT h2 (I+5) (I+3) (I+4) (CN T1) (.bool Aa)->S1 (k+1) h2->S2 (k+1) h2->S3 (k+1) h2->FA h2 s.heap.objs.size x y u->h2.objs.size=s.heap.objs.size+1 ->
   (∀ c o,c∉[I+0,I+1,I+2,I+5]->s.heap.get? c=Ab o->h2.get? c=Ab o)->Q (.ref s.heap.objs.size) {s with heap:=h2,toks:=tk}):Az (model prog w) A (Builtin.«zip.__next__» ⟨[.ref (I+5)],[]⟩) (λfin s'=>∃ v,fin=.done (.ret v)/\Q v s') E s:=by
 refine Ah (m:=field (.ref (I+5)) 2) (Bx hz rfl (x:=.bool Ae) rfl ?_);refine Ah (m:=field (.ref (I+5)) 3) (Bx hz rfl (x:=.ref (I+3)) rfl (Ah (Cb hI rfl ?_)));refine Ah (m:=Bk (.ref (I+5))) (WH hz hT λp1 z1 e1 s1=>?_)
 rw[AF (by decide)]
 refine Ah ?_;simp only[<-FC,EU,EF];have Ż:S1 k p1:=D1.frame _ _ _ g1 λc hc o q=>e1 c o (yz b1 hc 5 (by decide)) q
 refine Ah (Ah (Cn (Ah (m:=Bi (.ref (I+0))) (D1.item k _ _ _ k1 Ż λx p2 t2 px s2 e2=>Au (Au ?_)))))
 have ĭ:S2 k p2:=D2.frame _ _ _ g2 λc hc o q=>e2.extBut c o (yz b2 hc 0 (by decide)) (e1 c o (yz b2 hc 5 (by decide)) q)
 refine Ah (Ah (Cn (Ah (m:=Bi (.ref (I+1))) (D2.item k _ _ _ k2 ĭ λy p3 t3 py s3 e3=>Au (Au ?_)))))
 have f3':S3 k p3:=D3.frame _ _ _ g3 λc hc o q=>e3.extBut c o (yz b3 hc 1 (by decide)) (e2.extBut c o (yz b3 hc 0 (by decide)) (e1 c o (yz b3 hc 5 (by decide)) q))
 refine Ah (Ah (Cn (Ah (m:=Bi (.ref (I+2))) (D3.item k _ _ _ k3 f3' λu p4 t4 pu s4 e4=>Au (Au (Au ?_))))))
 refine Ah (Im (hsz:=by show 3<=sizeLine;decide) (Au ⟨_,rfl,?_⟩))
 have sz:p4.objs.size=s.heap.objs.size:=by rw[e4.1,e3.1,e2.1,s1]
 have z4:FT p4 (I+5) (I+3) (I+4) (CN T1) (.bool Aa):=e4.extBut _ _ (yk (by decide)) (e3.extBut _ _ (yk (by decide)) (e2.extBut _ _ (yk (by decide)) z1))
 have a1:S1 (k+1) p4:=D1.frame _ _ _ s2 λc hc o q=>e4.extBut c o (yz b1 hc 2 (by decide)) (e3.extBut c o (yz b1 hc 1 (by decide)) q)
 have a2:S2 (k+1) p4:=D2.frame _ _ _ s3 λc hc o q=>e4.extBut c o (yz b2 hc 2 (by decide)) q
 have ŕ:∀ {c o},p4.get? c=Ab o->(p4.push { cls:=.type "tuple",data:=.seq #[x,y,u] }).get? c=Ab o:=λq=>At _ q
 have q:=go x y u (p4.push { cls:=.type "tuple",data:=.seq #[x,y,u] }) t4 px py pu (ŕ z4) (D1.frame _ _ _ a1 λc _ o q=>ŕ q) (D2.frame _ _ _ a2 λc _ o q=>ŕ q) (D3.frame _ _ _ s4 λc _ o q=>ŕ q) (by rw[<-sz];exact AG _ rfl) (by rw[BW,sz]) (λc o nc q=>by
  simp only[Ay,Bl,CD,ES]at nc;exact ŕ (e4.extBut c o nc.2.2.1 (e3.extBut c o nc.2.1 (e2.extBut c o nc.1 (e1 c o nc.2.2.2 q)))))
 rw[<-sz]at q;exact q
theorem lH{I k T1:Ag}(b1:l1<I)(D1:Dw prog w A (I+0) [I+0,l1] n1 P1 S1)(hz:FT s.heap (I+5) (I+3) (I+4) (CN T1) (.bool f1))(hI:FA s.heap (I+3) (.ref (I+0)) (.ref (I+1)) (.ref (I+2)))(hT:s.heap.get? T1=Ab o1)(g1:S1 k s.heap)(k1:n1<=k)(up:∀ h2 e,(∀ c o,c∉[I+0,I+5]->s.heap.get? c=Ab o->h2.get? c=Ab o)->(∃ o,h2.get? e=Ab o/\o.cls=.type "StopIteration")->E (.ref e) {s with heap:=h2}):Az (model prog w) A (Builtin.«zip.__next__» ⟨[.ref (I+5)],[]⟩) Q E s:=by
 refine Ah (m:=field (.ref (I+5)) 2) (Bx hz rfl (x:=.bool Ae) rfl ?_);refine Ah (m:=field (.ref (I+5)) 3) (Bx hz rfl (x:=.ref (I+3)) rfl (Ah (Cb hI rfl ?_)));refine Ah (m:=Bk (.ref (I+5))) (WH hz hT λp1 z1 e1 s1=>?_)
 rw[AF (by decide)]
 refine Ah ?_;simp only[<-FC,EU,EF];have Ż:S1 k p1:=D1.frame _ _ _ g1 λc hc o q=>e1 c o (yz b1 hc 5 (by decide)) q
 refine Ah (Ah (Cn (Ah (m:=Bi (.ref (I+0))) (D1.done k _ _ _ k1 Ż λp2 e e2 he=>up p2 e (λc o nc q=>?_) he))))
 simp only[Ay,Bl,CD,ES]at nc;exact e2 c o nc.1 (e1 c o nc.2 q)
theorem pD{I k:Ag}(b1:l1<I)(D1:Dw prog w A (I+0) [I+0,l1] n1 P1 S1)(hz:FT s.heap (I+5) (I+3) (I+4) f0 f1)(hf:f0=.none\/∃ T1:Ag,f0=CN T1/\s.heap.get? T1=Af)(hI:FA s.heap (I+3) (.ref (I+0)) (.ref (I+1)) (.ref (I+2)))(g1:S1 k s.heap)(k1:n1<=k)(up:∀ h2 e,(∀ c o,c∉[I+0,I+5]->s.heap.get? c=Ab o->h2.get? c=Ab o)->(∃ o,h2.get? e=Ab o/\o.cls=.type "StopIteration")->E (.ref e) {s with heap:=h2}):Az (model prog w) A (Builtin.«zip.__next__» ⟨[.ref (I+5)],[]⟩) Q E s:=by
 refine Ah (m:=field (.ref (I+5)) 2) (Bx hz rfl (x:=.bool Ae) rfl ?_);refine Ah (m:=field (.ref (I+5)) 3) (Bx hz rfl (x:=.ref (I+3)) rfl (Ah (Cb hI rfl ?_)));refine Ah (m:=Bk (.ref (I+5))) (WI hz hf ?_);rw[AB rfl];refine Ah (Fh (Ah (Bx hz rfl (x:=.ref (I+4)) rfl (Ah (CA hz (by simp) λp1 z1 e1=>Ah ?_)))))
 have ο:FT p1 (I+5) (I+3) (I+4) .ellipsis f1:=z1;simp only[F7,HC,EU,EF];have ĉ:S1 k p1:=D1.frame _ _ _ g1 λc hc o q=>e1.extBut c o (yz b1 hc 5 (by decide)) q
 refine Ah (Ah (EC (Ah (m:=Bi (.ref (I+0))) (D1.done _ _ _ _ k1 ĉ λp2 e e2 he=>?_))))
 obtain⟨oe,ϻ,δ⟩:=he;have z2:FT p2 (I+5) (I+3) (I+4) .ellipsis f1:=e2 _ _ (yk (by decide)) ο
 have ne:e≠I+5:=λx=>by subst x;rw[z2]at ϻ;cases ϻ;simp at δ
 refine CA z2 (by simp) λp3 _ e3=>up p3 e (λc o nc q=>?_) ⟨oe,e3.extBut _ _ ne ϻ,δ⟩
 simp only[Ay,Bl,CD,ES]at nc;exact e3.extBut c o nc.2 (e2 c o nc.1 (e1.extBut c o nc.2 q))
theorem Tu{a b c x:Aj}(h:FA s.heap T a b c)(go:∀ h2,h2.get? T=Ab { cls:=.type "tuple",data:=.seq ((#[a,b,c]:Ax Aj).setIfInBounds k x) }->Fn T s.heap h2->Q () {s with heap:=h2}):Az (model prog w) A (Lj T (·.setIfInBounds k x)) Q E s:=by
 refine HM h rfl (go _ ?_ (Ie ..)) (by show 3<=sizeLine;decide) (by show ((#[a,b,c]:Ax Aj).setIfInBounds k x).size<=sizeLine+1;rw[Z_2];show 3<=sizeLine+1;decide)
 rw[CV _ h rfl];simp[Cd]
theorem mE{I k:Ag}{a b c:Aj}{Q:Vq}(b1:l1<I)(b2:l2<I)(b3:l3<I)(D1:Dw prog w A (I+0) [I+0,l1] n1 P1 S1)(D2:Dw prog w A (I+1) [I+1,l2] n2 P2 S2)(D3:Dw prog w A (I+2) [I+2,l3] n3 P3 S3)(hz:FT s.heap (I+5) (I+3) (I+4) f0 f1)(hf:f0=.none\/∃ T1:Ag,f0=CN T1/\s.heap.get? T1=Af)(hI:FA s.heap (I+3) (.ref (I+0)) (.ref (I+1)) (.ref (I+2)))(hO:FA s.heap (I+4) a b c)(g1:S1 k s.heap)(g2:S2 k s.heap)(g3:S3 k s.heap)(k1:k<n1)(k2:k<n2)(k3:k<n3)(go:∀ x y u h2 tk,P1 k x->P2 k y->P3 k u->FT h2 (I+5) (I+3) (I+4) (CN s.heap.objs.size) (.bool Ae)->S1 (k+1) h2->S2 (k+1) h2->S3 (k+1) h2->FA h2 s.heap.objs.size x y u->FA h2 (I+4) x y u->h2.objs.size=s.heap.objs.size+1 ->
   (∀ c o,c∉[I+0,I+1,I+2,I+4,I+5]->s.heap.get? c=Ab o->h2.get? c=Ab o)->Q (.ref s.heap.objs.size) {s with heap:=h2,toks:=tk}):Az (model prog w) A (Builtin.«zip.__next__» ⟨[.ref (I+5)],[]⟩) (λfin s'=>∃ v,fin=.done (.ret v)/\Q v s') E s:=by
 refine Ah (m:=field (.ref (I+5)) 2) (Bx hz rfl (x:=.bool Ae) rfl ?_);refine Ah (m:=field (.ref (I+5)) 3) (Bx hz rfl (x:=.ref (I+3)) rfl (Ah (Cb hI rfl ?_)));refine Ah (m:=Bk (.ref (I+5))) (WI hz hf ?_);rw[AB rfl];refine Ah (Fh (Ah (Bx hz rfl (x:=.ref (I+4)) rfl (Ah (CA hz (by simp) λp1 z1 e1=>Ah ?_)))))
 have ο:FT p1 (I+5) (I+3) (I+4) .ellipsis f1:=z1;simp only[F7,HC,EU,EF];have Ż:S1 k p1:=D1.frame _ _ _ g1 λc hc o q=>e1.extBut c o (yz b1 hc 5 (by decide)) q
 refine Ah (Ah (EC (Ah (m:=Bi (.ref (I+0))) (D1.item k _ _ _ k1 Ż λx p2 t2 px s2 e2=>Au ?_))))
 have o2:FA p2 (I+4) a b c:=e2.extBut _ _ (yk (by decide)) (e1.extBut _ _ (yk (by decide)) hO)
 refine Ah (Cb o2 rfl (Ah (Tu o2 λp3 o3 e3=>Ah (Gz (Au ?_)))))
 have o3':FA p3 (I+4) x b c:=o3;have ĭ:S2 k p3:=D2.frame _ _ _ g2 λc hc o q=>e3.extBut c o (yz b2 hc 4 (by decide)) (e2.extBut c o (yz b2 hc 0 (by decide)) (e1.extBut c o (yz b2 hc 5 (by decide)) q))
 refine Ah (Ah (EC (Ah (m:=Bi (.ref (I+1))) (D2.item k _ _ _ k2 ĭ λy p4 t4 py s4 e4=>Au ?_))))
 have o4:FA p4 (I+4) x b c:=e4.extBut _ _ (yk (by decide)) o3'
 refine Ah (Cb o4 rfl (Ah (Tu o4 λp5 o5 e5=>Ah (Gz (Au ?_)))))
 have ė:FA p5 (I+4) x y c:=o5;have f3':S3 k p5:=D3.frame _ _ _ g3 λc hc o q=>e5.extBut c o (yz b3 hc 4 (by decide)) (e4.extBut c o (yz b3 hc 1 (by decide)) (e3.extBut c o (yz b3 hc 4 (by decide)) (e2.extBut c o (yz b3 hc 0 (by decide)) (e1.extBut c o (yz b3 hc 5 (by decide)) q))))
 refine Ah (Ah (EC (Ah (m:=Bi (.ref (I+2))) (D3.item k _ _ _ k3 f3' λu p6 t6 pu s6 e6=>Au ?_))))
 have o6:FA p6 (I+4) x y c:=e6.extBut _ _ (yk (by decide)) ė
 refine Ah (Cb o6 rfl (Ah (Tu o6 λp7 o7 e7=>Ah (Gz (Au (Au ?_))))))
 have o7':FA p7 (I+4) x y u:=o7;have sz:p7.objs.size=s.heap.objs.size:=by rw[e7.1,e6.1,e5.1,e4.1,e3.1,e2.1,e1.1]
 have z7:FT p7 (I+5) (I+3) (I+4) .ellipsis f1:=e7.extBut _ _ (yk (by decide)) (e6.extBut _ _ (yk (by decide)) (e5.extBut _ _ (yk (by decide)) (e4.extBut _ _ (yk (by decide)) (e3.extBut _ _ (yk (by decide)) (e2.extBut _ _ (yk (by decide)) ο)))))
 refine Ah (Cb o7' rfl (Ah (Im (hsz:=by show 3<=sizeLine;decide) ?_)))
 refine Ah (m:=DM (.ref (I+5)) (.ref p7.objs.size)) ?_;simp only[DM];have z8:FT (p7.push { cls:=.type "tuple",data:=.seq #[x,y,u] }) (I+5) (I+3) (I+4) .ellipsis f1:=At _ z7;refine Ah (CA z8 (by simp) λp9 z9 e9=>?_)
 have z9':FT p9 (I+5) (I+3) (I+4) (CN p7.objs.size) f1:=z9;refine CA z9' (by simp) λpa za ea=>Au ⟨_,rfl,?_⟩
 have za':FT pa (I+5) (I+3) (I+4) (CN p7.objs.size) (.bool Ae):=za;have ō:I+5<p7.objs.size:=AK z7;have up:∀ c o,c≠I+5->p7.get? c=Ab o->pa.get? c=Ab o:=λc o nc q=>ea.extBut _ _ nc (e9.extBut _ _ nc (At _ q))
 have a1:S1 (k+1) pa:=D1.frame _ _ _ s2 λc hc o q=>up c o (yz b1 hc 5 (by decide)) (e7.extBut c o (yz b1 hc 4 (by decide)) (e6.extBut c o (yz b1 hc 2 (by decide)) (e5.extBut c o (yz b1 hc 4 (by decide)) (e4.extBut c o (yz b1 hc 1 (by decide)) (e3.extBut c o (yz b1 hc 4 (by decide)) q)))))
 have a2:S2 (k+1) pa:=D2.frame _ _ _ s4 λc hc o q=>up c o (yz b2 hc 5 (by decide)) (e7.extBut c o (yz b2 hc 4 (by decide)) (e6.extBut c o (yz b2 hc 2 (by decide)) (e5.extBut c o (yz b2 hc 4 (by decide)) q)))
 have a3:S3 (k+1) pa:=D3.frame _ _ _ s6 λc hc o q=>up c o (yz b3 hc 5 (by decide)) (e7.extBut c o (yz b3 hc 4 (by decide)) q)
 have tp:FA pa p7.objs.size x y u:=ea.extBut _ _ (D6 ō) (e9.extBut _ _ (D6 ō) (AG _ rfl));have q:=go x y u pa t6 px py pu (by rw[<-sz];exact za') a1 a2 a3 (by rw[<-sz];exact tp) (up _ _ (yk (by decide)) o7') (by rw[ea.1,e9.1,BW,sz]) (λc o nc q=>by
  simp only[Ay,Bl,CD,ES]at nc;exact up c o nc.2.2.2.2 (e7.extBut c o nc.2.2.2.1 (e6.extBut c o nc.2.2.1 (e5.extBut c o nc.2.2.2.1 (e4.extBut c o nc.2.1 (e3.extBut c o nc.2.2.2.1 (e2.extBut c o nc.1 (e1.extBut c o nc.2.2.2.2 q))))))))
 rw[<-sz]at q;exact q
def þ(t1 t2 t3:Ai)(I l1 l2 l3 i:Ag)(h:AO):Prop:=FA h (I+3) (.ref (I+0)) (.ref (I+1)) (.ref (I+2))/\FU t1 h (I+0) l1 i/\FU t2 h (I+1) l2 i/\FU t3 h (I+2) l3 i/\(∃ a b c,FA h (I+4) a b c) /\
 (FT h (I+5) (I+3) (I+4) .none (.bool Ae)\/∃(T1:Ag)(f1:Ai),FT h (I+5) (I+3) (I+4) (CN T1) (.bool f1))
noncomputable def Ø(I:Ag):Ac Ak:=[I+0,I+1,I+2,I+4,I+5]
theorem tD{I i:Ag}{xs:Ax Aj}{x:Aj}(calm:A.handled=Af)(b1:l1<I)(b2:l2<I)(b3:l3<I)(z:þ t1 t2 t3 I l1 l2 l3 i s.heap)(q1:CO t1 s.heap l1 xs)(q2:CO t2 s.heap l2 ys)(q3:CO t3 s.heap l3 us)(hx:xs[i]?=Ab x)(hy:ys[i]?=Ab y)(hu:us[i]?=Ab u)(go:∀ h2 tk,þ t1 t2 t3 I l1 l2 l3 (i+1) h2->FA h2 s.heap.objs.size x y u->h2.objs.size=s.heap.objs.size+1->(∀ c o,c∉Ø I->s.heap.get? c=Ab o->h2.get? c=Ab o)->Q (Ab (.ref s.heap.objs.size)) {s with heap:=h2,toks:=tk}):Az (model prog w) A (E5 (.ref (I+5))) Q E s:=by
 obtain⟨zI,i1,i2,i3,zz⟩:=z;have yc:A.in1.handled=Af:=calm;have lt:∀{v:Ax Aj}{k:Ag}{a:Aj},v[k]?=Ab a->k<v.size:=λh=>by
  rw[Array.getElem?_eq_some_iff]at h;exact h.1
 have inj:∀{v:Ax Aj}{k:Ag}{a b:Aj},v[k]?=Ab a->v[k]?=Ab b->b=a:=λh1 h2=>by
  rw[h1]at h2;exact(B6 h2).symm
 have d1:=Ϟ (prog:=prog) (w:=w) yc t1 (I+0) l1 (Be b1) xs;have d2:=Ϟ (prog:=prog) (w:=w) yc t2 (I+1) l2 (Be (AS b2 (Fk _ _))) ys;have d3:=Ϟ (prog:=prog) (w:=w) yc t3 (I+2) l3 (Be (AS b3 (Fk _ _))) us;obtain⟨⟨a,b,c,hO⟩,zz⟩:=zz;have fst:∀{f0 f1:Aj},FT s.heap (I+5) (I+3) (I+4) f0 f1->(f0=.none\/∃ T1:Ag,f0=CN T1/\s.heap.get? T1=Af)->Az (model prog w) A (E5 (.ref (I+5))) Q E s:=λhz hf=>by
  have Ô:s.TypeIs (.ref (I+5)) "zip" := ⟨_,hz,rfl⟩;simp only[E5];refine Ah (FB (Cq Ô C9 (CC C9 Ô Fm (mE (k:=i) b1 b2 b3 d1 d2 d3 hz hf zI hO ⟨i1,q1⟩ ⟨i2,q2⟩ ⟨i3,q3⟩ (lt hx) (lt hy) (lt hu) λx' y' u' h2 tk px py pu c1 c2 c3 c4 c5 c6 c7 kp=>Au ?_) (E3 _))))
  rw[inj hx px,inj hy py,inj hu pu]at c5;exact go h2 tk ⟨kp _ _ (by simp) zI,c2.1,c3.1,c4.1,⟨_,_,_,c6⟩,.inr ⟨_,_,c1⟩⟩ c5 c7 kp
 rcases zz with hz|⟨T1,f1,hz⟩
 .exact fst hz (.inl rfl)
 .cases hT:s.heap.get? T1 with
  |none=>exact fst hz (.inr ⟨T1,rfl,hT⟩)
  |some o1=>
   have Ô:s.TypeIs (.ref (I+5)) "zip" := ⟨_,hz,rfl⟩;simp only[E5];refine Ah (FB (Cq Ô C9 (CC C9 Ô Fm (lI (k:=i) b1 b2 b3 d1 d2 d3 hz zI hT ⟨i1,q1⟩ ⟨i2,q2⟩ ⟨i3,q3⟩ (lt hx) (lt hy) (lt hu) λx' y' u' h2 tk px py pu c1 c2 c3 c4 c5 c6 kp=>Au ?_) (E3 _))))
   rw[inj hx px,inj hy py,inj hu pu]at c5;exact go h2 tk ⟨kp _ _ (by simp) zI,c2.1,c3.1,c4.1,⟨a,b,c,kp _ _ (by simp) hO⟩,.inr ⟨T1,Aa,c1⟩⟩ c5 c6 (λc o nc q=>kp c o (λh=>nc (by simp only[Ø,Ay,Bl,CD]at h ⊢;rcases h with h|h|h|h<;>simp[h])) q)
theorem b9{I i:Ag}{xs:Ax Aj}(calm:A.handled=Af)(b1:l1<I)(z:þ t1 t2 t3 I l1 l2 l3 i s.heap)(q1:CO t1 s.heap l1 xs)(hx:xs.size<=i)(go:∀ h2,(∀ c o,c∉Ø I->s.heap.get? c=Ab o->h2.get? c=Ab o)->Q Af {s with heap:=h2}):Az (model prog w) A (E5 (.ref (I+5))) Q E s:=by
 obtain⟨zI,i1,i2,i3,zz⟩:=z;have yc:A.in1.handled=Af:=calm;have d1:=Ϟ (prog:=prog) (w:=w) yc t1 (I+0) l1 (Be b1) xs;have go':∀ h2 e,(∀ c o,c∉[I+0,I+5]->s.heap.get? c=Ab o->h2.get? c=Ab o)->(∃ o,h2.get? e=Ab o/\o.cls=.type "StopIteration")->Az (model prog w) A (Kz (.ref e) (.type "StopIteration") >>= λb=>if b=Aa then pure Af else throw (.ref e)) Q E {s with heap:=h2}:=λh2 e kp ⟨o,ho,Ó⟩=>
  Ah (Gb (T := "StopIteration") (b:=Aa) ⟨o,ho,Ó⟩ eY (Au (go h2 λc o nc q=>kp c o (λh=>nc (by simp only[Ø,Ay,Bl,CD]at h ⊢;rcases h with h|h<;>simp[h])) q)))
 have fin:∀{f0 f1:Aj},FT s.heap (I+5) (I+3) (I+4) f0 f1->(f0=.none\/∃ T1:Ag,f0=CN T1/\s.heap.get? T1=Af)->Az (model prog w) A (E5 (.ref (I+5))) Q E s:=λhz hf=>by
  have Ô:s.TypeIs (.ref (I+5)) "zip" := ⟨_,hz,rfl⟩;simp only[E5];exact Ah (FB (Cq Ô C9 (CC C9 Ô Fm (pD (k:=i) b1 d1 hz hf zI ⟨i1,q1⟩ hx λh2 e kp he=>go' h2 e kp he) (E3 _))))
 obtain⟨_,zz⟩:=zz;rcases zz with hz|⟨T1,f1,hz⟩
 .exact fin hz (.inl rfl)
 .cases hT:s.heap.get? T1 with
  |none=>exact fin hz (.inr ⟨T1,rfl,hT⟩)
  |some o1=>
   have Ô:s.TypeIs (.ref (I+5)) "zip" := ⟨_,hz,rfl⟩;simp only[E5];exact Ah (FB (Cq Ô C9 (CC C9 Ô Fm (lH (k:=i) b1 d1 hz zI hT ⟨i1,q1⟩ hx λh2 e kp he=>go' h2 e kp he) (E3 _))))
end
def MY(I S:Ag)(xs ys us:Ax Aj)(i:Ag)(acc:Ax Aj)(h:AO):Prop:=acc.size=i/\(∀ j,j<i->∃(a:Ag)(x y u:Aj),acc[j]?=Ab (.ref a)/\xs[j]?=Ab x/\ys[j]?=Ab y/\us[j]?=Ab u/\FA h a x y u/\I+5<a/\a≠S)/\∀(j1 j2 a:Ag),acc[j1]?=Ab (Dh a)->acc[j2]?=Ab (Dh a)->j1=j2
theorem CO.at'(z:CO t h l its)(k:∀ o,h.get? l=Ab o->h2.get? l=Ab o):CO t h2 l its:=by
 cases t with
 |true=>exact PySem.Heap.IsTuple.at z k
 |false=>exact PySem.Heap.IsList.at z k
theorem QB{I a:Ag}(h:I+5<a):a∉Ø I:=by
 intro z;simp only[Ø,Ay,Bl,CD]at z;rcases z with z|z|z|z|z<;>· rw[z]at h;exact absurd h (GV.mpr (Ic (by decide) I))
theorem Ql{I:Ag}(h:l<I):l∉Ø I:=by
 intro z;simp only[Ø,Ay,Bl,CD]at z;rcases z with z|z|z|z|z<;>· rw[z]at h;exact absurd h (GV.mpr (Fk I _))
theorem þ.at'{I i:Ag}{h h2:AO}(z:þ t1 t2 t3 I l1 l2 l3 i h)(k:∀ j,j<=5->∀ o,h.get? (I+j)=Ab o->h2.get? (I+j)=Ab o):þ t1 t2 t3 I l1 l2 l3 i h2:=by
 obtain⟨zI,i1,i2,i3,⟨a,b,c,hO⟩,zz⟩:=z;exact⟨k 3 (by decide) _ zI,i1.at' λo q=>k 0 (by decide) o q,i2.at' λo q=>k 1 (by decide) o q,i3.at' λo q=>k 2 (by decide) o q,⟨a,b,c,k 4 (by decide) _ hO⟩,zz.imp (k 5 (by decide) _) λ⟨T1,f1,hz⟩=>⟨T1,f1,k 5 (by decide) _ hz⟩⟩
theorem tF{A:A9}{R:K7->Aq->Prop}{I n:Ag}{xs:Ax Aj}(calm:A.handled=Af)(b1:l1<I)(b2:l2<I)(b3:l3<I)(S:Ag)(hS:I+5<S)(n0:0<n)(nn:n<=1000)(e1:xs.size=n)(e2:ys.size=n)(e3:us.size=n):
  ∀(k i:Ag)(s:Aq)(acc:Ax Aj)(c:Ag),n-i=k->i<=n->þ t1 t2 t3 I l1 l2 l3 i s.heap->CO t1 s.heap l1 xs->CO t2 s.heap l2 ys->CO t3 s.heap l3 us ->
  s.heap.get? S=Ab { cls:=.type "list",dict:=Af,data:=.seq acc c,slots:=#[] }->MY I S xs ys us i acc s.heap ->
  (∀ h2 ħ c2 tk,(∀ d o,d∉Ø I->d≠S->s.heap.get? d=Ab o->h2.get? d=Ab o)->h2.get? S=Ab { cls:=.type "list",dict:=Af,data:=.seq ħ c2,slots:=#[] }->MY I S xs ys us n ħ h2->R (.ok (.ret res)) {s with heap:=h2,toks:=tk}) ->
  GZ (model prog w) A (.builtin "list.extend.loop" ⟨[.ref S,.ref (I+5),res],[]⟩) R s:=by
 have yc:A.in1.handled=Af:=calm;intro k
 induction k with
 |zero=>
  intro i s acc c hk hi hz q1 q2 q3 Ĵ hd hR;have ein:i=n:=bL hi (Nat.le_of_sub_eq_zero hk);subst ein;refine GI dD ?_;rw[Fd GA _];refine Ah (m:=E5 (.ref (I+5))) (b9 yc b1 hz q1 (bM e1) λh2 kp=>?_)
  exact Au (hR h2 acc c s.toks (λd o nd _ q=>kp d o nd q) (kp _ _ (QB hS) Ĵ) ⟨hd.1,λj hj=>by
   obtain⟨a,x,y,u,r1,r2,r3,r4,r5,r6,r7⟩:=hd.2.1 j hj;exact⟨a,x,y,u,r1,r2,r3,r4,kp _ _ (QB r6) r5,r6,r7⟩,hd.2.2⟩)
 |succ k ih=>
  intro i s acc c hk hi hz q1 q2 q3 Ĵ hd hR;have lt:i<n:=Nat.lt_of_sub_pos (by rw[hk];exact Nat.succ_pos _)
  have lx:i<xs.size:=by rw[e1];exact lt
  have ly:i<ys.size:=by rw[e2];exact lt
  have lu:i<us.size:=by rw[e3];exact lt
  refine GI dD ?_;rw[Fd GA _];refine Ah (m:=E5 (.ref (I+5))) (tD yc b1 b2 b3 hz q1 q2 q3 (Cc lx) (Cc ly) (Cc lu) λh2 tk z2 tr sz kp=>?_)
  have hS2:=kp _ _ (QB hS) Ĵ;refine Ah (m:=Lj S _) ?_;have ot:∀(f:DE->DE) d o,d≠S->h2.get? d=Ab o->(h2.update S f).get? d=Ab o:=λf d o nd q=>(Cu _ _ (Cy nd)).trans q
  have lS:I+5<s.heap.objs.size:=HE hS (AK Ĵ);have nT:s.heap.objs.size≠S:=D6 (AK Ĵ);have hS3:=CV (Cd (·.push (.ref s.heap.objs.size))) hS2 rfl;have lne:∀{l:Ag},l<I->l≠S:=λh e=>by rw[e]at h;exact absurd (HE h (EK (Fk I 5) hS)) (BH _)
  refine HM hS2 rfl (Au ⟨IK GA _,ih (i+1) {s with heap:=h2.update S (Cd (·.push (.ref s.heap.objs.size))),toks:=tk} _ _ (by lia) lt (z2.at' λj hj o q=>ot _ _ o (λe=>by rw[<-e]at hS;exact absurd hS (GV.mpr (Ic hj I))) q) ?_ ?_ ?_ hS3 ⟨by rw[C5,hd.1],λj hj=>?_,?_⟩ λh4 acc4 c4 tk4 kp4 hS4 hd4=>hR h4 acc4 c4 tk4 (λd o nd ns q=>kp4 d o nd ns (ot _ d o ns (kp d o nd q))) hS4 hd4⟩) ?_ ?_
  .exact q1.at' λo q=>ot _ _ o (lne b1) (kp _ o (Ql b1) q)
  .exact q2.at' λo q=>ot _ _ o (lne b2) (kp _ o (Ql b2) q)
  .exact q3.at' λo q=>ot _ _ o (lne b3) (kp _ o (Ql b3) q)
  .by_cases ej:j=i
   .subst ej;exact⟨s.heap.objs.size,_,_,_,by rw[Ia,AB hd.1.symm],Cc lx,Cc ly,Cc lu,ot _ _ _ nT tr,lS,nT⟩
   .obtain⟨a,x,y,u,r1,r2,r3,r4,r5,r6,r7⟩:=hd.2.1 j (C8 (Jf hj) ej);exact⟨a,x,y,u,by rw[Ia,AF (by rw[hd.1];exact ej)];exact r1,r2,r3,r4,ot _ _ _ r7 (kp _ _ (QB r6) r5),r6,r7⟩
  .have old:∀(j a:Ag),acc[j]?=Ab (Dh a)->a<s.heap.objs.size:=λj a e=>by
    have hj:j<i:=by rw[<-hd.1];exact(Gk.mp e).1
    obtain⟨a',x,y,u,r1,r2,r3,r4,r5,r6,r7⟩:=hd.2.1 j hj;rw[e]at r1;cases r1;exact AK r5
   intro j1 j2 a q1 q2;rw[Ia]at q1 q2;split at q1
   .split at q2
    .lia
    .cases q1;exact absurd (old _ _ q2) (BH _)
   .split at q2
    .cases q2;exact absurd (old _ _ q1) (BH _)
    .exact hd.2.2 _ _ _ q1 q2
  .rw[hd.1];exact CM (CM hi nn) (by decide)
  .show (acc.push _).size<=sizeLine+1;rw[C5,hd.1];exact CM (Nat.succ_le_succ (CM hi nn)) (by decide)
theorem lG(a b c:Aj):checkTypeCall "zip" ⟨[a,b,c],[]⟩=pure ():=by kernel_rfl
theorem pE(a b c:Aj):eW "zip.__new__" ⟨[.type "zip",a,b,c],[]⟩=pure ():=by kernel_rfl
theorem ol(a b c d:Aj):argsOk "object.__init__" ⟨[a,b,c,d],[]⟩:=by
 unfold argsOk;rw[signature?_of (id := "object.__init__") (n:=['_','_','t','i','n','i','_','_']) (o:=['t','c','e','j','b','o']) (by kernel_rfl) F.owner_object];kernel_rfl
abbrev Š(t1 t2 t3:Ai)(h:AO)(l1 l2 l3:Ak):AO:=((h.push (y4 t1 l1)).push (y4 t2 l2)).push (y4 t3 l3)
abbrev š(t1 t2 t3:Ai)(h:AO)(l1 l2 l3:Ak):AO:=(Š t1 t2 t3 h l1 l2 l3).push { cls:=.type "tuple",data:=.seq #[.ref h.objs.size,.ref (h.push (y4 t1 l1)).objs.size,.ref ((h.push (y4 t1 l1)).push (y4 t2 l2)).objs.size] }
abbrev Ţ(t1 t2 t3:Ai)(h:AO)(l1 l2 l3:Ak):AO:=(š t1 t2 t3 h l1 l2 l3).push { cls:=.type "tuple",data:=.seq #[.none,.none,.none] }
abbrev Ö(t1 t2 t3:Ai)(h:AO)(l1 l2 l3:Ak):AO:=(Ţ t1 t2 t3 h l1 l2 l3).push { cls:=.type "zip",data:=.fields #[.none,.bool Ae,.bool Ae,.ref (Š t1 t2 t3 h l1 l2 l3).objs.size,.ref (š t1 t2 t3 h l1 l2 l3).objs.size] }
theorem oZ(t1 t2 t3:Ai)(l1 l2 l3:Ak)(xs ys us:Ax Aj):Meets (Builtin.«zip.__new__» ⟨[.type "zip",.ref l1,.ref l2,.ref l3],[]⟩) (λ_ R s=>CO t1 s.heap l1 xs/\CO t2 s.heap l2 ys/\CO t3 s.heap l3 us/\R (.ok (.ret (.ref (Ţ t1 t2 t3 s.heap l1 l2 l3).objs.size))) {s with heap:=Ö t1 t2 t3 s.heap l1 l2 l3}):=
 .of_wp λprog w A R s h=>by
  obtain⟨hp,g,d,tk,os⟩:=s;obtain⟨a1,a2,a3,q⟩:=h;have Κ:=sub_zip;have L1:CO t1 (Hg ⟨hp,g,d,tk,os⟩) l1 xs:=a1;have L2:CO t2 (Hg ⟨hp.push (y4 t1 l1),g,d,tk,os⟩) l2 ys:=a2.push _;have L3:CO t3 (Hg ⟨(hp.push (y4 t1 l1)).push (y4 t2 l2),g,d,tk,os⟩) l3 us:=(a3.push _).push _
  wp_walk using Lz L1,Lz L2,Lz L3
  exact⟨_,rfl,q⟩
theorem lJ{A:A9}{E:Vq}{xs:Ax Aj}{Q:Vq}(a1:CO t1 s.heap l1 xs)(a2:CO t2 s.heap l2 ys)(a3:CO t3 s.heap l3 us)(q:∀ h2,þ t1 t2 t3 s.heap.objs.size l1 l2 l3 0 h2->h2.objs.size=s.heap.objs.size+6->(∀ c o,s.heap.get? c=Ab o->h2.get? c=Ab o)->Q (.ref (s.heap.objs.size+5)) {s with heap:=h2}):Az (model prog w) A (call (.type "zip") [.ref l1,.ref l2,.ref l3]) Q E s:=by
 refine La dC (by decide) (lG _ _ _) (pE _ _ _) (λobj=>ol obj _ _ _) dH (oZ t1 t2 t3 l1 l2 l3 xs ys us) ⟨a1,a2,a3,?_⟩
 have s1:(s.heap.push (y4 t1 l1)).objs.size=s.heap.objs.size+1:=BW ..;have s2:((s.heap.push (y4 t1 l1)).push (y4 t2 l2)).objs.size=s.heap.objs.size+2:=by rw[BW,s1]
 have s3:(Š t1 t2 t3 s.heap l1 l2 l3).objs.size=s.heap.objs.size+3:=by rw[BW,s2]
 have s4:(š t1 t2 t3 s.heap l1 l2 l3).objs.size=s.heap.objs.size+4:=by rw[BW,s3]
 have s5:(Ţ t1 t2 t3 s.heap l1 l2 l3).objs.size=s.heap.objs.size+5:=by rw[BW,s4]
 have s6:(Ö t1 t2 t3 s.heap l1 l2 l3).objs.size=s.heap.objs.size+6:=by rw[BW,s5]
 have u6:∀ {c o},(Ţ t1 t2 t3 s.heap l1 l2 l3).get? c=Ab o->(Ö t1 t2 t3 s.heap l1 l2 l3).get? c=Ab o:=λe=>At _ e
 have u5:∀ {c o},(š t1 t2 t3 s.heap l1 l2 l3).get? c=Ab o->(Ö t1 t2 t3 s.heap l1 l2 l3).get? c=Ab o:=λe=>u6 (At _ e)
 have u4:∀ {c o},(Š t1 t2 t3 s.heap l1 l2 l3).get? c=Ab o->(Ö t1 t2 t3 s.heap l1 l2 l3).get? c=Ab o:=λe=>u5 (At _ e)
 have u3:∀ {c o},((s.heap.push (y4 t1 l1)).push (y4 t2 l2)).get? c=Ab o->(Ö t1 t2 t3 s.heap l1 l2 l3).get? c=Ab o:=λe=>u4 (At _ e)
 have u2:∀ {c o},(s.heap.push (y4 t1 l1)).get? c=Ab o->(Ö t1 t2 t3 s.heap l1 l2 l3).get? c=Ab o:=λe=>u3 (At _ e)
 have g6:(Ö t1 t2 t3 s.heap l1 l2 l3).get? (Ţ t1 t2 t3 s.heap l1 l2 l3).objs.size=Ab _:=AG _ rfl;have g5:(Ö t1 t2 t3 s.heap l1 l2 l3).get? (š t1 t2 t3 s.heap l1 l2 l3).objs.size=Ab _:=u6 (AG _ rfl);have g4:(Ö t1 t2 t3 s.heap l1 l2 l3).get? (Š t1 t2 t3 s.heap l1 l2 l3).objs.size=Ab _:=u5 (AG _ rfl);have g3:(Ö t1 t2 t3 s.heap l1 l2 l3).get? ((s.heap.push (y4 t1 l1)).push (y4 t2 l2)).objs.size=Ab _:=u4 (AG _ (MV _ _));have g2:(Ö t1 t2 t3 s.heap l1 l2 l3).get? (s.heap.push (y4 t1 l1)).objs.size=Ab _:=u3 (AG _ (MV _ _));have g1:(Ö t1 t2 t3 s.heap l1 l2 l3).get? s.heap.objs.size=Ab _:=u2 (AG _ (MV _ _));show _/\_;rw[s3,s4,s5]at g6;rw[s4]at g5;rw[s1,s2,s3]at g4;rw[s2]at g3;rw[s1]at g2;rw[s5];exact⟨⟨_,g6,rfl⟩,q _ ⟨g4,M5 g1,M5 g2,M5 g3,⟨_,_,_,g5⟩,.inl g6⟩ s6 λc o e=>u2 (At _ e)⟩
theorem mD:Mu (.type "zip") "__len__" = pure Af:=by rw[fC,eU];kernel_rfl
theorem lE:Mu (.type "zip") "__length_hint__" = pure Af:=by rw[fC,eU];kernel_rfl
theorem þ.ty{I i:Ag}(z:þ t1 t2 t3 I l1 l2 l3 i s.heap):s.TypeIs (.ref (I+5)) "zip" := by
 obtain⟨_,_,_,_,_,hz|⟨_,_,hz⟩⟩:=z
 .exact⟨_,hz,rfl⟩
 .exact⟨_,hz,rfl⟩
theorem þ.lt{I i:Ag}(z:þ t1 t2 t3 I l1 l2 l3 i s.heap):I+5<s.heap.objs.size:=by
 obtain⟨o,h,_⟩:=z.ty;exact AK h
theorem tE{I i:Ag}(z:þ t1 t2 t3 I l1 l2 l3 i h):þ t1 t2 t3 I l1 l2 l3 i (h.push o):=by
 have k:∀ {c u},h.get? c=Ab u->(h.push o).get? c=Ab u:=λq=>At _ q
 obtain⟨zI,i1,i2,i3,zz⟩:=z;refine⟨k zI,i1.at' λo q=>k q,i2.at' λo q=>k q,i3.at' λo q=>k q,?_⟩
 obtain⟨⟨a,b,c,hO⟩,zz⟩:=zz;refine⟨⟨a,b,c,k hO⟩,?_⟩;rcases zz with hz|⟨T1,f1,hz⟩
 .exact .inl (k hz)
 .exact .inr ⟨T1,f1,k hz⟩
section
variable{A:A9}{E:Vq}
theorem oW{Q:Vq}(hT:s.TypeIs (.ref z) "zip")(h:Q (.ref z) s):Az (model prog w) A (Ms (.ref z)) Q E s:=by
 refine wpAny_pyIter_slot hT dO (CC dO hT F.entry_zip_iter ?_ (F.args_zip_iter_1 _));show Az _ _ (ret (.ref z)) _ _ s;exact Au ⟨_,rfl, "zip",_,hT,F.slot_zip_next.lookup,h⟩
theorem mF{I n:Ag}{xs:Ax Aj}(calm:A.handled=Af)(b1:l1<I)(b2:l2<I)(b3:l3<I)(n0:0<n)(nn:n<=1000)(e1:xs.size=n)(e2:ys.size=n)(e3:us.size=n)(hz:þ t1 t2 t3 I l1 l2 l3 0 s.heap)(q1:CO t1 s.heap l1 xs)(q2:CO t2 s.heap l2 ys)(q3:CO t3 s.heap l3 us)(hQ:∀ h2 acc tk,(∀ d o,d∉Ø I->s.heap.get? d=Ab o->h2.get? d=Ab o)->MY I s.heap.objs.size xs ys us n acc h2->Q acc.toList {s with heap:=h2,toks:=tk}):Az (model prog w) A (collect (.ref (I+5))) Q E s:=by
  have lt:=hz.lt;have hSI:s.heap.objs.size≠I+5:=D6 lt;unfold collect;refine Ah (wpAny_runValue (GI F.entry_proto_collect ?_));rw[Fd F.plain_proto_collect _];show Az _ A.in1 (newList [] >>= λl=>again (.builtin "list.__iadd__" ⟨[l,.ref (I+5)],[]⟩)) _ _ s
  refine Ah (Di ?_);refine Au ⟨IK dJ _,GI F.entry_list_iadd ?_⟩;rw[Fd dJ _];have hz1:þ t1 t2 t3 I l1 l2 l3 0 (s.heap.push { cls:=.type "list",data:=.seq ([]:Ac Aj).toArray }):=tE hz;have ğ:Shared.TypeIs { s with heap:=s.heap.push { cls:=.type "list",data:=.seq ([]:Ac Aj).toArray } } (.ref (I+5)) "zip" := þ.ty (s:={ s with heap:=s.heap.push { cls:=.type "list",data:=.seq ([]:Ac Aj).toArray } }) hz1
  show Az _ A.in1 (bX (.ref s.heap.objs.size) (.ref (I+5)) (.ref s.heap.objs.size)) _ _ _;unfold bX;refine Ah (wpAny_typeOf ğ ?_);have h1:bY (.ref s.heap.objs.size) (.ref (I+5))=Ae:=by simp[bY,hSI]
  have h2:(DV "zip" == DV "list")=Ae:=by decide
  have h3:(DV "zip" == DV "tuple")=Ae:=by decide
  simp only[h1,h2,h3,Go,C7,E2];refine Ah (oW ğ ?_);refine Ah (Cn ?_);unfold Builtin.List.listLengthHint;refine Ah (EV ğ mD ?_);show Az _ A.in1 (specialOf (Dh (I+5)) (Do "__length_hint__") >>= _) _ _ _;refine Ah (EV ğ lE ?_);refine Au ?_;show Az _ A.in1 (rule "list.extend.makes-room" >>= λ_=>Builtin.List.listTouch (.ref s.heap.objs.size) >>= λ_=>
    again (.builtin "list.extend.loop" ⟨[.ref s.heap.objs.size,.ref (I+5),.ref s.heap.objs.size],[]⟩)) _ _ _
  refine Ah (Fh ?_);have hS₁:(s.heap.push { cls:=.type "list",data:=.seq ([]:Ac Aj).toArray }).get? s.heap.objs.size=Ab { cls:=.type "list",data:=.seq ([]:Ac Aj).toArray }:=AG _ rfl;refine Ah ?_;show Az _ A.in1 (Lj s.heap.objs.size (·.push .none) >>= λ_=>Lj s.heap.objs.size (·.pop)) _ _ _
  refine Ah (HM hS₁ rfl ?_);have hS₂:=CV (Cd (·.push Bo)) hS₁ rfl;refine HM hS₂ rfl ?_;have hS₃:=CV (Cd (·.pop)) hS₂ rfl;have oth:∀ b o,b≠s.heap.objs.size->(s.heap.push { cls:=.type "list",data:=.seq ([]:Ac Aj).toArray }).get? b=Ab o ->
      (((s.heap.push { cls:=.type "list",data:=.seq ([]:Ac Aj).toArray }).update s.heap.objs.size (Cd (·.push Bo))).update s.heap.objs.size (Cd (·.pop))).get? b=Ab o:=
    λb o hb e=>(Cu _ _ (Cy hb)).trans ((Cu _ _ (Cy hb)).trans e)
  have ϖ:∀ b o,s.heap.get? b=Ab o->(((s.heap.push { cls:=.type "list",data:=.seq ([]:Ac Aj).toArray }).update s.heap.objs.size (Cd (·.push Bo))).update s.heap.objs.size (Cd (·.pop))).get? b=Ab o:=
    λb o e=>oth b o (Be (AK e)) (At _ e)
  refine Au ⟨IK GA _,tF calm b1 b2 b3 s.heap.objs.size lt n0 nn e1 e2 e3 n 0 _ _ _ rfl (Ds _) (hz1.at' λj hj o q=>oth _ o (λe=>by rw[<-e]at lt;exact absurd lt (GV.mpr (Ic hj I))) q) (q1.at' λo e=>ϖ _ o e) (q2.at' λo e=>ϖ _ o e) (q3.at' λo e=>ϖ _ o e) hS₃ ⟨rfl,λj hj=>absurd hj (JQ _),λj1 j2 a e=>by simp[Cd]at e⟩ λh2 acc c tk kp hS hd=>?_⟩
  show Az _ A (load s.heap.objs.size >>= _) _ _ _;refine Ah (wpAny_load hS ?_);exact Au (hQ h2 acc tk (λd o nd e=>kp d o nd (Be (AK e)) (ϖ d o e)) hd)
theorem tG{I n:Ag}{xs:Ax Aj}{Q₁:Vq}(calm:A.handled=Af)(b1:l1<I)(b2:l2<I)(b3:l3<I)(n0:0<n)(nn:n<=1000)(e1:xs.size=n)(e2:ys.size=n)(e3:us.size=n)(hz:þ t1 t2 t3 I l1 l2 l3 0 s.heap)(q1:CO t1 s.heap l1 xs)(q2:CO t2 s.heap l2 ys)(q3:CO t3 s.heap l3 us)(h:∀ h2 acc tk,(∀ d o,d∉Ø I->s.heap.get? d=Ab o->h2.get? d=Ab o)->MY I s.heap.objs.size xs ys us n acc h2->Q₁ (.ref h2.objs.size) { s with heap:=h2.push { cls:=.type "tuple",data:=.seq acc },toks:=tk }):
  GZ (model prog w) A (.call (.builtin "tuple.__new__") ⟨[.type "tuple",.ref (I+5)],[]⟩) (wants Q₁ E) s:=by
 refine codeAny_of_tree ?_;show Az _ A.in1 (do eW "tuple.__new__" ⟨[.type "tuple",.ref (I+5)],[]⟩;again (.builtin "tuple.__new__" ⟨[.type "tuple",.ref (I+5)],[]⟩)) _ _ s
 refine Ah (wpAny_of_eq (F.newCall_tuple_1 _) (Au ⟨IK dL _,GI F.entry_tuple_new ?_⟩));rw[Fd dL _];have Κ:=sub_tuple_self;have hinit:=init_tuple_lookup;have hmh:=madeHere_tuple;have hTI:=hz.ty;have Ī:A.in1.handled=Af:=calm
 wp_walk using wpAny_typeOf hTI,mF Ī b1 b2 b3 n0 nn e1 e2 e3 hz q1 q2 q3
 intro h2 acc tk kp hd;show Az _ _ (DN acc.toList.toArray >>= λv=>ret v) _ _ _
 unfold DN;refine Ah (Di ?_ (by show acc.toList.toArray.size<=sizeLine;simp only[Z_4];rw[hd.1,Dt];lia))
 refine Au ?_;have e:acc.toList.toArray=acc:=by simp
 rw[e];exact h h2 acc tk kp hd
theorem pF{I n:Ag}{xs:Ax Aj}{Q:Vq}(calm:A.handled=Af)(b1:l1<I)(b2:l2<I)(b3:l3<I)(n0:0<n)(nn:n<=1000)(e1:xs.size=n)(e2:ys.size=n)(e3:us.size=n)(hz:þ t1 t2 t3 I l1 l2 l3 0 s.heap)(q1:CO t1 s.heap l1 xs)(q2:CO t2 s.heap l2 ys)(q3:CO t3 s.heap l3 us)(h:∀ h2 acc tk,(∀ d o,d∉Ø I->s.heap.get? d=Ab o->h2.get? d=Ab o)->MY I s.heap.objs.size xs ys us n acc h2->Q (.ref h2.objs.size) { s with heap:=h2.push { cls:=.type "tuple",data:=.seq acc },toks:=tk }):
  Az (model prog w) A (call (.type "tuple") [.ref (I+5)]) Q E s:=by
 refine callType_codes (Q₁:=λobj s₁=>s₁.TypeIs obj "tuple"/\Q obj s₁) F.called_tuple (F.typeCall_tuple_1 _) F.entry_object_init
  (tG (by exact calm) b1 b2 b3 n0 nn e1 e2 e3 hz q1 q2 q3 λh2 acc tk kp hd=>⟨⟨_,AG _ rfl,rfl⟩,h h2 acc tk kp hd⟩) λobj s₁ h₁=>?_
 exact⟨h₁.1,cZ obj _,object_init_meets F.called_tuple.init.lookup F.called_tuple.made (by decide) prog w A.in1 _ s₁ ⟨h₁.1,rfl,h₁.2⟩⟩
end
noncomputable def Ka(H:Hp)(ps:Ac (Ak×Ac V)):Hp:=λb=>match ps.lookup b with
  |some xs=>Ab (.H xs)
  |none=>H b
theorem YY{ps:Ac (Ak×Ac V)}(h:ps.lookup a=Ab xs):(a,xs)∈ps:=by
 induction ps with
 |nil=>cases h
 |cons p ps ih=>
  obtain⟨b,ys⟩:=p;rw[Ct]at h;split at h
  .rename_i e;cases h;rw[Ce]at e;subst e;exact Av
  .exact As _ (ih h)
theorem WO(h:∀ p∈ps,p.1≠b):Ka H ps b=H b:=by
 unfold Ka;cases e:ps.lookup b with
 |none=>rfl
 |some xs=>exact absurd rfl (h _ (YY e))
theorem qB(ps:Ac (Ak×Ac V))(I:Z4 X pI Z H s)(k:∀ b u,s.heap.get? b=Ab u->h'.get? b=Ab u)(hp:∀ p∈ps,s.heap.objs.size<=p.1)(new:∀ p∈ps,p.2.length<=sizeLine/\∃ its:Ac Aj,Bv p.2 its/\Ku h' p.1 its.toArray):Z4 X pI Z (Ka H ps) {s with heap:=h',toks:=t'}:=by
 have old:∀ b,b<s.heap.objs.size->Ka H ps b=H b:=λb hb=>WO λp hq e=>by
  have:=hp p hq;rw[e]at this;exact absurd hb (GV.mpr this)
 have hl:∀ b o,H b=Ab o->Ka H ps b=Ab o:=λb o q=>by rw[old b (I.hok.lt q)];exact q
 refine I.un ⟨λb u q _ _ _=>k b u q,λb u q _ _ _=>⟨u.slots,k b u q⟩,λb u q n _=>by rw[old b (AK q)];exact n,λb u q _=>⟨u,k b u q⟩,λb xs q=>hl b _ q,λb u xs q=>hl b _ q,λb xs q=>⟨#[],by rw[hl b _ q];simp⟩⟩ λb u e=>?_
 unfold Ka at e;split at e
 .rename_i xs hx;cases e;exact new _ (YY hx)
 .exact(I.hok b u e).stay (λc v _ q=>k c v q) (λc q=>hl c _ q) λc xs q=>hl c _ q
noncomputable def IW:Ac V->Ac V->Ac V->Ac (Ac V)
 |x::xs,y::ys,u::us=>[x,y,u]::IW xs ys us
 |_,_,_=>[]
theorem VY:∀(xs ys us:Ac V)(j:Ag)(r:Ac V),(IW xs ys us)[j]?=Ab r->∃ x y u,xs[j]?=Ab x/\ys[j]?=Ab y/\us[j]?=Ab u/\r=[x,y,u]
 |[],_,_,j,r,h=>by simp[IW]at h
 |_::_,[],_,j,r,h=>by simp[IW]at h
 |_::_,_::_,[],j,r,h=>by simp[IW]at h
 |x::xs,y::ys,u::us,0,r,h=>by
  simp only[IW,Fv,C1]at h;exact⟨x,y,u,rfl,rfl,rfl,h.symm⟩
 |x::xs,y::ys,u::us,j+1,r,h=>by
  simp only[IW,Fu]at h ⊢;exact VY xs ys us j r h
theorem OM{α β:Type}:∀{as:Ac α}{bs:Ac β}{a:α}{b:β},(a,b)∈as.zip bs->∃ j:Ag,as[j]?=Ab a/\bs[j]?=Ab b
 |[],_,_,_,h=>by simp at h
 |_::_,[],_,_,h=>by simp at h
 |x::as,y::bs,a,b,h=>by
  simp only[GL,Ay,bQ]at h;rcases h with ⟨rfl,rfl⟩|h
  .exact⟨0,rfl,rfl⟩
  .obtain⟨j,h1,h2⟩:=OM h;exact⟨j+1,h1,h2⟩
def jZ(K:Fg)(ta:TA):TE:=λZ H Q=>ta Z H λvs H1=>∃ t1 t2 t3 a b c xs ys us,vs=[.ref a,.ref b,.ref c]/\xi t1 K H1 a xs/\xi t2 K H1 b ys/\xi t3 K H1 c us/\0<xs.length/\xs.length<=1000/\ys.length=xs.length/\us.length=xs.length /\
 ∀(as:Ac Ak)(T:Ak),as.length=xs.length->as.Nodup->(∀ p∈as,H1 p=Af)->T∉as->H1 T=Af->Q (.ref T) (Ka H1 ((T,as.map .ref)::as.zip (IW xs ys us)))
theorem sF{I S:Ag}{xs:Ax Aj}(d:MY I S xs ys us n acc h):∃ as:Ac Ak,acc.toList=as.map Dh/\as.length=n/\as.Nodup/\∀(j:Ag)(a:Ak),as[j]?=Ab a->∃ x y u,xs[j]?=Ab x/\ys[j]?=Ab y/\us[j]?=Ab u/\FA h a x y u/\I+5<a:=by
  obtain⟨hn,hj,inj⟩:=d
  let f:Aj->Ak:=λv=>match v with
    |.ref a=>a
    |_=>0
  have hg:∀ j v,acc.toList[j]?=Ab v->∃(a:Ag)(x y u:Aj),v=Dh a/\xs[j]?=Ab x/\ys[j]?=Ab y/\us[j]?=Ab u/\FA h a x y u/\I+5<a:=λj v e=>by
    rw[Dk]at e;have lt:j<n:=by rw[<-hn];exact(Gk.mp e).1
    obtain⟨a,x,y,u,r1,r2,r3,r4,r5,r6,_⟩:=hj j lt;rw[e]at r1;cases r1;exact⟨a,x,y,u,rfl,r2,r3,r4,r5,r6⟩
  have hf:∀ v∈acc.toList,Dh (f v)=v:=λv hv=>by
    obtain⟨j,hj⟩:=aP hv;obtain⟨a,_,_,_,rfl,_⟩:=hg j v hj;rfl
  have hm:acc.toList=(acc.toList.map f).map Dh:=by
    rw[CF]
    conv=>lhs;rw[<-List.map_id acc.toList]
    exact DY λv hv=>(hf v hv).symm
  refine⟨acc.toList.map f,hm,by rw[A6,AQ,hn],?_,λj a e=>?_⟩
  · rw[List.nodup_iff_pairwise_ne,De];intro i j hi ζ lt e;rw[A6,AQ]at hi ζ;have at':∀(k:Ag)(hk:k<acc.size)(Ϻ:k<(acc.toList.map f).length),acc[k]?=Ab (Dh (acc.toList.map f)[k]):=λk hk Ϻ=>by
      rw[Cc hk,Jq,hf _ (Eb _),Dv]
    have:=inj i j _ (at' i hi _) (by rw[e];exact at' j ζ _)
    omega
  · rw[EB,Option.map_eq_some_iff]at e;obtain⟨v,hv,rfl⟩:=e;obtain⟨a,x,y,u,rfl,r⟩:=hg j v hv;exact⟨x,y,u,r⟩
theorem kw{a b:Am}(hc:X.calm=Aa)(hg:Gl X "tuple")(hm:X.mg "tuple" = Af)(ū:Gl X "zip")(hm':X.mg "zip" = Af)(ha:PA X [a,b,c] ta)(hs:AR [a,b,c] X.env=[(Ae,eval a X.env),(Ae,eval b X.env),(Ae,eval c X.env)])(y6:AR [b,c] X.env=[(Ae,eval b X.env),(Ae,eval c X.env)]):
    PE X (.Call (.Name "tuple" p) [.Call (.Name "zip" p') [a,b,c] [] pos'] [] pos) (jZ X.K ta):=by
  intro pI s Z H Q I h;refine Mn (KI I hg hm G2 (CU ?_ rfl rfl));show Az _ _ (spliced ((Ae,eval (.Call (.Name "zip" p') [a,b,c] [] pos') X.env)::DO pos (AR [] X.env))) _ _ s;refine cH ?_;refine Mn (KI I ū hm' bS (CU (J9 (ha pos' pI s Z H _ I h) λus s1 ⟨vs,H1,I1,r1,q1⟩=>?_) (by rw[hs,y6]) (by rw[y6];rfl)))
  obtain⟨t1,t2,t3,l1,l2,l3,xs,ys,zs,e,sx,sy,sz,n0,nn,ey,ez,q⟩:=q1;subst e;cases r1 with
  |cons r rr=>
    cases rr with
    |cons r' rr=>
      cases rr with
      |cons Ě rr=>
        cases rr;cases r;cases r';cases Ě;obtain⟨xv,rx,ix,_⟩:=IS I1 sx;obtain⟨yv,ry,iy,_⟩:=IS I1 sy;obtain⟨zv,rz,iz,_⟩:=IS I1 sz;refine lJ ix iy iz λh2 z hsz kp=>cI ?_
        have lx:=rx.length;have ly:=ry.length;have lz:=rz.length;refine pF (s:={s1 with heap:=h2}) (n:=xs.length) (I1.ok.hd hc) ix.lt iy.lt iz.lt n0 nn (by simp[lx]) (by simp[<-ly,ey]) (by simp[<-lz,ez]) z (ix.at' λo e=>kp _ o e) (iy.at' λo e=>kp _ o e) (iz.at' λo e=>kp _ o e) λh3 acc tk Ō dr=>?_
        obtain⟨as,e1,e2,nd,each⟩:=sF dr;have nw:∀ b,b<s1.heap.objs.size->b∉Ø s1.heap.objs.size:=λb hb=>Ql hb
        have kp4:∀ b o,s1.heap.get? b=Ab o->(h3.push { cls:=.type "tuple",data:=.seq acc }).get? b=Ab o:=λb o e=>At _ (Ō b o (nw b (AK e)) (kp b o e))
        have big:∀ a∈as,s1.heap.objs.size<=a/\a<h3.objs.size:=λa ha=>by
          obtain⟨j,hj⟩:=aP ha;obtain⟨x,y,u,_,_,_,tr,lt⟩:=each j a hj;exact⟨FY (EK (Fk _ 5) lt),AK tr⟩
        have b3:s1.heap.objs.size<=h3.objs.size:=by
          obtain⟨a,ha⟩:∃ a,a∈as:=List.exists_mem_of_length_pos (by rw[e2];exact n0)
          exact FY (EK (big a ha).1 (big a ha).2)
        refine⟨.ref h3.objs.size,_,qB (s:=s1) (h':=h3.push { cls:=.type "tuple",data:=.seq acc }) (t':=tk) ((h3.objs.size,as.map V.ref)::as.zip (IW xs ys zs)) I1 kp4 (λp hp=>?_) (λp hp=>?_),rfl,q as h3.objs.size e2 nd (λp hp=>I1.hok.fresh (big p hp).1) (λhT=>absurd (big _ hT).2 (BH _)) (I1.hok.fresh b3)⟩
        · rcases Ay.mp hp with rfl|hp
          · exact b3
          · obtain⟨j,h1,h2⟩:=OM (a:=p.1) (b:=p.2) hp;exact(big _ (Et h1)).1
        · rcases Ay.mp hp with rfl|hp
          · refine⟨by rw[A6,e2,Dt];lia,as.map Dh,?_,?_⟩
            · clear q each big hp e1 e2 nd
              induction as with
              |nil=>exact .nil
              |cons a as ih=>exact .cons rfl ih
            · rw[<-e1,Z_4];exact K6 _ _
          · obtain⟨j,h1,h2⟩:=OM (a:=p.1) (b:=p.2) hp;obtain⟨x,y,u,g1,g2,g3,er⟩:=VY _ _ _ _ _ h2;obtain⟨x',y',u',k1,k2,k3,tr,_⟩:=each j _ h1;obtain⟨x2,m1,w1⟩:=rx.get g1;obtain⟨y2,m2,w2⟩:=ry.get g2;obtain⟨u2,m3,w3⟩:=rz.get g3;rw[aS]at k1 k2 k3;cases m1.symm.trans k1;cases m2.symm.trans k2;cases m3.symm.trans k3;rw[er];exact⟨by show 3<=sizeLine;decide,[x',y',u'],.cons w1 (.cons w2 (.cons w3 .nil)),⟨_,At _ tr,rfl,_,rfl⟩⟩
theorem Vp{K:Fg}{H:Hp}{A:Ak->Prop}(hA:zw H A)(sm:AV H H3):∀{as:Ac Ak}{xs ys us:Ac V}{ds es fs:Ac D},(∀(j:Ag)(a:Ak)(r:Ac V),as[j]?=Ab a->(IW xs ys us)[j]?=Ab r->H3 a=Ab (.H r))->(∀ p∈as,H p=Af)->as.length=xs.length->ys.length=xs.length->us.length=xs.length->Z9 K CL H A xs ds->Z9 K CL H A ys es->Z9 K CL H A us fs->Z9 K CL H3 A (as.map .ref) (TZ ds es fs)
 |[],[],[],[],[],[],[],_,_,_,_,_,_,_,_=>trivial
 |a::as,x::xs,y::ys,u::us,d::ds,e::es,f::fs,h,hn,l1,l2,l3,r1,r2,r3=>
  ⟨⟨a,[x,y,u],rfl,.inl (hA.new (hn a Av)),yr.of (h 0 a _ rfl rfl),r1.1.same sm,r2.1.same sm,r3.1.same sm,trivial⟩,
   Vp hA sm (λj a' r p q=>h (j+1) a' r p q) (λp hp=>hn p (As _ hp)) (Jt l1) (Jt l2) (Jt l3) r1.2 r2.2 r3.2⟩
 |[],_::_,_,_,_,_,_,_,_,l,_,_,_,_,_=>nomatch l
 |_::_,[],_,_,_,_,_,_,_,l,_,_,_,_,_=>nomatch l
 |_,[],_::_,_,_,_,_,_,_,_,l,_,_,_,_=>nomatch l
 |_,[],_,_::_,_,_,_,_,_,_,_,l,_,_,_=>nomatch l
 |_,_::_,[],_,_,_,_,_,_,_,l,_,_,_,_=>nomatch l
 |_,_::_,_,[],_,_,_,_,_,_,_,l,_,_,_=>nomatch l
 |_,[],_,_,_::_,_,_,_,_,_,_,_,r,_,_=>r.elim
 |_,_::_,_,_,[],_,_,_,_,_,_,_,r,_,_=>r.elim
 |_,_,[],_,_,_::_,_,_,_,_,_,_,_,r,_=>r.elim
 |_,_,_::_,_,_,[],_,_,_,_,_,_,_,r,_=>r.elim
 |_,_,_,[],_,_,_::_,_,_,_,_,_,_,_,r=>r.elim
 |_,_,_,_::_,_,_,[],_,_,_,_,_,_,_,r=>r.elim
theorem YX:∀{as:Ac Ak}{rs:Ac (Ac V)}{j:Ag}{a:Ak}{r:Ac V},as.Nodup->as[j]?=Ab a->rs[j]?=Ab r->(as.zip rs).lookup a=Ab r
 |[],_,_,_,_,_,h,_=>by simp at h
 |_::_,[],_,_,_,_,_,h=>by simp at h
 |b::as,q::rs,0,a,r,nd,h1,h2=>by
  simp only[Fv,C1]at h1 h2;subst h1 h2;rw[GL,aX]
 |b::as,q::rs,j+1,a,r,nd,h1,h2=>by
  simp only[Fu]at h1 h2;have nb:a≠b:=λe=>by subst e;exact(Cs.mp nd).1 (Et h1)
  rw[GL,Ct,xg nb];exact YX (Cs.mp nd).2 h1 h2
section
variable{a b:Am}
theorem j8(ha:SE X CL W a fa)(hb:SE X CL W b fb)(hd:SE X CL W c fc)(hc:X.calm=Aa)(hg:Gl X "tuple")(hm:X.mg "tuple" = Af)(ū:Gl X "zip")(hm':X.mg "zip" = Af)(hs:AR [a,b,c] X.env=[(Ae,eval a X.env),(Ae,eval b X.env),(Ae,eval c X.env)])(y6:AR [b,c] X.env=[(Ae,eval b X.env),(Ae,eval c X.env)])(hs3:AR [c] X.env=[(Ae,eval c X.env)]):
  SE X CL W (.Call (.Name "tuple" p) [.Call (.Name "zip" p') [a,b,c] [] pos'] [] pos) (λY=>((fa Y).bind λx=>(fb Y).bind λy=>(fc Y).bind λz=>Nj x y z).bind λxs=>.ok (.H xs)):=
 λA=>PE.weak (kw hc hg hm ū hm' (GP (ha A) (GP (hb A) (GP (hd A) IR hs3) (by rw[y6,hs3])) (by rw[hs,y6])) hs y6) λZ H Q ⟨hA,Y,g,q⟩=>by
  simp only[R.bind_assoc]at q;refine⟨hA,Y,g,BO.bind q λd v H1 _ s1 r1 p1=>⟨hA.same s1,Y,g.same s1,BO.bind p1 λd2 v2 H2 _ s2 r2 p2=>⟨(hA.same s1).same s2,Y,(g.same s1).same s2,BO.bind p2 λd3 v3 H3 _ s3 r3 p3=>?_⟩⟩⟩
  unfold Nj at p3;cases e1:Db d with
  |bad=>rw[e1]at p3;exact p3.elim
  |exn z=>exact absurd e1 (by cases d<;>simp[Db])
  |ok ds=>
   cases e2:Db d2 with
   |bad=>rw[e1,e2]at p3;exact p3.elim
   |exn z=>exact absurd e2 (by cases d2<;>simp[Db])
   |ok es=>
    cases e3:Db d3 with
    |bad=>rw[e1,e2,e3]at p3;exact p3.elim
    |exn z=>exact absurd e3 (by cases d3<;>simp[Db])
    |ok fs=>
     rw[e1,e2,e3]at p3;simp only[R.bind_ok]at p3;obtain⟨t1,c1,xs,rfl,k1,Ŗ⟩:=M8 ((r1.same s2).same s3) e1;obtain⟨t2,c2,ys,rfl,k2,ě⟩:=M8 (r2.same s3) e2;obtain⟨t3,c3,us,rfl,k3,rs3⟩:=M8 r3 e3;split at p3
     .rename_i hn;obtain⟨n0,nn,ny,nz⟩:=hn;rw[<-Ŗ.length]at n0 nn ny nz;rw[<-ě.length]at ny;rw[<-rs3.length]at nz;refine⟨t1,t2,t3,c1,c2,c3,xs,ys,us,rfl,k1 H3 (Kp.of (AV.refl H3)),k2 H3 (Kp.of (AV.refl H3)),k3 H3 (Kp.of (AV.refl H3)),n0,nn,ny,nz,λas T el nd fr hT fT=>?_⟩
      have hA3:zw H3 A:=((hA.same s1).same s2).same s3;have ϊ:∀ q∈(T,as.map V.ref)::as.zip (IW xs ys us),H3 q.1=Af:=λq hq=>by
       rcases Ay.mp hq with rfl|hq
       .exact fT
       .obtain⟨j,h1,h2⟩:=OM (a:=q.1) (b:=q.2) hq;exact fr _ (Et h1)
      have sm:AV H3 (Ka H3 ((T,as.map V.ref)::as.zip (IW xs ys us))):=λb o e=>by
       rw[WO λq hq z=>by rw[<-z,ϊ q hq]at e;cases e]
       exact e
      refine p3 _ _ sm ⟨T,as.map V.ref,rfl,.inl (hA3.new fT),yr.of ?_,Vp hA3 sm (λj a r h1 h2=>?_) fr el ny nz Ŗ ě rs3⟩
      .unfold Ka;rw[aX]
      .have na:a≠T:=λe=>by subst e;exact hT (Et h1)
       unfold Ka;rw[Ct,xg na,YX nd h1 h2]
     .exact p3.elim
end
section
variable{prog:AW}{w:AJ}{A:A9}{E:Vq}
theorem VM(il:t≠it):∀(n i:Ag)(s:Aq)(Q:Ac Aj->Aq->Prop),s.heap.IsListIter it t i->s.heap.IsList t items->i+n<=items.size->(∀ h',h'.IsListIter it t (i+n)->Fn it s.heap h'->Q ((items.toList.drop i).take n) {s with heap:=h'})->Az (model prog w) A (draw (.ref it) n) Q E s
 |0,i,s,Q,hit,_,_,hQ=>by
  show Az _ _ (pure []) Q E s;exact Au (by simpa using hQ s.heap hit (dQ ..))
 |n+1,i,s,Q,hit,ht,ώ,hQ=>by
  have zd:i<items.size:=by lia
  show Az _ _ (E5 (.ref it) >>= _) Q E s;refine Ah (fL hit ht (x:=items[i]) (by simp[zd]) λh₁ Ε Ŋ=>?_)
  refine Ah (Cn (VM il n (i+1) _ _ Ε (ht.extBut Ŋ.extBut il) (by lia) λh₂ hit₂ hs₂=>Au ?_))
  have hd:items.toList.drop i=items[i]::items.toList.drop (i+1):=by simp[CJ,zd]
  have:=hQ h₂ (by rw[show i+(n+1)=i+1+n by lia];exact hit₂) (Ŋ.trans hs₂)
  rw[hd,List.take_succ_cons]at this;exact this
theorem kM(hh:A.handled=Af)(ht:s.heap.IsList t items)(hQ:∀ h',JW s.heap.objs.size s.heap h'->Q items.toList {s with heap:=h'}):Az (model prog w) A (unpackItems (.ref t) items.size Af) Q E s:=by
 have zd:t≠s.heap.objs.size:=by obtain⟨o,ho,_⟩:=ht;exact Be (AK ho)
 have htp:(s.heap.push { cls:=.type "list_iterator",data:=.fields #[.ref t,.int 0 0] }).IsList t items:=by
  obtain⟨o,ho,r⟩:=ht;exact⟨o,At _ ho,r⟩
 unfold unpackItems;refine Ah ?_
 .unfold notIterableAtAll;refine Ah (EV ht.typeIs slot_list_iter.lookup ?_);refine Au ?_;simp only[C7,E2];refine Ah (Cn (FV ht ?_));refine Ah (Cn (VM zd items.size 0 _ _ ⟨_,AG _ rfl,rfl,rfl⟩ htp (by lia) λh₁ Ε Ŋ=>?_))
  have Ò:bG items.size (List.drop 0 items.toList)=items.toList:=by
   rw[Ii];exact FO (by simp)
  rw[Ò];rw[AF (by simp)]
  have ht₁:h₁.IsList t items:=htp.extBut Ŋ.extBut zd;refine Ah (Cn (fK hh Ε ht₁ (by simp) λh₂ he₂=>?_))
  simp only[Option.isSome_none,C7,E2];refine Au (hQ h₂ λb o hb e=>he₂ b o hb (Ŋ.extBut b o hb (At _ e)))
theorem kL(hh:A.handled=Af)(ht:s.heap.IsList t items) (hn:(CQ elts env).length=items.size) (ň:(CQ elts env).findIdx? (·.1)=Af) (h:∀ h',JW s.heap.objs.size s.heap h'->Az (model prog w) A (assignInOrder ((CQ elts env).map (·.2)) items.toList) Q E {s with heap:=h'}):Az (model prog w) A (assign (.Tuple elts x1 pos) env (.ref t)) Q E s:=by
 rw[assign_Tuple];refine Ah (IL ?_);unfold unpack;rw[hn,ň];exact Ah (Cn (kM hh ht h))
end
def gSq(K:Fg)(n:Ag)(t:TGs):TG:=λv Z H Q=>Nq K n t v Z H Q\/∃ a xs,v=.ref a/\zp K H a xs/\xs.length=n/\t xs Z H Q
theorem u9(hc:X.calm=Aa)(h:ŷ X es t)(hn:(CQ es X.env).length=n)(î:(CQ es X.env).findIdx? (·.1)=Af):PG X (.Tuple es k pos) (gSq X.K n t):=by
 intro pI s Z H v u Q I r hw;rcases hw with hw|hw
 .exact Ti hc h hn î pI s Z H v u Q I r hw
 .obtain⟨a,xs,e1,hq,hl,hw⟩:=hw;subst e1;cases r;obtain⟨its,rv,ht,hz⟩:=I.list hq;refine kL (I.ok.hd hc) ht.isList (by simp[hn,<-hl,rv.length]) î λh' hx=>?_
  have I1:Z4 X pI Z H {s with heap:=h'}:=I.kept (t':=s.toks) λb o e=>hx b o (Be (AK e)) e
  exact h pI _ Z H xs _ Q I1 (by simpa using rv) hw
theorem fZ(ts:Ac Ag):GT K CL (Mj ts) (gSq K ts.length (ts.foldr (λt u=>JF (Gg t) u) JK)):=λFz B Y Z H v d Y' Q x r e k=>by
 cases d with
 |L ds=>
  obtain⟨a,xs,rfl,na,sq,rs⟩:=r;rw[pQ]at e;cases e2:Gc ts ds Y with
  |none=>rw[e2]at e;cases e
  |some Y2=>
   rw[e2]at e;cases e;exact .inr ⟨a,xs,rfl,sq,by rw[rs.length];exact OZ _ _ _ _ e2,Tx ts ds xs Y _ Z Q x rs e2 k⟩
 |_=>exact .inl (Y_6 ts Fz B Y Z H v _ Y' Q x r e k)
end Ov
namespace Ov
open PySem PyProof.Rows
variable{a:Ax Aw}{lo:Ag}{st:A5}{m:Ac Aw}
noncomputable def zU:Ai->Aw->Ax Aw->Ag->Ag->Ag->Ev A5 D7 (Ar Ag):=sortPriv%PySem.Builtin.gallop
noncomputable def qR:Ax Aw->Ax Aw->Ev A5 D7 (Ax Aw):=sortPriv%PySem.Builtin.mergeLo
noncomputable def pT:Ax Aw->Ax Aw->Ev A5 D7 (Ax Aw):=sortPriv%PySem.Builtin.mergeHi
noncomputable def WC:Ag->Ev A5 D7 Ai:=sortPriv%PySem.Builtin.mergeAt
noncomputable def ka0(a:Ax Aw)(i:Ag):Aw:=a.getD i (Bo,Bo)
section
variable{E:Vq}
def JN(M:FK)(A:A9)(s:Aq)(κ:Fl)(V:Aw->Prop)(lt:Aw->Aw->Ai):Prop:=∀(E:Vq)(st:A5)(x y:Aw)(Q:Ar Ai->A5->Prop),kindOf st=κ->V x->V y->Q (Ab (lt x y)) st->BN M A E s (lt' x y) Q st
structure My (V:Aw->Prop) (lt:Aw->Aw->Ai):Prop where
 asymm:∀ {x y},V x->V y->lt x y=Aa->lt y x=Ae
 trans:∀ {x y z},V x->V y->V z->lt y x=Ae->lt z y=Ae->lt z x=Ae
theorem Fp(h:i<arr.size)(q:Q (ka0 arr i) st):BN M A E s (elem' arr i) Q st:=by
 rw[elem'_eq,Cc h];refine AM ?_;have e:ka0 arr i=arr[i]:=by simp[ka0,EI,h]
 rw[<-e];exact q
noncomputable def BT(lt:Aw->Aw->Ai)(left:Ai)(key x:Aw):Ai:=if left=Aa then lt x key else !lt key x
theorem ax(C:JN M A s κ V lt)(hk:kindOf st=κ)(vk:V key)(h:k<arr.size)(v:V (ka0 arr k))(q:Q (Ab (BT lt left key (ka0 arr k))) st):
  BN M A E s (do let x <-elem' arr k;if left=Aa then lt' x key else do let r <-lt' key x;pure (F8 (λx=>!x) r)) Q st:=by
 refine AC (Fp h ?_);cases left with
 |true=>rw[AB rfl];exact C _ _ _ _ _ hk v vk q
 |false=>rw[AF (by decide)];exact AC (C _ _ _ _ _ hk vk v (AM q))
def M7(B:Ag->Ai)(n k:Ag):Prop:=k<=n/\(∀ i,i<k->B i=Aa)/\∀ i,k<=i->i<n->B i=Ae
theorem Dg{E:Vq}[FE c]{m1 m2:Ev A5 D7 α}{Q:α->A5->Prop}(h1:c->BN M A E s m1 Q st)(h2:¬ c->BN M A E s m2 Q st):BN M A E s (if c then m1 else m2) Q st:=by
 split
 .exact h1 ‹_›
 .exact h2 ‹_›
theorem MF(C:JN M A s κ V lt)(hk:kindOf st=κ)(vk:V key)(hb:base+n<=arr.size)(hv:∀ i,i<n->V (ka0 arr (base+i)))(hh:hint<n)(mono:∀ i j,i<=j->j<n->BT lt left key (ka0 arr (base+j))=Aa->BT lt left key (ka0 arr (base+i))=Aa)(q:∀ k,M7 (λi=>BT lt left key (ka0 arr (base+i))) n k->Q (Ab k) st):BN M A E s (zU left key arr base n hint) Q st:=by
 have up:∀ i j,i<=j->j<n->BT lt left key (ka0 arr (base+i))=Ae->BT lt left key (ka0 arr (base+j))=Ae:=λi j h1 h2 h3=>by
  cases e:BT lt left key (ka0 arr (base+j)) with
  |false=>rfl
  |true=>rw[mono i j h1 h2 e]at h3;cases h3
 have ask:∀(i:Ag)(Q:Ar Ai->A5->Prop),i<n->Q (Ab (BT lt left key (ka0 arr (base+i)))) st->BN M A E s (do let x <-elem' arr (base+i);if left=Aa then lt' x key else do let r <-lt' key x;pure (F8 (λx=>!x) r)) Q st:=λi Q h q=>ax C hk vk (by lia) (hv i h) q
 refine AC (ask hint _ hh ?_);dsimp only;by_cases hB:BT lt left key (ka0 arr (base+hint))=Aa
 .rw[AB hB];refine AC (DL (Q:=λb Z8=>st=Z8/\∃ l h,l<=h/\h<=n/\(∀ i,i<l->BT lt left key (ka0 arr (base+i))=Aa)/\(∀ i,h<=i->i<n->BT lt left key (ka0 arr (base+i))=Ae)/\b.1=Af/\l=hint+b.2.1+1/\h=hint+min b.2.2 (n-hint)) (Cz (λi b Z8=>st=Z8/\b.1=Af/\b.2.1<b.2.2/\i+1<=b.2.2/\hint+b.2.1<n/\BT lt left key (ka0 arr (base+(hint+b.2.1)))=Aa) (λi b Z8 _ hi hI=>?_) (λb Z8 hI=>?_) ⟨rfl,rfl,by decide,by decide,hh,hB⟩) λb Z8 hP=>?_)
  .obtain⟨rfl,b1,b2,b3,b4,b5⟩:=hI;obtain⟨r,l,o⟩:=b;dsimp only at b1 b2 b3 b4 b5 ⊢;subst b1;refine Dg (λho=>?_) λho=>?_
   .exact AM ⟨rfl,hint+l+1,hint+min o (n-hint),by lia,by lia,λi yp=>mono i (hint+l) (by lia) b4 b5,λi h1 h2=>by lia,rfl,rfl,rfl⟩
   .refine AC (ask (hint+o) _ (by lia) ?_)
    dsimp only;cases e:BT lt left key (ka0 arr (base+(hint+o))) with
    |false=>exact AM ⟨rfl,hint+l+1,hint+min o (n-hint),by lia,by lia,λi yp=>mono i (hint+l) (by lia) b4 b5,λi h1 h2=>up (hint+o) i (by lia) h2 e,rfl,rfl,rfl⟩
    |true=>exact AM ⟨rfl,rfl,by show o<2*o+1;lia,by show i+1+1<=2*o+1;lia,by show hint+o<n;lia,e⟩
  .obtain⟨rfl,b1,b2,b3,b4,b5⟩:=hI;rw[EM]at b3;exact⟨rfl,hint+b.2.1+1,hint+min b.2.2 (n-hint),by lia,by lia,λi yp=>mono i (hint+b.2.1) (by lia) b4 b5,λi h1 h2=>by lia,b1,rfl,rfl⟩
  obtain⟨rfl,l,h,c1,c2,c3,c4,b1,rfl,rfl⟩:=hP;rw[b1];dsimp only;generalize hint+b.2.1+1=l at *;generalize hint+min b.2.2 (n-hint)=h at *;refine AC (DL (Q:=λb Z8=>st=Z8/\b.1=Af/\M7 (λi=>BT lt left key (ka0 arr (base+i))) n b.2.2) (Cz (λi b Z8=>st=Z8/\b.1=Af/\b.2.1<=b.2.2/\b.2.2<=n/\b.2.2-b.2.1<=n-i/\(∀ i,i<b.2.1->BT lt left key (ka0 arr (base+i))=Aa)/\(∀ i,b.2.2<=i->i<n->BT lt left key (ka0 arr (base+i))=Ae)) (λi b Z8 _ hi hI=>?_) (λb Z8 hI=>?_) ⟨rfl,rfl,c1,c2,by show h-l<=n-0;lia,c3,c4⟩) λb Z8 hP=>?_)
  .obtain⟨rfl,b1,b2,b3,b4,b5,b6⟩:=hI;obtain⟨r,l,h⟩:=b;dsimp only at b1 b2 b3 b4 b5 b6 ⊢;subst b1;refine Dg (λho=>?_) λho=>?_
   .exact AM ⟨rfl,rfl,b3,λi yp=>b5 i (by show i<l;have:i<h:=yp;lia),b6⟩
   .refine AC (ask (l+(h-l)/2) _ (by lia) ?_)
    dsimp only;cases e:BT lt left key (ka0 arr (base+(l+(h-l)/2))) with
    |false=>
     rw[AF (by decide)]
     exact AM ⟨rfl,rfl,by show l<=l+(h-l)/2;lia,by show l+(h-l)/2<=n;lia,by show l+(h-l)/2-l<=n-(i+1);lia,b5,λi h1 h2=>up (l+(h-l)/2) i h1 h2 e⟩
    |true=>
     rw[AB rfl];exact AM ⟨rfl,rfl,by show l+(h-l)/2+1<=h;lia,b3,by show h-(l+(h-l)/2+1)<=n-(i+1);lia,λi yp=>mono i (l+(h-l)/2) (by have:i<l+(h-l)/2+1:=yp;lia) (by lia) e,b6⟩
  .obtain⟨rfl,b1,b2,b3,b4,b5,b6⟩:=hI;rw[EM]at b4;exact⟨rfl,b1,b3,λi yp=>b5 i (by lia),b6⟩
  obtain⟨rfl,b1,b2⟩:=hP;rw[b1];exact AM (q _ b2)
 .have hB':BT lt left key (ka0 arr (base+hint))=Ae:=by cases e:BT lt left key (ka0 arr (base+hint)) with|false=>rfl|true=>exact absurd e hB
  rw[AF hB];refine AC (DL (Q:=λb Z8=>st=Z8/\∃ l h,l<=h/\h<=n/\(∀ i,i<l->BT lt left key (ka0 arr (base+i))=Aa)/\(∀ i,h<=i->i<n->BT lt left key (ka0 arr (base+i))=Ae)/\b.1=Af/\l=hint+1-min b.2.2 (hint+1)/\h=hint-b.2.1) (Cz (λi b Z8=>st=Z8/\b.1=Af/\b.2.1<b.2.2/\i+1<=b.2.2/\b.2.1<=hint/\BT lt left key (ka0 arr (base+(hint-b.2.1)))=Ae) (λi b Z8 _ hi hI=>?_) (λb Z8 hI=>?_) ⟨rfl,rfl,by decide,by decide,Ds _,hB'⟩) λb Z8 hP=>?_)
  .obtain⟨rfl,b1,b2,b3,b4,b5⟩:=hI;obtain⟨r,l,o⟩:=b;dsimp only at b1 b2 b3 b4 b5 ⊢;subst b1;refine Dg (λho=>?_) λho=>?_
   .exact AM ⟨rfl,hint+1-min o (hint+1),hint-l,by lia,by lia,λi yp=>by lia,λi h1 h2=>up (hint-l) i h1 h2 b5,rfl,rfl,rfl⟩
   .refine AC (ask (hint-o) _ (by lia) ?_)
    dsimp only;cases e:BT lt left key (ka0 arr (base+(hint-o))) with
    |true=>
     rw[AB rfl];exact AM ⟨rfl,hint+1-min o (hint+1),hint-l,by lia,by lia,λi yp=>mono i (hint-o) (by lia) (by lia) e,λi h1 h2=>up (hint-l) i h1 h2 b5,rfl,rfl,rfl⟩
    |false=>
     rw[AF (by decide)]
     exact AM ⟨rfl,rfl,by show o<2*o+1;lia,by show i+1+1<=2*o+1;lia,by show o<=hint;lia,e⟩
  .obtain⟨rfl,b1,b2,b3,b4,b5⟩:=hI;rw[EM]at b3;exact⟨rfl,hint+1-min b.2.2 (hint+1),hint-b.2.1,by lia,by lia,λi yp=>by lia,λi h1 h2=>up (hint-b.2.1) i h1 h2 b5,b1,rfl,rfl⟩
  obtain⟨rfl,l,h,c1,c2,c3,c4,b1,rfl,rfl⟩:=hP;rw[b1];dsimp only;generalize hint+1-min b.2.2 (hint+1)=l at *;generalize hint-b.2.1=h at *;refine AC (DL (Q:=λb Z8=>st=Z8/\b.1=Af/\M7 (λi=>BT lt left key (ka0 arr (base+i))) n b.2.2) (Cz (λi b Z8=>st=Z8/\b.1=Af/\b.2.1<=b.2.2/\b.2.2<=n/\b.2.2-b.2.1<=n-i/\(∀ i,i<b.2.1->BT lt left key (ka0 arr (base+i))=Aa)/\(∀ i,b.2.2<=i->i<n->BT lt left key (ka0 arr (base+i))=Ae)) (λi b Z8 _ hi hI=>?_) (λb Z8 hI=>?_) ⟨rfl,rfl,c1,c2,by show h-l<=n-0;lia,c3,c4⟩) λb Z8 hP=>?_)
  .obtain⟨rfl,b1,b2,b3,b4,b5,b6⟩:=hI;obtain⟨r,l,h⟩:=b;dsimp only at b1 b2 b3 b4 b5 b6 ⊢;subst b1;refine Dg (λho=>?_) λho=>?_
   .exact AM ⟨rfl,rfl,b3,λi yp=>b5 i (by show i<l;have:i<h:=yp;lia),b6⟩
   .refine AC (ask (l+(h-l)/2) _ (by lia) ?_)
    dsimp only;cases e:BT lt left key (ka0 arr (base+(l+(h-l)/2))) with
    |false=>
     rw[AF (by decide)]
     exact AM ⟨rfl,rfl,by show l<=l+(h-l)/2;lia,by show l+(h-l)/2<=n;lia,by show l+(h-l)/2-l<=n-(i+1);lia,b5,λi h1 h2=>up (l+(h-l)/2) i h1 h2 e⟩
    |true=>
     rw[AB rfl];exact AM ⟨rfl,rfl,by show l+(h-l)/2+1<=h;lia,b3,by show h-(l+(h-l)/2+1)<=n-(i+1);lia,λi yp=>mono i (l+(h-l)/2) (by have:i<l+(h-l)/2+1:=yp;lia) (by lia) e,b6⟩
  .obtain⟨rfl,b1,b2,b3,b4,b5,b6⟩:=hI;rw[EM]at b4;exact⟨rfl,b1,b3,λi yp=>b5 i (by lia),b6⟩
  obtain⟨rfl,b1,b2⟩:=hP;rw[b1];exact AM (q _ b2)
end
def leK(lt:Aw->Aw->Ai)(x y:Aw):Prop:=lt y x=Ae
structure MI (lt:Aw->Aw->Ai) (T out A B:Ac Aw):Prop where
 pm:(out++(A++B)).Perm T
 sa:(out++A).Pairwise (leK lt)
 sb:(out++B).Pairwise (leK lt)
def y9(lt:Aw->Aw->Ai)(T r:Ac Aw):Prop:=r.Perm T/\r.Pairwise (leK lt)
theorem MI.mvA(O:My V lt)(hv:∀ x∈T,V x)(h:MI lt T out (A1++A2) (y::B'))(hy:∀ x∈A1,leK lt x y):MI lt T (out++A1) A2 (y::B'):=by
 have vm:∀ x,x∈out++((A1++A2)++(y::B'))->V x:=λx hx=>hv x (h.pm.mem_iff.mp hx)
 refine⟨by rw[C0,<-C0 A1];exact h.pm,by rw[C0];exact h.sa,?_⟩
 obtain⟨s1,s2,s3⟩:=E9.mp h.sa;obtain⟨t1,t2,t3⟩:=E9.mp h.sb;obtain⟨u1,u2,u3⟩:=E9.mp s2;rw[C0];refine E9.mpr ⟨s1,E9.mpr ⟨u1,t2,λx hx z hz=>?_⟩,λx hx z hz=>?_⟩
 .rcases Ay.mp hz with rfl|hz
  .exact hy x hx
  .exact O.trans (vm x (by simp[hx])) (vm y (by simp)) (vm z (by simp[hz])) (hy x hx) ((Ee.mp t2).1 z hz)
 .rcases FI.mp hz with hz|hz
  .exact s3 x hx z (HA _ hz)
  .exact t3 x hx z hz
theorem MI.swap(h:MI lt T out A B):MI lt T out B A:=⟨(List.Perm.append_left out List.perm_append_comm).trans h.pm,h.sb,h.sa⟩
theorem MI.mvB(O:My V lt)(hv:∀ x∈T,V x)(h:MI lt T out (x::A') (B1++B2))(hx:∀ y∈B1,leK lt y x):MI lt T (out++B1) (x::A') B2:=(h.swap.mvA O hv hx).swap
theorem MI.endB(h:MI lt T out A []):y9 lt T (out++A):=⟨by have:=h.pm;rwa [Cr]at this,h.sa⟩
theorem MI.endA(h:MI lt T out [] B):y9 lt T (out++B):=h.swap.endB
theorem MI.end1(O:My V lt)(hv:∀ x∈T,V x)(h:MI lt T out [x] B)(hx:∀ y∈B,leK lt y x):y9 lt T (out++B++[x]):=by
 have h':MI lt T out [x] (B++[]):=by rw[Cr];exact h
 exact(h'.mvB O hv hx).endB
theorem MR{E:Vq}(q:Q ⟨⟩ st):BN M A E s (liftM (rule r):Ev A5 D7 JR) Q st:=by
 unfold BN;show Az M A ((StateT.lift (rule r):Ev A5 D7 JR).run st) _ E s;rw[StateT.run_lift];exact Ah (Fh (Au ⟨rfl,q⟩))
def GR(κ:Fl)(st Z8:A5):Prop:=kindOf Z8=κ/\AD Z8=AD st/\BM Z8=BM st/\EH Z8=EH st
theorem IP(h:i<a.size):a.toList.drop i=ka0 a i::a.toList.drop (i+1):=by
 have e:ka0 a i=a[i]:=by simp[ka0,EI,h]
 rw[e,<-Dv];exact CJ (by rw[AQ];exact h)
theorem MQ(a:Ax Aw)(i:Ag):(a.extract i a.size).toList=a.toList.drop i:=by
 rw[DU,Dd,FO];rw[F5,AQ];exact AE _
theorem Uq(a:Ax Aw)(i k:Ag):(a.extract i (i+k)).toList=(a.toList.drop i).take k:=by
 rw[DU,Dd]
 congr 1
 lia
section
variable{E:Vq}
theorem Zh{f:JR->Ax Aw->Ag->Ev A5 D7 α}{H:Ax Aw->Ag->Prop}{m:Ev A5 D7 α}{Q:α->A5->Prop}(J_:∀ o n,H o n->BN M A E s (f ⟨⟩ o n) Q st)(main:(∀ o n,H o n->BN M A E s (f ⟨⟩ o n) Q st)->BN M A E s m Q st):BN M A E s m Q st:=main J_
theorem JE[FE c]{m1 m2:Ev A5 D7 α}{Q:α->A5->Prop}(h1:BN M A E s m1 Q st)(h2:BN M A E s m2 Q st):BN M A E s (if c then m1 else m2) Q st:=by
 split<;>assumption
theorem Xm[FE c]{f:Ag->Ev A5 D7 α}{Q:α->A5->Prop}(h:∀ x,BN M A E s (f x) Q st):BN M A E s (if c then f u else f v) Q st:=JE (h _) (h _)
structure LI (lt:Aw->Aw->Ai) (a b:Ax Aw) (out:Ax Aw) (ia ib:Ag):Prop where
 la:ia+1<a.size
 lb:ib<b.size
 mi:MI lt (a.toList++b.toList) out.toList (a.toList.drop ia) (b.toList.drop ib)
 sz:out.size=ia+ib
structure ñ (V:Aw->Prop) (lt:Aw->Aw->Ai) (a b:Ax Aw):Prop where
 va:∀ x∈a.toList,V x
 vb:∀ x∈b.toList,V x
 sa:a.toList.Pairwise (leK lt)
 sb:b.toList.Pairwise (leK lt)
 pa:0<a.size
 pb:0<b.size
 fst:∀ x∈a.toList,leK lt (ka0 b 0) x
 lsP:∀ y∈b.toList,leK lt y (ka0 a (a.size-1))
variable{out:Ax Aw}
theorem ñ.v(P:ñ V lt a b):∀ x∈a.toList++b.toList,V x:=λx hx=>(FI.mp hx).elim (P.va x) (P.vb x)
theorem Ϝ(h:i<a.size):ka0 a i∈a.toList:=by
 have e:ka0 a i=a[i]:=by simp[ka0,EI,h]
 rw[e];exact Array.mem_toList_iff.mpr (Array.getElem_mem h)
theorem ZT(h:a.toList.Pairwise (leK lt))(Ď:i<j)(hj:j<a.size):leK lt (ka0 a i) (ka0 a j):=by
 have e1:ka0 a i=a[i]:=by simp[ka0,EI,HE Ď hj]
 have e2:ka0 a j=a[j]:=by simp[ka0,EI,hj]
 rw[e1,e2,<-Dv,<-Dv];exact(De.mp h) i j _ _ Ď
theorem LI.pushB(O:My V lt)(P:ñ V lt a b)(h:LI lt a b out ia ib)(hc:leK lt (ka0 b ib) (ka0 a ia)):MI lt (a.toList++b.toList) (out.push (ka0 b ib)).toList (a.toList.drop ia) (b.toList.drop (ib+1)):=by
 have m:=h.mi;have e:=IP (a:=a) (i:=ia) (by have:=h.la;lia)
 rw[IP h.lb]at m;rw[EA];rw[e]at m ⊢;exact m.mvB (B1:=[ka0 b ib]) O P.v (λy hy=>by rw[Bc.mp hy];exact hc)
theorem LI.pushA(O:My V lt)(P:ñ V lt a b)(h:LI lt a b out ia ib)(hc:leK lt (ka0 a ia) (ka0 b ib)):MI lt (a.toList++b.toList) (out.push (ka0 a ia)).toList (a.toList.drop (ia+1)) (b.toList.drop ib):=by
 have m:=h.mi;have e:=IP h.lb;rw[IP (a:=a) (i:=ia) (by have:=h.la;lia)]at m
 rw[EA];rw[e]at m ⊢;exact m.mvA (A1:=[ka0 a ia]) O P.v (λy hy=>by rw[Bc.mp hy];exact hc)
theorem MI.pB(O:My V lt)(P:ñ V lt a b)(m:MI lt (a.toList++b.toList) out.toList (a.toList.drop ja) (b.toList.drop jb))(ha:ja<a.size)(hb:jb<b.size)(hc:leK lt (ka0 b jb) (ka0 a ja)):MI lt (a.toList++b.toList) (out.push (ka0 b jb)).toList (a.toList.drop ja) (b.toList.drop (jb+1)):=by
 have e:=IP ha;rw[IP hb]at m;rw[EA];rw[e]at m ⊢;exact m.mvB (B1:=[ka0 b jb]) O P.v (λy hy=>by rw[Bc.mp hy];exact hc)
theorem MI.pA(O:My V lt)(P:ñ V lt a b)(m:MI lt (a.toList++b.toList) out.toList (a.toList.drop ja) (b.toList.drop jb))(ha:ja<a.size)(hb:jb<b.size)(hc:leK lt (ka0 a ja) (ka0 b jb)):MI lt (a.toList++b.toList) (out.push (ka0 a ja)).toList (a.toList.drop (ja+1)) (b.toList.drop jb):=by
 have e:=IP hb;rw[IP ha]at m;rw[EA];rw[e]at m ⊢;exact m.mvA (A1:=[ka0 a ja]) O P.v (λy hy=>by rw[Bc.mp hy];exact hc)
theorem Yz(o a:Ax Aw)(h:j+k<=a.size):(o++a.extract j (j+k)).size=o.size+k:=by
 rw[Z_1,FD]
 lia
theorem Pa(h:x∈(a.toList.drop j).take k):∃ i,i<k/\j+i<a.size/\x=ka0 a (j+i):=by
 obtain⟨i,hi,rfl⟩:=Ft h;rw[EG,F5,AQ]at hi;refine⟨i,by omega,by omega,?_⟩
 rw[List.getElem_take,List.getElem_drop,Dv];simp[ka0,EI,show j+i<a.size by omega]
theorem MI.chA(O:My V lt)(P:ñ V lt a b)(m:MI lt (a.toList++b.toList) out.toList (a.toList.drop ja) (b.toList.drop jb))(hb:jb<b.size)(hc:∀ i,i<k->ja+i<a.size->leK lt (ka0 a (ja+i)) (ka0 b jb)):MI lt (a.toList++b.toList) (out++a.extract ja (ja+k)).toList (a.toList.drop (ja+k)) (b.toList.drop jb):=by
 rw[BA,Uq];have e:=IP hb;rw[e]at m ⊢;rw[show a.toList.drop (ja+k)=(a.toList.drop ja).drop k from (Ih ..).symm]
 refine MI.mvA O P.v (by rw[CT];exact m) λx hx=>?_
 obtain⟨i,h1,h2,rfl⟩:=Pa hx;exact hc i h1 h2
theorem MI.chB(O:My V lt)(P:ñ V lt a b)(m:MI lt (a.toList++b.toList) out.toList (a.toList.drop ja) (b.toList.drop jb))(ha:ja<a.size)(hc:∀ i,i<k->jb+i<b.size->leK lt (ka0 b (jb+i)) (ka0 a ja)):MI lt (a.toList++b.toList) (out++b.extract jb (jb+k)).toList (a.toList.drop ja) (b.toList.drop (jb+k)):=by
 rw[BA,Uq];have e:=IP ha;rw[e]at m ⊢;rw[show b.toList.drop (jb+k)=(b.toList.drop jb).drop k from (Ih ..).symm]
 refine MI.mvB O P.v (by rw[CT];exact m) λx hx=>?_
 obtain⟨i,h1,h2,rfl⟩:=Pa hx;exact hc i h1 h2
theorem Yu(O:My V lt)(va:∀ x∈a.toList,V x)(sa:a.toList.Pairwise (leK lt))(vk:V key)(i k:Ag)(h:i<=k)(hk:j+k<a.size)(hb:BT lt Ae key (ka0 a (j+k))=Aa):BT lt Ae key (ka0 a (j+i))=Aa:=by
 by_cases e:i=k
 .rw[e];exact hb
 .have l:=ZT sa (i:=j+i) (j:=j+k) (by lia) hk
  have yi:lt key (ka0 a (j+k))=Ae:=by simpa [BT] using hb
  have:=O.trans (va _ (Ϝ (by lia))) (va _ (Ϝ hk)) vk l yi
  simpa [BT] using this
theorem Yt(O:My V lt)(va:∀ x∈a.toList,V x)(sa:a.toList.Pairwise (leK lt))(vk:V key)(i k:Ag)(h:i<=k)(hk:j+k<a.size)(hb:BT lt Aa key (ka0 a (j+k))=Aa):BT lt Aa key (ka0 a (j+i))=Aa:=by
 by_cases e:i=k
 .rw[e];exact hb
 .have l:=ZT sa (i:=j+i) (j:=j+k) (by lia) hk
  have yi:lt (ka0 a (j+k)) key=Aa:=by simpa [BT] using hb
  show BT lt Aa key (ka0 a (j+i))=Aa;cases q:lt (ka0 a (j+i)) key with
  |true=>simpa [BT] using q
  |false=>
   have:=O.trans vk (va _ (Ϝ (show j+i<a.size by lia))) (va _ (Ϝ hk)) q l
   rw[this]at yi;cases yi
theorem Us(h:M7 (λi=>BT lt Ae key (ka0 a (j+i))) n k):k<=n/\(∀ i,i<k->leK lt (ka0 a (j+i)) key)/\∀ i,k<=i->i<n->lt key (ka0 a (j+i))=Aa:=⟨h.1,λi hi=>by have:=h.2.1 i hi;simpa [BT,leK] using this,λi h1 h2=>by have:=h.2.2 i h1 h2;simpa [BT,leK] using this⟩
theorem Ur(h:M7 (λi=>BT lt Aa key (ka0 a (j+i))) n k):k<=n/\(∀ i,i<k->lt (ka0 a (j+i)) key=Aa)/\∀ i,k<=i->i<n->leK lt key (ka0 a (j+i)):=⟨h.1,λi hi=>by have:=h.2.1 i hi;simpa [BT,leK] using this,λi h1 h2=>by have:=h.2.2 i h1 h2;simpa [BT,leK] using this⟩
theorem Pe{a b out:Ax Aw}(m:MI lt (a.toList++b.toList) out.toList (a.toList.drop ia) (b.toList.drop b.size)):y9 lt (a.toList++b.toList) (out++a.extract ia a.size++b.extract b.size b.size).toList:=by
 rw[BA,BA,MQ,MQ];have e:b.toList.drop b.size=[]:=Hf (by rw[AQ];exact AE _)
 rw[e]at m ⊢;rw[Cr];exact m.endB
theorem nZ{a b out:Ax Aw}(m:MI lt (a.toList++b.toList) out.toList (a.toList.drop a.size) (b.toList.drop ib)):y9 lt (a.toList++b.toList) (out++a.extract a.size a.size++b.extract ib b.size).toList:=by
 rw[BA,BA,MQ,MQ];have e:a.toList.drop a.size=[]:=Hf (by rw[AQ];exact AE _)
 rw[e]at m ⊢;rw[Cr];exact m.endA
theorem Pd(O:My V lt)(P:ñ V lt a b)(e:ia+1=a.size)(m:MI lt (a.toList++b.toList) out.toList (a.toList.drop ia) (b.toList.drop ib)):y9 lt (a.toList++b.toList) (out++b.extract ib b.size++a.extract ia a.size).toList:=by
 rw[BA,BA,MQ,MQ];have e1:a.toList.drop ia=[ka0 a ia]:=by
  rw[IP (by lia),e,Hf (by rw[AQ];exact AE _)]
 rw[e1]at m ⊢;refine m.end1 O P.v λy hy=>?_
 have:=P.lsP y (List.mem_of_mem_drop hy)
 rwa [show a.size-1=ia by lia]at this
theorem mJ(C:JN M A s κ V lt)(O:My V lt)(P:ñ V lt a b)(hk:kindOf st=κ)(q:∀ r Z8,y9 lt (a.toList++b.toList) r.toList->GR κ st Z8->Q r Z8):BN M A E s (qR a b) Q st:=by
 have Ξ:GR κ st st:=⟨hk,rfl,rfl,rfl⟩;have vA:∀ {i},i<a.size->V (ka0 a i):=λh=>P.va _ (Ϝ h)
 have vB:∀ {i},i<b.size->V (ka0 b i):=λh=>P.vb _ (Ϝ h)
 have m0:MI lt (a.toList++b.toList) (#[ka0 b 0]:Ax Aw).toList (a.toList.drop 0) (b.toList.drop 1):=by
  have e:=IP P.pb;rw[Ii]at e;rw[Ii];refine⟨?_,Ee.mpr ⟨λx hx=>P.fst x hx,P.sa⟩,by have:=P.sb;rw[e]at this;exact this⟩
  have pm:(ka0 b 0::(a.toList++b.toList.drop 1)).Perm (a.toList++(ka0 b 0::b.toList.drop (0+1))):=List.perm_middle.symm;rw[<-e]at pm;exact pm
 refine AC (MR ?_);refine AC (Fp P.pb ?_)
 extract_lets out0 ia0 ib0
 refine Dg (λh1=>?_) λh1=>?_
 .have e1:1=b.size:=by simpa [ib0] using h1
  refine AM (q _ _ ?_ Ξ);show y9 lt _ (#[ka0 b 0]++a.extract 0 a.size++b.extract 1 b.size).toList;rw[e1];rw[e1]at m0;exact Pe m0
 refine Dg (λh2=>?_) λh2=>?_
 .have e2:0+1=a.size:=by simpa [ia0] using h2
  exact AM (q _ _ (Pd O P e2 m0) Ξ)
 have b1:1<b.size:=by
  have n1:¬ 1=b.size:=by simpa [ib0] using h1
  have:=P.pb
  lia
 have a1:0+1<a.size:=by
  have n1:¬ 0+1=a.size:=by simpa [ia0] using h2
  have:=P.pa
  lia
 refine AC (GX ?_)
 extract_lets mg0
 refine AC (DL (Q:=λx Z8=>GR κ st Z8/\∃ r,x.1=Ab r/\y9 lt (a.toList++b.toList) r.toList) (Cz (λi x Z8=>GR κ st Z8/\x.1=Af/\LI lt a b x.2.1 x.2.2.1 x.2.2.2.1/\i+1<=x.2.1.size) (λi x Z8 _ hi hI=>?_) (λx Z8 hI=>?_) ⟨Ξ,rfl,⟨a1,b1,m0,rfl⟩,AE _⟩) λx Z8 hP=>?_)
 .obtain⟨ss,hx,li,hsz⟩:=hI;obtain⟨x1,out,ia,ib,mg⟩:=x;have li:LI lt a b out ia ib:=li;have hsz:i+1<=out.size:=hsz;have ht:0<a.size+b.size:=by lia
  try extract_lets
  refine AC (DL (Q:=λy zi=>GR κ st zi/\((y.1=Af/\LI lt a b y.2.1 y.2.2.1 y.2.2.2.1/\out.size+1<=y.2.1.size)\/∃ r,y.1=Ab r/\y9 lt (a.toList++b.toList) r.toList)) (Cz (λj y zi=>GR κ st zi/\y.1=Af/\LI lt a b y.2.1 y.2.2.1 y.2.2.2.1/\out.size+j<=y.2.1.size) (λj y zi _ hj hJ=>?_) (λy zi hJ=>?_) ⟨ss,rfl,li,AE _⟩) λy zi hP=>?_)
  .obtain⟨xw,hy,l1,k5⟩:=hJ;obtain⟨y1,o,ja,jb,ac,bc⟩:=y;have l1:LI lt a b o ja jb:=l1;have k5:out.size+j<=o.size:=k5;have la:=l1.la;have lb:=l1.lb;have lja:ja<a.size:=by lia
   try extract_lets
   refine AC (Fp lb ?_);refine AC (Fp lja ?_);refine AC (C _ _ _ _ _ xw.1 (vB lb) (vA (by lia)) ?_)
   show BN M A E s (if lt (ka0 b jb) (ka0 a ja)=Aa then _ else _) _ _
   refine Dg (λe=>?_) λe=>?_
   .refine AC (Fp lb ?_);have m:=l1.pushB O P (O.asymm (vB lb) (vA (by lia)) e)
    try extract_lets
    show BN M A E s (if (jb+1==b.size)=Aa then _ else _) _ _
    refine Dg (λhb=>?_) λhb=>?_
    .have e1:jb+1=b.size:=by simpa using hb
     refine AM ⟨xw,.inr ⟨_,rfl,?_⟩⟩;show y9 lt _ (o.push (ka0 b jb)++a.extract ja a.size++b.extract (jb+1) b.size).toList;rw[e1]at m ⊢;exact Pe m
    .have e1:¬ jb+1=b.size:=by simpa using hb
     have À:LI lt a b (o.push (ka0 b jb)) ja (jb+1):=⟨la,by lia,m,by rw[C5,l1.sz];lia⟩
     have sz':(o.push (ka0 b jb)).size=o.size+1:=C5 ..;refine JE ?_ ?_
     .exact AM ⟨xw,.inl ⟨rfl,À,by show out.size+1<=(o.push (ka0 b jb)).size;lia⟩⟩
     .exact AM ⟨xw,rfl,À,by show out.size+(j+1)<=(o.push (ka0 b jb)).size;lia⟩
   .refine AC (Fp lja ?_);have m:=l1.pushA O P (show lt (ka0 b jb) (ka0 a ja)=Ae by simpa using e)
    try extract_lets
    show BN M A E s (if (ja+1+1==a.size)=Aa then _ else _) _ _
    refine Dg (λhb=>?_) λhb=>?_
    .have e1:ja+1+1=a.size:=by simpa using hb
     exact AM ⟨xw,.inr ⟨_,rfl,Pd O P e1 m⟩⟩
    .have e1:¬ ja+1+1=a.size:=by simpa using hb
     have À:LI lt a b (o.push (ka0 a ja)) (ja+1) jb:=⟨by lia,lb,m,by rw[C5,l1.sz];lia⟩
     have sz':(o.push (ka0 a ja)).size=o.size+1:=C5 ..;refine JE ?_ ?_
     .exact AM ⟨xw,.inl ⟨rfl,À,by show out.size+1<=(o.push (ka0 a ja)).size;lia⟩⟩
     .exact AM ⟨xw,rfl,À,by show out.size+(j+1)<=(o.push (ka0 a ja)).size;lia⟩
  .obtain⟨xw,hy,l1,k5⟩:=hJ;rw[EM]at k5;exact⟨xw,.inl ⟨hy,l1,by lia⟩⟩
  .obtain⟨xw,hP⟩:=hP;obtain⟨y1,o,ja,jb,ac,bc⟩:=y;rcases hP with ⟨hy,l1,k5⟩|⟨r,hy,sp⟩
   .have hy:y1=Af:=hy;have l1:LI lt a b o ja jb:=l1;have k5:out.size+1<=o.size:=k5;subst hy
    try extract_lets
    refine AC (MR ?_)
    extract_lets mg1
    refine AC (DL (Q:=λy J0=>GR κ st J0/\((y.1=Af/\LI lt a b y.2.1 y.2.2.1 y.2.2.2.1/\out.size+1<=y.2.1.size)\/∃ r,y.1=Ab r/\y9 lt (a.toList++b.toList) r.toList)) (Cz (λj y J0=>GR κ st J0/\y.1=Af/\LI lt a b y.2.1 y.2.2.1 y.2.2.2.1/\out.size+1<=y.2.1.size) (λj y J0 _ hj hJ=>?_) (λy J0 hJ=>⟨hJ.1,.inl hJ.2⟩) ⟨xw,rfl,l1,k5⟩) λy J0 hP=>?_)
    .obtain⟨xz,hy,l2,y6⟩:=hJ;obtain⟨y1,o,ja,jb,mg2,ac,bc⟩:=y;have l2:LI lt a b o ja jb:=l2;have y6:out.size+1<=o.size:=y6;have la:=l2.la;have lb:=l2.lb;have lja:ja<a.size:=by lia
     try extract_lets
     refine Xm λmg3=>?_
     refine AC (Fc ?_);refine AC (Fp lb ?_);refine AC (MF C xz.1 (vB lb) (show ja+(a.size-ja)<=a.size by lia) (λi hi=>vA (by lia)) (show 0<a.size-ja by lia) (λi k h1 h2 h3=>Yu O P.va P.sa (vB lb) i k h1 (by lia) h3) λk hk=>?_)
     obtain⟨k1,k2,k3⟩:=Us hk;have k1:k<=a.size-ja:=k1;have k2:∀ i,i<k->leK lt (ka0 a (ja+i)) (ka0 b jb):=k2;have k3:∀ i,k<=i->i<a.size-ja->lt (ka0 b jb) (ka0 a (ja+i))=Aa:=k3;have sz2:=l2.sz;dsimp -zeta only
     extract_lets ack jp
     refine Zh (f:=jp) (H:=λo' û=>û+1<a.size/\lt (ka0 b jb) (ka0 a û)=Aa/\MI lt (a.toList++b.toList) o'.toList (a.toList.drop û) (b.toList.drop jb)/\out.size+1<=o'.size/\o'.size=û+jb) (λo' û hH=>?_) (λJ_=>?_)
     .obtain⟨g1,g2,g3,g4,g5⟩:=hH;have ϓ:û<a.size:=Nat.lt_of_succ_lt g1;refine AC (Fp lb ?_);have m2:=MI.pB O P g3 ϓ lb (O.asymm (vB lb) (vA ϓ) g2);have z2:(o'.push (ka0 b jb)).size=o'.size+1:=C5 ..
      try extract_lets
      show BN M A E s (if (jb+1==b.size)=Aa then _ else _) _ _
      refine Dg (λc3=>?_) λc3=>?_
      .have e3:jb+1=b.size:=by simpa using c3
       refine AM ⟨xz,.inr ⟨_,rfl,?_⟩⟩;show y9 lt _ ((o'.push (ka0 b jb))++a.extract û a.size++b.extract (jb+1) b.size).toList;rw[e3]at m2 ⊢;exact Pe m2
      have lb2:jb+1<b.size:=C8 lb (by simpa using c3)
      clear c3 k1 k2 k3
      refine AC (Fp ϓ ?_);refine AC (MF C xz.1 (vA ϓ) (show jb+1+(b.size-(jb+1))<=b.size by lia) (λi hi=>vB (by lia)) (show 0<b.size-(jb+1) by lia) (λi k h1 h2 h3=>Yt O P.vb P.sb (vA ϓ) i k h1 (by lia) h3) λkk hkk=>?_)
      obtain⟨q1,q2,q3⟩:=Ur hkk;have q1:kk<=b.size-(jb+1):=q1;have q2:∀ i,i<kk->lt (ka0 b (jb+1+i)) (ka0 a û)=Aa:=q2;have q3:∀ i,kk<=i->i<b.size-(jb+1)->leK lt (ka0 a û) (ka0 b (jb+1+i)):=q3;dsimp -zeta only
      extract_lets bck jp'
      refine Zh (f:=jp') (H:=λo4 Ů=>Ů<b.size/\leK lt (ka0 a û) (ka0 b Ů)/\MI lt (a.toList++b.toList) o4.toList (a.toList.drop û) (b.toList.drop Ů)/\out.size+1<=o4.size/\o4.size=û+Ů) (λo4 Ů hH=>?_) (λJ_=>?_)
      .obtain⟨j1,j2,j3,j4,j5⟩:=hH;refine AC (Fp ϓ ?_);have m4:=MI.pA O P j3 ϓ j1 j2;have z4:(o4.push (ka0 a û)).size=o4.size+1:=C5 ..
       try extract_lets
       show BN M A E s (if (û+1+1==a.size)=Aa then _ else _) _ _
       refine Dg (λd1=>?_) λd1=>?_
       .exact AM ⟨xz,.inr ⟨_,rfl,Pd O P (by simpa using d1) m4⟩⟩
       .have l4:LI lt a b (o4.push (ka0 a û)) (û+1) Ů:=⟨C8 g1 (by simpa using d1),j1,m4,by rw[z4,j5,Nat.add_right_comm]⟩
        have h4:out.size+1<=(o4.push (ka0 a û)).size:=by rw[z4];exact Nat.le_succ_of_le j4
        refine JE ?_ ?_
        .exact AM ⟨xz,.inl ⟨rfl,l4,h4⟩⟩
        .exact AM ⟨xz,rfl,l4,h4⟩
      .show BN M A E s (if kk>0 then _ else _) _ _
       have ώ:jb+1+kk<=b.size:=by lia
       refine Dg (λĽ=>?_) λĽ=>?_
       .have m3:=MI.chB O P (k:=kk) m2 ϓ λi hi h'=>O.asymm (vB h') (vA ϓ) (q2 i hi)
        have z3:=Yz (o'.push (ka0 b jb)) b ώ
        try extract_lets
        show BN M A E s (if (jb+1+kk==b.size)=Aa then _ else _) _ _
        refine Dg (λc4=>?_) λc4=>?_
        .have e4:jb+1+kk=b.size:=by simpa using c4
         refine AM ⟨xz,.inr ⟨_,rfl,?_⟩⟩;show y9 lt _ ((o'.push (ka0 b jb))++b.extract (jb+1) (jb+1+kk)++a.extract û a.size++b.extract (jb+1+kk) b.size).toList;rw[e4]at m3 ⊢;exact Pe m3
        have lb3:jb+1+kk<b.size:=C8 ώ (by simpa using c4)
        clear c4
        exact J_ _ (jb+1+kk) ⟨lb3,q3 kk (AE _) (by lia),m3,by rw[z3,z2];lia,by rw[z3,z2,g5];lia⟩
       .have Ľ:kk=0:=by lia
        subst Ľ;exact J_ _ (jb+1) ⟨lb2,q3 0 (AE _) (by lia),m2,by rw[z2];lia,by rw[z2,g5];lia⟩
     .show BN M A E s (if k>0 then _ else _) _ _
      refine Dg (λļ=>?_) λļ=>?_
      .have m1:=l2.mi.chA O P (k:=k) lb λi hi _=>k2 i hi
       have ώ:ja+k<=a.size:=by lia
       have z1:=Yz o a ώ
       try extract_lets
       show BN M A E s (if (ja+k+1==a.size)=Aa then _ else if (ja+k==a.size)=Aa then _ else _) _ _
       refine Dg (λc1=>?_) λc1=>?_
       .exact AM ⟨xz,.inr ⟨_,rfl,Pd O P (by simpa using c1) m1⟩⟩
       refine Dg (λc2=>?_) λc2=>?_
       .have e2:ja+k=a.size:=by simpa using c2
        refine AM ⟨xz,.inr ⟨_,rfl,?_⟩⟩;show y9 lt _ (o++a.extract ja (ja+k)++a.extract (ja+k) a.size++b.extract jb b.size).toList;rw[e2]at m1 ⊢;exact nZ m1
       have c2:ja+k<a.size:=C8 ώ (by simpa using c2)
       have c1:ja+k+1<a.size:=C8 c2 (by simpa using c1)
       exact J_ _ (ja+k) ⟨c1,k3 k (AE _) (by lia),m1,by rw[z1];lia,by rw[z1,sz2];lia⟩
      .have ļ:k=0:=by lia
       subst ļ;exact J_ _ ja ⟨la,k3 0 (AE _) (by lia),l2.mi,y6,sz2⟩
    .obtain⟨xz,hP⟩:=hP;obtain⟨y1,o,ja,jb,mg2,ac,bc⟩:=y;rcases hP with ⟨hy,l2,y6⟩|⟨r,hy,sp⟩
     .have hy:y1=Af:=hy;subst hy;refine AC (Fc ?_);exact AM ⟨xz,rfl,l2,by have:out.size+1<=o.size:=y6;show i+1+1<=o.size;lia⟩
     .have hy:y1=Ab r:=hy;subst hy;exact AM ⟨xz,r,rfl,sp⟩
   .have hy:y1=Ab r:=hy;subst hy;exact AM ⟨xw,r,rfl,sp⟩
 .obtain⟨_,_,h,h3⟩:=hI
  exfalso
  have:=h.sz;have:=h.la;have:=h.lb;rw[EM]at h3
  lia
 .obtain⟨ss,r,e,sp⟩:=hP;obtain⟨x1,x2⟩:=x;have e:x1=Ab r:=e;subst e;exact AM (q _ _ sp ss)
end
section
variable{E:Vq}
theorem Zi{f:JR->Ag->Ax Aw->Ev A5 D7 α}{H:Ag->Ax Aw->Prop}{m:Ev A5 D7 α}{Q:α->A5->Prop}(J_:∀ n o,H n o->BN M A E s (f ⟨⟩ n o) Q st)(main:(∀ n o,H n o->BN M A E s (f ⟨⟩ n o) Q st)->BN M A E s m Q st):BN M A E s m Q st:=main J_
noncomputable def flp(lt:Aw->Aw->Ai)(x y:Aw):Ai:=lt y x
theorem My.flp(O:My V lt):My V (flp lt):=⟨λhx hy h=>O.asymm hy hx h,λhx hy hz h1 h2=>O.trans hz hy hx h2 h1⟩
def MH(lt:Aw->Aw->Ai)(T out A B:Ac Aw):Prop:=MI (flp lt) T out A.reverse B.reverse
theorem y9.rev(h:y9 (flp lt) T r):y9 lt T r.reverse:=⟨(Je r).trans h.1,Ht.mpr h.2⟩
theorem Lo(h:i<a.size):(a.toList.take (i+1)).reverse=ka0 a i::(a.toList.take i).reverse:=by
 have e:ka0 a i=a[i]:=by simp[ka0,EI,h]
 rw[e,<-Dv,bH (by rw[AQ];exact h),DZ]
 rfl
theorem Nh(a:Ax Aw)(k:Ag):(a.extract 0 k).toList=a.toList.take k:=by
 rw[DU,Dd,Ii];rfl
theorem XE(a:Ax Aw)(h:j<=n):(a.toList.take n).reverse=((a.extract j n).reverse).toList++(a.toList.take j).reverse:=by
 rw[E6,DU,Dd,<-DZ]
 congr 1
 conv=>lhs;rw[show n=j+(n-j) by lia,List.take_add]
theorem XZ(hn:n<=a.size)(h:x∈(a.extract j n).reverse.toList):∃ i,j<=i/\i<n/\x=ka0 a i:=by
 rw[E6,List.mem_reverse,DU,Dd]at h;obtain⟨i,h1,h2,rfl⟩:=Pa h;exact⟨j+i,by lia,by lia,rfl⟩
structure HI (lt:Aw->Aw->Ai) (a b:Ax Aw) (out:Ax Aw) (na nb:Ag):Prop where
 la:0<na
 la':na<=a.size
 lb:1<nb
 lb':nb<=b.size
 mi:MH lt (a.toList++b.toList) out.toList (a.toList.take na) (b.toList.take nb)
 sz:out.size+na+nb=a.size+b.size
variable{a b out:Ax Aw}
theorem MH.pA(O:My V lt)(P:ñ V lt a b)(m:MH lt (a.toList++b.toList) out.toList (a.toList.take (n+1)) (b.toList.take (k+1)))(ha:n<a.size)(hb:k<b.size)(hc:leK lt (ka0 b k) (ka0 a n)):MH lt (a.toList++b.toList) (out.push (ka0 a n)).toList (a.toList.take n) (b.toList.take (k+1)):=by
 unfold MH at m ⊢;have e:=Lo hb;rw[Lo ha]at m;rw[EA];rw[e]at m ⊢;exact m.mvA (A1:=[ka0 a n]) O.flp P.v (λy hy=>by rw[Bc.mp hy];exact hc)
theorem MH.pB(O:My V lt)(P:ñ V lt a b)(m:MH lt (a.toList++b.toList) out.toList (a.toList.take (n+1)) (b.toList.take (k+1)))(ha:n<a.size)(hb:k<b.size)(hc:leK lt (ka0 a n) (ka0 b k)):MH lt (a.toList++b.toList) (out.push (ka0 b k)).toList (a.toList.take (n+1)) (b.toList.take k):=by
 unfold MH at m ⊢;have e:=Lo ha;rw[Lo hb]at m;rw[EA];rw[e]at m ⊢;exact m.mvB (B1:=[ka0 b k]) O.flp P.v (λy hy=>by rw[Bc.mp hy];exact hc)
theorem MH.chA(O:My V lt)(P:ñ V lt a b)(m:MH lt (a.toList++b.toList) out.toList (a.toList.take n) (b.toList.take (k+1)))(hj:j<=n)(hn:n<=a.size)(hb:k<b.size)(hc:∀ i,j<=i->i<n->leK lt (ka0 b k) (ka0 a i)):MH lt (a.toList++b.toList) (out++(a.extract j n).reverse).toList (a.toList.take j) (b.toList.take (k+1)):=by
 unfold MH at m ⊢;rw[BA];rw[XE a hj]at m;rw[Lo hb]at m ⊢;refine m.mvA O.flp P.v λx hx=>?_
 obtain⟨i,h1,h2,rfl⟩:=XZ hn hx;exact hc i h1 h2
theorem MH.chB(O:My V lt)(P:ñ V lt a b)(m:MH lt (a.toList++b.toList) out.toList (a.toList.take (k+1)) (b.toList.take n))(hj:j<=n)(hn:n<=b.size)(ha:k<a.size)(hc:∀ i,j<=i->i<n->leK lt (ka0 a k) (ka0 b i)):MH lt (a.toList++b.toList) (out++(b.extract j n).reverse).toList (a.toList.take (k+1)) (b.toList.take j):=by
 unfold MH at m ⊢;rw[BA];rw[XE b hj]at m;rw[Lo ha]at m ⊢;refine m.mvB O.flp P.v λx hx=>?_
 obtain⟨i,h1,h2,rfl⟩:=XZ hn hx;exact hc i h1 h2
theorem PB(m:MH lt (a.toList++b.toList) out.toList (a.toList.take 0) (b.toList.take n)):y9 lt (a.toList++b.toList) (a.extract 0 0++b.extract 0 n++out.reverse).toList:=by
 rw[BA,BA,Nh,Nh,E6];unfold MH at m;rw[Kk]at m ⊢;have:=(m.endA).rev
 rwa [DZ,F6]at this
theorem pj(m:MH lt (a.toList++b.toList) out.toList (a.toList.take n) (b.toList.take 0)):y9 lt (a.toList++b.toList) (a.extract 0 n++b.extract 0 0++out.reverse).toList:=by
 rw[BA,BA,Nh,Nh,E6];unfold MH at m;rw[Kk]at m ⊢;have:=(m.endB).rev;rw[DZ,F6]at this
 rwa [Cr]
theorem PC(O:My V lt)(P:ñ V lt a b)(m:MH lt (a.toList++b.toList) out.toList (a.toList.take n) (b.toList.take 1)):y9 lt (a.toList++b.toList) (b.extract 0 1++a.extract 0 n++out.reverse).toList:=by
 rw[BA,BA,Nh,Nh,E6];unfold MH at m;have e:=Lo P.pb;rw[Kk]at e;rw[e]at m;have e':b.toList.take 1=[ka0 b 0]:=by
  have:=congrArg List.reverse e;rw[F6]at this;exact this
 have:=(m.swap.end1 O.flp P.v λy hy=>P.fst y (List.mem_of_mem_take (bD.mp hy))).rev
 rw[DZ,DZ,F6]at this;rw[e',C0];exact this
theorem szr(o a:Ax Aw)(h:j<=n)(hn:n<=a.size):(o++(a.extract j n).reverse).size=o.size+(n-j):=by
 rw[Z_1,Array.size_reverse,FD]
 lia
theorem mK(C:JN M A s κ V lt)(O:My V lt)(P:ñ V lt a b)(hk:kindOf st=κ)(q:∀ r Z8,y9 lt (a.toList++b.toList) r.toList->GR κ st Z8->Q r Z8):BN M A E s (pT a b) Q st:=by
 have Ξ:GR κ st st:=⟨hk,rfl,rfl,rfl⟩;have vA:∀ {i},i<a.size->V (ka0 a i):=λh=>P.va _ (Ϝ h)
 have vB:∀ {i},i<b.size->V (ka0 b i):=λh=>P.vb _ (Ϝ h)
 have hpa:=P.pa;have hpb:=P.pb;have la0:a.size-1<a.size:=by lia
 have m0:MH lt (a.toList++b.toList) (#[ka0 a (a.size-1)]:Ax Aw).toList (a.toList.take (a.size-1)) (b.toList.take b.size):=by
  have e:=Lo la0;rw[show a.size-1+1=a.size by lia,FO (by rw[AQ];exact AE _)]at e
  have e2:b.toList.take b.size=b.toList:=FO (by rw[AQ];exact AE _)
  unfold MH;rw[e2];have sr:a.toList.reverse.Pairwise (leK (flp lt)):=Ht.mpr P.sa;have sb:b.toList.reverse.Pairwise (leK (flp lt)):=Ht.mpr P.sb;rw[e]at sr;refine⟨?_,sr,Ee.mpr ⟨λx hx=>P.lsP x (bD.mp hx),sb⟩⟩
  show (ka0 a (a.size-1)::(bG (a.size-1) a.toList).reverse++b.toList.reverse).Perm _;rw[<-e];exact Jo (Je _) (Je _)
 refine AC (MR ?_)
 extract_lets tot dn fb na0 nb0 ac0
 refine AC (Fp la0 ?_)
 extract_lets out0
 refine Dg (λh1=>?_) λh1=>?_
 .have e1:a.size-1=0:=by simpa [na0] using h1
  refine AM (q _ _ ?_ Ξ);show y9 lt _ (a.extract 0 (a.size-1)++b.extract 0 b.size++(#[ka0 a (a.size-1)]:Ax Aw).reverse).toList;rw[e1]at m0 ⊢;exact PB m0
 refine Dg (λh2=>?_) λh2=>?_
 .have e2:b.size=1:=by simpa [nb0] using h2
  refine AM (q _ _ ?_ Ξ);show y9 lt _ (b.extract 0 b.size++a.extract 0 (a.size-1)++(#[ka0 a (a.size-1)]:Ax Aw).reverse).toList;rw[e2]at m0 ⊢;exact PC O P m0
 have n1:0<a.size-1:=Ef (by simpa [na0] using h1)
 have n2:1<b.size:=C8 hpb (Cy (by simpa [nb0] using h2))
 have hi0:HI lt a b #[ka0 a (a.size-1)] (a.size-1) b.size:=⟨by lia,by lia,by lia,AE _,m0,by show 1+(a.size-1)+b.size=_;lia⟩
 refine AC (GX ?_)
 extract_lets mg0
 refine AC (DL (Q:=λx Z8=>GR κ st Z8/\∃ r,x.1=Ab r/\y9 lt (a.toList++b.toList) r.toList) (Cz (λi x Z8=>GR κ st Z8/\x.1=Af/\HI lt a b x.2.2.2.1 x.2.1 x.2.2.1/\i+1<=x.2.2.2.1.size) (λi x Z8 _ hi hI=>?_) (λx Z8 hI=>?_) ⟨Ξ,rfl,hi0,AE _⟩) λx Z8 hP=>?_)
 .obtain⟨ss,hx,li,hsz⟩:=hI;obtain⟨x1,na,nb,out,mg⟩:=x;have li:HI lt a b out na nb:=li;have hsz:i+1<=out.size:=hsz;have ht:0<a.size+b.size:=by lia
  try extract_lets
  refine AC (DL (Q:=λy zi=>GR κ st zi/\((y.1=Af/\HI lt a b y.2.2.2.1 y.2.1 y.2.2.1/\out.size+1<=y.2.2.2.1.size)\/∃ r,y.1=Ab r/\y9 lt (a.toList++b.toList) r.toList)) (Cz (λj y zi=>GR κ st zi/\y.1=Af/\HI lt a b y.2.2.2.1 y.2.1 y.2.2.1/\out.size+j<=y.2.2.2.1.size) (λj y zi _ hj hJ=>?_) (λy zi hJ=>?_) ⟨ss,rfl,li,AE _⟩) λy zi hP=>?_)
  .obtain⟨xw,hy,l1,k5⟩:=hJ;obtain⟨y1,ja,jb,o,ac,bc⟩:=y;have l1:HI lt a b o ja jb:=l1;have k5:out.size+j<=o.size:=k5;have la:=l1.la;have lb:=l1.lb;obtain⟨n,rfl⟩:∃ n,ja=n+1:=⟨ja-1,by lia⟩
   obtain⟨k,rfl⟩:∃ k,jb=k+1:=⟨jb-1,by lia⟩
   have ln:n<a.size:=l1.la';have lk:k<b.size:=l1.lb';have l1s:=l1.sz
   try extract_lets
   refine AC (Fp lk ?_);refine AC (Fp ln ?_);refine AC (C _ _ _ _ _ xw.1 (vB lk) (vA ln) ?_);show BN M A E s (if lt (ka0 b k) (ka0 a n)=Aa then _ else _) _ _
   refine Dg (λe=>?_) λe=>?_
   .refine AC (Fp ln ?_);have m:=l1.mi.pA O P ln lk (O.asymm (vB lk) (vA ln) e);have sz':(o.push (ka0 a n)).size=o.size+1:=C5 ..
    try extract_lets
    show BN M A E s (if (n==0)=Aa then _ else _) _ _
    refine Dg (λhb=>?_) λhb=>?_
    .have e1:n=0:=by simpa using hb
     refine AM ⟨xw,.inr ⟨_,rfl,?_⟩⟩;show y9 lt _ (a.extract 0 n++b.extract 0 (k+1)++(o.push (ka0 a n)).reverse).toList;generalize o.push (ka0 a n)=o' at m ⊢;rw[e1]at m ⊢;exact PB m
    .have e1:0<n:=Ef (by simpa using hb)
     have À:HI lt a b (o.push (ka0 a n)) n (k+1):=⟨by lia,by lia,lb,lk,m,by lia⟩
     refine JE ?_ ?_
     .exact AM ⟨xw,.inl ⟨rfl,À,by show out.size+1<=(o.push (ka0 a n)).size;lia⟩⟩
     .exact AM ⟨xw,rfl,À,by show out.size+(j+1)<=(o.push (ka0 a n)).size;lia⟩
   .refine AC (Fp lk ?_);have m:=l1.mi.pB O P ln lk (show lt (ka0 b k) (ka0 a n)=Ae by simpa using e)
    have sz':(o.push (ka0 b k)).size=o.size+1:=C5 ..
    try extract_lets
    show BN M A E s (if (k==1)=Aa then _ else _) _ _
    refine Dg (λhb=>?_) λhb=>?_
    .have e1:k=1:=by simpa using hb
     refine AM ⟨xw,.inr ⟨_,rfl,?_⟩⟩;show y9 lt _ (b.extract 0 k++a.extract 0 (n+1)++(o.push (ka0 b k)).reverse).toList;generalize o.push (ka0 b k)=o' at m ⊢;rw[e1]at m ⊢;exact PC O P m
    .have e1:1<k:=C8 (Jf lb) (Cy (by simpa using hb))
     have À:HI lt a b (o.push (ka0 b k)) (n+1) k:=⟨by lia,by lia,by lia,by lia,m,by lia⟩
     refine JE ?_ ?_
     .exact AM ⟨xw,.inl ⟨rfl,À,by show out.size+1<=(o.push (ka0 b k)).size;lia⟩⟩
     .exact AM ⟨xw,rfl,À,by show out.size+(j+1)<=(o.push (ka0 b k)).size;lia⟩
  .obtain⟨xw,hy,l1,k5⟩:=hJ;rw[EM]at k5;exact⟨xw,.inl ⟨hy,l1,by have:out.size+(a.size+b.size)<=_:=k5;lia⟩⟩
  .obtain⟨xw,hP⟩:=hP;obtain⟨y1,ja,jb,o,ac,bc⟩:=y;rcases hP with ⟨hy,l1,k5⟩|⟨r,hy,sp⟩
   .have hy:y1=Af:=hy;have l1:HI lt a b o ja jb:=l1;have k5:out.size+1<=o.size:=k5;subst hy
    try extract_lets
    refine AC (MR ?_)
    extract_lets mg1
    refine AC (DL (Q:=λy J0=>GR κ st J0/\((y.1=Af/\HI lt a b y.2.2.2.1 y.2.1 y.2.2.1/\out.size+1<=y.2.2.2.1.size)\/∃ r,y.1=Ab r/\y9 lt (a.toList++b.toList) r.toList)) (Cz (λj y J0=>GR κ st J0/\y.1=Af/\HI lt a b y.2.2.2.1 y.2.1 y.2.2.1/\out.size+1<=y.2.2.2.1.size) (λj y J0 _ hj hJ=>?_) (λy J0 hJ=>⟨hJ.1,.inl hJ.2⟩) ⟨xw,rfl,l1,k5⟩) λy J0 hP=>?_)
    .obtain⟨xz,hy,l2,y6⟩:=hJ;obtain⟨y1,ja,jb,o,mg2,ac,bc⟩:=y;have l2:HI lt a b o ja jb:=l2;have y6:out.size+1<=o.size:=y6;have la:=l2.la;have lb:=l2.lb;obtain⟨n,rfl⟩:∃ n,ja=n+1:=⟨ja-1,by lia⟩
     obtain⟨k,rfl⟩:∃ k,jb=k+1:=⟨jb-1,by lia⟩
     have ln:n<a.size:=l2.la';have lk:k<b.size:=l2.lb';have l2s:=l2.sz
     try extract_lets
     refine Xm λmg3=>?_
     refine AC (Fc ?_);refine AC (Fp lk ?_);refine AC (MF C xz.1 (vB lk) (show 0+(n+1)<=a.size by lia) (λi hi=>vA (by have:i<n+1:=hi;lia)) (show n<n+1 by lia) (λi k h1 h2 h3=>Yu O P.va P.sa (vB lk) i k h1 (by have:k<n+1:=h2;lia) h3) λc hc=>?_)
     obtain⟨k1,k2,k3⟩:=Us hc;have k1:c<=n+1:=k1;have k2:∀ i,i<c->leK lt (ka0 a i) (ka0 b k):=λi h=>by have:=k2 i h;rwa [GM]at this
     have k3:∀ i,c<=i->i<n+1->lt (ka0 b k) (ka0 a i)=Aa:=λi h h'=>by have:=k3 i h h';rwa [GM]at this
     dsimp -zeta only
     extract_lets kk ack jp
     refine Zi (f:=jp) (H:=λη o'=>0<η/\η<=n+1/\leK lt (ka0 a (η-1)) (ka0 b k)/\MH lt (a.toList++b.toList) o'.toList (a.toList.take η) (b.toList.take (k+1))/\out.size+1<=o'.size/\o'.size+η+(k+1)=a.size+b.size) (λη o' hH=>?_) (λJ_=>?_)
     .obtain⟨g1,g2,g3,g4,g5,g6⟩:=hH;obtain⟨n',rfl⟩:∃ n',η=n'+1:=⟨η-1,by lia⟩
      have g3:leK lt (ka0 a n') (ka0 b k):=g3;have ϔ:n'<a.size:=by lia
      refine AC (Fp lk ?_);have m2:=g4.pB O P ϔ lk g3;have z2:(o'.push (ka0 b k)).size=o'.size+1:=C5 ..
      try extract_lets
      show BN M A E s (if (k==1)=Aa then _ else _) _ _
      refine Dg (λc3=>?_) λc3=>?_
      .have e3:k=1:=by simpa using c3
       refine AM ⟨xz,.inr ⟨_,rfl,?_⟩⟩;show y9 lt _ (b.extract 0 k++a.extract 0 (n'+1)++(o'.push (ka0 b k)).reverse).toList;generalize o'.push (ka0 b k)=o3 at m2 ⊢;rw[e3]at m2 ⊢;exact PC O P m2
      have c3:1<k:=C8 (Jf lb) (Cy (by simpa using c3))
      obtain⟨k',rfl⟩:∃ k',k=k'+1:=⟨k-1,by lia⟩
      have lk':k'<b.size:=by lia
      refine AC (Fp ϔ ?_);refine AC (MF C xz.1 (vA ϔ) (show 0+(k'+1)<=b.size by lia) (λi hi=>vB (by have:i<k'+1:=hi;lia)) (show k'<k'+1 by lia) (λi k h1 h2 h3=>Yt O P.vb P.sb (vA ϔ) i k h1 (by have:k<k'+1:=h2;lia) h3) λc' ú=>?_)
      obtain⟨q1,q2,q3⟩:=Ur ú;have q1:c'<=k'+1:=q1;have q2:∀ i,i<c'->lt (ka0 b i) (ka0 a n')=Aa:=λi h=>by have:=q2 i h;rwa [GM]at this
      have q3:∀ i,c'<=i->i<k'+1->leK lt (ka0 a n') (ka0 b i):=λi h h'=>by have:=q3 i h h';rwa [GM]at this
      dsimp -zeta only
      extract_lets kk' bck jp'
      refine Zi (f:=jp') (H:=λθ o4=>1<θ/\θ<=k'+1/\leK lt (ka0 b (θ-1)) (ka0 a n')/\MH lt (a.toList++b.toList) o4.toList (a.toList.take (n'+1)) (b.toList.take θ)/\out.size+1<=o4.size/\o4.size+(n'+1)+θ=a.size+b.size) (λθ o4 hH=>?_) (λJ_=>?_)
      .obtain⟨j1,j2,j3,j4,j5,j6⟩:=hH;obtain⟨ů,rfl⟩:∃ ů,θ=ů+1:=⟨θ-1,by lia⟩
       have j3:leK lt (ka0 b ů) (ka0 a n'):=j3;refine AC (Fp ϔ ?_);have m4:=j4.pA O P ϔ (show ů<b.size by lia) j3
       have z4:(o4.push (ka0 a n')).size=o4.size+1:=C5 ..
       try extract_lets
       show BN M A E s (if (n'==0)=Aa then _ else _) _ _
       refine Dg (λd1=>?_) λd1=>?_
       .have e1:n'=0:=by simpa using d1
        refine AM ⟨xz,.inr ⟨_,rfl,?_⟩⟩;show y9 lt _ (a.extract 0 n'++b.extract 0 (ů+1)++(o4.push (ka0 a n')).reverse).toList;generalize o4.push (ka0 a n')=o5 at m4 ⊢;rw[e1]at m4 ⊢;exact PB m4
       .have d1:0<n':=Ef (by simpa using d1)
        have l4:HI lt a b (o4.push (ka0 a n')) n' (ů+1):=⟨by lia,by lia,by lia,by lia,m4,by lia⟩
        have h4:out.size+1<=(o4.push (ka0 a n')).size:=by lia
        refine JE ?_ ?_
        .exact AM ⟨xz,.inl ⟨rfl,l4,h4⟩⟩
        .exact AM ⟨xz,rfl,l4,h4⟩
      .show BN M A E s (if k'+1-c'>0 then _ else _) _ _
       refine Dg (λĽ=>?_) λĽ=>?_
       .have m3:=m2.chB O P q1 (show k'+1<=b.size by lia) ϔ λi h1 h2=>q3 i h1 h2
        have z3:=szr (o'.push (ka0 b (k'+1))) b q1 (show k'+1<=b.size by lia)
        try extract_lets
        show BN M A E s (if (c'==1)=Aa then _ else if (c'==0)=Aa then _ else _) _ _
        refine Dg (λd1=>?_) λd1=>?_
        .have e1:c'=1:=by simpa using d1
         refine AM ⟨xz,.inr ⟨_,rfl,?_⟩⟩;show y9 lt _ (b.extract 0 c'++a.extract 0 (n'+1)++((o'.push (ka0 b (k'+1)))++(b.extract c' (k'+1)).reverse).reverse).toList;generalize (o'.push (ka0 b (k'+1)))++(b.extract c' (k'+1)).reverse=o5 at m3 ⊢;rw[e1]at m3 ⊢;exact PC O P m3
        refine Dg (λd2=>?_) λd2=>?_
        .have e1:c'=0:=by simpa using d2
         refine AM ⟨xz,.inr ⟨_,rfl,?_⟩⟩;show y9 lt _ (a.extract 0 (n'+1)++b.extract 0 c'++((o'.push (ka0 b (k'+1)))++(b.extract c' (k'+1)).reverse).reverse).toList;generalize (o'.push (ka0 b (k'+1)))++(b.extract c' (k'+1)).reverse=o5 at m3 ⊢;rw[e1]at m3 ⊢;exact pj m3
        have d2:0<c':=Ef (by simpa using d2)
        have d1:1<c':=C8 d2 (Cy (by simpa using d1))
        exact J_ c' _ ⟨by lia,q1,O.asymm (vB (by lia)) (vA ϔ) (q2 (c'-1) (by lia)),m3,by show out.size+1<=((o'.push (ka0 b (k'+1)))++(b.extract c' (k'+1)).reverse).size;lia,by show ((o'.push (ka0 b (k'+1)))++(b.extract c' (k'+1)).reverse).size+_+_=_;lia⟩
       .exact J_ (k'+1) (o'.push (ka0 b (k'+1))) ⟨by lia,AE _,O.asymm (vB lk') (vA ϔ) (q2 k' (by lia)),m2,by lia,by lia⟩
     .show BN M A E s (if n+1-c>0 then _ else _) _ _
      refine Dg (λļ=>?_) λļ=>?_
      .have m1:=l2.mi.chA O P k1 (show n+1<=a.size by lia) lk λi h1 h2=>O.asymm (vB lk) (vA (by lia)) (k3 i h1 h2)
       have z1:=szr o a k1 (show n+1<=a.size by lia)
       try extract_lets
       show BN M A E s (if (c==0)=Aa then _ else _) _ _
       refine Dg (λc1=>?_) λc1=>?_
       .have e1:c=0:=by simpa using c1
        refine AM ⟨xz,.inr ⟨_,rfl,?_⟩⟩;show y9 lt _ (a.extract 0 c++b.extract 0 (k+1)++(o++(a.extract c (n+1)).reverse).reverse).toList;generalize o++(a.extract c (n+1)).reverse=o5 at m1 ⊢;rw[e1]at m1 ⊢;exact PB m1
       have c1:0<c:=Ef (by simpa using c1)
       exact J_ c _ ⟨by lia,k1,k2 (c-1) (by lia),m1,by show out.size+1<=(o++(a.extract c (n+1)).reverse).size;lia,by show (o++(a.extract c (n+1)).reverse).size+_+_=_;lia⟩
      .exact J_ (n+1) o ⟨by lia,AE _,k2 n (by lia),l2.mi,y6,l2s⟩
    .obtain⟨xz,hP⟩:=hP;obtain⟨y1,ja,jb,o,mg2,ac,bc⟩:=y;rcases hP with ⟨hy,l2,y6⟩|⟨r,hy,sp⟩
     .have hy:y1=Af:=hy;subst hy;refine AC (Fc ?_);exact AM ⟨xz,rfl,l2,by have:out.size+1<=o.size:=y6;show i+1+1<=o.size;lia⟩
     .have hy:y1=Ab r:=hy;subst hy;exact AM ⟨xz,r,rfl,sp⟩
   .have hy:y1=Ab r:=hy;subst hy;exact AM ⟨xw,r,rfl,sp⟩
 .obtain⟨_,_,h,h3⟩:=hI
  exfalso
  have:=h.sz;have:=h.la;have:=h.lb;rw[EM]at h3;have h3:a.size+b.size+1<=_:=h3
  lia
 .obtain⟨ss,r,e,sp⟩:=hP;obtain⟨x1,x2⟩:=x;have e:x1=Ab r:=e;subst e;exact AM (q _ _ sp ss)
end
section
variable{E:Vq}
def zb(lt:Aw->Aw->Ai)(a:Ax Aw)(lo hi:Ag):Prop:=∀ i j,lo<=i->i<j->j<hi->leK lt (ka0 a i) (ka0 a j)
structure bm (a a':Ax Aw) (lo hi:Ag):Prop where
 sz:a'.size=a.size
 pm:a'.toList.Perm a.toList
 out:∀ i,i<lo\/hi<=i->ka0 a' i=ka0 a i
def bm.rfl':bm a a lo hi:=⟨rfl,Kh _,λ_ _=>rfl⟩
theorem bm.trans{a:Ax Aw}{lo:Ag}(h:bm a a' lo hi)(h':bm a' a'' lo hi):bm a a'' lo hi:=⟨h'.sz.trans h.sz,h'.pm.trans h.pm,λi hi=>(h'.out i hi).trans (h.out i hi)⟩
theorem bm.mono(h:bm a a' lo hi)(h1:lo'<=lo)(h2:hi<=yp):bm a a' lo' yp:=⟨h.sz,h.pm,λi hi=>h.out i (by lia)⟩
theorem MW(a:Ax Aw)(i:Ag):ka0 a i=(a.toList[i]?).getD (Bo,Bo):=by
 unfold ka0;rw[Dk,EJ]
theorem WS(p:Ag):∀(m:Ac Aw)(k:Ag)(a:Ax Aw),p+k+m.length<=a.size->((m.zipIdx k).foldl (λa x=>a.setIfInBounds (p+x.2) x.1) a).toList=a.toList.take (p+k)++m++a.toList.drop (p+k+m.length)
 |[],k,a,_=>by simp
 |x::m,k,a,h=>by
  rw[F7,List.foldl_cons];rw[BV]at h;show ((m.zipIdx (k+1)).foldl _ (a.setIfInBounds (p+k) x)).toList=_;rw[WS p m (k+1) (a.setIfInBounds (p+k) x) (by rw[Z_2];lia),Z_5,BV]
  have hl:p+k<a.toList.length:=by rw[AQ];lia
  rw[show p+(k+1)=p+k+1 by lia,bH (by rw[Bj];exact hl),List.getElem_set_self,List.take_set_of_le (AE _),List.drop_set_of_lt (by lia)]
  rw[show p+k+1+m.length=p+k+(m.length+1) by lia]
  simp
theorem MT(hn:n<=a.size)(h:x∈(a.extract j n).toList):∃ i,j<=i/\i<n/\x=ka0 a i:=by
 rw[DU,Dd]at h;obtain⟨i,h1,h2,rfl⟩:=Pa h;exact⟨j+i,by lia,by lia,rfl⟩
theorem XD(hn:n<=a.size)(h:zb lt a j n):(a.extract j n).toList.Pairwise (leK lt):=by
 rw[De];intro i i' h1 h2 h3;rw[Dv,Dv,ZY,ZY];rw[AQ,FD]at h1 h2;have:=h (j+i) (j+i') (by lia) (by lia) (by lia)
 have e1:ka0 a (j+i)=a[j+i]'(by lia):=by simp[ka0,EI,show j+i<a.size by lia]
 have e2:ka0 a (j+i')=a[j+i']'(by lia):=by simp[ka0,EI,show j+i'<a.size by lia]
 rwa [e1,e2]at this
theorem YO(hn:n<=a.size)(h:j+i<n):ka0 (a.extract j n) i=ka0 a (j+i):=by
 rw[MW,MW,DU,Dd,aR,AB (by lia),aO]
theorem Zj(hp:p+m.length<=a.size)(h:a'.toList=a.toList.take p++m++a.toList.drop (p+m.length)):(∀ i,i<p\/p+m.length<=i->ka0 a' i=ka0 a i)/\∀ i,p<=i->i<p+m.length->ka0 a' i=(m[i-p]?).getD (Bo,Bo):=by
 have l1:(a.toList.take p).length=p:=by rw[EG,AQ];lia
 constructor
 .intro i hi;rw[MW,MW,h,C0];rcases hi with hi|hi
  .rw[Ek (by rw[l1];exact hi),aR,AB hi]
  .rw[C4 (by rw[l1];lia),l1,C4 (by lia),aO]
   congr 2
   lia
 .intro i h1 h2;rw[MW,h,C0,C4 (by rw[l1];exact h1),l1,Ek (by lia)]
theorem bf(he:p+m.length=e)(hp:e<=a.size)(h:a'.toList=a.toList.take p++m++a.toList.drop (p+m.length))(pm:m.Perm (a.extract p e).toList):bm a a' p e:=by
 subst he;refine⟨?_,?_,(Zj hp h).1⟩
 .have:=congrArg JV h;rw[AQ,BL,BL,EG,F5,AQ]at this
  lia
 .rw[h];rw[Uq]at pm;have e1:a.toList=a.toList.take p++(a.toList.drop p).take m.length++a.toList.drop (p+m.length):=by
   rw[C0,<-Ih,CT,CT]
  refine aK ?_ (JO e1.symm);exact Jo (Jo (Kh _) pm) (Kh _)
theorem zQ(h:k<m.length):(m[k]?).getD (Bo,Bo)∈m:=by
 rw[AU h];exact Eb h
theorem ou(hm:m.Pairwise (leK lt))(h:k<k')(h':k'<m.length):leK lt ((m[k]?).getD (Bo,Bo)) ((m[k']?).getD (Bo,Bo)):=by
 rw[AU h',AU (HE h h')];exact(De.mp hm) k k' _ _ h
theorem av{f:Ax Aw->Ev A5 D7 α}{H:Ax Aw->A5->Prop}{m:Ev A5 D7 α}{Q:α->A5->Prop}(J_:∀ o Z8,H o Z8->BN M A E s (f o) Q Z8)(main:(∀ o Z8,H o Z8->BN M A E s (f o) Q Z8)->BN M A E s m Q st):BN M A E s m Q st:=main J_
theorem tJ(h:Q ⟨⟩ x):BN M A E s (set x:Ev A5 D7 JR) Q st:=Fc (f:=λ_=>x) h
theorem jv(O:My V lt)(va:∀ i,i<hi->V (ka0 a i))(sa:zb lt a lo hi)(vk:V key)(h:i<=k)(hk:lo+k<hi)(hb:BT lt Ae key (ka0 a (lo+k))=Aa):BT lt Ae key (ka0 a (lo+i))=Aa:=by
 by_cases e:i=k
 .rw[e];exact hb
 .have l:=sa (lo+i) (lo+k) (by lia) (by lia) hk
  have yi:lt key (ka0 a (lo+k))=Ae:=by simpa [BT] using hb
  have:=O.trans (va _ (by lia)) (va _ hk) vk l yi
  simpa [BT] using this
theorem wW(O:My V lt)(va:∀ i,i<hi->V (ka0 a i))(sa:zb lt a lo hi)(vk:V key)(h:i<=k)(hk:lo+k<hi)(hb:BT lt Aa key (ka0 a (lo+k))=Aa):BT lt Aa key (ka0 a (lo+i))=Aa:=by
 by_cases e:i=k
 .rw[e];exact hb
 .have l:=sa (lo+i) (lo+k) (by lia) (by lia) hk
  have yi:lt (ka0 a (lo+k)) key=Aa:=by simpa [BT] using hb
  show BT lt Aa key (ka0 a (lo+i))=Aa;cases q:lt (ka0 a (lo+i)) key with
  |true=>simpa [BT] using q
  |false=>
   have:=O.trans vk (va _ (show lo+i<hi by lia)) (va _ hk) q l
   rw[this]at yi;cases yi
theorem mL(C:JN M A s κ V lt)(O:My V lt)(h1:(BM st)[i]?=Ab (sa,na,pw))(h2:(BM st)[i+1]?=Ab (sb,nb,pw2))(hc:sa+na=sb)(hn:0<na)(hm:0<nb)(hs:sb+nb<=(AD st).size)(s1:zb lt (AD st) sa sb)(s2:zb lt (AD st) sb (sb+nb))(hv:∀ x∈(AD st).toList,V x)(hk:kindOf st=κ)(hf:EH st=Af)(q:∀ Z8,kindOf Z8=κ->EH Z8=Af->BM Z8=((BM st).setIfInBounds i (sa,na+nb,pw)).eraseIdxIfInBounds (i+1)->bm (AD st) (AD Z8) sa (sb+nb)->zb lt (AD Z8) sa (sb+nb)->Q Aa Z8):BN M A E s (WC i) Q st:=by
 have va:∀ {i},i<(AD st).size->V (ka0 (AD st) i):=λh=>hv _ (Ϝ h)
 refine AC (GX ?_);show BN M A E s (match ((BM st)[i]?,(BM st)[i+1]?) with|(Ab (sa,na,power),Ab (sb,nb,Ϫ))=>_|x=>_) _ _
 rw[h1,h2];dsimp -zeta only;refine AC (tJ ?_);refine AC (Fp (show sb<(AD st).size by lia) ?_)
 refine AC (MF C hk (va (show sb<(AD st).size by lia)) (show sa+na<=(AD st).size by lia) (λi hi=>va (by lia)) hn (λi j h1 h2 h3=>jv O (λi h=>va (i:=i) (by lia)) s1 (va (show sb<(AD st).size by lia)) h1 (by lia) h3) λc ú=>?_)
 obtain⟨k1,k2,k3⟩:=Us ú;have bsz:sb<(AD st).size:=by lia
 dsimp -zeta only;refine Dg (λd1=>?_) λd1=>?_
 .have d1:na-c=0:=by simpa using d1
  refine AM (q _ hk hf rfl bm.rfl' λi j h1 h2 h3=>?_)
  by_cases hj:j<sb
  .exact s1 i j h1 h2 hj
  .by_cases hi:sb<=i
   .exact s2 i j hi h2 h3
   .have l1:=k2 (i-sa) (by lia)
    rw[show sa+(i-sa)=i by lia]at l1
    by_cases e:j=sb
    .rw[e];exact l1
    .exact O.trans (va (by lia)) (va bsz) (va (by lia)) l1 (s2 sb j (AE _) (by lia) h3)
 have d1:0<na-c:=Ef (by simpa using d1)
 have ek:sa+c+(na-c)-1=sb-1:=by lia
 have ĩ:sb-1<(AD st).size:=by lia
 refine AC (Fp (show sa+c+(na-c)-1<(AD st).size by lia) ?_)
 rw[ek];refine AC (MF C hk (va ĩ) (show sb+nb<=(AD st).size by lia) (λi hi=>va (by lia)) (show nb-1<nb by lia) (λi j h1 h2 h3=>wW O (λi h=>va (i:=i) (by lia)) s2 (va ĩ) h1 (by lia) h3) λc' Α=>?_)
 obtain⟨q1,q2,q3⟩:=Ur Α;dsimp -zeta only;refine Dg (λd2=>?_) λd2=>?_
 .have d2:c'=0:=by simpa using d2
  refine AM (q _ hk hf rfl bm.rfl' λi j h1 h2 h3=>?_)
  by_cases hj:j<sb
  .exact s1 i j h1 h2 hj
  .by_cases hi:sb<=i
   .exact s2 i j hi h2 h3
   .have l1:=q3 (j-sb) (by lia) (by lia)
    rw[show sb+(j-sb)=j by lia]at l1
    by_cases e:i=sb-1
    .rw[e];exact l1
    .exact O.trans (va (by lia)) (va ĩ) (va (by lia)) (s1 i (sb-1) h1 (by lia) (by lia)) l1
 have d2:0<c':=Ef (by simpa using d2)
 extract_lets X Y_ jp
 have K3:∀ i,sa+c<=i->i<sb->lt (ka0 (AD st) sb) (ka0 (AD st) i)=Aa:=λi h h'=>by
  have:=k3 (i-sa) (by lia) (by lia)
  rwa [show sa+(i-sa)=i by lia]at this
 have K2:∀ i,sa<=i->i<sa+c->leK lt (ka0 (AD st) i) (ka0 (AD st) sb):=λi h h'=>by
  have:=k2 (i-sa) (by lia)
  rwa [show sa+(i-sa)=i by lia]at this
 have Q2:∀ i,sb<=i->i<sb+c'->lt (ka0 (AD st) i) (ka0 (AD st) (sb-1))=Aa:=λi h h'=>by
  have:=q2 (i-sb) (by lia)
  rwa [show sb+(i-sb)=i by lia]at this
 have Q3:∀ i,sb+c'<=i->i<sb+nb->leK lt (ka0 (AD st) (sb-1)) (ka0 (AD st) i):=λi h h'=>by
  have:=q3 (i-sb) (by lia) (by lia)
  rwa [show sb+(i-sb)=i by lia]at this
 have zX:X.size=sb-(sa+c):=by show ((AD st).extract (sa+c) sb).size=_;rw[FD];lia
 have zY:Y_.size=c':=by show ((AD st).extract sb (sb+c')).size=_;rw[FD];lia
 have z1:sb<=(AD st).size:=by lia
 have z2:sb+c'<=(AD st).size:=by lia
 have P:ñ V lt X Y_:=by
  refine⟨λx hx=>?_,λx hx=>?_,XD z1 λi j h1 h2 h3=>s1 i j (by lia) h2 h3,XD z2 λi j h1 h2 h3=>s2 i j h1 h2 (by lia),by lia,by lia,λx hx=>?_,λy hy=>?_⟩
  .obtain⟨i,_,_,rfl⟩:=MT z1 hx;exact va (by lia)
  .obtain⟨i,_,_,rfl⟩:=MT z2 hx;exact va (by lia)
  .obtain⟨i,g1,g2,rfl⟩:=MT z1 hx;have e:ka0 Y_ 0=ka0 (AD st) (sb+0):=YO z2 (by lia)
   rw[e,K5];exact O.asymm (va bsz) (va (by lia)) (K3 i g1 g2)
  .obtain⟨i,g1,g2,rfl⟩:=MT z2 hy;have e:ka0 X (X.size-1)=ka0 (AD st) (sa+c+(X.size-1)):=YO z1 (by lia)
   rw[e,show sa+c+(X.size-1)=sb-1 by lia]
   exact O.asymm (va (by lia)) (va ĩ) (Q2 i g1 g2)
 refine av (f:=jp) (H:=λmg ya=>y9 lt (X.toList++Y_.toList) mg.toList/\GR κ (setPending st (((BM st).setIfInBounds i (sa,na+nb,pw)).eraseIdxIfInBounds (i+1))) ya) (λmg ya hH=>?_) (λJ_=>?_)
 .obtain⟨⟨pm,so⟩,sk,sar,sp,sf⟩:=hH;have sar:AD ya=AD st:=sar;have sf:EH ya=Af:=sf.trans hf;have lm:mg.toList.length=sb+c'-(sa+c):=by
   rw[pm.length_eq,BL,AQ,AQ]
   lia
  have wl:=WS (sa+c) mg.toList 0 (AD st) (by lia)
  rw[K5]at wl;have pm':mg.toList.Perm ((AD st).extract (sa+c) (sb+c')).toList:=by
   refine pm.trans (JO ?_);show ((AD st).extract (sa+c) sb).toList++((AD st).extract sb (sb+c')).toList=_;rw[<-BA,Array.extract_append_extract]
   congr 2<;>lia
  refine AC (Fc ?_);refine AC (GX ?_);have U:=bf (e:=sb+c') (by lia) (by lia) wl pm'
  obtain⟨w1,w2⟩:=Zj (by lia) wl
  generalize hA:(mg.toList.zipIdx.foldl (λa x=>a.setIfInBounds (sa+c+x.2) x.1) (AD st))=a' at U w1 w2
  have hm:∀ i,sa+c<=i->i<sb+c'->(∃ j,sa+c<=j/\j<sb/\ka0 a' i=ka0 (AD st) j)\/∃ j,sb<=j/\j<sb+c'/\ka0 a' i=ka0 (AD st) j:=λi h h'=>by
   have g:ka0 a' i∈mg.toList:=by rw[w2 i h (by lia)];exact zQ (by lia)
   rcases FI.mp (pm.mem_iff.mp g) with g|g
   .exact .inl (MT z1 g)
   .exact .inr (MT z2 g)
  have S:zb lt a' sa (sb+nb):=λi j h1 h2 h3=>by
   by_cases i1:i<sa+c
   .rw[w1 i (by lia)]
    by_cases j1:j<sa+c
    .rw[w1 j (by lia)];exact s1 i j h1 h2 (by lia)
    .by_cases j2:j<sb+c'
     .rcases hm j (by lia) j2 with ⟨l,g1,g2,g3⟩|⟨l,g1,g2,g3⟩
      .rw[g3];exact s1 i l h1 (by lia) g2
      .rw[g3];by_cases e:l=sb
       .rw[e];exact K2 i h1 i1
       .exact O.trans (va (by lia)) (va bsz) (va (by lia)) (K2 i h1 i1) (s2 sb l (AE _) (by lia) (by lia))
     .rw[w1 j (by lia)]
      exact O.trans (va (by lia)) (va bsz) (va (by lia)) (K2 i h1 i1) (s2 sb j (AE _) (by lia) (by lia))
   .by_cases i2:i<sb+c'
    .by_cases j2:j<sb+c'
     .rw[w2 i (by lia) (by lia),w2 j (by lia) (by lia)]
      exact ou so (by lia) (by lia)
     .rw[w1 j (by lia)]
      rcases hm i (by lia) i2 with ⟨l,g1,g2,g3⟩|⟨l,g1,g2,g3⟩
      .rw[g3];by_cases e:l=sb-1
       .rw[e];exact Q3 j (by lia) h3
       .exact O.trans (va (by lia)) (va ĩ) (va (by lia)) (s1 l (sb-1) (by lia) (by lia) (by lia)) (Q3 j (by lia) h3)
      .rw[g3];exact s2 l j g1 (by lia) h3
    .rw[w1 i (by lia),w1 j (by lia)]
     exact s2 i j (by lia) h2 h3
  rw[<-sar]at hA;refine AM ?_;show Q (EH ya).isNone _;rw[sf];refine q _ sk sf sp ?_ ?_
  .show bm (AD st) (mg.toList.zipIdx.foldl (λa x=>a.setIfInBounds (sa+c+x.2) x.1) (AD ya)) _ _
   rw[hA];exact U.mono (by lia) (by lia)
  .show zb lt (mg.toList.zipIdx.foldl (λa x=>a.setIfInBounds (sa+c+x.2) x.1) (AD ya)) _ _
   rw[hA];exact S
 .refine JE ?_ ?_
  .exact AC (mJ C O P hk λr Z8 sp ss=>J_ r Z8 ⟨sp,ss⟩)
  .exact AC (mK C O P hk λr Z8 sp ss=>J_ r Z8 ⟨sp,ss⟩)
end
section
variable{E:Vq}
structure BS (κ:Fl) (a0:Ax Aw) (p:Ax (Ag×Ag×Ag)) (lo hi:Ag) (st:A5):Prop where
 kd:kindOf st=κ
 fl:EH st=Af
 pd:BM st=p
 up:bm a0 (AD st) lo hi
variable{lo:Ag}
theorem BS.v{V:Aw->Prop}(B:BS κ a0 p lo hi st)(hv:∀ x∈a0.toList,V x)(h:i<a0.size):V (ka0 (AD st) i):=hv _ (B.up.pm.mem_iff.mp (Ϝ (by rw[B.up.sz];exact h)))
theorem MM(C:JN M A s κ V lt)(B:BS κ a0 p lo hi st)(hv:∀ x∈a0.toList,V x)(h1:i<a0.size)(h2:j<a0.size)(q:Q (Ab (lt (ka0 (AD st) i) (ka0 (AD st) j))) st):BN M A E s (ltAt' i j) Q st:=by
 rw[ltAt'_eq];refine AC (GX ?_);refine AC (Fp (by rw[B.up.sz];exact h1) ?_)
 refine AC (Fp (by rw[B.up.sz];exact h2) ?_)
 exact C _ _ _ _ _ B.kd (B.v hv h1) (B.v hv h2) q
theorem Oq(a:Ax Aw)(i:Ag):ka0 a i=(a[i]?).getD (Bo,Bo):=by
 unfold ka0;rw[EJ]
theorem YQ(hs:src<a.size)(hd:d<=src)(k:Ag):ka0 (bubble a src d) k=if k=src-d then ka0 a src else if src-d<k/\k<=src then ka0 a (k-1) else ka0 a k:=by
 rw[Oq,getElem?_bubble hs d hd];split
 .rw[Oq]
 .split<;>rw[Oq]
theorem N3(hj:j<=a.size)(k:Ag):ka0 (mirror a i j ((j-i)/2)) k=if i<=k/\k<j then ka0 a (i+j-1-k) else ka0 a k:=by
 rw[Oq,getElem?_mirror_all hj];split<;>rw[Oq]
theorem cb(hs:src<a.size)(hd:d<=src):bm a (bubble a src d) (src-d) (src+1):=⟨bubble_size ..,Z_0.mp (bubble_perm ..),λi h=>by rw[YQ hs hd,AF (by omega),AF (by omega)]⟩
theorem wX(hj:j<=a.size):bm a (mirror a i j ((j-i)/2)) i j:=⟨mirror_size ..,Z_0.mp (mirror_perm ..),λk h=>by rw[N3 hj,AF (by lia)]⟩
theorem nI(C:JN M A s κ V lt)(O:My V lt)(hv:∀ x∈a0.toList,V x)(B:BS κ a0 p lo hi st)(h1:1<=ok)(h2:ok<=n)(h3:lo+n<=hi)(h4:hi<=a0.size)(so:zb lt (AD st) lo (lo+ok))(q:∀ Z8,BS κ a0 p lo hi Z8->zb lt (AD Z8) lo (lo+n)->Q Aa Z8):BN M A E s (binarySort' lo n ok) Q st:=by
 rw[binarySort'_eq];refine AC (DL (Q:=λx Z8=>x.1=Af/\BS κ a0 p lo hi Z8/\zb lt (AD Z8) lo (lo+n)) (Cz (λk x Z8=>x.1=Af/\BS κ a0 p lo hi Z8/\zb lt (AD Z8) lo (lo+k)) (λk x Z8 g1 g2 hI=>?_) (λx Z8 hI=>?_) ⟨rfl,B,by rw[show max ok 1=ok by lia];exact so⟩) λx Z8 hP=>?_)
 .obtain⟨hx,B',S⟩:=hI;have va:∀ {i},i<a0.size->V (ka0 (AD Z8) i):=λh=>B'.v hv h
  have hk:lo+k<a0.size:=by lia
  extract_lets l0 r0
  refine AC (DL (Q:=λy zi=>Z8=zi/\y.1=Af/\M7 (λj=>!lt (ka0 (AD Z8) (lo+k)) (ka0 (AD Z8) (lo+j))) k y.2.1) (Cz (λi y zi=>Z8=zi/\y.1=Af/\y.2.1<=y.2.2/\y.2.2<=k/\y.2.2-y.2.1<=k-i/\(∀ j,j<y.2.1->lt (ka0 (AD Z8) (lo+k)) (ka0 (AD Z8) (lo+j))=Ae)/\(∀ j,y.2.2<=j->j<k->lt (ka0 (AD Z8) (lo+k)) (ka0 (AD Z8) (lo+j))=Aa)) (λi y zi _ hi hJ=>?_) (λy zi hJ=>?_) ⟨rfl,rfl,Ds _,AE _,by show k-0<=k-0;lia,λj h=>absurd (show j<0 from h) (by lia),λj h h'=>by have:k<=j:=h;lia⟩) λy zi hP=>?_)
  .obtain⟨rfl,b1,b2,b3,b4,b5,b6⟩:=hJ;obtain⟨y1,l,r⟩:=y;dsimp only at b1 b2 b3 b4 b5 b6;subst b1
   try extract_lets
   show BN M A E s (if l ≥ r then _ else _) _ _
   refine Dg (λhl=>?_) λhl=>?_
   .exact AM ⟨rfl,rfl,by show l<=k;lia,λj h=>by simpa using b5 j h,λj h h'=>by have:=b6 j (by have:l<=j:=h;lia) h';simpa using this⟩
   try extract_lets
   refine AC (MM C (j:=lo+(l+r)/2) B' hv hk (by lia) ?_)
   show BN M A E s (if lt (ka0 (AD Z8) (lo+k)) (ka0 (AD Z8) (lo+(l+r)/2))=Aa then _ else _) _ _
   refine Dg (λe=>?_) λe=>?_
   .refine AM ⟨rfl,rfl,by show l<=(l+r)/2;lia,by show (l+r)/2<=k;lia,by show (l+r)/2-l<=k-(i+1);lia,b5,λj h h'=>?_⟩
    have h:(l+r)/2<=j:=h;cases e':lt (ka0 (AD Z8) (lo+k)) (ka0 (AD Z8) (lo+j)) with
    |true=>rfl
    |false=>
     by_cases ej:j=(l+r)/2
     .rw[ej,e]at e';cases e'
     .have:=O.trans (va (show lo+(l+r)/2<a0.size by lia)) (va (show lo+j<a0.size by lia)) (va hk) (S (lo+(l+r)/2) (lo+j) (by lia) (by lia) (by lia)) e'
      rw[this]at e;cases e
   .have e:lt (ka0 (AD Z8) (lo+k)) (ka0 (AD Z8) (lo+(l+r)/2))=Ae:=by simpa using e
    refine AM ⟨rfl,rfl,by show (l+r)/2+1<=r;lia,b3,by show r-((l+r)/2+1)<=k-(i+1);lia,λj h=>?_,b6⟩
    have h:j<(l+r)/2+1:=h;by_cases ej:j=(l+r)/2
    .rw[ej];exact e
    .exact O.trans (va (show lo+j<a0.size by lia)) (va (show lo+(l+r)/2<a0.size by lia)) (va hk) (S (lo+j) (lo+(l+r)/2) (by lia) (by lia) (by lia)) e
  .obtain⟨rfl,b1,b2,b3,b4,b5,b6⟩:=hJ;rw[EM]at b4;exact⟨rfl,b1,by lia,λj h=>by simpa using b5 j h,λj h h'=>by have:=b6 j (by lia) h';simpa using this⟩
  .obtain⟨rfl,b1,c1,c2,c3⟩:=hP;obtain⟨y1,l,r⟩:=y;dsimp only at b1 c1 c2 c3;subst b1
   try extract_lets
   have hsz:lo+k<(AD Z8).size:=by rw[B'.up.sz];exact hk
   have ab:=YQ hsz (show lo+k-(lo+l)<=lo+k by lia)
   have ub:=cb hsz (show lo+k-(lo+l)<=lo+k by lia)
   rw[show lo+k-(lo+k-(lo+l))=lo+l by lia]at ab ub
   refine AC (m:=moveDown' (lo+k) (lo+l)) ?_;rw[moveDown'_eq];refine Fc (AM ⟨rfl,⟨B'.kd,B'.fl,B'.pd,B'.up.trans (ub.mono (by lia) (by lia))⟩,?_⟩)
   show zb lt (bubble (AD Z8) (lo+k) (lo+k-(lo+l))) lo (lo+(k+1));have c2:∀ j,j<l->lt (ka0 (AD Z8) (lo+k)) (ka0 (AD Z8) (lo+j))=Ae:=λj h=>by simpa using c2 j h
   have c3:∀ j,l<=j->j<k->lt (ka0 (AD Z8) (lo+k)) (ka0 (AD Z8) (lo+j))=Aa:=λj h h'=>by simpa using c3 j h h'
   have P1:∀ i,lo<=i->i<lo+l->leK lt (ka0 (AD Z8) i) (ka0 (AD Z8) (lo+k)):=λi h h'=>by
    have:=c2 (i-lo) (by lia)
    rwa [show lo+(i-lo)=i by lia]at this
   have P2:∀ i,lo+l<=i->i<lo+k->leK lt (ka0 (AD Z8) (lo+k)) (ka0 (AD Z8) i):=λi h h'=>by
    have:=c3 (i-lo) (by lia) (by lia)
    rw[show lo+(i-lo)=i by lia]at this
    exact O.asymm (va hk) (va (by lia)) this
   intro i j g3 g4 g5;rw[ab,ab];by_cases i1:i<lo+l
   .rw[AF (show ¬ i=lo+l by lia),AF (show ¬ (lo+l<i/\i<=lo+k) by lia)]
    by_cases j1:j<lo+l
    .rw[AF (show ¬ j=lo+l by lia),AF (show ¬ (lo+l<j/\j<=lo+k) by lia)]
     exact S i j g3 g4 (by lia)
    .by_cases j2:j=lo+l
     .rw[AB j2];exact P1 i g3 i1
     .rw[AF j2,AB (show lo+l<j/\j<=lo+k by lia)]
      exact S i (j-1) g3 (by lia) (by lia)
   .by_cases i2:i=lo+l
    .rw[AB i2,AF (show ¬ j=lo+l by lia),AB (show lo+l<j/\j<=lo+k by lia)]
     exact P2 (j-1) (by lia) (by lia)
    .rw[AF i2,AB (show lo+l<i/\i<=lo+k by lia),AF (show ¬ j=lo+l by lia),AB (show lo+l<j/\j<=lo+k by lia)]
     exact S (i-1) (j-1) (by lia) (by lia) (by lia)
 .obtain⟨hx,B',S⟩:=hI;exact⟨hx,B',λi j h h' gV=>S i j h h' (by lia)⟩
 .obtain⟨hx,B',S⟩:=hP;obtain⟨x1,x2⟩:=x;have hx:x1=Af:=hx;subst hx;exact AM (q _ B' S)
end
section
variable{E:Vq}
variable{lo:Ag}
theorem PV{f:JR->Ev A5 D7 α}{H:A5->Prop}{m:Ev A5 D7 α}{Q:α->A5->Prop}(J_:∀ Z8,H Z8->BN M A E s (f ⟨⟩) Q Z8)(main:(∀ Z8,H Z8->BN M A E s (f ⟨⟩) Q Z8)->BN M A E s m Q st):BN M A E s m Q st:=main J_
def ü(lt:Aw->Aw->Ai)(a:Ax Aw)(lo hi:Ag):Prop:=∀ i j,lo<=i->i<j->j<hi->leK lt (ka0 a j) (ka0 a i)
def æ(lt:Aw->Aw->Ai)(a:Ax Aw)(lo hi:Ag):Prop:=∀ i j,lo<=i->i<hi->lo<=j->j<hi->leK lt (ka0 a i) (ka0 a j)
theorem zb.one:zb lt a lo (lo+1):=λi j h1 h2 h3=>by lia
theorem zb.snoc(O:My V lt)(v:∀ i,i<hi->V (ka0 a i))(hk:k<hi)(h0:lo<k)(S:zb lt a lo k)(h:leK lt (ka0 a (k-1)) (ka0 a k)):zb lt a lo (k+1):=λi j h1 h2 h3=>by
 by_cases e:j=k
 .subst e;by_cases e':i=j-1
  .rw[e'];exact h
  .exact O.trans (v i (by lia)) (v (j-1) (by lia)) (v j hk) (S i (j-1) h1 (by lia) (by lia)) h
 .exact S i j h1 h2 (by lia)
theorem ü.snoc(O:My V lt)(v:∀ i,i<hi->V (ka0 a i))(hk:k<hi)(h0:lo<k)(S:ü lt a lo k)(h:leK lt (ka0 a k) (ka0 a (k-1))):ü lt a lo (k+1):=λi j h1 h2 h3=>by
 by_cases e:j=k
 .subst e;by_cases e':i=j-1
  .rw[e'];exact h
  .exact O.trans (v j hk) (v (j-1) (by lia)) (v i (by lia)) h (S i (j-1) h1 (by lia) (by lia))
 .exact S i j h1 h2 (by lia)
theorem æ.snoc(O:My V lt)(v:∀ i,i<hi->V (ka0 a i))(hk:k<hi)(h0:q<k)(S:æ lt a q k)(hr:leK lt (ka0 a k) (ka0 a k))(h:leK lt (ka0 a k) (ka0 a (k-1)))(h':leK lt (ka0 a (k-1)) (ka0 a k)):æ lt a q (k+1):=λi j h1 h2 h3 h4=>by
 by_cases e:j=k
 .by_cases e':i=k
  .rw[e,e'];exact hr
  .rw[e];exact O.trans (v i (by lia)) (v (k-1) (by lia)) (v k hk) (S i (k-1) h1 (by lia) (by lia) (by lia)) h'
 .by_cases e':i=k
  .rw[e'];exact O.trans (v k hk) (v (k-1) (by lia)) (v j (by lia)) h (S (k-1) j (by lia) (by lia) h3 (by lia))
  .exact S i j h1 (by lia) h3 (by lia)
theorem æ.one(hr:leK lt (ka0 a k) (ka0 a k)):æ lt a k (k+1):=λi j h1 h2 h3 h4=>by
 rw[show i=k by lia,show j=k by lia];exact hr
theorem My.refl(O:My V lt)(v:V x):leK lt x x:=by
 cases e:lt x x with
 |false=>exact e
 |true=>exact O.asymm v v e
theorem ü.mir(he:e<=a.size)(D:ü lt a lo hi)(S:æ lt a b e)(h1:lo<=b)(h2:e<=hi):ü lt (mirror a b e ((e-b)/2)) lo hi:=λi j g1 g2 g3=>by
 rw[N3 he,N3 he];by_cases i1:b<=i/\i<e
 .rw[AB i1];by_cases j1:b<=j/\j<e
  .rw[AB j1];exact S _ _ (by omega) (by omega) (by omega) (by omega)
  .rw[AF j1];exact D _ _ (by omega) (by omega) g3
 .rw[AF i1];by_cases j1:b<=j/\j<e
  .rw[AB j1];exact D _ _ g1 (by omega) (by omega)
  .rw[AF j1];exact D _ _ g1 g2 g3
theorem ü.flip(he:e<=a.size)(D:ü lt a lo e):zb lt (mirror a lo e ((e-lo)/2)) lo e:=λi j g1 g2 g3=>by
 rw[N3 he,N3 he,AB (by omega),AB (by omega)]
 exact D _ _ (by omega) (by omega) (by omega)
theorem PU(B:BS κ a0 p lo hi st)(h1:lo<=b)(h2:e<=hi)(h3:e<=a0.size)(q:∀ Z8,BS κ a0 p lo hi Z8->AD Z8=mirror (AD st) b e ((e-b)/2)->Q ⟨⟩ Z8):BN M A E s (reverseSlice' b e) Q st:=by
 rw[reverseSlice'_eq];exact Fc (q _ ⟨B.kd,B.fl,B.pd,B.up.trans ((wX (by rw[B.up.sz];exact h3)).mono h1 h2)⟩ rfl)
theorem oP(C:JN M A s κ V lt)(O:My V lt)(hv:∀ x∈a0.toList,V x)(B:BS κ a0 p lo hi st)(h1:1<=nrem)(h3:lo+nrem<=hi)(h4:hi<=a0.size)(q:∀ n Z8,1<=n->n<=nrem->BS κ a0 p lo hi Z8->zb lt (AD Z8) lo (lo+n)->Q (Ab n) Z8):BN M A E s (countRun' lo nrem) Q st:=by
 rw[countRun'_eq]
 extract_lets n0
 refine AC (DL (Q:=λx Z8=>st=Z8/\x.1=Af/\1<=x.2/\x.2<=nrem/\zb lt (AD st) lo (lo+x.2)/\(x.2<nrem->lt (ka0 (AD st) (lo+x.2)) (ka0 (AD st) (lo+x.2-1))=Aa)) (Cz (λi x Z8=>st=Z8/\x.1=Af/\x.2=i/\zb lt (AD st) lo (lo+i)) (λi x Z8 g1 g2 hI=>?_) (λx Z8 hI=>?_) ⟨rfl,rfl,rfl,zb.one⟩) λx Z8 hP=>?_)
 .obtain⟨rfl,b1,b2,S⟩:=hI;obtain⟨x1,n⟩:=x;have b2:n=i:=b2;subst b2
  try extract_lets
  refine AC (MM C B hv (show lo+n<a0.size by lia) (show lo+n-1<a0.size by lia) ?_)
  show BN M A E s (if lt (ka0 (AD st) (lo+n)) (ka0 (AD st) (lo+n-1))=Aa then _ else _) _ _
  refine Dg (λe=>?_) λe=>?_
  .exact AM ⟨rfl,rfl,g1,by show n<=nrem;lia,S,λ_=>e⟩
  .exact AM ⟨rfl,rfl,rfl,zb.snoc O (hi:=a0.size) (k:=lo+n) (λi h=>B.v hv h) (by lia) (by lia) S (by simpa [leK] using e)⟩
 .obtain⟨rfl,b1,b2,S⟩:=hI;rw[show max 1 nrem=nrem by lia]at b2 S
  exact⟨rfl,b1,by lia,by lia,by rw[b2];exact S,λh=>by lia⟩
 obtain⟨rfl,b1,b2,b3,S,b4⟩:=hP;obtain⟨x1,n⟩:=x;dsimp only at b1 b2 b3 S b4;subst b1
 try extract_lets
 show BN M A E s (if (n==nrem)=Aa then _ else _) _ _
 refine Dg (λe0=>?_) λe0=>?_
 .exact AM (q n _ b2 b3 B S)
 have e0:¬ n=nrem:=by simpa using e0
 have b4:=b4 (by lia)
 rename_i jp _;have hsz:(AD st).size=a0.size:=B.up.sz;refine PV (f:=jp) (H:=λZ8=>BS κ a0 p lo hi Z8/\ü lt (AD Z8) lo (lo+n+1)) (λst1 hH=>?_) (λJ_=>?_)
 .obtain⟨B1,D1⟩:=hH;refine AC (MR ?_)
  extract_lets n1 neq0
  refine AC (DL (Q:=λx Z8=>x.1=Af/\1<=x.2.1/\x.2.1<=nrem/\BS κ a0 p lo hi Z8/\ü lt (AD Z8) lo (lo+x.2.1)/\x.2.2+1<=x.2.1/\æ lt (AD Z8) (lo+x.2.1-(x.2.2+1)) (lo+x.2.1)) (Cz (λi x Z8=>x.1=Af/\x.2.1=i/\BS κ a0 p lo hi Z8/\ü lt (AD Z8) lo (lo+i)/\x.2.2+1<=i/\æ lt (AD Z8) (lo+i-(x.2.2+1)) (lo+i)) (λi x Z8 g1 g2 hI=>?_) (λx Z8 hI=>?_) ⟨rfl,rfl,B1,D1,by show 0+1<=n+1;lia,æ.one (O.refl (B1.v hv (by lia)))⟩) λx Z8 hP=>?_)
  .obtain⟨c1,c2,B2,D2,c3,e2⟩:=hI;obtain⟨x1,m,ϥ⟩:=x;have c2:m=i:=c2;subst c2;have c3:ϥ+1<=m:=c3;have e2:æ lt (AD Z8) (lo+m-(ϥ+1)) (lo+m):=e2;have g1:n+1<=m:=g1;have z2:(AD Z8).size=a0.size:=B2.up.sz;have v2:∀ i,i<a0.size->V (ka0 (AD Z8) i):=λi h=>B2.v hv h
   try extract_lets
   refine AC (MM C B2 hv (show lo+m<a0.size by lia) (show lo+m-1<a0.size by lia) ?_)
   try dsimp -zeta only
   try extract_lets
   refine Dg (λe=>?_) λe=>?_
   .have D3:=ü.snoc O v2 (show lo+m<a0.size by lia) (by lia) D2 (O.asymm (v2 _ (by lia)) (v2 _ (by lia)) e)
    rename_i jp2 _;refine PV (f:=jp2) (H:=λZ8=>BS κ a0 p lo hi Z8/\ü lt (AD Z8) lo (lo+m+1)) (λJ0 hH=>?_) (λJ_=>?_)
    .obtain⟨B3,D3⟩:=hH;exact AM ⟨rfl,rfl,B3,D3,by show 0+1<=m+1;lia,æ.one (O.refl (B3.v hv (by lia)))⟩
    .refine JE ?_ ?_
     .refine AC (PU (b:=lo+m-(ϥ+1)) (e:=lo+m) B2 (by lia) (by lia) (by lia) λJ0 B3 e3=>?_)
      refine J_ J0 ⟨B3,?_⟩;rw[e3];exact D3.mir (by lia) e2 (by lia) (by lia)
     .exact J_ _ ⟨B2,D3⟩
   .have e:lt (ka0 (AD Z8) (lo+m)) (ka0 (AD Z8) (lo+m-1))=Ae:=by simpa using e
    refine AC (MM C B2 hv (show lo+m-1<a0.size by lia) (show lo+m<a0.size by lia) ?_)
    show BN M A E s (if lt (ka0 (AD Z8) (lo+m-1)) (ka0 (AD Z8) (lo+m))=Aa then _ else _) _ _
    refine Dg (λf=>?_) λf=>?_
    .exact AM ⟨rfl,by show 1<=m;lia,by show m<=nrem;lia,B2,D2,c3,e2⟩
    .have f:lt (ka0 (AD Z8) (lo+m-1)) (ka0 (AD Z8) (lo+m))=Ae:=by simpa using f
     refine AM ⟨rfl,rfl,B2,ü.snoc O (k:=lo+m) v2 (show lo+m<a0.size by lia) (by lia) D2 f,by show ϥ+1+1<=m+1;lia,?_⟩
     show æ lt (AD Z8) (lo+(m+1)-(ϥ+1+1)) (lo+m+1);rw[show lo+(m+1)-(ϥ+1+1)=lo+m-(ϥ+1) by lia]
     exact æ.snoc O v2 (by lia) (by lia) e2 (O.refl (v2 _ (by lia))) f e
  .obtain⟨c1,c2,B2,D2,c3,e2⟩:=hI;have em:max (n+1) nrem=nrem:=by lia
   have c2:x.2.1=max (n+1) nrem:=c2;have D2:ü lt (AD Z8) lo (lo+max (n+1) nrem):=D2;have c3:x.2.2+1<=max (n+1) nrem:=c3;have e2:æ lt (AD Z8) (lo+max (n+1) nrem-(x.2.2+1)) (lo+max (n+1) nrem):=e2;rw[<-c2]at D2 c3 e2;exact⟨c1,by lia,by lia,B2,D2,c3,e2⟩
  .obtain⟨c1,c2,c4,B2,D2,c3,e2⟩:=hP;obtain⟨x1,m,ϥ⟩:=x;dsimp only at c1 c2 c3 c4 D2 e2;subst c1;have z2:(AD Z8).size=a0.size:=B2.up.sz
   try dsimp -zeta only
   try extract_lets
   try dsimp -zeta only
   rename_i jp3;refine PV (f:=jp3) (H:=λZ8=>BS κ a0 p lo hi Z8/\ü lt (AD Z8) lo (lo+m)) (λJ0 hH=>?_) (λJ_=>?_)
   .obtain⟨B3,D3⟩:=hH;have z3:(AD J0).size=a0.size:=B3.up.sz;refine AC (PU (b:=lo) (e:=lo+m) B3 (AE _) (by lia) (by lia) λϫ B4 e4=>?_)
    have S4:zb lt (AD ϫ) lo (lo+m):=by rw[e4];exact D3.flip (by lia)
    refine AC (DL (Q:=λx Z8=>ϫ=Z8/\x.1=Af/\1<=x.2/\x.2<=nrem/\zb lt (AD ϫ) lo (lo+x.2)) (Cz (λi x Z8=>ϫ=Z8/\x.1=Af/\x.2=i/\zb lt (AD ϫ) lo (lo+i)) (λi x Z8 g1 g2 hI=>?_) (λx Z8 hI=>?_) ⟨rfl,rfl,rfl,S4⟩) λx Z8 hP=>?_)
    .obtain⟨rfl,b1,b2,S⟩:=hI;obtain⟨x1,n⟩:=x;have b2:n=i:=b2;subst b2;have g1:m<=n:=g1
     try extract_lets
     refine AC (MM C B4 hv (show lo+n<a0.size by lia) (show lo+n-1<a0.size by lia) ?_)
     show BN M A E s (if lt (ka0 (AD ϫ) (lo+n)) (ka0 (AD ϫ) (lo+n-1))=Aa then _ else _) _ _
     refine Dg (λe=>?_) λe=>?_
     .exact AM ⟨rfl,rfl,by show 1<=n;lia,by show n<=nrem;lia,S⟩
     .exact AM ⟨rfl,rfl,rfl,zb.snoc O (hi:=a0.size) (k:=lo+n) (λi h=>B4.v hv h) (by lia) (by lia) S (by simpa [leK] using e)⟩
    .obtain⟨rfl,b1,b2,S⟩:=hI;have b2:x.2=max m nrem:=b2;have S:zb lt (AD ϫ) lo (lo+max m nrem):=S;rw[<-b2]at S;exact⟨rfl,b1,by lia,by lia,S⟩
    .obtain⟨rfl,b1,b2,b3,S⟩:=hP;obtain⟨x1,n⟩:=x;dsimp only at b1 b2 b3 S;subst b1;exact AM (q n _ b2 b3 B4 S)
   .show BN M A E s (if ϥ>0 then _ else _) _ _
    refine JE ?_ ?_
    .refine AC (PU (b:=lo+m-(ϥ+1)) (e:=lo+m) B2 (by lia) (by lia) (by lia) λJ0 B3 e3=>?_)
     refine J_ J0 ⟨B3,?_⟩;rw[e3];exact D2.mir (by lia) e2 (by lia) (by lia)
    .exact J_ _ ⟨B2,D2⟩
 .have v0:∀ i,i<a0.size->V (ka0 (AD st) i):=λi h=>B.v hv h
  show BN M A E s (if n>1 then _ else _) _ _
  refine Dg (λhn=>?_) λhn=>?_
  .refine AC (MM C B hv (show lo<a0.size by lia) (show lo+n-1<a0.size by lia) ?_)
   show BN M A E s (if lt (ka0 (AD st) lo) (ka0 (AD st) (lo+n-1))=Aa then _ else _) _ _
   refine Dg (λe=>?_) λe=>?_
   .exact AM (q n _ b2 b3 B S)
   .have e:leK lt (ka0 (AD st) (lo+n-1)) (ka0 (AD st) lo):=by simpa [leK] using e
    refine AC (PU (b:=lo) (e:=lo+n) B (AE _) (by lia) (by lia) λJ0 B3 e3=>?_)
    refine J_ J0 ⟨B3,?_⟩;have Q0:æ lt (AD st) lo (lo+n):=λi j g1 g2 g3 g4=>by
     have x1:leK lt (ka0 (AD st) i) (ka0 (AD st) (lo+n-1)):=by
      by_cases h:i=lo+n-1
      .rw[h];exact O.refl (v0 _ (by lia))
      .exact S i (lo+n-1) g1 (by lia) (by lia)
     have x2:leK lt (ka0 (AD st) lo) (ka0 (AD st) j):=by
      by_cases h:j=lo
      .rw[h];exact O.refl (v0 _ (by lia))
      .exact S lo j (AE _) (by lia) (by lia)
     exact O.trans (v0 _ (by lia)) (v0 lo (by lia)) (v0 _ (by lia)) (O.trans (v0 _ (by lia)) (v0 (lo+n-1) (by lia)) (v0 lo (by lia)) x1 e) x2
    have D0:ü lt (AD st) lo (lo+n):=λi j g1 g2 g3=>Q0 j i (by lia) g3 g1 (by lia)
    have D1:=ü.snoc O v0 (show lo+n<a0.size by lia) (by lia) D0 (O.asymm (v0 _ (by lia)) (v0 _ (by lia)) b4)
    rw[e3];exact D1.mir (by lia) Q0 (AE _) (by lia)
  .have:n=1:=by lia
   subst this;exact J_ _ ⟨B,ü.snoc O v0 (show lo+1<a0.size by lia) (by lia) (λi j g1 g2 g3=>by lia) (O.asymm (v0 _ (by lia)) (v0 _ (by lia)) b4)⟩
end
section
variable{E:Vq}
variable{lo:Ag}
def Ez(lt:Aw->Aw->Ai)(a:Ax Aw):Ac (Ag×Ag×Ag)->Ag->Ag->Prop
 |[],b,e=>b=e
 |x::r,b,e=>x.1=b/\0<x.2.1/\zb lt a b (b+x.2.1)/\Ez lt a r (b+x.2.1) e
theorem Ez.le{a:Ax Aw}:∀{l:Ac (Ag×Ag×Ag)}{b e:Ag},Ez lt a l b e->b+l.length<=e
 |[],b,e,h=>by have h:b=e:=h;rw[h];exact AE _
 |x::r,b,e,h=>by
  have:=Ez.le h.2.2.2;have:=h.2.1;rw[BV]
  lia
theorem Ez.mono{a:Ax Aw}:∀{l:Ac (Ag×Ag×Ag)}{b e:Ag},Ez lt a l b e->(∀ i,b<=i->i<e->ka0 a' i=ka0 a i)->Ez lt a' l b e
 |[],b,e,h,_=>h
 |x::r,b,e,h,g=>by
  have:=Ez.le h.2.2.2;exact⟨h.1,h.2.1,λi j h1 h2 h3=>by rw[g i h1 (by lia),g j (by lia) (by lia)];exact h.2.2.1 i j h1 h2 h3,Ez.mono h.2.2.2 λi h1 h2=>g i (by lia) h2⟩
theorem Ez.split{a:Ax Aw}:∀{L R:Ac (Ag×Ag×Ag)}{b e:Ag},Ez lt a (L++R) b e->∃ m,Ez lt a L b m/\Ez lt a R m e
 |[],R,b,e,h=>⟨b,rfl,h⟩
 |x::L,R,b,e,h=>by
  obtain⟨m,h1,h2⟩:=Ez.split (L:=L) h.2.2.2;exact⟨m,⟨h.1,h.2.1,h.2.2.1,h1⟩,h2⟩
theorem Ez.join{a:Ax Aw}:∀{L R:Ac (Ag×Ag×Ag)}{b m e:Ag},Ez lt a L b m->Ez lt a R m e->Ez lt a (L++R) b e
 |[],R,b,m,e,h,h'=>by have h:b=m:=h;rw[h];exact h'
 |x::L,R,b,m,e,h,h'=>⟨h.1,h.2.1,h.2.2.1,Ez.join h.2.2.2 h'⟩
theorem Ez.modify{a:Ax Aw}(h1:∀ x,(f x).1=x.1)(h2:∀ x,(f x).2.1=x.2.1):∀{l:Ac (Ag×Ag×Ag)}{i b e:Ag},Ez lt a l b e->Ez lt a (l.modify i f) b e
 |[],i,b,e,h=>by rw[List.modify_nil];exact h
 |x::r,0,b,e,h=>by
  rw[List.modify_zero_cons];unfold Ez at h ⊢;rw[h1,h2];exact h
 |x::r,i+1,b,e,h=>by
  rw[List.modify_succ_cons];exact⟨h.1,h.2.1,h.2.2.1,Ez.modify h1 h2 h.2.2.2⟩
structure RS (κ:Fl) (lt:Aw->Aw->Ai) (a0:Ax Aw) (lo:Ag) (st:A5):Prop where
 kd:kindOf st=κ
 fl:EH st=Af
 up:bm a0 (AD st) 0 a0.size
 rn:Ez lt (AD st) (BM st).toList 0 lo
 hl:lo<=a0.size
theorem bn{α:Type}{l:Ac α}(h:i+1<l.length):∃ L x y R,l=L++x::y::R/\L.length=i:=by
 refine⟨l.take i,l[i]'(by lia),l[i+1]'h,l.drop (i+2),?_,by rw[EG];lia⟩
 rw[<-CJ h,<-CJ (show i<l.length by lia),CT]
theorem Xl(C:JN M A s κ V lt)(O:My V lt)(hv:∀ x∈a0.toList,V x)(R:RS κ lt a0 lo st)(hi:i+1<(BM st).size)(q:∀ Z8,RS κ lt a0 lo Z8->(BM Z8).size+1=(BM st).size->(∀ j,lo<=j->ka0 (AD Z8) j=ka0 (AD st) j)->Q Aa Z8):BN M A E s (WC i) Q st:=by
 obtain⟨L,⟨sa,na,pw⟩,⟨sb,nb,pw2⟩,T,e,hL⟩:=bn (l:=(BM st).toList) (i:=i) (by rw[AQ];exact hi)
 have rn:=R.rn;rw[e]at rn;obtain⟨m,r1,r2⟩:=rn.split;obtain⟨ea,pa,s1,eb,pb,s2,r3⟩:=r2;dsimp only at ea pa s1 eb pb s2 r3;subst ea;have ώ:=r3.le;have hle1:=r1.le;have hhl:=R.hl;have hsz:=R.up.sz;refine mL C O (sa:=sa) (na:=na) (pw:=pw) (sb:=sb) (nb:=nb) (pw2:=pw2) ?_ ?_ (by lia) pa pb (by lia) (by rw[eb];exact s1) (by rw[eb];exact s2) (λx hx=>hv x (R.up.pm.mem_iff.mp hx)) R.kd R.fl λZ8 k1 k2 k3 U S=>?_
 .rw[<-Dk,e,C4 (by lia),hL,Nat.sub_self];rfl
 .rw[<-Dk,e,C4 (by lia),hL,show i+1-i=1 by lia];rfl
 have ep:(BM Z8).toList=L++(sa,na+nb,pw)::T:=by
  rw[k3,Array.toList_eraseIdxIfInBounds,Z_5,e,<-hL];simp[List.set_append,List.eraseIdx_append];intro h;lia
 refine q Z8 ⟨k1,k2,R.up.trans (U.mono (Ds _) (by lia)),?_,R.hl⟩ ?_ λj hj=>U.out j (by lia)
 .rw[ep];refine(r1.mono λi h1 h2=>U.out i (by lia)).join ⟨rfl,by show 0<na+nb;lia,?_,?_⟩
  .show zb lt (AD Z8) sa (sa+(na+nb));rw[show sa+(na+nb)=sb+nb by lia]
   exact S
  .show Ez lt (AD Z8) T (sa+(na+nb)) lo;rw[show sa+(na+nb)=sa+na+nb by lia]
   exact r3.mono λi h1 h2=>U.out i (by lia)
 .rw[<-AQ,<-AQ,ep,e];simp
  lia
theorem RS.push{st:A5}(R:RS κ lt a0 lo st)(h1:1<=n)(h2:lo+n<=a0.size)(S:zb lt (AD st) lo (lo+n)):RS κ lt a0 (lo+n) (setPending st ((BM st).push (lo,n,pw))):=by
 refine⟨R.kd,R.fl,R.up,?_,h2⟩;show Ez lt (AD st) ((BM st).push (lo,n,pw)).toList 0 (lo+n);rw[EA];exact R.rn.join ⟨rfl,h1,S,rfl⟩
theorem jj[FE c]{y:Ag}:(if c then x else y)=x\/(if c then x else y)=y:=by split<;>simp
theorem au{f:JR->Ag->Ev A5 D7 α}{H:Ag->A5->Prop}{m:Ev A5 D7 α}{Q:α->A5->Prop}(J_:∀ n Z8,H n Z8->BN M A E s (f ⟨⟩ n) Q Z8)(main:(∀ n Z8,H n Z8->BN M A E s (f ⟨⟩ n) Q Z8)->BN M A E s m Q st):BN M A E s m Q st:=main J_
theorem lF(C:JN M A s κ V lt)(O:My V lt)(hv:∀ x∈a0.toList,V x)(hk:kindOf st=κ)(hf:EH st=Af)(ha:AD st=a0)(hp:BM st=#[])(q:∀ Z8,kindOf Z8=κ->EH Z8=Af->(AD Z8).toList.Perm a0.toList->zb lt (AD Z8) 0 a0.size->Q ⟨⟩ Z8):BN M A E s sortRuns' Q st:=by
 rw[sortRuns'_eq];refine AC (GX ?_);rw[ha]
 extract_lets size mr lo0
 have R0:RS κ lt a0 0 st:=⟨hk,hf,by rw[ha];exact bm.rfl',by rw[hp];rfl,Ds _⟩
 refine AC (DL (Q:=λx Z8=>x.1=Af/\RS κ lt a0 a0.size Z8) (Cz (λi x Z8=>x.1=Af/\RS κ lt a0 x.2 Z8/\i<=x.2) (λi x Z8 g1 g2 hI=>?_) (λx Z8 hI=>?_) ⟨rfl,R0,AE _⟩) λx Z8 hP=>?_)
 .obtain⟨b1,R,b2⟩:=hI;obtain⟨x1,lo⟩:=x;have R:RS κ lt a0 lo Z8:=R;have b2:i<=lo:=b2;have hl:=R.hl
  try extract_lets
  show BN M A E s (if lo ≥ a0.size then _ else _) _ _
  refine Dg (λh1=>?_) λh1=>?_
  .refine AM ⟨rfl,?_⟩;have e:lo=a0.size:=by lia
   rw[e]at R;exact R
  have hsz:=R.up.sz;have hv':∀ x∈(AD Z8).toList,V x:=λx hx=>hv x (R.up.pm.mem_iff.mp hx)
  have toR:∀ {ya},BS κ (AD Z8) (BM Z8) lo a0.size ya->RS κ lt a0 lo ya:=λB=>⟨B.kd,B.fl,R.up.trans (B.up.mono (Ds _) (AE _)),by rw[B.pd];exact R.rn.mono λi _ h=>B.up.out i (.inl h),hl⟩
  refine AC (oP C O hv' (hi:=a0.size) ⟨R.kd,R.fl,rfl,bm.rfl'⟩ (show 1<=a0.size-lo by lia) (by lia) (by lia) λn ya n1 n2 B S=>?_)
  dsimp -zeta only;rename_i jp _ _;refine au (f:=jp) (H:=λn ya=>1<=n/\lo+n<=a0.size/\RS κ lt a0 lo ya/\zb lt (AD ya) lo (lo+n)) (λn ya hH=>?_) (λJ_=>?_)
  .obtain⟨n1,n2,R2,S2⟩:=hH;refine AC (GX ?_)
   extract_lets lo2 jp2
   refine PV (f:=jp2) (H:=λya=>RS κ lt a0 lo ya/\zb lt (AD ya) lo (lo+n)) (λJ0 hH=>?_) (λJ_=>?_)
   .obtain⟨R3,S3⟩:=hH;refine AC (Fc ?_);exact AM ⟨rfl,R3.push n1 n2 S3,by show i+1<=lo+n;lia⟩
   .cases hb:(BM ya).back? with
    |none=>exact J_ _ ⟨R2,S2⟩
    |some v=>
     obtain⟨s1,n1',pw0⟩:=v;dsimp -zeta only
     extract_lets pw
     refine AC (DL (Q:=λx J0=>x.1=Af/\RS κ lt a0 lo J0/\zb lt (AD J0) lo (lo+n)) (Cz (fun(j:Ag)(x:Ar Io×Io)(J0:A5)=>x.1=Af/\RS κ lt a0 lo J0/\zb lt (AD J0) lo (lo+n)) (λj x J0 _ _ hI=>?_) (λx J0 hI=>hI) ⟨rfl,R2,S2⟩) λx J0 hP=>?_)
     .obtain⟨_,R3,S3⟩:=hI;refine AC (GX ?_)
      extract_lets p
      cases hq:(if p.size>1 then p[p.size-2]? else Af) with
      |none=>exact AM ⟨rfl,R3,S3⟩
      |some v=>
       obtain⟨f1,f2,older⟩:=v;have p1:p.size>1:=by
        by_cases h:p.size>1
        .exact h
        .rw[AF h]at hq;cases hq
       have p1:(BM J0).size>1:=p1;dsimp -zeta only;refine JE (AM ⟨rfl,R3,S3⟩) ?_;refine AC (Xl C O hv R3 (i:=(BM J0).size-2) (by lia) λϫ R4 z4 o4=>?_)
       exact AM ⟨rfl,R4,λi j h1 h2 h3=>by rw[o4 i h1,o4 j (by lia)];exact S3 i j h1 h2 h3⟩
     .obtain⟨b1,R3,S3⟩:=hP;obtain⟨x1,x2⟩:=x;have b1:x1=Af:=b1;subst b1;refine AC (Fc ?_);refine J_ _ ⟨⟨R3.kd,R3.fl,R3.up,?_,R3.hl⟩,S3⟩;show Ez lt (AD J0) ((BM J0).modify _ _).toList 0 lo;rw[Array.toList_modify];exact Ez.modify (f:=λx=>(x.1,x.2.1,pw)) (λ_=>rfl) (λ_=>rfl) R3.rn
  .show BN M A E s (if n<mr then _ else _) _ _
   refine Dg (λh2=>?_) λh2=>?_
   .refine AC (MR ?_);refine AC (nI C O hv' (n:=min (a0.size-lo) mr) B n1 (by lia) (by lia) (by lia) S λJ0 B3 S3=>?_)
    exact J_ _ _ ⟨by lia,by lia,toR B3,S3⟩
   .exact J_ _ _ ⟨n1,by lia,toR B,S⟩
 .obtain⟨b1,R,b2⟩:=hI;have b2:max 0 a0.size<=x.2:=b2;have:=R.hl;rw[show x.2=a0.size by lia]at R
  exact⟨b1,R⟩
 .obtain⟨b1,R⟩:=hP;obtain⟨x1,lo⟩:=x;have b1:x1=Af:=b1;subst b1
  try extract_lets
  have ώ:=R.rn.le;rw[AQ]at ώ;refine AC (DL (Q:=λx J0=>x.1=Af/\RS κ lt a0 a0.size J0/\(BM J0).size<=1) (Cz (λj x J0=>x.1=Af/\RS κ lt a0 a0.size J0/\((BM J0).size<=1\/(BM J0).size+j<=a0.size)) (λj x J0 _ _ hI=>?_) (λx J0 hI=>?_) ⟨rfl,R,.inr (by lia)⟩) λx J0 hP=>?_)
  .obtain⟨c1,R3,c2⟩:=hI
   try extract_lets
   refine AC (GX ?_)
   extract_lets p
   show BN M A E s (if (BM J0).size<=1 then _ else _) _ _
   refine Dg (λh=>?_) λh=>?_
   .exact AM ⟨rfl,R3,h⟩
   rename_i i1;have hi:i1=(BM J0).size-2-1\/i1=(BM J0).size-2:=jj;have hi:i1+1<(BM J0).size:=by lia
   refine AC (Xl C O hv R3 hi λϫ R4 z4 o4=>?_)
   exact AM ⟨rfl,R4,.inr (by lia)⟩
  .obtain⟨c1,R3,c2⟩:=hI;have c2:(BM J0).size<=1\/(BM J0).size+max 0 a0.size<=a0.size:=c2;exact⟨c1,R3,by lia⟩
  .obtain⟨c1,R3,c2⟩:=hP;obtain⟨x1,x2⟩:=x;have c1:x1=Af:=c1;subst c1;refine AM (q _ R3.kd R3.fl R3.up.pm ?_);have rn:=R3.rn;cases hl:(BM J0).toList with
   |nil=>
    rw[hl]at rn;have rn:0=a0.size:=rn;exact λi j h1 h2 h3=>by lia
   |cons x r=>
    rw[hl]at rn;have:r.length=0:=by
     have:=congrArg JV hl;rw[AQ,BV]at this
     lia
    have hr:=List.length_eq_zero_iff.mp this;rw[hr]at rn;obtain⟨_,_,S,e⟩:=rn;have e:0+x.2.1=a0.size:=e;rw[e]at S;exact S
end
end Ov
namespace Ov
open PySem PySem.W PyProof.Rows
variable{r q:Ac Ad}
structure Sto (lt:Ag->Ag->Ai) (n:Ag):Prop where
 tr:∀ i j k,i<n->j<n->k<n->lt i j=Aa->lt j k=Aa->lt i k=Aa
 tot:∀ i j,i<n->j<n->i≠j->lt i j=Ae->lt j i=Aa
 asy:∀ i j,i<n->j<n->lt i j=Aa->lt j i=Ae
def ê(p:Ax Ag)(x:Ag):Ag:=p.getD x 0
structure Pm (n:Ag) (p:Ax Ag):Prop where
 sz:p.size=n
 lt:∀ x,x<n->ê p x<n
 inj:∀ x y,x<n->y<n->ê p x=ê p y->x=y
def Nm(lt:Ag->Ag->Ai)(p:Ax Ag)(m:Ag):Prop:=∀ x y,x<y->y<m->lt (ê p x) (ê p y)=Aa
theorem qY(n:Ag):Pm n (D5 (B5 n)):=by
 have e:∀ x,x<n->ê (D5 (B5 n)) x=x:=λx hx=>by simp[ê,EI,hx]
 exact⟨by simp,λx hx=>by rw[e x hx];exact hx,λx y hx hy h=>by rw[e x hx,e y hy]at h;exact h⟩
def FQ(h:AO)(v:Aj)(r:Ac Ad):Prop:=∃ a its,v=.ref a/\Ku h a its/\DB its.toList r/\r≠[]
noncomputable def BU:Ac Ad->Ac Ad->Ai
 |[],[]=>Ae
 |[],_::_=>Aa
 |_::_,[]=>Ae
 |x::xs,y::ys=>if x=y then BU xs ys else decide (x<y)
section
variable{prog:AW}{w:AJ}{A:A9}{E:Vq}{s:Aq}
theorem YZ:∀{vs us:Ac Aj}{r q:Ac Ad}(i:Ag),DB vs r->DB us q->C (BU r q) s->KatLex prog w A Aa (decide (vs.length<us.length)) C (vs.zip us) i s
 |[],[],[],[],i,_,_,h=>by
  have h':C Ae s:=h;exact Mx h'
 |[],u::us,[],y::q,i,_,_,h=>by
  have h':C Aa s:=h;refine Mx ?_;have e:decide (([]:Ac Aj).length<(u::us).length)=Aa:=by simp
  rw[e];exact h'
 |v::vs,[],x::r,[],i,_,_,h=>by
  have h':C Ae s:=h;exact Mx h'
 |v::vs,u::us,x::r,y::q,i,hv,hu,h=>by
  cases hv with
  |cons _ tv hv=>
   cases hu with
   |cons _ tu hu=>
    have e0:decide ((JS x tv::vs).length<(JS y tu::us).length)=decide (vs.length<us.length):=by simp
    rw[e0];refine kat_cons (Jx ?_);by_cases e:x=y
    .have e1:(x==y)=Aa:=by simp[e]
     rw[e1];refine kat_yes (YZ (i+1) hv hu ?_);have h':C (if x=y then BU r q else decide (x<y)) s:=h
     rw[AB e]at h';exact h'
    .have e1:(x==y)=Ae:=by simp[e]
     rw[e1];have h':C (decide (x<y)) s:=by
      have h':C (if x=y then BU r q else decide (x<y)) s:=h
      rwa [AF e]at h'
     refine kat_no ?_;cases i with
     |zero=>exact oneLt_int h'
     |succ i=>
      have e2:(Aa&&(i+1==0))=Ae:=rfl;rw[e2];exact kat_one _ _ (wpAny_lt_int h')
 |[],_,_::_,_,_,hv,_,_=>nomatch hv
 |_::_,_,[],_,_,hv,_,_=>nomatch hv
 |_,[],_,_::_,_,_,hu,_=>nomatch hu
 |_,_::_,_,[],_,_,hu,_=>nomatch hu
theorem bp(hv:FQ s.heap v r)(hu:FQ s.heap u q)(h:C (BU r q) s):Az (model prog w) A (keyLt' (tuples' Aa) v u) C E s:=by
 obtain⟨a,xs,rfl,⟨oa,ga,_,n,da⟩,ix,_⟩:=hv;obtain⟨b,ys,rfl,⟨ob,gb,_,m,db⟩,iy,_⟩:=hu;refine kat_lt ga da gb db ?_;have:=YZ (prog:=prog) (w:=w) (A:=A) (s:=s) 0 ix iy h;simpa using this
theorem MU:∀{r q:Ac Ad},BU r q=Aa->BU q r=Ae
 |[],[],h=>by exact BP h
 |[],_::_,_=>rfl
 |_::_,[],h=>by exact BP h
 |x::r,y::q,h=>by
  have h':(if x=y then BU r q else decide (x<y))=Aa:=h
  show (if y=x then BU q r else decide (y<x))=Ae
  by_cases e:x=y
  .rw[AB e]at h';rw[AB e.symm];exact MU h'
  .rw[AF e,AN]at h';rw[AF (Cy e),G3]
   lia
theorem Pb:∀{r q:Ac Ad},r≠q->BU r q=Ae->BU q r=Aa
 |[],[],n,_=>absurd rfl n
 |[],_::_,_,h=>by cases h
 |_::_,[],_,_=>rfl
 |x::r,y::q,n,h=>by
  have h':(if x=y then BU r q else decide (x<y))=Ae:=h
  show (if y=x then BU q r else decide (y<x))=Aa
  by_cases e:x=y
  .rw[AB e]at h';rw[AB e.symm];exact Pb (λz=>n (by rw[e,z])) h'
  .rw[AF e,G3]at h';rw[AF (Cy e),AN]
   lia
theorem Pw:∀{r q t:Ac Ad},BU r q=Aa->BU q t=Aa->BU r t=Aa
 |[],[],_,h,_=>by exact BP h
 |_::_,[],_,h,_=>by exact BP h
 |_,_::_,[],_,h=>by exact BP h
 |[],_::_,_::_,_,_=>rfl
 |x::r,y::q,u::t,h,g=>by
  have h':(if x=y then BU r q else decide (x<y))=Aa:=h
  have g':(if y=u then BU q t else decide (y<u))=Aa:=g
  show (if x=u then BU r t else decide (x<u))=Aa
  by_cases e:x=y
  .rw[AB e]at h';by_cases f:y=u
   .rw[AB f]at g';rw[AB (e.trans f)];exact Pw h' g'
   .rw[AF f,AN]at g';rw[AF (by lia),AN]
    lia
  .rw[AF e,AN]at h';by_cases f:y=u
   .rw[AF (by lia),AN]
    lia
   .rw[AF f,AN]at g';rw[AF (by lia),AN]
    lia
def Μ(rs:Ac (Ac Ad))(i j:Ag):Ai:=BU (rs.getD i []) (rs.getD j [])
theorem oQ(nd:rs.Nodup):Sto (Μ rs) rs.length:=by
 refine⟨λi j k _ _ _=>Pw,λi j hi hj ne h=>Pb (λe=>ne ?_) h,λi j _ _=>MU⟩
 have h':=De.mp nd;rw[B9,B9,AU hi,AU hj]at e;have e':rs[i]=rs[j]:=e;rcases bN i j with z|z|z
 .exact absurd e' (h' i j hi hj z)
 .exact z
 .exact absurd e'.symm (h' j i hj hi z)
noncomputable abbrev LB(vs:Ac Aj)(p:Ax Ag):Ax Aj:=D5 (p.toList.map λi=>vs.getD i Bo)
theorem mQ(vs:Ac Aj):LB vs (D5 (B5 vs.length))=vs.toArray:=by
 apply Hk.mp
 show (B5 vs.length).map (λi=>vs.getD i Bo)=vs
 apply Jp
 .simp
 .intro i h1 h2;simp[h2]
theorem VI:∀{vs:Ac Aj}{rs:Ac (Ac Ad)},rs.length=vs.length->(∀(i:Ag)(v:Aj)(r:Ac Ad),vs[i]?=Ab v->rs[i]?=Ab r->FQ h v r)->∃ fs,KatTups h vs fs/\fs.length=vs.length/\∀ v∈fs,∃ x t,v=JS x t
 |[],_,_,_=>⟨[],eI,rfl,λv hv=>by cases hv⟩
 |v::vs,[],hl,_=>by cases hl
 |v::vs,r::rs,hl,ht=>by
  obtain⟨fs,h1,h2,h3⟩:=VI (vs:=vs) (rs:=rs) (by simpa using hl) λi v r a b=>ht (i+1) v r a b
  obtain⟨a,its,rfl,⟨o,ho,hc,n,hd⟩,hi,il⟩:=ht 0 v r rfl rfl;cases e:its.toList with
  |nil=>
   rw[e]at hi;cases hi;exact absurd rfl il
  |cons f l=>
   rw[e]at hi;cases hi with
   |cons x t hi=>
    refine⟨.int x t::fs,eH ho hc hd ?_ h1,by simp[h2],λv hv=>?_⟩
    .rw[<-Dk,e];rfl
    .rcases Ay.mp hv with rfl|hv
     .exact⟨x,t,rfl⟩
     .exact h3 v hv
theorem rL{α:Type}(d:α){l' l:Ac α}(h:l'.Perm l):∃ p:Ac Ag,p.Perm (B5 l.length)/\l'=p.map λi=>l.getD i d:=by
 induction h with
 |nil=>exact⟨[],.nil,rfl⟩
 | @cons x l1 l2 h ih=>
  obtain⟨p,hp,e⟩:=ih;refine⟨0::p.map (· + 1),?_,?_⟩
  .rw[BV,FN];exact(hp.map _).cons 0
  .rw[BG,CF,e];rfl
 | @swap x y l=>
  refine⟨1::0::(B5 l.length).map (· + 2),?_,?_⟩
  .rw[BV,BV,FN,FN,BG,CF];exact .swap ..
  .rw[BG,BG,CF];show y::x::l=_
   congr 2
   apply Jp
   .simp
   .intro i h1 h2;simp[h1]
 | @trans l1 l2 l3 h1 h2 ih1 ih2=>
  obtain⟨p,hp,e⟩:=ih1;obtain⟨q,hq,f⟩:=ih2;have hl:l2.length=l3.length:=h2.length_eq;have ql:q.length=l3.length:=by rw[hq.length_eq,Jc]
  refine⟨p.map λi=>q.getD i 0,?_,?_⟩
  .refine(hp.map _).trans (aK (JO ?_) hq)
   apply Jp
   .rw[A6,Jc,hl,ql]
   .intro i h1 h2;rw[Jq,List.getElem_range];simp[h2]
  .rw[e,CF]
   apply DY
   intro i hi;have yp:i<l2.length:=Dl.mp (hp.mem_iff.mp hi);show l2.getD i d=l3.getD (q.getD i 0) d;have g1:l2.getD i d=(q.map λi=>l3.getD i d).getD i d:=by rw[<-f]
   rw[g1];have hq':i<q.length:=by lia
   simp[hq']
theorem DB.uniq(h:DB vs r)(h':DB vs q):r=q:=by rw[<-h.nums,<-h'.nums]
theorem FQ.uniq{r q:Ac Ad}(t:FQ h v r)(u:FQ h v q):r=q:=by
 obtain⟨a,its,rfl,⟨o,ho,hc,n,hd⟩,hi,_⟩:=t;obtain⟨b,its',e,⟨o',oI,ú,n',È⟩,yp,_⟩:=u;cases e;rw[ho]at oI;cases oI;rw[hd]at È;cases È;exact DB.uniq hi yp
structure ý (prog:AW) (w:AJ) (A:A9) (T:AO->Aj->Ac Ad->Prop) (b:Ai):Prop where
 kept:∀{h h':AO}{v:Aj}{r:Ac Ad},T h v r->(∀(b:Ak)(o:DE),h.get? b=Ab o->o.cls=.type "tuple"->h'.get? b=Ab o)->T h' v r
 uniq:∀{h:AO}{v:Aj}{r q:Ac Ad},T h v r->T h v q->r=q
 lt:∀{E:Vq}{C:Ai->Aq->Prop}{s:Aq}{v u:Aj}{r q:Ac Ad},T s.heap v r->T s.heap u q->C (BU r q) s->Az (model prog w) A (keyLt' (tuples' b) v u) C E s
 first:∀{h:AO}{vs:Ac Aj}{rs:Ac (Ac Ad)},rs.length=vs.length->(∀(i:Ag)(v:Aj)(r:Ac Ad),vs[i]?=Ab v->rs[i]?=Ab r->T h v r)->∃ fs,KatTups h vs fs/\fs.length=vs.length/\∀ v∈fs,Looks (model prog w) h (typeOf v) (.type (if b=Aa then "int" else "tuple"))
theorem U7:ý prog w A FQ Aa:=
 ⟨λ⟨a,its,e,⟨o,ho,hc,q⟩,x,y⟩ k=>⟨a,its,e,⟨o,k _ _ ho hc,hc,q⟩,x,y⟩,λt u=>t.uniq u,λt u h=>bp t u h,λhl ht=>let ⟨fs,h1,h2,h3⟩:=VI hl ht;⟨fs,h1,h2,λv hv=>by
  obtain⟨x,t,rfl⟩:=h3 v hv;exact .now⟩⟩
open Classical in
def Ŏ(T:AO->Aj->Ac Ad->Prop)(h:AO)(x y:Aw):Ai:=decide (∃ r q,T h x.1 r/\T h y.1 q/\BU r q=Aa)
open Classical in
theorem L6(rk:ý prog w A T b)(t:T h x.1 r)(u:T h y.1 q):Ŏ T h x y=BU r q:=by
 unfold Ŏ;cases e:BU r q with
 |true=>exact Cm ⟨r,q,t,u,e⟩
 |false=>
  refine CK λ⟨r',q',t',u',e'⟩=>?_
  rw[rk.uniq t' t,rk.uniq u' u,e]at e';exact BP e'
theorem pV(r:Ac Ad):BU r r=Ae:=by
 cases e:BU r r with
 |false=>rfl
 |true=>have:=MU e;rw[e]at this;cases this
theorem rQ(rk:ý prog w A T b)(h:AO):My (λx=>∃ r,T h x.1 r) (Ŏ T h):=by
 refine⟨λ⟨r,t⟩ ⟨q,u⟩ e=>?_,λ⟨r,t⟩ ⟨q,u⟩ ⟨p,v⟩ e1 e2=>?_⟩
 .rw[L6 rk t u]at e;rw[L6 rk u t];exact MU e
 .rw[L6 rk u t]at e1;rw[L6 rk v u]at e2;rw[L6 rk v t];cases e:BU p r with
  |false=>rfl
  |true=>
   by_cases a:p=q
   .rw[a,e1]at e;cases e
   .have x:=Pb a e2;have y:=Pw x e;rw[e1]at y;exact BP y
theorem sI(rk:ý prog w A T b):JN (model prog w) A s (tuples' b) (λx=>∃ r,T s.heap x.1 r) (Ŏ T s.heap):=λE st x y Q hk ⟨r,t⟩ ⟨q,u⟩ h=>by
 rw[lt'_eq];refine AC (GX ?_);rw[hk];rw[L6 rk t u]at h;refine AC (wpS_lift (FB (rk.lt t u ⟨rfl,?_⟩)));exact AM h
theorem vX(rk:ý prog w A T b)(hr:rs.length=vs.length)(kt:∀(i:Ag)(v:Aj)(r:Ac Ad),vs[i]?=Ab v->rs[i]?=Ab r->T s.heap v r)(nd:rs.Nodup):Az (model prog w) A ((sortRuns').run (Mo (tuples' b) (vs.toArray.zip vs.toArray) #[] 7 Af)) (λr s'=>s'=s/\∃ p,Pm vs.length p/\Nm (Μ rs) p vs.length/\(AD r.2).map (·.2)=LB vs p/\EH r.2=Af) E s:=by
 have tl:(vs.toArray.zip vs.toArray).toList=vs.zip vs:=by simp
 have zl:(vs.zip vs).length=vs.length:=by simp
 have zg:∀ i (h:i<vs.length),(vs.zip vs).getD i (Bo,Bo)=(vs[i],vs[i]):=λi h=>by simp[h]
 refine lF (st:=Mo (tuples' b) (vs.toArray.zip vs.toArray) #[] 7 Af) (Q:=λ_ Z8=>∃ p,Pm vs.length p/\Nm (Μ rs) p vs.length/\(AD Z8).map (·.2)=LB vs p/\EH Z8=Af) (V:=λx=>∃ r,T s.heap x.1 r) (a0:=vs.toArray.zip vs.toArray) (sI rk) (rQ rk s.heap) (λx hx=>?_) rfl rfl rfl rfl λZ8 _ hf pm so=>?_
 .rw[tl]at hx;obtain⟨i,hi,rfl⟩:=Ft hx;rw[zl]at hi;rw[List.getElem_zip];exact⟨_,kt i _ _ (AU hi) (AU (by lia:i<rs.length))⟩
 .rw[tl]at pm;obtain⟨p,hp,e⟩:=rL (Bo,Bo) pm;rw[zl]at hp;have pl:p.length=vs.length:=by rw[hp.length_eq,Jc]
  have pn:p.Nodup:=hp.symm.nodup List.nodup_range;have pa:∀ x (h:x<vs.length),ê p.toArray x=p[x]'(by lia):=λx h=>by simp[ê,EI,show x<p.length by lia]
  have Ν:∀ x (h:x<vs.length),p[x]'(by lia)<vs.length:=λx h=>Dl.mp (hp.mem_iff.mp (Eb (by lia)))
  have PM:Pm vs.length p.toArray:=by
   refine⟨by simpa using pl,λx hx=>by rw[pa x hx];exact Ν x hx,λx y hx hy h=>?_⟩
   rw[pa x hx,pa y hy]at h;have:=De.mp pn;rcases bN x y with z|z|z
   .exact absurd h (this x y (by lia) (by lia) z)
   .exact z
   .exact absurd h.symm (this y x (by lia) (by lia) z)
  have ka:∀ x (h:x<vs.length),ka0 (AD Z8) x=(vs[p[x]'(by lia)]'(Ν x h),vs[p[x]'(by lia)]'(Ν x h)):=λx h=>by
   rw[MW,e,EB,AU (by lia)]
   show (vs.zip vs).getD p[x] (Bo,Bo)=_;rw[zg _ (Ν x h)]
  have kr:∀ x (h:x<vs.length),T s.heap (ka0 (AD Z8) x).1 (rs.getD (p[x]'(by lia)) []):=λx h=>by
   rw[ka x h];have:=Ν x h;refine kt _ _ _ (AU this) ?_;rw[B9,AU (by lia)]
   rfl
  have zs:(vs.toArray.zip vs.toArray).size=vs.length:=by simp
  refine⟨p.toArray,PM,λx y hxy hy=>?_,?_,hf⟩
  .have g:=so x y (Ds _) hxy (by rw[zs];exact hy)
   have hx:x<vs.length:=by lia
   have g:Ŏ T s.heap (ka0 (AD Z8) y) (ka0 (AD Z8) x)=Ae:=g;rw[L6 rk (kr y hy) (kr x hx)]at g;rw[pa x hx,pa y hy];have S:=oQ nd;refine S.tot _ _ (by rw[hr];exact Ν y hy) (by rw[hr];exact Ν x hx) (λh=>?_) g
   have:=PM.inj y x hy hx (by rw[pa x hx,pa y hy];exact h)
   lia
  .apply Hk.mp
   rw[Array.toList_map,e,CF];show _=p.map λi=>vs.getD i Bo
   apply DY
   intro i hi;have yp:i<vs.length:=Dl.mp (hp.mem_iff.mp hi);show ((vs.zip vs).getD i (Bo,Bo)).2=_;rw[zg i yp];simp[yp]
theorem kR(rk:ý prog w A T b)(ho:s.heap.get? a=Ab (Eg "list" vs.toArray n))(hr:rs.length=vs.length)(ht:∀(i:Ag)(v:Aj)(r:Ac Ad),vs[i]?=Ab v->rs[i]?=Ab r->T s.heap v r)(nd:rs.Nodup)(hz:vs.length<=1000)(h:∀ p:Ax Ag,Pm vs.length p->Nm (Μ rs) p vs.length->P (.done (.ret .none)) {s with heap:=sortedHeap s.heap a vs (LB vs p)}):Az (model prog w) A (Builtin.«list.sort» ⟨[.ref a],[]⟩) P E s:=by
 rw[list_sort_plain];have ha:a<s.heap.objs.size:=AK ho;refine Ah (listItems_at ho rfl ?_ );refine Ah (listUpdate_at ho rfl ?_ (by rw[AT,Dt];lia) (Ds _))
 obtain⟨e1,ho1⟩:∃ e1,(s.heap.update a (Cd λ_=>(#[]:Ax Aj))).get? a=Ab (Eg "list" #[] e1):=⟨_,get?_update_seq ho (λ_=>#[])⟩
 refine Ah (seqEpoch_at ho1 rfl ?_);refine Ah (Im ?_ (by show vs.length<=_;rw[Dt];lia))
 refine Ah (wpAny_newList ?_ (Ds _));refine Cn ?_;have ho6:(((s.heap.update a (Cd λ_=>(#[]:Ax Aj))).push (Eg "tuple" vs.toArray 0)).push (Eg "list" #[] 0)).get? a=Ab (Eg "list" #[] e1):=by
  rw[G6 _ _ _ (by rw[size_push',Ju];exact Be (DC ha)),G6 _ _ _ (by rw[Ju];exact Be ha)]
  exact ho1
 show Az (model prog w) A _ P E { s with heap:=((s.heap.update a (Cd λ_=>(#[]:Ax Aj))).push (Eg "tuple" vs.toArray 0)).push (Eg "list" #[] 0) }
 have kt:∀(i:Ag)(v:Aj)(r:Ac Ad),vs[i]?=Ab v->rs[i]?=Ab r->T (((s.heap.update a (Cd λ_=>(#[]:Ax Aj))).push (Eg "tuple" vs.toArray 0)).push (Eg "list" #[] 0)) v r:=λi v r h1 h2=>by
  refine rk.kept (ht i v r h1 h2) λb o hb hc=>?_
  have ne:b≠a:=λz=>by
   rw[z,ho]at hb;cases hb;have ú:DV "list" = DV "tuple" := hc
   injection ú with ú
   exact absurd ú (by decide)
  exact At _ (At _ ((Cu _ _ (Cy ne)).trans hb))
 dsimp only;have hsz:vs.toArray.size=vs.length:=by simp
 have fin:∀ p:Ax Ag,Pm vs.length p->Nm (Μ rs) p vs.length->∀ Z8:A5,(AD Z8).map (·.2)=LB vs p->EH Z8=Af->∀ s':Aq,s'={ s with heap:=((s.heap.update a (Cd λ_=>(#[]:Ax Aj))).push (Eg "tuple" vs.toArray 0)).push (Eg "list" #[] 0) }->Az (model prog w) A (do
   let sorted:=(AD Z8).map (·.2)
   let touched:=(<-seqEpoch a) != e1
   Builtin.List.listUpdate (.ref a) λ_=>sorted
   if let Ab e:=EH Z8 then rule "list.sort.comparison-raised"; throw e
   if touched then rule "list.sort.modified"; raiseError "ValueError" "list modified during sort"
   ret .none) P E s':=λp hp hs Z8 oI hf s' es=>by
  subst es;have osz:(LB vs p).size=vs.length:=by show (D5 (p.toList.map _)).size=_;rw[AT,A6,AQ,hp.sz]
  refine Ah (seqEpoch_at ho6 rfl ?_);rw[oI,hf];refine Ah (listUpdate_at ho6 rfl ?_ (Ds _) (by rw[osz,Dt];lia))
  simp only[bne_self_eq_false,C7,E2];exact Au (h p hp hs)
 by_cases h2:vs.toArray.size<2
 .rw[AB h2,AB h2];refine Ah (Au ?_);rw[StateT.run_pure];refine Ah (Au ?_);dsimp only;refine fin (D5 (B5 vs.length)) (qY _) (λx y a b=>by lia) (Mo general' (vs.toArray.zip vs.toArray) #[] 7 Af) ?_ rfl _ rfl
  rw[mQ];show (vs.toArray.zip vs.toArray).map (·.2)=vs.toArray
  apply Hk.mp
  simp[List.map_snd_zip]
 .rw[AF h2,AF h2];have h2':2<=vs.length:=by rw[hsz]at h2;lia
  obtain⟨fs,t1,t2,t3⟩:=rk.first hr kt
  refine Ah (kat_kind t1 (by lia) (T:=DV (if b=Aa then "int" else "tuple")) (λv hv=>t3 v hv) (by cases b<;>rfl) ?_)
  .have e0:tuples' (DV (if b=Aa then "int" else "tuple") != DV "tuple")=tuples' b:=by cases b<;>rfl
   rw[e0];refine Ah (Dx (vX rk hr kt nd) ?_ λ_ _ e=>e)
   rintro⟨⟨⟩,Z8⟩ s' ⟨es,p,hp,hs,oI,hf⟩;exact fin p hp hs Z8 oI hf s' es
theorem lO(rk:ý prog w A.in1.in1 T b){Q:Vq}(hl:s.heap.IsList l vs.toArray)(hr:rs.length=vs.length)(ht:∀(i:Ag)(v:Aj)(r:Ac Ad),vs[i]?=Ab v->rs[i]?=Ab r->T s.heap v r)(nd:rs.Nodup)(hz:vs.length<=1000)(h:∀ p:Ax Ag,Pm vs.length p->Nm (Μ rs) p vs.length->Q (.ref (s.heap.objs.size+1)) {s with heap:=sortedAll s.heap vs (LB vs p)}):
    Az (model prog w) A (call (.builtin "sorted") [.ref l]) Q E s:=by
  refine cE kind_sorted plain_sorted entry_sorted (args_sorted1 _) ?_;unfold Builtin.«sorted»;refine Ah (m:=checkCount "sorted" 1 1 _) (Au ?_);refine Ah (collect_list hl ?_ (by rw[Dt];lia))
  refine Ah (wpAny_newList ?_ (by rw[Dt];lia))
  have hsz:((s.heap.push (Eg "list" #[] 0)).update s.heap.objs.size (Cd (· ++ vs.toArray))).objs.size=s.heap.objs.size+1:=by
    rw[Ju,size_push']
  have Đ:(((s.heap.push (Eg "list" #[] 0)).update s.heap.objs.size (Cd (· ++ vs.toArray))).push (Eg "list" vs.toArray 0)).get? (s.heap.objs.size+1)=Ab (Eg "list" vs.toArray 0):=by
    rw[<-hsz];exact AG _ rfl
  have keep:∀ b o,s.heap.get? b=Ab o->(((s.heap.push (Eg "list" #[] 0)).update s.heap.objs.size (Cd (· ++ vs.toArray))).push (Eg "list" vs.toArray 0)).get? b=Ab o:=λb o q=>by
    have zd:b<s.heap.objs.size:=AK q;rw[G6 _ _ _ (by rw[hsz];exact Be (DC zd)),Heap.get?_update_ne _ _ _ _ (Be zd),G6 _ _ _ (Be zd)]
    exact q
  show Az _ _ _ _ _ { s with heap:=((s.heap.push (Eg "list" #[] 0)).update s.heap.objs.size (Cd (· ++ vs.toArray))).push (Eg "list" vs.toArray 0) }
  rw[hsz];refine Ah (Cn (CC slot_list_sort ⟨_,Đ,rfl⟩ entry_list_sort (kR rk (s:={ s with heap:=((s.heap.push (Eg "list" #[] 0)).update s.heap.objs.size (Cd (· ++ vs.toArray))).push (Eg "list" vs.toArray 0) }) Đ hr (λi v r h1 h2=>rk.kept (ht i v r h1 h2) λb o hb _=>keep b o hb) nd hz λp hp hs=>⟨_,rfl,?_⟩) (args_list_sort _)))
  exact Au ⟨_,rfl,h p hp hs⟩
end
end Ov
namespace Ov
noncomputable def tI(r:Ac Ad):D:=.H (r.map D.int)
theorem R6:∀(r q:Ac Ad),OV (r.map D.int) (q.map D.int)=decide (r=q)
 |[],[]=>rfl
 |[],_::_=>rfl
 |_::_,[]=>rfl
 |x::r,y::q=>by
  have e:OV ((x::r).map D.int) ((y::q).map D.int)=(x==y&&OV (r.map D.int) (q.map D.int)):=rfl;rw[e,R6 r q];by_cases h:x=y<;>by_cases g:r=q<;>simp[h,g]
def Lv(r q:Ac Ad):Y0 (tI r) (tI q)=decide (r=q):=R6 r q
theorem V6:∀(r q:Ac Ad),yx.ltDs (yx 0) (r.map D.int) (q.map D.int)=BU r q
 |[],[]=>rfl
 |[],_::_=>rfl
 |_::_,[]=>rfl
 |x::r,y::q=>by
  have e:yx.ltDs (yx 0) ((x::r).map D.int) ((y::q).map D.int)=if (x==y)=Aa then yx.ltDs (yx 0) (r.map D.int) (q.map D.int) else decide (x<y):=rfl
  have e':BU (x::r) (y::q)=if x=y then BU r q else decide (x<y):=rfl
  rw[e,e',V6 r q];by_cases h:x=y<;>simp[h]
def PL(r q:Ac Ad):yx 1 (tI r) (tI q)=BU r q:=V6 r q
theorem Xb:∀{xs:Ac D},xs.all (Ϩ 0)=Aa->∃ r:Ac Ad,xs=r.map D.int
 |[],_=>⟨[],rfl⟩
 |x::xs,h=>by
  rw[Ea,An]at h;obtain⟨r,e⟩:=Xb h.2;cases x with
  |int i=>exact⟨i::r,by rw[e];rfl⟩
  |_=>cases h.1
theorem vd(h:Ϩ 1 d=Aa):∃ r,d=tI r:=by
 cases d with
 |H xs=>
  obtain⟨r,e⟩:=Xb (xs:=xs) h;exact⟨r,by rw[e];rfl⟩
 |_=>exact BP h
theorem YH:∀{xs:Ac D},xs.all (λd=>Ϩ 1 d && !Y0 d (.H []))=Aa->∃ rs:Ac (Ac Ad),xs=rs.map tI/\∀ r∈rs,r≠[]
 |[],_=>⟨[],rfl,λr h=>by cases h⟩
 |x::xs,h=>by
  rw[Ea,An,An]at h;obtain⟨rs,e,hn⟩:=YH h.2;obtain⟨r,e1⟩:=vd h.1.1;refine⟨r::rs,by rw[e,e1];rfl,λq hq=>?_⟩
  rcases Ay.mp hq with rfl|hq
  .intro z;have h2:=h.1.2;rw[e1,z]at h2;exact BP h2
  .exact hn q hq
theorem YI:∀{rs:Ac (Ac Ad)},(∀ r∈rs,r≠[])->(rs.map tI).all (λd=>Ϩ 1 d && !Y0 d (.H []))=Aa
 |[],_=>rfl
 |r::rs,h=>by
  rw[BG,Ea,An,An];refine⟨⟨?_,?_⟩,YI λq hq=>h q (As _ hq)⟩
  .show (r.map D.int).all (Ϩ 0)=Aa;rw[Cj];intro d hd;obtain⟨i,_,rfl⟩:=Bp.mp hd;rfl
  .have e:Y0 (tI r) (.H [])=decide (r=[]):=R6 r [];rw[e];have:=h r (Av ..);simp[this]
def HZ(x:Ac Ad):Ac (Ac Ad)->Ac (Ac Ad)
 |[]=>[x]
 |y::ys=>if BU y x=Aa then y::HZ x ys else x::y::ys
def HU:Ac (Ac Ad)->Ac (Ac Ad)
 |[]=>[]
 |x::xs=>HZ x (HU xs)
theorem Y_4(x:Ac Ad):∀ ys:Ac (Ac Ad),Ke (yx 1) (tI x) (ys.map tI)=(HZ x ys).map tI
 |[]=>rfl
 |y::ys=>by
  have e:Ke (yx 1) (tI x) ((y::ys).map tI)=if yx 1 (tI y) (tI x)=Aa then tI y::Ke (yx 1) (tI x) (ys.map tI) else tI x::tI y::ys.map tI:=rfl
  have e':HZ x (y::ys)=if BU y x=Aa then y::HZ x ys else x::y::ys:=rfl
  rw[e,e',PL,Y_4 x ys];by_cases h:BU y x=Aa<;>simp[h]
theorem SM:∀ rs:Ac (Ac Ad),Me (yx 1) (rs.map tI)=(HU rs).map tI
 |[]=>rfl
 |r::rs=>by
  show Ke (yx 1) (tI r) (Me (yx 1) (rs.map tI))=(HZ r (HU rs)).map tI;rw[SM rs,Y_4]
theorem Sn(x:Ac Ad):∀ ys:Ac (Ac Ad),(HZ x ys).Perm (x::ys)
 |[]=>.refl _
 |y::ys=>by
  show (if BU y x=Aa then y::HZ x ys else x::y::ys).Perm _
  split
  .exact(Kg y (Sn x ys)).trans (List.Perm.swap ..)
  .exact .refl _
theorem Ln:∀ rs:Ac (Ac Ad),(HU rs).Perm rs
 |[]=>.refl _
 |r::rs=>(Sn r _).trans (Kg r (Ln rs))
theorem Y_5(x:Ac Ad):∀{ys:Ac (Ac Ad)},x∉ys->ys.Pairwise (λa b=>BU a b=Aa)->(HZ x ys).Pairwise (λa b=>BU a b=Aa)
 |[],_,_=>List.pairwise_singleton ..
 |y::ys,hx,h=>by
  show (if BU y x=Aa then y::HZ x ys else x::y::ys).Pairwise _
  obtain⟨h1,h2⟩:=Ee.mp h;by_cases g:BU y x=Aa
  .rw[AB g];refine Ee.mpr ⟨λz hz=>?_,Y_5 x (λm=>hx (As _ m)) h2⟩
   rcases Ay.mp ((Sn x ys).mem_iff.mp hz) with rfl|hz
   .exact g
   .exact h1 z hz
  .rw[AF g];have g':BU y x=Ae:=by simpa using g
   have xy:BU x y=Aa:=Pb (λe=>hx (by rw[e];exact Av ..)) g'
   refine Ee.mpr ⟨λz hz=>?_,h⟩
   rcases Ay.mp hz with rfl|hz
   .exact xy
   .exact Pw xy (h1 z hz)
theorem Pf:∀{rs:Ac (Ac Ad)},rs.Nodup->(HU rs).Pairwise (λa b=>BU a b=Aa)
 |[],_=>.nil
 |r::rs,h=>by
  obtain⟨h1,h2⟩:=Cs.mp h;exact Y_5 r (λm=>h1 ((Ln rs).mem_iff.mp m)) (Pf h2)
theorem RN(nd:rs.Nodup)(hs:ys.Pairwise (λa b=>BU a b=Aa))(hp:ys.Perm rs):HU rs=ys:=by
 refine List.Perm.eq_of_pairwise (le:=λa b=>BU a b=Aa) (λa b _ _ h1 h2=>?_) (Pf nd) hs ((Ln rs).trans hp.symm)
 rw[MU h1]at h2;exact BP h2
theorem WQ{α:Type}[DecidableEq α]:∀{l m:Ac α},l.Nodup->(∀ x∈l,x∈m)->m.length<=l.length->l.Perm m
 |[],m,_,_,hl=>by
  cases m with
  |nil=>exact .refl _
  |cons a m=>simp at hl
 |x::l,m,nd,hs,hl=>by
  obtain⟨h1,h2⟩:=Cs.mp nd;have hx:x∈m:=hs x (Av ..);have hp:=List.perm_cons_erase hx;refine(Kg x (WQ h2 (λy hy=>?_) ?_)).trans hp.symm
  .refine(aY (λe=>h1 (by rw[<-e];exact hy))).mpr (hs y (As _ hy))
  .have:=GK hx;simp at hl;omega
theorem NK{ys:Ac (Ac Ad)}(h:ys.Pairwise (λa b=>BU a b=Aa)):ys.Nodup:=
 h.imp λ{a b} g e=>by
  subst e;have:=MU g;rw[g]at this;cases this
theorem RO{α:Type}[DecidableEq α]{l m:Ac α}(hl:l.Nodup)(hm:m.Nodup)(h:∀ x,x∈l↔x∈m):l.Perm m:=by
 rw[List.perm_iff_count];intro a;rw[hl.count,hm.count];simp[h]
theorem S0:∀ rs:Ac (Ac Ad),JM (rs.map tI)=Aa↔rs.Nodup
 |[]=>by simp[JM]
 |r::rs=>by
  have e:JM ((r::rs).map tI)=((rs.map tI).all (λy=>!Y0 (tI r) y)&&JM (rs.map tI)):=rfl
  rw[e,An,S0 rs,Cs];refine and_congr ?_ LN;rw[Hx,Cj];constructor
  .intro h m;have:=h r m;simp[Lv]at this
  .intro h q hq;have:r≠q:=λz=>h (by rw[z];exact hq)
   simp[Lv,this]
theorem lQ{rs ys:Ac (Ac Ad)}(hn:∀ r∈rs,r≠[])(nd:rs.Nodup)(hz:rs.length<=1000)(hs:ys.Pairwise (λa b=>BU a b=Aa))(hm:∀ r,r∈ys↔r∈rs):F3 (rs.map tI)=.ok (ys.map tI):=by
 unfold F3;rw[AB (by rw[YI hn,(S0 rs).mpr nd,A6,Cm hz];rfl),SM,RN nd hs (RO (NK hs) nd hm)]
theorem nK{rs ys:Ac (Ac Ad)}(hn:∀ r∈rs,r≠[])(nd:rs.Nodup)(ċ:rs.length<64)(hs:ys.Pairwise (λa b=>BU a b=Aa))(hm:∀ r,r∈ys↔r∈rs):F3 (rs.map tI)=.ok (ys.map tI):=lQ hn nd (by lia) hs hm
theorem lP(h:F3 xs=.ok d):(∃ rs:Ac (Ac Ad),xs=rs.map tI/\(∀ r∈rs,r≠[])/\rs.Nodup/\rs.length<=1000/\d=(HU rs).map tI)\/Md xs=.ok d:=by
 unfold F3 at h;split at h
 .next g=>
  rw[An,An,AN]at g;obtain⟨rs,e,hn⟩:=YH g.1.1;subst e;rw[SM]at h;cases h;exact .inl ⟨rs,rfl,hn,(S0 rs).mp g.1.2,by simpa using g.2,rfl⟩
 .exact .inr h
open PySem PySem.Spec PyProof.Rows L2
section
variable{CL:ClA}
theorem V8{K:Fg}:∀{is:Ac Ad}{ys:Ac V},Z9 K CL H A ys (is.map D.int)->ys=is.map V.int
 |[],[],_=>rfl
 |[],_::_,r=>r.elim
 |_::_,[],r=>r.elim
 |i::is,y::ys,r=>by
  have e1:y=.int i:=r.1;rw[V8 r.2,e1];rfl
theorem WG:∀{is:Ac Ad}{its:Ac Aj},Bv (is.map V.int) its->DB its is
 |[],_,h=>by cases h;exact .nil
 |i::is,_,h=>by
  cases h with
  |cons h1 h2=>
   obtain⟨t,rfl⟩:=h1;exact .cons i t (WG h2)
theorem R5(I:Z4 X pI Z H s):∀{rs:Ac (Ac Ad)}{ys:Ac V}{its:Ac Aj},Z9 X.K CL H A ys (rs.map tI)->Bv ys its->(∀ r∈rs,r≠[])->∀(i:Ag)(v:Aj)(r:Ac Ad),its[i]?=Ab v->rs[i]?=Ab r->FQ s.heap v r
 |[],_,_,_,_,_,i,v,r,_,e=>by exact Hd e
 |_::_,[],_,h,_,_,_,_,_,_,_=>h.elim
 |q::rs,y::ys,_,h,hv,hn,i,v,r,e1,e2=>by
  cases hv with
  |cons h1 h2=>
   cases i with
   |succ i=>exact R5 I h.2 h2 (λr m=>hn r (As _ m)) i v r e1 e2
   |zero=>
    cases e1;cases e2;have h0:DK X.K CL H A y (.H (q.map D.int)):=.inl h.1;obtain⟨a,xs,rfl,_,sq,rx⟩:=h0.tup_of;obtain⟨its,hi,ht,_⟩:=I.tuple sq;rw[V8 rx]at hi;cases h1;exact⟨a,its.toArray,rfl,ht,WG hi,hn q (Av ..)⟩
theorem VQ(h:Bv ys its):∀ l:Ac Ag,(∀ i∈l,i<ys.length)->Bv (l.map λi=>ys.getD i .O) (l.map λi=>its.getD i Bo)
 |[],_=>.nil
 |i::l,hl=>by
  have hi:i<ys.length:=hl i (Av ..);have e:ys[i]?=Ab ys[i]:=AU hi;obtain⟨u,e2,r⟩:=h.get e;refine .cons ?_ (VQ h l λj hj=>hl j (As _ hj))
  show Cp (ys.getD i .O) (its.getD i Bo);rw[B9,B9,e,e2];exact r
theorem Xc{K:Fg}:∀{ys:Ac V}{ds:Ac D}{i:Ag},Z9 K CL H A ys ds->i<ds.length->Y5 K CL H A (ys.getD i .O) (ds.getD i .O)
 |[],[],_,_,h=>by cases h
 |[],_::_,_,r,_=>r.elim
 |_::_,[],_,r,_=>r.elim
 |y::ys,d::ds,0,r,_=>r.1
 |y::ys,d::ds,i+1,r,h=>Xc (ys:=ys) (ds:=ds) (i:=i) r.2 (Nat.lt_of_succ_lt_succ h)
theorem VZ{K:Fg}(h:Z9 K CL H A ys ds):∀ l:Ac Ag,(∀ i∈l,i<ds.length)->Z9 K CL H A (l.map λi=>ys.getD i .O) (l.map λi=>ds.getD i .O)
 |[],_=>trivial
 |i::l,hl=>⟨Xc h (hl i (Av ..)),VZ h l λj hj=>hl j (As _ hj)⟩
theorem PF(hp:Pm n p):∀ i∈p.toList,i<n:=λi hi=>by
 obtain⟨j,hj,e⟩:=List.mem_iff_getElem.mp hi;have ζ:j<n:=by rw[<-hp.sz];simpa using hj
 have:=hp.lt j ζ;unfold ê at this;rw[EJ,<-Dk,AU hj,e]at this;exact this
theorem ZA(hp:Pm n p)(hj:j<p.toList.length):ê p j=p.toList[j]:=by
 unfold ê;rw[EJ,<-Dk,AU hj];rfl
theorem nC(nd:rs.Nodup)(hp:Pm rs.length p)(hs:Nm (Μ rs) p rs.length):p.toList.map (λi=>rs.getD i [])=HU rs:=by
 have hl:p.toList.length=rs.length:=by rw[AQ,hp.sz]
 have pw:(p.toList.map (λi=>rs.getD i [])).Pairwise (λa b=>BU a b=Aa):=by
  rw[Jd,De];intro i j hi hj Ď;have:=hs i j Ď (by lia)
  rw[ZA hp hi,ZA hp hj]at this;exact this
 refine(RN nd pw (WQ (NK pw) (λx hx=>?_) (by rw[A6,hl];exact AE _))).symm
 obtain⟨i,hi,rfl⟩:=Bp.mp hx;have:=PF hp i hi;rw[B9,AU this];exact Eb this
end
end Ov
namespace Ov
open PySem PySem.Spec PyProof.Rows
noncomputable def stand(i b:Ag):SetTable.Probe:=⟨i,0,i,b,Af⟩
section
variable{K:Type}[DecidableEq K]
end
end Ov
namespace Ov
open PySem PySem.Spec PyProof.Rows L2
section
open PySem.AutoSeq1 (wpAny_loadPart')
theorem rV:∀{vs us:Ac Aj}{r q:Ac Ad},DB vs r->DB us q->∀ y x rest,vs.zip us=(y,x)::rest->∃ i j ti tj Ş ŝ r' q',y=.int i ti/\x=.int j tj/\rest=Ş.zip ŝ/\r=i::r'/\q=j::q'/\vs=y::Ş/\us=x::ŝ/\DB Ş r'/\DB ŝ q'
 |_,_,_,_,.cons i ti h1,.cons j tj h2,y,x,rest,e=>by
  cases e;exact⟨i,j,ti,tj,_,_,_,_,rfl,rfl,rfl,rfl,rfl,rfl,rfl,h1,h2⟩
 |_,_,_,_,.nil,_,_,_,_,e=>by cases e
 |_,_,_,_,.cons _ _ _,.nil,_,_,_,e=>by cases e
theorem nH(l b:Ak)(items yj:Ax Aj)(n n2:Ag)(dd Ź:Ar Ak)(sl ŵ:Ax (Ar Aj))(r q:Ac Ad):
  Meets (Builtin.«tuple.__lt__» ⟨[.ref l,.ref b],[]⟩)
   (λA R s=>s.heap.get? l=Ab { cls:=.type "tuple",dict:=dd,data:=.seq items n,slots:=sl }/\s.heap.get? b=Ab { cls:=.type "tuple",dict:=Ź,data:=.seq yj n2,slots:=ŵ } /\
    DB items.toList r/\DB yj.toList q/\R (.ok (.ret (.bool (BU r q)))) s):=
 .of_wp λprog w A R s h=>by
  obtain⟨hp,g,d,tk,os⟩:=s;obtain⟨hl,hb,h1,h2,h⟩:=h;have f2:=AutoSeq1.sub_tuple_tuple
  wp_walk using wpAny_loadPart' hl,wpAny_loadPart' hb,Ga _ (λrest b s'=>b.1=Af/\s'=⟨hp,g,d,tk,os⟩/\∃ vs us r' q',rest=vs.zip us/\DB vs r'/\DB us q'/\BU r' q'=BU r q/\(decide (vs.length<us.length)=decide (items.size<yj.size))) _
  case turn=>
   rintro⟨y,x⟩ rest b s' ⟨yi,rfl,vs,us,r',q',hz,i1,i2,hx,hd⟩;obtain⟨i,j,ti,tj,Ş,ŝ,Ě,q'',rfl,rfl,rfl,rfl,rfl,rfl,rfl,k1,k2⟩:=rV i1 i2 _ _ _ hz.symm;refine Ah (Jx ?_);have à:(if i=j then BU Ě q'' else decide (i<j))=BU r q:=hx
   by_cases e:i=j
   .rw[AB e]at à;rw[show (i==j)=Aa by simp[e]]
    wp_walk
    exact⟨rfl,rfl,Ş,ŝ,Ě,q'',rfl,k1,k2,à,by simpa using hd⟩
   .rw[AF e]at à;rw[show (i==j)=Ae by simp[e]]
    refine Ah (Fh (Ah (wpAny_lt_int ?_)));rw[à]
    wp_walk
    exact⟨_,rfl,h⟩
  case fin=>
   rintro⟨b1,b2⟩ s' ⟨yi,rfl,vs,us,r',q',hz,i1,i2,hx,hd⟩;simp only at yi;subst yi;have e:decide (items.size<yj.size)=BU r q:=by
    rw[<-hd,<-hx];cases i1 with
    |nil=>cases i2 with
     |nil=>rfl
     |cons _ _ _=>simp[BU]
    |cons _ _ _=>cases i2 with
     |nil=>rfl
     |cons _ _ _=>cases hz
   wp_walk
   exact⟨_,rfl,by simpa [Builtin.Tuple.tupleCompareSizes,e] using h⟩
  case h=>
   exact⟨rfl,rfl,_,_,r,q,rfl,h1,h2,rfl,by simp⟩
end
end Ov
namespace Ov
def tN(r:Ac Ad):D:=.H [tI (r.take 3),tI ((r.drop 3).take 3),tI (r.drop 6)]
theorem Tn(h:μ d=Aa):∃ r:Ac Ad,r.length=3/\d=tI r:=by
 have no:∀{P:Prop},Ae=Aa->P:=λz=>nomatch z
 cases d with
 |H ds=>
  cases ds with
  |nil=>exact no h
  |cons a ds=>
  cases a with
  |int a=>
   cases ds with
   |nil=>exact no h
   |cons b ds=>
   cases b with
   |int b=>
    cases ds with
    |nil=>exact no h
    |cons c ds=>
    cases c with
    |int c=>
     cases ds with
     |nil=>exact⟨[a,b,c],rfl,rfl⟩
     |cons=>exact no h
    |_=>exact no h
   |_=>exact no h
  |_=>exact no h
 |_=>exact no h
theorem XU(h:JL d=Aa):∃ r:Ac Ad,r.length=9/\d=tN r:=by
 unfold JL at h;split at h
 .next x y z=>
  rw[An,An]at h;obtain⟨a,la,rfl⟩:=Tn h.1.1;obtain⟨b,lb,rfl⟩:=Tn h.1.2;obtain⟨c,lc,rfl⟩:=Tn h.2;refine⟨a++(b++c),by simp[la,lb,lc],?_⟩
  unfold tN;rw[HB la,Hy la,HB lb,show a++(b++c)=(a++b)++c by simp,Hy (by simp[la,lb])]
 .cases h
theorem WA:∀{xs:Ac D},xs.all JL=Aa->∃ rs:Ac (Ac Ad),xs=rs.map tN/\∀ r∈rs,r.length=9
 |[],_=>⟨[],rfl,λr h=>by cases h⟩
 |x::xs,h=>by
  rw[Ea,An]at h;obtain⟨rs,e,hn⟩:=WA h.2;obtain⟨r,l,e1⟩:=XU h.1;refine⟨r::rs,by rw[e,e1];rfl,λq hq=>?_⟩
  rcases Ay.mp hq with rfl|hq
  .exact l
  .exact hn q hq
def T8:∀{r:Ac Ad},r.length=3->μ (tI r)=Aa
 |[_,_,_],_=>rfl
theorem jq(h:r.length=9):JL (tN r)=Aa:=by
 show (μ (tI (r.take 3))&&μ (tI ((r.drop 3).take 3))&&μ (tI (r.drop 6)))=Aa;rw[T8 (by simp[h]),T8 (by simp[h]),T8 (by simp[h])]
 rfl
theorem Pc:∀{a b:Ac Ad}(c d:Ac Ad),a.length=b.length->BU (a++c) (b++d)=if a=b then BU c d else BU a b
 |[],[],c,d,_=>by simp
 |x::a,y::b,c,d,h=>by
  have e:BU ((x::a)++c) ((y::b)++d)=if x=y then BU (a++c) (b++d) else decide (x<y):=rfl
  have e':BU (x::a) (y::b)=if x=y then BU a b else decide (x<y):=rfl
  rw[e,e',Pc c d (by simpa using h)]
  by_cases g:x=y
  .by_cases k:a=b<;>simp[g,k]
  .simp[g]
 |[],_::_,_,_,h=>by cases h
 |_::_,[],_,_,h=>by cases h
theorem Mm(r:Ac Ad):r=r.take 3++((r.drop 3).take 3++r.drop 6):=by
 have e:(r.drop 3).drop 3=r.drop 6:=by rw[Ih]
 rw[<-e,CT,CT]
theorem L9(hr:r.length=9)(hq:q.length=9):Y0 (tN r) (tN q)=decide (r=q):=by
 have e:Y0 (tN r) (tN q)=(Y0 (tI (r.take 3)) (tI (q.take 3))&&(Y0 (tI ((r.drop 3).take 3)) (tI ((q.drop 3).take 3))&&(Y0 (tI (r.drop 6)) (tI (q.drop 6))&&Aa))):=rfl;rw[e,Lv,Lv,Lv,II,<-Hw,<-Hw];refine Gj.mpr ⟨λ⟨a,b,c⟩=>?_,λh=>by rw[h];exact⟨rfl,rfl,rfl⟩⟩
 rw[Mm r,Mm q,a,b,c]
theorem jy(hr:r.length=9)(hq:q.length=9):yx 2 (tN r) (tN q)=BU r q:=by
 have e:yx 2 (tN r) (tN q)=if Y0 (tI (r.take 3)) (tI (q.take 3))=Aa then (if Y0 (tI ((r.drop 3).take 3)) (tI ((q.drop 3).take 3))=Aa then (if Y0 (tI (r.drop 6)) (tI (q.drop 6))=Aa then Ae else yx 1 (tI (r.drop 6)) (tI (q.drop 6))) else yx 1 (tI ((r.drop 3).take 3)) (tI ((q.drop 3).take 3))) else yx 1 (tI (r.take 3)) (tI (q.take 3)):=rfl
 rw[e,Lv,Lv,Lv,PL,PL,PL]
 conv=>rhs;rw[Mm r,Mm q]
 rw[Pc _ _ (by simp[hr,hq]),Pc _ _ (by simp[hr,hq])]
 by_cases a:r.take 3=q.take 3
 .by_cases b:(r.drop 3).take 3=(q.drop 3).take 3
  .by_cases c:r.drop 6=q.drop 6
   .simp[a,b,c,pV]
   .simp[a,b,c]
  .simp[a,b]
 .simp[a]
theorem Y_3(hx:x.length=9):∀{ys:Ac (Ac Ad)},(∀ r∈ys,r.length=9)->Ke (yx 2) (tN x) (ys.map tN)=(HZ x ys).map tN
 |[],_=>rfl
 |y::ys,h=>by
  have e:Ke (yx 2) (tN x) ((y::ys).map tN)=if yx 2 (tN y) (tN x)=Aa then tN y::Ke (yx 2) (tN x) (ys.map tN) else tN x::tN y::ys.map tN:=rfl
  have e':HZ x (y::ys)=if BU y x=Aa then y::HZ x ys else x::y::ys:=rfl
  rw[e,e',jy (h y (Av ..)) hx,Y_3 hx λr m=>h r (As _ m)]
  by_cases h:BU y x=Aa<;>simp[h]
theorem SL:∀{rs:Ac (Ac Ad)},(∀ r∈rs,r.length=9)->Me (yx 2) (rs.map tN)=(HU rs).map tN
 |[],_=>rfl
 |r::rs,h=>by
  show Ke (yx 2) (tN r) (Me (yx 2) (rs.map tN))=(HZ r (HU rs)).map tN;have h':∀ q∈rs,q.length=9:=λq m=>h q (As _ m)
  rw[SL h',Y_3 (h r (Av ..)) λq m=>h' q ((Ln rs).mem_iff.mp m)]
theorem SZ:∀{rs:Ac (Ac Ad)},(∀ r∈rs,r.length=9)->(JM (rs.map tN)=Aa↔rs.Nodup)
 |[],_=>by simp[JM]
 |r::rs,h=>by
  have h':∀ q∈rs,q.length=9:=λq m=>h q (As _ m)
  have hr:=h r (Av ..);have e:JM ((r::rs).map tN)=((rs.map tN).all (λy=>!Y0 (tN r) y)&&JM (rs.map tN)):=rfl
  rw[e,An,SZ h',Cs];refine and_congr ?_ LN;rw[Hx,Cj];constructor
  .intro k m;have:=k r m;simp[L9 hr hr]at this
  .intro k q hq;have:r≠q:=λz=>k (by rw[z];exact hq)
   simp[L9 hr (h' q hq),this]
theorem qt:(rs.map tN).all (λd=>Ϩ 1 d && !Y0 d (.H []))=Aa->rs=[]:=by
 cases rs with
 |nil=>exact λ_=>rfl
 |cons r rs=>
  intro h;rw[BG,Ea,An,An]at h;exact nomatch h.1.1
theorem VU{rs ys:Ac (Ac Ad)}(hn:∀ r∈rs,r.length=9)(nd:rs.Nodup)(hz:rs.length<=1000)(hs:ys.Pairwise (λa b=>BU a b=Aa))(hm:∀ r,r∈ys↔r∈rs):F3 (rs.map tN)=.ok (ys.map tN):=by
 have e:Md (rs.map tN)=.ok (ys.map tN):=by
  unfold Md;have a:(rs.map tN).all JL=Aa:=by
   rw[Hx,Cj];exact λr m=>jq (hn r m)
  rw[AB (by rw[a,(SZ hn).mpr nd,A6,Cm hz];rfl),SL hn,RN nd hs (RO (NK hs) nd hm)]
 unfold F3;split
 .next g=>
  rw[An,An]at g;have z:=qt g.1.1;subst z;have:ys=[]:=by
   cases ys with
   |nil=>rfl
   |cons y ys=>exact absurd ((hm y).mp (Av ..)) (by simp)
  rw[this];rfl
 .exact e
theorem nM(h:Md xs=.ok d):∃ rs:Ac (Ac Ad),xs=rs.map tN/\(∀ r∈rs,r.length=9)/\rs.Nodup/\rs.length<=1000/\d=(HU rs).map tN:=by
 unfold Md at h;split at h
 .next g=>
  rw[An,An,AN]at g;obtain⟨rs,e,hn⟩:=WA g.1.1;subst e;rw[SL hn]at h;cases h;exact⟨rs,rfl,hn,(SZ hn).mp g.1.2,by simpa using g.2,rfl⟩
 .cases h
open PySem PySem.W PySem.Spec PyProof.Rows L2
def Lk(h:AO)(v:Aj)(r:Ac Ad):Prop:=∃ a its,v=.ref a/\Ku h a its/\∃ x y z rx ry rz,its.toList=[x,y,z]/\(FQ h x rx/\rx.length=3)/\(FQ h y ry/\ry.length=3)/\(FQ h z rz/\rz.length=3)/\r=rx++(ry++rz)
section
variable{prog:AW}{w:AJ}{E:Vq}
theorem WF:∀{vs:Ac Aj}{r:Ac Ad},DB vs r->ItemsAre (Gv prog w) r vs
 |[],[],_=>.nil
 |_::_,_::_,h=>by
  cases h with
  |cons _ t h=>exact .cons (intKind_is _ _ _ _) (WF h)
 |[],_::_,h=>nomatch h
 |_::_,[],h=>nomatch h
theorem FQ.key(t:FQ h v r):∃ a,v=.ref a/\Jh (Gv prog w) h r a:=by
 obtain⟨a,its,e,⟨o,ho,hc,n,hd⟩,hi,_⟩:=t;exact⟨a,e,o,its,n,ho,hc,hd,WF hi⟩
theorem jx{Q:Vq}(hu:A.units<Cf)(h1:FQ s.heap u r)(h2:FQ s.heap v q)(h:Q (.bool (BU q r)) s):Az (model prog w) A (richCompare .Lt v u) Q E s:=by
 obtain⟨a,xs,rfl,⟨⟨_,d1,_,l1⟩,ga,rfl,n,rfl⟩,ix,_⟩:=h1;obtain⟨b,ys,rfl,⟨⟨_,d2,_,l2⟩,gb,rfl,m,rfl⟩,iy,_⟩:=h2;exact richCompare_meets_room (op:=.Lt) ⟨_,gb,rfl⟩ ⟨_,ga,rfl⟩ F.slot_tuple_lt F.entry_tuple_lt (F.args_tuple_lt_2 _ _) (nH b a ys xs m n d2 d1 l2 l1 q r) ⟨gb,ga,iy,ix,⟨nofun,h⟩⟩ hu
theorem RI(hu:A.units<Cf)(hp:FQ s.heap p r/\r.length=3)(hq:FQ s.heap q t/\t.length=3)(h:C (BU (r++r') (t++t')) s)(k:C (BU r' t') s->KatLex prog w A Ae fin C l (i+1) s):KatLex prog w A Ae fin C ((p,q)::l) i s:=by
 obtain⟨a,rfl,ka⟩:=hp.1.key (prog:=prog) (w:=w);obtain⟨b,rfl,kb⟩:=hq.1.key (prog:=prog) (w:=w);rw[Pc _ _ (hp.2.trans hq.2.symm)]at h;refine kat_cons (fF hu ka kb ?_);by_cases e:r=t
 .rw[AB e]at h;rw[Cm e];exact kat_yes (k h)
 .rw[AF e]at h;rw[CK e];refine kat_no ?_;show Az _ _ (oneLt' Ae _ _) _ _ _;refine kat_one _ _ ?_;exact jx hu hq.1 hp.1 (show C (BU r t) s from h)
theorem wS(hu:A.units<Cf)(hv:Lk s.heap v r)(hw:Lk s.heap u q)(h:C (BU r q) s):Az (model prog w) A (keyLt' (tuples' Ae) v u) C E s:=by
 obtain⟨a,xs,rfl,⟨oa,ga,_,n,da⟩,x,y,z,rx,ry,rz,ex,hx,hy,hz,rfl⟩:=hv;obtain⟨b,ys,rfl,⟨ob,gb,_,m,db⟩,x',y',z',qx,qy,qz,ey,kx,ky,kz,rfl⟩:=hw;refine kat_lt ga da gb db ?_;have s1:xs.size=3:=by rw[<-AQ,ex];rfl
 have s2:ys.size=3:=by rw[<-AQ,ey];rfl
 rw[ex,ey,s1,s2];refine RI hu hx kx h λh=>RI hu hy ky h λh=>?_
 rw[<-Cr rz,<-Cr qz]at h;exact RI hu hz kz h λh=>Mx h
theorem Wp:∀{vs:Ac Aj}{rs:Ac (Ac Ad)},rs.length=vs.length->(∀(i:Ag)(v:Aj)(r:Ac Ad),vs[i]?=Ab v->rs[i]?=Ab r->Lk h v r)->∃ fs,KatTups h vs fs/\fs.length=vs.length/\∀ v∈fs,∃ r,FQ h v r
 |[],_,_,_=>⟨[],eI,rfl,λv hv=>by cases hv⟩
 |v::vs,[],hl,_=>by cases hl
 |v::vs,r::rs,hl,ht=>by
  obtain⟨fs,h1,h2,h3⟩:=Wp (vs:=vs) (rs:=rs) (by simpa using hl) λi v r a b=>ht (i+1) v r a b
  obtain⟨a,its,rfl,⟨o,ho,hc,n,hd⟩,x,y,z,rx,_,_,ex,hx,_⟩:=ht 0 v r rfl rfl;refine⟨x::fs,eH ho hc hd ?_ h1,by simp[h2],λv hv=>?_⟩
  .rw[<-Dk,ex];rfl
  .rcases Ay.mp hv with rfl|hv
   .exact⟨_,hx.1⟩
   .exact h3 v hv
theorem Lk.uniq(t:Lk h v r)(u:Lk h v q):r=q:=by
 obtain⟨a,its,rfl,⟨o,ho,hc,n,hd⟩,x,y,z,rx,ry,rz,ex,hx,hy,hz,rfl⟩:=t;obtain⟨b,its',e,⟨o',oI,ú,n',È⟩,x',y',z',ŗ,ry',rz',ex',à,Ϥ,hz',rfl⟩:=u;cases e;rw[ho]at oI;cases oI;rw[hd]at È;cases È;rw[ex]at ex';cases ex';rw[hx.1.uniq à.1,hy.1.uniq Ϥ.1,hz.1.uniq hz'.1]
theorem kG(hu:A.units<Cf):ý prog w A Lk Ae:=by
  have kp:∀{h h':AO}{v:Aj}{r:Ac Ad},FQ h v r->(∀(b:Ak)(o:DE),h.get? b=Ab o->o.cls=.type "tuple"->h'.get? b=Ab o)->FQ h' v r:=(U7 (prog:=prog) (w:=w) (A:=A)).kept;refine⟨λt k=>by
      obtain⟨a,its,e,⟨o,ho,hc,q⟩,x,y,z,rx,ry,rz,ex,hx,hy,hz,er⟩:=t;exact⟨a,its,e,⟨o,k _ _ ho hc,hc,q⟩,x,y,z,rx,ry,rz,ex,⟨kp hx.1 k,hx.2⟩,⟨kp hy.1 k,hy.2⟩,⟨kp hz.1 k,hz.2⟩,er⟩,λt u=>t.uniq u,λt u h=>wS hu t u h,λhl ht=>?_⟩
  obtain⟨fs,h1,h2,h3⟩:=Wp hl ht;refine⟨fs,h1,h2,λv hv=>?_⟩
  obtain⟨r,a,its,rfl,⟨o,ho,hc,q⟩,_⟩:=h3 v hv;have e:o.cls=DV "tuple" := hc;show Looks _ _ (typeOf (.ref a)) (DV "tuple");rw[<-e];exact(Looks.ld ho).andThen .now
end
section
variable{CL:ClA}
theorem Tk(I:Z4 X pI Z H s)(h:Y5 X.K CL H A y (tI q))(hq:q.length=3)(r:Cp y u):FQ s.heap u q/\q.length=3:=
 ⟨R5 I (rs:=[q]) (ys:=[y]) (its:=[u]) ⟨h,trivial⟩ (.cons r .nil) (λr m=>by rw[Bc.mp m];intro z;rw[z]at hq;cases hq) 0 u q rfl rfl,hq⟩
theorem vf{K:Fg}(h:Z9 K CL H A xs [d,e,f]):∃ x y z,xs=[x,y,z]/\Y5 K CL H A x d/\Y5 K CL H A y e/\Y5 K CL H A z f:=by
 cases xs with
 |nil=>exact h.elim
 |cons x xs=>
  cases xs with
  |nil=>exact h.2.elim
  |cons y xs=>
   cases xs with
   |nil=>exact h.2.2.elim
   |cons z xs=>
    cases xs with
    |nil=>exact⟨x,y,z,rfl,h.1,h.2.1,h.2.2.1⟩
    |cons=>exact h.2.2.2.elim
theorem RZ(I:Z4 X pI Z H s):∀{rs:Ac (Ac Ad)}{ys:Ac V}{its:Ac Aj},Z9 X.K CL H A ys (rs.map tN)->Bv ys its->(∀ r∈rs,r.length=9)->∀(i:Ag)(v:Aj)(r:Ac Ad),its[i]?=Ab v->rs[i]?=Ab r->Lk s.heap v r
 |[],_,_,_,_,_,i,v,r,_,e=>by cases e
 |_::_,[],_,h,_,_,_,_,_,_,_=>h.elim
 |q::rs,y::ys,_,h,hv,hn,i,v,r,e1,e2=>by
  cases hv with
  |cons h1 h2=>
   cases i with
   |succ i=>exact RZ I h.2 h2 (λr m=>hn r (As _ m)) i v r e1 e2
   |zero=>
    cases e1;cases e2;have l9:=hn q (Av ..);obtain⟨a,xs,rfl,_,sq,rx⟩:=DK.tup_of (.inl h.1:DK X.K CL H A y (.H [tI (q.take 3),tI ((q.drop 3).take 3),tI (q.drop 6)]));replace rx:Z9 X.K CL H A xs [tI (q.take 3),tI ((q.drop 3).take 3),tI (q.drop 6)]:=rx;obtain⟨its,hi,ht,_⟩:=I.tuple sq;cases h1;obtain⟨x1,x2,x3,rfl,r1,r2,r3⟩:=vf rx;cases hi with
    |cons v1 hi=>
     cases hi with
     |cons v2 hi=>
      cases hi with
      |cons v3 hi=>
       cases hi;exact⟨a,_,rfl,ht,_,_,_,_,_,_,rfl,Tk I r1 (by simp[l9]) v1,Tk I r2 (by simp[l9]) v2,Tk I r3 (by simp[l9]) v3,Mm q⟩
theorem VV(rk:ý X.prog X.w X.A.in1.in1 T b){Z:L2.St}(I:Z4 X pI Z H s)(r:Bv [V.ref q] us)(s0:AV H0 H)(hA:zw H A)(sq:zp X.K H q ys)(ry:Z9 X.K CL H A ys (Ë.map f))(hT:∀ its,Bv ys its->∀(i:Ag)(v:Aj)(r:Ac Ad),its[i]?=Ab v->Ë[i]?=Ab r->T s.heap v r)(nd:Ë.Nodup)(Ý:Ë.length<=1000)(p':BO (Fx X.K CL Aa H0 A) W H (.ok (.L ((HU Ë).map f))) Q):Az (model X.prog X.w) X.A (call (.builtin "sorted") us) (EP X pI Z Q) X.xe s:=by
 obtain⟨u,rfl,rx⟩:=ϝ r;cases rx;obtain⟨its,hv,pl,hz⟩:=I.list sq;have l1:ys.length=Ë.length:=by rw[ry.length,A6]
 have l2:ys.length=its.length:=hv.length;refine lO rk pl.isList (by lia) (hT its hv) nd (by lia) λpp hp hs=>?_
 rw[<-l2,l1]at hp hs;have e1:=nC nd hp hs;have rp:=VZ ry pp.toList (λi hi=>by rw[A6];exact PF hp i hi)
 have e2:(pp.toList.map λi=>(Ë.map f).getD i .O)=(HU Ë).map f:=by
  rw[<-e1,CF]
  apply DY
  intro i hi;have:=PF hp i hi;simp[AU this]
 rw[e2]at rp;have vp:=VQ hv pp.toList (λi hi=>by rw[l1];exact PF hp i hi)
 obtain⟨c,hat⟩:=sortedAll_at s.heap its (LB its pp);have hf:=I.hok.fresh (LQ s.heap.objs.size);refine⟨.ref (s.heap.objs.size+1),_,I.laid (t':=s.toks) (λb o hb=>sortedAll_old hb) (LQ _) (o:=.L (pp.toList.map λi=>ys.getD i .O)) ?_,rfl,p' _ _ (G7 hf _) (LY s0 hA hf rp)⟩
 refine⟨?_,pp.toList.map λi=>its.getD i Bo,c,vp,hat⟩
 rw[A6,AQ,hp.sz,Dt]
 lia
theorem nR(hu:X.A.units+64<Cf):Qp X CL W (.builtin "sorted") (zc .sorted):=by
  intro A H0 pI s Z H xs us Q I r ⟨s0,hA,ds,rs,p⟩;by_cases hls:∃ es,ds=[.L es]
  · obtain⟨es,rfl⟩:=hls;obtain⟨v,rfl,rv⟩:=rs.one;obtain⟨q,ys,rfl,sq,ry⟩:=rv.lst_of;have p':BO (Fx X.K CL Aa H0 A) W H ((F3 es).bind λb=>.ok (.L b)) Q:=p
    cases hd:F3 es with
    |exn x=>
      unfold F3 at hd;split at hd
      · cases hd
      · unfold Md at hd;split at hd<;>cases hd
    |bad=>
      rw[hd]at p';exact p'.elim
    |ok d=>
      rw[hd]at p';rcases lP hd with ⟨Ë,rfl,hn,nd,Ý,rfl⟩|hd
      · exact VV U7 I r s0 hA sq ry (λits hv=>R5 I ry hv hn) nd Ý p'
      · obtain⟨Ë,rfl,hn,nd,Ý,rfl⟩:=nM hd;exact VV (kG (by show X.A.units+1+1<Cf;lia)) I r s0 hA sq ry (λits hv=>RZ I ry hv hn) nd Ý p'
  · have e:zc .sorted ds=.bad:=by
      match ds with
      |[]=>rfl
      |[x]=>cases x<;>first|rfl|exact absurd ⟨_,rfl⟩ hls
      |x::_::_=>cases x<;>rfl
    rw[e]at p;exact p.elim
end
end Ov
namespace Ov
open PySem PySem.Spec PyProof.Rows L2
variable{w:AJ}{ex:Ac Ak}{vs:Ax Aj}{Q:Io->Aq->Prop}{X:Cx}{pI:Pn}{Z:L2.St}
def QG(e T:Ak)(cls:Aj)(dx:Ar Ak)(fl:Aj)(h:AO):Prop:=∃ oe vs oT ts a0,h.get? e=Ab oe/\oe.cls=cls/\oe.dict=dx/\vs[0]?=Ab a0/\oe.data=.fields vs/\vs[1]?=Ab (.ref T)/\T≠e/\h.get? T=Ab oT/\oT.data=.fields ts/\ts[3]?=Ab fl
abbrev Ŧ(e T:Ak)(cls:Aj)(dx:Ar Ak)(h:AO):Prop:=QG e T cls dx Bo h
noncomputable def fO(C:Ak)(dx:Ar Ak)(t:Ak):DE:={cls:=.ref C,dict:=dx,data:=.fields #[.ref t,.none,.none,.none,.bool Ae,.none]}
structure yb (ex fs:Ac Ak) (h h':AO):Prop where
 keep:∀ b o,h.get? b=Ab o->b∉ex->b∉fs->h'.get? b=Ab o
 slot:∀ b o,h.get? b=Ab o->b∈fs->∃ sl,h'.get? b=Ab {o with slots:=sl}
theorem ObjOk.isThere:∀(o:HO),L2.ObjOk P w H h a o->∃ ob,h.get? a=Ab ob
 |.L _,x=>by obtain⟨_,_,_,_,e⟩:=x;exact⟨_,e⟩
 |.H _,x=>by obtain⟨_,_,_,p⟩:=x;obtain⟨o,e,_⟩:=p;exact⟨_,e⟩
 |.dK _,x=>by obtain⟨_,_,_,_,o,_,_,e,_⟩:=x;exact⟨_,e⟩
 |.dT _,x=>by obtain⟨_,_,_,_,o,_,_,e,_⟩:=x;exact⟨_,e⟩
 |.set _ _,x=>by obtain⟨o,_,_,_,e,_⟩:=x;exact⟨_,e⟩
 |.ins _ _ _,x=>by obtain⟨_,_,_,e,_⟩:=x;exact⟨_,e⟩
 |.own _,x=>x
 |.xd _,x=>by obtain⟨_,⟨_,_,_,e,_⟩,_⟩:=x;exact⟨_,e⟩
 |.met _ _,x=>⟨_,x⟩
 |.rng _ _,x=>by obtain⟨_,_,_,e⟩:=x;exact⟨_,e⟩
 |.frz _ _,x=>⟨_,x.1⟩
 |.tbl _,x=>⟨_,x⟩
 |.ext _,x=>x.2.1
theorem Wk(x:yt P w H h)(e:h.get? a=Af):H a=Af:=by
 cases q:H a with
 |none=>rfl
 |some o=>
  obtain⟨ob,z⟩:=ObjOk.isThere o (x a o q);rw[e]at z;cases z
theorem yt.shift(x:yt P w H h)(sh:yb ex fs h h')(h1:∀ b∈ex,H b=Af)(h2:∀ b∈fs,H b=Af):yt P w H h':=λa o e=>
 (x a o e).stay (λb u hb q=>by
  have hs:∃ v,H b=Ab v:=by
   rcases hb with rfl|hb
   .exact⟨_,e⟩
   .exact⟨_,hb⟩
  obtain⟨v,hv⟩:=hs;exact sh.keep b u q (λz=>by rw[h1 b z]at hv;cases hv) (λz=>by rw[h2 b z]at hv;cases hv)) (λ_ q=>q) λ_ _ q=>q
theorem Un.shift{ex:Ac Ak}(u:Un ϣ [] H H' h0 h)(sh:yb ex fs h h')(h1:∀ b∈ex,h0.get? b=Af)(h2:∀ b∈fs,b∈ϣ\/h0.get? b=Af):Un ϣ [] H H' h0 h' where
 keep:=λb o q n hb hx=>sh.keep b o (u.keep b o q n hb hx) (λz=>by rw[h1 b z]at q;cases q) λz=>(h2 b z).elim hb λe=>by rw[e]at q;cases q
 slot:=λb o q n hb hx=>by
  obtain⟨sl,e1⟩:=u.slot b o q n hb hx;by_cases hf:b∈fs
  .obtain⟨Ŵ,e2⟩:=sh.slot b _ e1 hf;exact⟨Ŵ,e2⟩
  .exact⟨sl,sh.keep b _ e1 (λz=>by rw[h1 b z]at q;cases q) hf⟩
 free:=u.free
 there:=λb o q hx=>by
  obtain⟨o',e1⟩:=u.there b o q hx;by_cases hf:b∈fs
  .obtain⟨Ŵ,e2⟩:=sh.slot b _ e1 hf;exact⟨_,e2⟩
  .exact⟨o',sh.keep b _ e1 (λz=>by rw[h1 b z]at q;cases q) hf⟩
 tups:=u.tups
 frzs:=u.frzs
 tbls:=u.tbls
theorem aj(f:Ax Aj->Ax Aj)(o:DE):(Hi f o).dict=o.dict:=by
 obtain⟨c,d,dt,sl⟩:=o;cases dt<;>rfl
section
variable{M:FK}{A:A9}{E:Vq}{s:Aq}{env:DA}{outer:Ac DA}{L e T:Ak}{base:AO}
theorem V2{oe:DE}{hd:Aj}{nx:Ai}(ύ:A.frames=Ab (env::outer))(hf:env.frame=Ab L)(ff:s.heap.FunFrames base (env::outer))(he:s.heap.get? e=Ab oe)(dt:oe.data=.fields vs)(hz:1<vs.size)(hQ:∀ h' T' oT ts,h'.get? e=Ab (Hi (·.setIfInBounds 1 (.ref T')) oe)->T'≠e->s.heap.get? T'=Af->h'.get? T'=Ab oT->oT.data=.fields ts->ts[3]?=Ab (CN L)->yb [e] (ye (env::outer)) s.heap h'->Q () {s with heap:=h'}):
  Az M A (do
   let fr <-frameOf env
   let pl <-entryPlaceOf L nx
   let en <-cJ hd fr .none (CN L) .none pl
   setField (.ref e) 1 en) Q E s:=by
 have nf:e∉ye (env::outer):=λz=>by
  obtain⟨_,o,q,n⟩:=ff.mem z;rw[he]at q;cases q;exact n vs dt
 refine Ah (wpAny_frameOf_fun ύ ff hf λk1 so=>Ah (wpAny_entryPlaceOf λpl ip=>?_))
 obtain⟨sz,sm,sl⟩:=so;have e1:k1.get? e=Ab oe:=(sm e nf).trans he;unfold cJ;unfold newFields;refine Ah (Di ?_ (ip.sizeOk5 _ _ _ _ _));generalize hX:({ cls:=.type "traceback",dict:=Af,data:=.fields ([hd,.ref L,.none,CN L,.none]++(if pl.isEmpty then Ik 6 Bo else pl)).toArray }:DE)=ob
 have od:ob.data=.fields ([hd,.ref L,.none,CN L,.none]++(if pl.isEmpty then Ik 6 Bo else pl)).toArray:=by rw[<-hX]
 have nl:k1.objs.size≠e:=D6 (AK e1);have e2:=At ob e1;refine G0 e2 dt hz ?_;have up:∀ b,b≠e->((k1.push ob).update e (Hi (·.setIfInBounds 1 (.ref k1.objs.size)))).get? b=(k1.push ob).get? b:=λb nb=>Cu _ _ (Cy nb)
 have lf:ob.isFreed=Ae:=by rw[<-hX];rfl
 refine hQ _ k1.objs.size ob _ (CV _ e2 (F0 (Eh dt _))) nl ?_ ((up _ nl).trans (AG k1 lf)) od ?_ ⟨λb o q n1 n2=>?_,λb o q hb=>?_⟩
 .rw[sz];exact HG (AE _)
 .simp
 .have nb:b≠e:=λz=>n1 (by rw[z];exact Av)
  rw[up b nb];exact At ob ((sm b n2).trans q)
 .obtain⟨Ŵ,q'⟩:=sl b o q;have nb:b≠e:=λz=>nf (z ▸ hb)
  exact⟨Ŵ,(up b nb).trans (At ob q')⟩
theorem VL(hc:oe.cls=cls)(hx:oe.dict=dx)(h0:vs[0]?=Ab a0)(dt:oe.data=.fields vs)(hz:1<vs.size)(g:h'.get? e=Ab (Hi (·.setIfInBounds 1 (.ref T')) oe))(ne:T'≠e)(gT:h'.get? T'=Ab oT)(dT:oT.data=.fields ts)(f3:ts[3]?=Ab fl):QG e T' cls dx fl h':=
 ⟨_,_,oT,ts,a0,g,(dS _ _).trans hc,(aj _ _).trans hx,by rw[Array.getElem?_setIfInBounds_ne (by decide)];exact h0,Eh dt _,by simp[hz],ne,gT,dT,f3⟩
def MG(q:vs[i]?=Ab v):i<vs.size:=(Gk.mp q).1
theorem sA{cls:Aj}{dx:Ar Ak}(ύ:A.frames=Ab (env::outer))(hf:env.frame=Ab L)(ff:s.heap.FunFrames base (env::outer))(fl:Ŧ e T cls dx s.heap)(hQ:∀ h' T',QG e T' cls dx (CN L) h'->yb [e,T] (ye (env::outer)) s.heap h'->s.heap.get? T'=Af->Q () {s with heap:=h'}):Az M A (Lf (.ref e) env) Q E s:=by
 obtain⟨oe,vs,oT,ts,a0,he,hc,hx,h0,dt,h1,ne,hT,dT,h3⟩:=fl;have z3:=MG h3;unfold Lf;simp only[hf];refine Ah (Bx he dt h1 ?_);rw[AB (by simp:(Dh T != Bo)=Aa)]
 refine Ah (Bx hT dT h3 ?_);rw[AF (by simp[CN]:¬ (Bo==CN L)=Aa)]
 refine Ah (G0 hT dT z3 ?_);have up:∀ b,b≠T->(s.heap.update T (Hi (·.setIfInBounds 3 Bo))).get? b=s.heap.get? b:=λb nb=>Cu _ _ (Cy nb)
 have rcd:∀ b o,s.heap.get? b=Ab o->(∀ us,o.data≠.fields us)->b≠T:=λb o q n z=>by
  rw[z,hT]at q;cases q;exact n ts dT
 refine V2 (base:=base) ύ hf (ff.of_keeps λb o q n=>⟨o,(up b (rcd b o q n)).trans q,rfl⟩) ((up e (Cy ne)).trans he) dt (MG h1) λh' T' oT' ts' g nT gn gT dT' f3 sh=>?_
 have T0:s.heap.get? T'=Af:=by
  by_cases z:T'=T
  .rw[z]at gn;rw[CV _ hT (F0 (Eh dT _))]at gn;cases gn
  .rw[<-up T' z];exact gn
 refine hQ h' T' (VL hc hx h0 dt (MG h1) g nT gT dT' f3) ⟨λb o q n1 n2=>?_,λb o q hb=>?_⟩ T0
 .simp only[Ay,Bl,CD,ES]at n1;exact sh.keep b o ((up b n1.2).trans q) (by simp[n1.1]) n2
 .obtain⟨_,o',q',n⟩:=ff.mem hb;rw[q]at q';cases q';exact sh.slot b o ((up b (rcd b o q n)).trans q) hb
theorem XB(fl:QG e T cls dx fv s.heap)(hQ:∀ h',Ŧ e T cls dx h'->(∀ b o,b≠T->s.heap.get? b=Ab o->h'.get? b=Ab o)->Q () {s with heap:=h'}):Az M A (setFlight (.ref e) Af) Q E s:=by
 obtain⟨oe,vs,oT,ts,a0,he,hc,hx,h0,dt,h1,ne,hT,dT,h3⟩:=fl;have z3:=MG h3;unfold setFlight;refine Ah (Bx he dt h1 ?_);rw[AB (by simp:(Dh T != Bo)=Aa)]
 refine G0 hT dT z3 (hQ _ ?_ λb o nb q=>(Cu _ _ (Cy nb)).trans q)
 exact⟨oe,vs,_,_,a0,(Cu _ _ ne).trans he,hc,hx,h0,dt,h1,ne,CV _ hT (F0 (Eh dT _)),Eh dT _,by simp[z3]⟩
theorem VW(ff:s.heap.FunFrames base (env::outer))(sh:yb ex (ye (env::outer)) s.heap h1)(hT:s.heap.get? T'=Af)(k:∀ b o,b≠T'->h1.get? b=Ab o->h2.get? b=Ab o):yb ex (ye (env::outer)) s.heap h2:=
 ⟨λb o q n1 n2=>k b o (λz=>by rw[z,hT]at q;cases q) (sh.keep b o q n1 n2),λb o q hb=>let ⟨sl,q'⟩:=sh.slot b o q hb;⟨sl,k b _ (λz=>by rw[z,hT]at q;cases q) q'⟩⟩
theorem nY(ύ:A.frames=Ab (env::outer))(hf:env.frame=Ab L)(ff:s.heap.FunFrames base (env::outer))(fl:Ŧ e T cls dx s.heap)(hQ:∀ h' T',Ŧ e T' cls dx h'->yb [e,T] (ye (env::outer)) s.heap h'->(T'=T\/s.heap.get? T'=Af)->Q () {s with heap:=h'}):Az M A (leaving env (.ref e)) Q E s:=by
 unfold leaving;exact Ah (sA ύ hf ff fl λh1 T' f1 sh hT=>XB f1 λh2 f2 k=>hQ h2 T' f2 (VW ff sh hT k) (.inr hT))
theorem lW(ύ:A.frames=Ab (env::outer))(hf:env.frame=Ab L)(ff:s.heap.FunFrames base (env::outer))(he:s.heap.get? e=Ab oe)(hc:oe.cls=cls)(hx:oe.dict=dx)(dt:oe.data=.fields vs)(h0:vs[0]?=Ab a0)(h1:vs[1]?=Ab .none)(hQ:∀ h' T',Ŧ e T' cls dx h'->yb [e] (ye (env::outer)) s.heap h'->s.heap.get? T'=Af->Q () {s with heap:=h'}):Az M A (leaving env (.ref e)) Q E s:=by
 unfold leaving Lf;simp only[hf];refine Ah (Ah (Bx he dt h1 ?_));rw[AF (by decide)]
 exact V2 (base:=base) ύ hf ff he dt (MG h1) λh' T' oT ts g nT gn gT dT f3 sh=>XB (VL hc hx h0 dt (MG h1) g nT gT dT f3) λh2 f2 k=>hQ h2 T' f2 (VW ff sh gn k) gn
end
def CXR(P:AW)(w:AJ):CXT:=λouter H s E ev s'=>∃ e T cls dx H',ev=.ref e/\s'.os=s.os/\GW s'.gens/\Un (ye outer) [] H H' s.heap s'.heap/\yt P w H' s'.heap/\Ŧ e T cls dx s'.heap/\H' e=Af/\H' T=Af/\s.heap.get? e=Af/\s.heap.get? T=Af/\E cls dx H'
def QR(X:Cx)(CL:ClA)(W:XW):Prop:=∀ pI Z H s e C dx t x,Z4 X pI Z H s->(X.ex=[]->X.s₀.heap.get? e=Af)->H e=Af->s.heap.get? e=Ab (fO C dx t)->ϟ X.K CL H (.ref C) dx x->W x H->X.xe (.ref e) s
section
variable{K:Fg}{E:XK}
theorem XA(I:Z4 X pI Z H s):∀ b∈ye X.stack,b∈X.fs\/X.s₀.heap.get? b=Af:=λb hb=>by
 rcases Ay.mp (I.stkSub b hb) with z|z
 .exact .inr (by rw[z];exact HG I.ok.above)
 .exact .inl z
theorem O8(I:Z4 X pI Z H s)(hx:X.ex=[])(h:s.heap.get? b=Af):X.s₀.heap.get? b=Af:=by
 cases q:X.s₀.heap.get? b with
 |none=>rfl
 |some o=>
  obtain⟨o',z⟩:=I.base.there b o q (by rw[hx];simp)
  rw[h]at z;cases z
theorem gG(hE:∀ x cls dx H',W x H'->ϟ K CL H' cls dx x->E cls dx H'):∀ A',M6 (CXR P w) (IY (CXR P w) P w K mg base N qual scope f cd A outer s H E) (EKW K CL A' W):=by
 intro A' pI Z H1 s1 ev s2 I h;obtain⟨e,T,cls,dx,H',rfl,os,bare,un,hok,fl,he,hT,ne,nT,x,xr,wx⟩:=h;have I':=I.call' (s':=s2) (ch:=[]) os un hok bare (λb z=>absurd z (by simp))
 have hb0:Un (ye outer) [] H H' s.heap s2.heap:=I'.base;show Az (model P w) (A.deeper (GN qual scope s.heap.objs.size f cd)) (leaving (GN qual scope s.heap.objs.size f cd) (.ref e)) _ _ s2;refine nY (L:=s.heap.objs.size) I'.ok.frames rfl I'.stack fl λh' T' fl' sh ĵ=>?_
 have e0:s.heap.get? e=Af:=O8 I rfl ne;have T0:s.heap.get? T=Af:=O8 I rfl nT;refine⟨e,T',cls,dx,H',rfl,I'.os,bare,Un.shift hb0 sh ?_ (XA I'),yt.shift hok sh ?_ I'.stkFree,fl',he,?_,e0,?_,?_⟩
 .intro b hb;rcases Ay.mp hb with rfl|hb
  .exact e0
  .rw[Bc.mp hb];exact T0
 .intro b hb;rcases Ay.mp hb with rfl|hb
  .exact he
  .rw[Bc.mp hb];exact hT
 .rcases ĵ with rfl|z
  .exact hT
  .exact Wk hok z
 .rcases ĵ with rfl|z
  .exact T0
  .exact O8 I' rfl z
 .exact hE x cls dx H' wx xr
theorem rzR(hE:∀ x cls dx H',W x H'->ϟ K CL H' cls dx x->E cls dx H'):QR (IY (CXR P w) P w K mg base N qual scope f cd A outer s H E) CL W:=by
 intro pI Z H1 s1 e C dx t x I e0 he ge xr hw;have hb0:Un (ye outer) [] H H1 s.heap s1.heap:=I.base;have e0':s.heap.get? e=Af:=e0 rfl;show Az (model P w) (A.deeper (GN qual scope s.heap.objs.size f cd)) (leaving (GN qual scope s.heap.objs.size f cd) (.ref e)) _ _ s1;refine lW (cls:=.ref C) (dx:=dx) (L:=s.heap.objs.size) I.ok.frames rfl I.stack ge rfl rfl rfl (a0:=.ref t) rfl rfl λh' T' fl' sh ĵ=>?_
 have one:∀{Z_:Ak->Prop},Z_ e->∀ b∈[e],Z_ b:=λ{Z_} z b hb=>by rw[Bc.mp hb];exact z
 exact⟨e,T',.ref C,dx,H1,rfl,I.os,I.bare,Un.shift hb0 sh (one e0') (XA I),yt.shift I.hok sh (one (Z_:=λb=>H1 b=Af) he) I.stkFree,fl',he,Wk I.hok ĵ,e0',O8 I rfl ĵ,hE x _ dx H1 hw xr⟩
theorem Ŕ:ID (model P w) (IY (CXR P w) P w K mg base N qual scope f cd A outer s H E).A (IY (CXR P w) P w K mg base N qual scope f cd A outer s H E).env (IY (CXR P w) P w K mg base N qual scope f cd A outer s H E).xe:=PassesOwn.leaving
end
noncomputable def veB:Ac Aj:=[.type "ValueError",.type "Exception",.type "BaseException",.type "object"]
def UM(K:Fg)(C:Ak)(v:Ar Aj):Ai:=match K.lookup C with
  | some ⟨.type "type",_,.cls c,z⟩=>(match c.mro,z.toList with
    |.ref c0::tl,[_,_,_,_,Ab (.builtin nw),_]=>c0==C&&(nw == "ValueError.__new__" && (!c.hasDel&&(PySem.W.tailIn K veB tl&&(PySem.W.nsOkIn K c.ns&&CG K c.ns "__init__" == Ab v))))
    | _,_=>Ae)
  |_=>Ae
structure XcOk (K:Fg) (C:Ak):Prop where
 exc:∃ v,UM K C v=Aa
 ga:Il K (.ref C) "__getattribute__" = Ab (Ab (.builtin "BaseException.__getattribute__"))
 gt:Il K (.ref C) "__getattr__" = Ab Af
 cl:Il K (.ref C) "__class__" = Ab (Ab (.builtin "object.__class__"))
 ob:PySem.W.mroIn K C (.type "object")=Ab Aa
 be:eS K (.ref C) (.type "BaseException")=Ab Aa
 cs:(PySem.W.clsIn K C).isSome=Aa
 ve:eR K (.ref C) (.type "ValueError")=Ab Aa
def Cx.hot(X:Cx)(e:Ak):Cx:={X with A:=X.A.mark (Ab (.ref e)),calm:=Ae,xe:=λ_ _=>BR}
def Cx.pw(X:Cx)(pI:Pn)(Xw:Vq):Cx:={X with pn:=X.pn++pI,xe:=Xw}
section
variable{X:Cx}{CL:ClA}{k n:Ag}{fr:Ai}{f:Ak}{fd:Dm}{ps:Ac Al}{F:Ac D->R D}{x:Al}{pos:Bm}{e:Am}{es:Ac Am}{fs ft:Rho->R (Ac D)}{sh:Rho->Ai}
variable(hx0:X.ex=[])(G:y7 X.prog X.w X.K X.mg X.base (CXR X.prog X.w) k f fd ps (spD X.K CL n fr F))(hr:y8 k X.A)(hg:Gl X x)(hm:X.mg x=Ab (.ref f))(hk:Ei X.K (.ref f)=Aa)(hb:Ϡ X.K fd ps [])(î:∀ Y,sh Y=Aa->ft Y=fs Y)(hn:∀ Y ds,ft Y=.ok ds->ds.length=n)(hnx:∀ Y y,ft Y≠.exn y)(ik:(x==("__debug__" : Al))=Ae)(he:AR (e::es) X.env=(Ae,eval e X.env)::AR es X.env)(yo:∀ pos,(DO pos (AR es X.env)).any (·.1)=Ae)(ha:∀ pI Xw,ID (model X.prog X.w) X.A X.env Xw->SA (Cx.pw X pI Xw) CL (λ_ _=>BR) (e::es) fs/\Ä (Cx.pw X pI Xw) CL (λ_ _=>BR) (e::es) ft)
include hx0 G hr hg hm hk hb î hn hnx ik he yo ha
end
def qo(K:Fg)(CL:ClA)(up:Ag->Ac Ag)(c':Ag)(C':Ak):Prop:=∀ c C,CL c=Ab C->eR K (.ref C) (.ref C')=Ab ((up c).contains c')
end Ov
namespace Ov
open PySem PySem.Spec PyProof.Rows L2
end Ov
namespace Ov
open PySem PySem.Spec PyProof.Rows L2
variable{Y:Rho}{d:D}{B:Ak->Prop}{a:Ak}{ks:Ac (Ac Ad)}{h:AO}{r:Ac Ad}{p:Bm}{K:Fg}{H:Hp}{g:Rho->O}{P:Am->Prop}{α:Type}{l:Ac A8}{xs ys:Ac Am}{y:Am}{scope:CP}{ts:Ac Ag}{c:Prop}{as:Es}{n:Al}
abbrev iV:CXT:=λ_ _ _ _ _ _=>BR
structure ϲ (P:AW) (w:AJ) (K:Fg) (mg:Al->Ar Aj) (base:AO) (k:Ag) (f:Ak) (fd:Dm) (ps:Ac Al) (sp:Sp):Prop where
 len:∀ vs H Q E,sp vs H Q E->vs.length=ps.length
 run:∀(A:A9)(ev:Ak)(outer:Ac DA)(s:Aq)(H:Hp)(args:Args)(us:Ac Aj)(vs:Ac V)(Q:VK)(E:XK),y8 k A->ϰ P w K mg base (A.mark (Ab (.ref ev))) outer s H->Ji s fd args (ps.zip us)->Bv vs us->sp vs H Q E ->
  GZ (model P w) (A.mark (Ab (.ref ev))) (.call (.ref f) args) (CR iV outer P w H s Q E) s
def spH(K:Fg)(CL:ClA)(n:Ag)(fr:Ai)(F:Ac D->R D):Sp:=λvs H Q _=>∃(ds:Ac D)(A:Ak->Prop),vs.length=n/\zw H A/\Z9 K CL H A vs ds/\(match F ds with
  |.ok d=>∀ v H',AV H H'->Fx K CL fr H A H' v d->Q v H'
  |.exn _=>BR
  | .bad=>BR)
noncomputable def jO(K:Fg)(C:Ak):Ai:=match K.lookup C with
  |some ⟨_,_,.cls c,_⟩=>c.hasDict
  |_=>Ae
theorem PH(h:Mk Y i=Aa):Y[i]?=Ab (Ab (.O,Aa)):=by
 unfold Mk at h;split at h
 .rename_i e;exact e
 .exact BP h
theorem JY{i:Ag}(hi:Y[i]?=Ab (Ab (d,Aa)))(j:Ag)(e:D):(Y.set i (Ab (d',Aa)))[j]?=Ab (Ab (e,Aa))↔(i=j/\e=d')\/(i≠j/\Y[j]?=Ab (Ab (e,Aa))):=by
 have hil:=(Bh.mp hi).1;by_cases hj:i=j
 .subst hj;rw[Ci hil];simp;exact⟨λz=>z.symm,λz=>z.symm⟩
 .rw[Dc hj];simp[hj]
theorem KC{i:Ag}(hi:Y[i]?=Ab (Ab (d,Aa)))(b:Ak):Ch B (Y.set i (Ab (d',Aa))) Z b↔Ch B Y Z b:=by
 constructor
 .rintro (h|⟨j,e,h1,h2⟩)
  .exact .inl h
  .rcases (JY hi j e).mp h1 with ⟨rfl,_⟩|⟨_,h1⟩
   .exact .inr ⟨i,d,hi,h2⟩
   .exact .inr ⟨j,e,h1,h2⟩
 .rintro (h|⟨j,e,h1,h2⟩)
  .exact .inl h
  .by_cases hj:i=j
   .subst hj;exact .inr ⟨i,d',(JY hi i _).mpr (.inl ⟨rfl,rfl⟩),h2⟩
   .exact .inr ⟨j,e,(JY hi j e).mpr (.inr ⟨hj,h1⟩),h2⟩
section
variable{K:Fg}
theorem Sx.dis2(x:Sx K CL Fz B Y Z H){i:Ag}(hi:Y[i]?=Ab (Ab (d,Aa)))(j k:Ag)(e f:D)(b:Ak)(g1:(Y.set i (Ab (d',Aa)))[j]?=Ab (Ab (e,Aa)))(g2:(Y.set i (Ab (d',Aa)))[k]?=Ab (Ab (f,Aa)))(g3:Z[j]?=Ab (Ab (.ref b)))(g4:Z[k]?=Ab (Ab (.ref b))):j=k:=by
 rcases (JY hi j e).mp g1 with ⟨rfl,_⟩|⟨hj,h'⟩
 .rcases (JY hi k f).mp g2 with ⟨rfl,_⟩|⟨hk,gV⟩
  .rfl
  .exact x.dis i k d f b hi gV g3 g4
 .rcases (JY hi k f).mp g2 with ⟨rfl,_⟩|⟨hk,gV⟩
  .exact x.dis j i e d b h' hi g3 g4
  .exact x.dis j k e f b h' gV g3 g4
theorem Sx.new2(x:Sx K CL Fz B Y Z H){i:Ag}(hi:Y[i]?=Ab (Ab (d,Aa)))(j:Ag)(e:D)(b:Ak)(g1:(Y.set i (Ab (d',Aa)))[j]?=Ab (Ab (e,Aa)))(g2:Z[j]?=Ab (Ab (.ref b))):((∀ o,¬ Fz b o)/\¬ B b)/\∃(j:Ag)(d:D),Y[j]?=Ab (Ab (d,Aa))/\Z[j]?=Ab (Ab (.ref b)):=by
 rcases (JY hi j e).mp g1 with ⟨rfl,_⟩|⟨_,h'⟩
 .exact⟨x.new i d b hi g2,i,d,hi,g2⟩
 .exact⟨x.new j e b h' g2,j,e,h',g2⟩
theorem Sx.sh2(x:Sx K CL Fz B Y Z H){i:Ag}(hi:Y[i]?=Ab (Ab (d,Aa)))(j:Ag)(e:D)(h:(Y.set i (Ab (d',Aa)))[j]?=Ab (Ab (e,Ae))):∃ v,Z[j]?=Ab (Ab v)/\Y5 K CL H (Ch B (Y.set i (Ab (d',Aa))) Z) v e:=by
 have hj:i≠j:=by
  rintro rfl;have:=HQ h;cases this
 rw[Dc hj]at h;obtain⟨v,q,r⟩:=x.good.sh j e h;exact⟨v,q,Y5.sub (λb hb=>(KC hi b).mp hb) _ r⟩
theorem Sx.pinned(x:Sx K CL Fz B Y Z H){i:Ag}{xs:Ac V}(hi:Y[i]?=Ab (Ab (.L ds,Aa)))(ha:Z[i]?=Ab (Ab (.ref a)))(hh:H a=Ab (.L xs)):Sx K CL ⟨λb o=>H b=Ab o/\¬ ∃(j:Ag)(d:D),Y[j]?=Ab (Ab (d,Aa))/\Z[j]?=Ab (Ab (.ref b)),λj b ys=>(j=i/\b=a/\ys=.L xs)\/(j≠i/\Fz.pin j b ys)⟩ B (Y.set i (Ab (.O,Aa))) Z H:=by
 refine⟨⟨x.sh2 hi,λj e h hn=>?_,by rw[Bj];exact x.len⟩,λb h=>x.aok b ((KC hi b).mp h),λj e b g1 g2=>⟨λo z=>z.2 (x.new2 hi j e b g1 g2).2,(x.new2 hi j e b g1 g2).1.2⟩,x.dis2 hi,λb o z=>z.1,by rw[Bj];exact x.len,λj h=>?_⟩
 .rcases (JY hi j e).mp h with ⟨_,rfl⟩|⟨hj,h'⟩
  .exact absurd rfl hn
  .obtain⟨b,ys,es,q,z,hb,h2,rr⟩:=x.good.ow j e h' hn;exact⟨b,ys,es,q,z,(KC hi b).mpr hb,h2,Z9.sub (λb hb=>(KC hi b).mp hb) _ rr⟩
 .by_cases hj:i=j
  .exact⟨a,_,.inl ⟨hj.symm,rfl,rfl⟩,hj ▸ ha,hh⟩
  .rw[Dc hj]at h;obtain⟨b,ys,p1,p2⟩:=x.pin j h;exact⟨b,ys,.inr ⟨Cy hj,p1⟩,p2⟩
theorem Sx.unpinned(x:Sx K CL Fy B Y Z H){i:Ag}{xs:Ac V}(hi:Y[i]?=Ab (Ab (.O,Aa)))(hf:∀ b o,Fz b o->Fy b o)(hpn:∀ j b ys,Fy.pin j b ys->(j=i/\b=a/\ys=.L xs)\/(j≠i/\Fz.pin j b ys))(r:Z9 K CL H (Ch B Y Z) xs ds):Sx K CL Fz B (Y.set i (Ab (.L ds,Aa))) Z H:=by
 refine⟨⟨x.sh2 hi,λj e h hn=>?_,by rw[Bj];exact x.len⟩,λb h=>x.aok b ((KC hi b).mp h),λj e b g1 g2=>⟨λo z=>(x.new2 hi j e b g1 g2).1.1 o (hf b o z),(x.new2 hi j e b g1 g2).1.2⟩,x.dis2 hi,λb o z=>x.same b o (hf b o z),by rw[Bj];exact x.len,λj h=>?_⟩
 .rcases (JY hi j e).mp h with ⟨rfl,rfl⟩|⟨hj,h'⟩
  .obtain⟨b,ys,p1,p2,p3⟩:=x.pin i hi;rcases hpn i b ys p1 with ⟨_,rfl,rfl⟩|⟨z,_⟩
   .exact⟨b,xs,ds,p2,rfl,(KC hi b).mpr (.inr ⟨i,.O,hi,p2⟩),p3,Z9.sub (λb hb=>(KC hi b).mp hb) _ r⟩
   .exact absurd rfl z
  .obtain⟨b,ys,es,q,z,hb,h2,rr⟩:=x.good.ow j e h' hn;exact⟨b,ys,es,q,z,(KC hi b).mpr hb,h2,Z9.sub (λb hb=>(KC hi b).mp hb) _ rr⟩
 .rcases (JY hi j _).mp h with ⟨_,z⟩|⟨hj,h'⟩
  .cases z
  .obtain⟨b,ys,p1,p2⟩:=x.pin j h';rcases hpn j b ys p1 with ⟨z,_⟩|⟨_,z⟩
   .exact absurd z.symm hj
   .exact⟨b,ys,z,p2⟩
end
section
def Ú(P:AW)(w:AJ)(h:AO):Ac (Ac Ad)->Ac Aj->Prop
 |[],[]=>IM
 |k::ks,v::vs=>(∃ b,v=.ref b/\Jh (Gv P w) h k b)/\Ú P w h ks vs
 |_,_=>BR
def Hs(P:AW)(w:AJ)(h:AO)(ks:Ac (Ac Ad))(a:Ak):Prop:=∃ o,∃ its:Ax Aj,∃ n,h.get? a=Ab o/\o.cls=DV "tuple"/\o.data=.seq its n/\Ú P w h ks its.toList
theorem Ú.inj{P:AW}{w:AJ}{h:AO}:∀{x y:Ac (Ac Ad)}{vs:Ac Aj},Ú P w h x vs->Ú P w h y vs->x=y
 |[],[],[],_,_=>rfl
 |k::x,j::y,v::vs,⟨⟨b,e,p⟩,r⟩,⟨⟨c,f,q⟩,t⟩=>by
  rw[e]at f;cases f;rw[p.inj q,Ú.inj r t]
 |[],_,_::_,z,_=>z.elim
 |_::_,_,[],z,_=>z.elim
 |[],_::_,[],_,z=>z.elim
 |_::_,[],_::_,_,z=>z.elim
theorem Ú.map{P:AW}{w:AJ}{h h':AO}(f:∀{k:Ac Ad}{b:Ak},Jh (Gv P w) h k b->Jh (Gv P w) h' k b):∀{x:Ac (Ac Ad)}{vs:Ac Aj},Ú P w h x vs->Ú P w h' x vs
 |[],[],_=>trivial
 |_::_,_::_,⟨⟨b,e,p⟩,r⟩=>⟨⟨b,e,f p⟩,Ú.map f r⟩
 |[],_::_,z=>z.elim
 |_::_,[],z=>z.elim
theorem Hs.ty{P:AW}{w:AJ}{s:Aq}(x:Hs P w s.heap ks a):s.TypeIs (.ref a) "tuple" := let ⟨o,_,_,ho,hc,_⟩:=x;⟨o,ho,hc⟩
theorem Hs.inj{P:AW}{w:AJ}{h:AO}{a:Ak}{x y:Ac (Ac Ad)}(p:Hs P w h x a)(q:Hs P w h y a):x=y:=by
 obtain⟨o,its,n,h1,_,h2,h3⟩:=p;obtain⟨o',its',n',k1,_,k2,k3⟩:=q;rw[h1]at k1;cases k1;rw[h2]at k2;cases k2;exact h3.inj k3
theorem Hs.keep{P:AW}{w:AJ}{h':AO}{d:Ak}{o:DE}{es ep}(x:Hs P w h ks a)(ho:h.get? d=Ab o)(hd:o.data=.dict es ep)(hs:Fn d h h'):Hs P w h' ks a:=by
 obtain⟨o',its,n,h1,h2,h3,h4⟩:=x;refine⟨o',its,n,(hs.2 a λz=>?_).trans h1,h2,h3,h4.map λq=>q.keeps ho hd hs⟩
 rw[z,ho]at h1;cases h1;rw[hd]at h3;cases h3
def Uo(P:AW)(w:AJ)(ks:Ac (Ac Ad)):Ad:=Mt (Ff (ks.map (Li (Gv P w))))
noncomputable def HV:Ac (Ac Ad)->Ag
 |[]=>0
 |k::ks=>(k.length+1)+HV ks
theorem VN:∀(x y:Ac (Ac Ad)),HV (x++y)=HV x+HV y
 |[],y=>by simp[HV]
 |k::x,y=>by
  show (k.length+1)+HV (x++y)=(k.length+1)+HV x+HV y;rw[VN x y]
  lia
variable{E:Vq}
theorem rY{P:AW}{w:AJ}{A:A9}{s:Aq}{Q:Ad->Aq->Prop}(hu:A.units+4<Cf)(hk:Hs P w s.heap ks a)(h:Q (Uo P w ks) {s with toks:=s.toks+(HV ks+1)}):Az (model P w) A (pyHash (.ref a)) Q E s:=by
 have hT:=hk.ty;obtain⟨o,its,n,ho,_,hd,hi⟩:=hk;unfold pyHash
 first|unfold pyHashByItsType|skip
 first|refine Ah (wpAny_cRoomFor_or (.inr (by lia)) ?_)|skip
 refine Ah (EV hT G5.lookup ?_);show Az _ _ (if (Ab (Value.builtin "tuple.__hash__")==Ab Bo)=Aa then _ else _) Q E s
 rw[AF (by rw[beq_builtin_none];exact A3)]
 refine Ah (EV hT G5.lookup ?_);show Az _ _ (callSpecialIfBoundUnlessNone? (.ref a) "__hash__" _ >>= _) Q E s;refine Ah (wpAny_callSpecialIfBoundUnlessNone?_slot hT G5 (CC G5 hT F.entry_tuple_hash ?_ (F.args_tuple_hash_1 _)));show Az _ _ (cA (.ref a) >>= _) _ _ s;refine Ah (IH ho hd (Ah ?_));rw[<-FC];refine Ga _ (λrest (b:Ax Ad) s'=>∃ done left,ks=done++left/\Ú P w s.heap left rest/\b.toList=done.map (Li (Gv P w))/\s'={s with toks:=s.toks+HV done}) _ ?_ ?_ _ _ ⟨[],ks,rfl,hi,rfl,rfl⟩
 .rintro x rest b s' ⟨done,left,rfl,hl,hb,rfl⟩;cases left with
  |nil=>exact hl.elim
  |cons k left=>
   obtain⟨⟨c,rfl,kc⟩,hl⟩:=hl;have e:s.toks+HV done+(k.length+1)=s.toks+HV (done++[k]):=by rw[VN];show _=s.toks+(HV done+(k.length+1+0));lia
   refine Ah (wpAny_pyHash_tuple (knd:=Gv P w) (by show A.units+_<Cf;lia) kc ?_)
   dsimp only;rw[e]
   first
    |exact Au ⟨done++[k],left,by simp,hl,by simp[hb],rfl⟩
    |exact Ah (Au (Au ⟨done++[k],left,by simp,hl,by simp[hb],rfl⟩))
 .rintro b s' ⟨done,left,rfl,hl,hb,rfl⟩;cases left with
  |cons=>exact hl.elim
  |nil=>
  rw[Cr]at h;show Az _ _ (retInt (Ff b.toList)) _ _ _;rw[hb];refine fM ?_;generalize hz:Ff (done.map (Li (Gv P w)))=z;show Az _ _ (if (decide (-(2:Ad) ^ 63<=z)&&decide (z<2 ^ 63))=Aa then _ else _) Q E _
  unfold Uo Mt at h;rw[hz]at h;by_cases hr:(decide (-(2:Ad) ^ 63<=z)&&decide (z<2 ^ 63))=Aa
  .rw[AB hr];rw[AB hr]at h;exact Au (by simpa [bJ] using h)
  .rw[AF hr];rw[AF hr]at h;exact Ah (Fh (Au (by simpa [bJ] using h)))
theorem sD{P:AW}{w:AJ}{A:A9}{s:Aq}{x y:Ac (Ac Ad)}{a b:Ak}{R:dP->Aq->Prop}(hu:A.units+2<Cf)(hx:Hs P w s.heap x a)(hy:Hs P w s.heap y b)(h:R (.done (.ret (.bool (decide (x=y))))) s):Az (model P w) A (Builtin.«tuple.__eq__» ⟨[.ref a,.ref b],[]⟩) R E s:=by
 have hT:=hy.ty;obtain⟨oa,xs,na,h1,_,h2,h3⟩:=hx;obtain⟨ob,ys,nb,k1,_,k2,k3⟩:=hy;show Az _ _ (Kz (.ref b) (.type "tuple") >>= _) _ _ s;refine Ah (Gb hT Hv ?_);simp only[Gn,C7,E2];refine Ah (IH h1 h2 (Ah (IH k1 k2 (Ah ?_))));refine Ga _ (λrest r s'=>r.1=Af/\s'=s/\∃ x' y' Ϙ å,rest=List.zip Ϙ å/\Ú P w s.heap x' Ϙ/\Ú P w s.heap y' å/\decide (x'=y')=decide (x=y)/\(Ϙ.length==å.length)=(xs.size==ys.size)) _ ?_ ?_ _ _ ⟨rfl,rfl,x,y,xs.toList,ys.toList,rfl,h3,k3,rfl,by simp⟩
 .rintro⟨u,v⟩ rest r s' ⟨hr,rfl,x',y',Ϙ,å,hz,à,Ϥ,ό,J2⟩;cases Ϙ with
  |nil=>simp at hz
  |cons u' Ϙ=>
   cases å with
   |nil=>simp at hz
   |cons v' å=>
    cases x' with
    |nil=>exact à.elim
    |cons k x'=>
     cases y' with
     |nil=>exact Ϥ.elim
     |cons j y'=>
      simp only[GL,GE,bQ]at hz;obtain⟨⟨rfl,rfl⟩,rfl⟩:=hz;obtain⟨⟨c,rfl,kc⟩,à⟩:=à;obtain⟨⟨d,rfl,kd⟩,Ϥ⟩:=Ϥ;refine Ah (fF (by omega) kc kd ?_)
      by_cases e:k=j
      .rw[Cm e];simp only[Gn,C7,E2];refine Au ⟨rfl,rfl,x',y',Ϙ,å,rfl,à,Ϥ,?_,by simpa using J2⟩
       rw[<-ό];by_cases e2:x'=y'<;>simp[e,e2]
      .rw[CK e];simp only[Bool.not_false,Jm];have hf:decide (x=y)=Ae:=by rw[<-ό];simp[e]
       rw[hf]at h;exact Ah (Au (Au (Au h)))
 .rintro⟨r1,r2⟩ s' ⟨hr,rfl,x',y',Ϙ,å,hz,à,Ϥ,ό,J2⟩;simp only at hr;subst hr;refine Au ?_;have fin:(xs.size==ys.size)=decide (x=y):=by
   rw[<-ό,<-J2];cases Ϙ with
   |nil=>
    cases x' with
    |cons=>exact à.elim
    |nil=>
     cases å with
     |nil=>
      cases y' with
      |nil=>rfl
      |cons=>exact Ϥ.elim
     |cons=>
      cases y' with
      |nil=>exact Ϥ.elim
      |cons=>simp
   |cons=>
    cases å with
    |cons=>simp at hz
    |nil=>
     cases x' with
     |nil=>exact à.elim
     |cons=>
      cases y' with
      |nil=>simp
      |cons=>exact Ϥ.elim
  show R (.done (.ret (.bool (xs.size==ys.size)))) s';rw[fin];exact h
theorem n6{Q:Ai->Aq->Prop}{P:AW}{w:AJ}{A:A9}{s:Aq}{x y:Ac (Ac Ad)}{a b:Ak}(hu:A.units+4<Cf)(hx:Hs P w s.heap x a)(hy:Hs P w s.heap y b)(h:Q (decide (x=y)) s):Az (model P w) A (eqBool (.ref a) (.ref b)) Q E s:=by
 unfold eqBool
 try with_reducible refine Cn ?_
 show Az _ _ (if (Dh a==Dh b)=Aa then _ else _) Q E s
 by_cases Ñ:(Dh a==Dh b)=Aa
 .rw[AB Ñ];have e:a=b:=by have:=eq_of_beq Ñ;injection this
  subst e;obtain rfl:=hx.inj hy;exact Ah (Fh (Au (by simpa using h)))
 .rw[AF Ñ];exact Ah (wpAny_richCompare_same_room (op:=.Eq) hx.ty hy.ty HF (CC HF hx.ty F.entry_tuple_eq (sD (by show A.units+_+_<Cf;lia) hx hy ⟨_,rfl,(λe=>nomatch e),Dj h⟩) (F.args_tuple_eq_2 _ _)) (by lia))
theorem cy{Q:Ai->Aq->Prop}{P:AW}{w:AJ}{A:A9}{s:Aq}{k:Ac Ad}(n:Ag)(hk:Jh (Gv P w) s.heap k a)(h:Q Aa s):Az (model P w) A (Ld (n+1) (.ref a)) Q E s:=by
 have hT:=hk.typeIs;obtain⟨o,its,m,ho,_,hd,hi⟩:=hk;unfold Ld;refine Ah (EV hT HF.lookup ?_);show Az _ _ (Kz (.ref a) (.type "tuple") >>= _) _ _ s;refine Ah (Gb hT Hv ?_);simp only[Gn,C7,E2];refine Ah (Cb ho hd (Ah ?_));show Az _ _ (forIn its _ _) _ _ s;rw[<-FC];refine Ga _ (λl r s'=>r.1=Af/\s'=s/\∀ v∈l,carriedByValue v=Aa) _ ?_ ?_ _ _ ⟨rfl,rfl,hi.byValue⟩
 .rintro v l r s' ⟨hr,rfl,Ò⟩;rw[eqIsQuiet_byValue _ (Ò v Av)];refine Ah (Au ?_);simp only[Gn,C7,E2];exact Au ⟨rfl,rfl,λu m=>Ò u (As _ m)⟩
 .rintro⟨r1,r2⟩ s' ⟨hr,rfl,_⟩;simp only at hr;subst hr;exact Au h
theorem cx{Q:Ai->Aq->Prop}{P:AW}{w:AJ}{A:A9}{s:Aq}(hk:Hs P w s.heap ks a)(h:Q Aa s):Az (model P w) A (Ld 8 (.ref a)) Q E s:=by
 have hT:=hk.ty;obtain⟨o,its,m,ho,_,hd,hi⟩:=hk;unfold Ld;refine Ah (EV hT HF.lookup ?_);show Az _ _ (Kz (.ref a) (.type "tuple") >>= _) _ _ s;refine Ah (Gb hT Hv ?_);simp only[Gn,C7,E2];refine Ah (Cb ho hd (Ah ?_));show Az _ _ (forIn its _ _) _ _ s;rw[<-FC];refine Ga _ (λl r s'=>r.1=Af/\s'=s/\∃ x,Ú P w s.heap x l) _ ?_ ?_ _ _ ⟨rfl,rfl,ks,hi⟩
 .rintro v l r s' ⟨hr,rfl,x,hx⟩;cases x with
  |nil=>exact hx.elim
  |cons k x=>
   obtain⟨⟨b,rfl,kb⟩,hx⟩:=hx;refine Ah (cy 6 kb ?_);simp only[Gn,C7,E2];exact Au ⟨rfl,rfl,x,hx⟩
 .rintro⟨r1,r2⟩ s' ⟨hr,rfl,_⟩;simp only at hr;subst hr;exact Au h
def ĥ(P:AW)(w:AJ):HeapKind P w (Ac (Ac Ad)) where
 is:=Hs P w
 hash:=Uo P w
 draws:=λks=>HV ks+1
 room:=λA=>A.units+4<Cf
 inj:=λp q=>p.inj q
 keeps:=λx ho hd hs=>x.keep ho hd hs
 pyHash:=λhu hk h=>rY hu hk h
 eqBool:=λhu hx hy h=>n6 hu hx hy h
 quiet:=λhk h=>cx hk h
end
noncomputable def kk(r:Ac Ad):Ac (Ac Ad):=[r.take 3,(r.drop 3).take 3,r.drop 6]
theorem k9(h:kk r=kk q):r=q:=by
 unfold kk at h
 injection h with h1 h
 injection h with h2 h
 injection h with h3 h
 rw[Mm r,Mm q,h1,h2,h3]
def ent(e:Ac Ad×Ak):Ac (Ac Ad)×Ak×Aj:=(kk e.1,e.2,.bool Aa)
def Od(P:AW)(w:AJ)(a:Ak)(es:Ac (Ac Ad×Ak))(h:AO):Prop:=(a==HL)=Ae/\∃ o Ω ep,h.get? a=Ab o/\o.ExactDict/\o.data=.dict Ω ep/\Ω.toList=(es.map ent).map (entryOfKey (ĥ P w))/\((es.map ent).map (·.1)).Nodup
def Gf(a:Ak)(es:Ac (Ac Ad×Ak)):AO->Prop:=λh=>∀ P w,Od P w a es h
theorem Od.any{P:AW}{w:AJ}{a:Ak}{es:Ac (Ac Ad×Ak)}{h:AO}(d:Od P w a es h):Gf a es h:=λ_ _=>d
theorem Gf.keep(d:Gf a es h)(k:∀ o,h.get? a=Ab o->h'.get? a=Ab o):Gf a es h':=λP w=>by
 obtain⟨hs,o,es,ep,h1,r⟩:=d P w;exact⟨hs,o,es,ep,k o h1,r⟩
section
variable{Z:L2.St}{CL:ClA}{A:Ak->Prop}
def vK(e:Ac Ad×Ak):V:=.ref e.2
def dK(e:Ac Ad×Ak):D:=tN e.1
theorem Zm(I:Z4 X pI Z H s)(l9:r.length=9)(h:Y5 X.K CL H A (.ref ka) (tN r)):(ĥ X.prog X.w).is s.heap (kk r) ka:=by
 obtain⟨b,its,e,⟨o,ho,hc,n,hd⟩,x,y,z,rx,ry,rz,ex,hx,hy,hz,er⟩:=RZ I (rs:=[r]) (ys:=[.ref ka]) (its:=[Dh ka]) ⟨h,trivial⟩ (.cons rfl .nil) (λq m=>by rw[Bc.mp m];exact l9) 0 _ r rfl rfl
 cases e;have e:kk r=[rx,ry,rz]:=by
  unfold kk;rw[er,HB hx.2,Hy hx.2,HB hy.2,<-C0,Hy (by rw[BL,hx.2,hy.2])]
 refine⟨o,its,n,ho,hc,hd,?_⟩;rw[e,ex];exact⟨hx.1.key,hy.1.key,hz.1.key,trivial⟩
theorem Zz(I:Z4 X pI Z H s):∀{es:Ac (Ac Ad×Ak)},(∀ e∈es,e.1.length=9)->Z9 X.K CL H A (es.map vK) (es.map dK)->∀ x∈es.map ent,(ĥ X.prog X.w).is s.heap x.1 x.2.1
 |[],_,_,x,hx=>by cases hx
 |e::es,l9,r,x,hx=>by
  rcases Ay.mp hx with rfl|hx
  .exact Zm I (l9 e (Av ..)) r.1
  .exact Zz I (λq m=>l9 q (As _ m)) r.2 x hx
theorem ao(I:Z4 X pI Z H s)(hH:H a=Ab (.ext (Gf a es)))(l9:∀ e∈es,e.1.length=9)(r:Z9 X.K CL H A (es.map vK) (es.map dK)):(a==HL)=Ae/\s.heap.DictOfH (ĥ X.prog X.w) a (es.map ent):=by
 obtain⟨hs,o,Ω,ep,h1,h2,h3,h4,h5⟩:=(I.hok a _ hH).1 X.prog X.w;exact⟨hs,o,Ω,ep,h1,h2,h3,h4,Zz I l9 r,h5⟩
def Zn(K:Fg)(CL:ClA)(A:Ak->Prop):QF:=λo i v H Q=>∃ a ka es r,o=.ref a/\i=.ref ka/\v=.bl Aa/\H a=Ab (.ext (Gf a es))/\(∀ e∈es,e.1.length=9)/\Z9 K CL H A (es.map vK) (es.map dK)/\r.length=9/\Y5 K CL H A (.ref ka) (tN r)/\r∉es.map (·.1)/\es.length<=1000/\Q (upd H a (.ext (Gf a (es++[(r,ka)]))))
theorem qT(hu:X.A.units+64<Cf):QS X (Zn X.K CL A):=by
 intro pI s Z H o i v ov iv u Q I ro ri rv h;obtain⟨a,ka,es,r,rfl,rfl,rfl,hH,l9,rs,r9,rk,hn,hz,q⟩:=h;cases ro;cases ri;cases rv;obtain⟨hs,m⟩:=ao I hH l9 rs;have no:atKey (es.map ent) (kk r)=Af:=by
  unfold atKey;rw[List.find?_eq_none.mpr λx hx=>?_]
  .rfl
  .obtain⟨e,he,rfl⟩:=Bp.mp hx;simp only[AN];exact λz=>hn (Bp.mpr ⟨e,he,k9 z⟩)
 refine wpAny_setItem_heap (knd:=ĥ X.prog X.w) (hsz:=by rw[A6,Dt];lia) (show X.A.units+1+4<Cf by lia) (Zm I r9 rk) m λh' m sb=>⟨_,?_,q⟩
 rw[storedH_new no]at m;have e:es.map ent++[(kk r,ka,Mq Aa)]=(es++[(r,ka)]).map ent:=by rw[Er];rfl
 rw[e]at m;obtain⟨o,Ω,ep,h1,h2,h3,h4,_,h5⟩:=m;exact I.write (x:=a) (e:=a) (by rw[hH];exact trivial) (.inl rfl) (λb u hb hu=>(sb.2 b hb).trans hu) ⟨o,h1⟩ ⟨Od.any (P:=X.prog) (w:=X.w) ⟨hs,o,Ω,ep,h1,h2,h3,h4,h5⟩,⟨o,h1⟩,λh1 h2 d k=>d.keep k⟩
theorem sG:PE X (.Dict [] [] pos) (λ_ H Q=>∀ a,H a=Af->Q (.ref a) (upd H a (.ext (Gf a [])))):=λpI s Z H Q I h=>by
 have big:HL<s.heap.objs.size:=HE (by decide) (I.mod.glob.keeps I.bk).lt
 have ê:(s.heap.push { cls:=.type "dict",data:=.dict #[] }).get? s.heap.objs.size=Ab { cls:=.type "dict",data:=.dict #[] }:=AG _ rfl;refine wpAny_Dict_empty ⟨.ref s.heap.objs.size,_,I.laid (a:=s.heap.objs.size) (t':=s.toks) (λ_ _ q=>At _ q) (AE _) ?_,rfl,h _ (I.hok.fresh (AE _))⟩
 exact⟨Od.any (P:=X.prog) (w:=X.w) ⟨D4.mpr (Cy (Be big)),_,#[],0,ê,⟨rfl,rfl,rfl⟩,rfl,rfl,Kj⟩,⟨_,ê⟩,λh1 h2 d k=>d.keep k⟩
theorem pW:IV X (.builtin "len") (λxs H Q=>∃ a es,xs=[.ref a]/\H a=Ab (.ext (Gf a es))/\es.length<=1000/\Q (.int es.length) H):=by
 intro pI s Z H xs us Q I rv h;obtain⟨a,es,rfl,hH,hz,q⟩:=h;obtain⟨u,rfl,rx⟩:=ϝ rv;cases rx;obtain⟨hs,o,Ω,ep,h1,h2,h3,h4,_⟩:=(I.hok a _ hH).1 X.prog X.w;have ez:Ω.size=es.length:=by rw[<-AQ,h4,A6,A6]
 have ty:s.TypeIs (.ref a) "dict" := ⟨o,h1,h2.1⟩;have ln:MeetsIn X.prog X.w (Builtin.«dict.__len__» ⟨[.ref a],[]⟩) (λ_ R s=>s.heap.get? a=Ab o/\R (.ok (.ret (.int es.length s.toks))) {s with toks:=s.toks+1}):=.of_wp λA R s ⟨g,k⟩=>by
  show Az _ _ (dictSize a >>= _) _ _ s;unfold dictSize;refine Ah (Ah (wpAny_dictEntries g h3 (Au ?_)));show Az _ _ (Builtin.Dict.pendingCount a >>= _) _ _ s;refine Ah (wpAny_pendingCount_other hs (fM ?_));rw[K5,ez];exact k
 refine cE kind_len plain_len entry_len (args_len1 _) ?_;unfold Builtin.«len»;refine Ah (m:=oneArg "len" _) (Au ?_);refine Ah (m:=K9 (.ref a) (Do "__len__")) (Cq (name:=Do "__len__") ty dM (call_meetsIn dM ty F.entry_dict_len (F.args_dict_len_1 _) ln ⟨h1,?_⟩));show Az _ _ _ _ _ {s with toks:=s.toks+1}
 refine Ah (Cn (Au (Ah (Gz ?_))));show Az _ _ (if ((es.length:Ag):Ad)<0 then _ else _) _ _ _
 rw[AF (by lia)]
 show Az _ _ (if ((es.length:Ag):Ad) ≥ 2 ^ 63 then _ else _) _ _ _
 rw[AF (by lia)]
 exact Ah (wpAny_mkInt (Au ⟨_,rfl,.int es.length,H,I.kept λb o e=>e,⟨_,rfl⟩,q⟩))
end
section
variable{K:Fg}
theorem Sx.repin(x:Sx K CL ⟨f,pn⟩ B Y Z H){d:Ag}(hd:Y[d]?=Ab (Ab (.O,Aa)))(sd:Z[d]?=Ab (Ab (.ref a)))(ow:UV o):Sx K CL ⟨f,λj b u=>(j=d/\b=a/\u=o)\/(j≠d/\pn j b u)⟩ B Y Z (L2.upd H a o):=by
 have oa:Ch B Y Z a:=.inr ⟨d,.O,hd,sd⟩;have kp:Kp (Ch B Y Z) H (L2.upd H a o):=λb o e na=>by
  have il:b≠a:=λz=>na (by rw[z];exact oa)
  rw[Dp il];exact e
 have ne:∀{j:Ag}{e:D}{b:Ak},Y[j]?=Ab (Ab (e,Aa))->Z[j]?=Ab (Ab (.ref b))->j≠d->b≠a:=λh1 h2 hj z=>hj (x.dis _ d _ _ a h1 hd (z ▸ h2) sd)
 refine⟨⟨λj e h=>let ⟨v,q,r⟩:=x.good.sh j e h;⟨v,q,Y5.kp kp _ r⟩,λj e h hn=>?_,x.good.len⟩,λb h=>?_,x.new,x.dis,λb u z=>?_,x.len,λj h=>?_⟩
 .obtain⟨b,ys,es,q,z,hb,h2,rr⟩:=x.good.ow j e h hn;have hj:j≠d:=λz=>by
   rw[z,hd]at h;cases h;exact hn rfl
  exact⟨b,ys,es,q,z,hb,by rw[Dp (ne h q hj)];exact h2,Z9.kp kp _ rr⟩
 .by_cases e:b=a
  .rw[e];exact⟨_,HP,ow⟩
  .obtain⟨u,q,w⟩:=x.aok b h;exact⟨u,by rw[Dp e];exact q,w⟩
 .have il:b≠a:=λe=>(x.new d _ a hd sd).1 u (by rw[<-e];exact z)
  rw[Dp il];exact x.same b u z
 .by_cases hj:j=d
  .exact⟨a,o,.inl ⟨hj,rfl,rfl⟩,hj ▸ sd,HP⟩
  .obtain⟨b,u,p1,p2,p3⟩:=x.pin j h;exact⟨b,u,.inr ⟨hj,p1⟩,p2,by rw[Dp (ne h p2 hj)];exact p3⟩
theorem Sx.forget(x:Sx K CL ⟨f,pn⟩ B Y Z H)(d:Ag):Sx K CL ⟨f,λj b u=>j≠d/\pn j b u⟩ B (Y.set d Af) Z H:=by
 have own:∀{j:Ag}{z:D×Ai},(Y.set d Af)[j]?=Ab (Ab z)->d≠j/\Y[j]?=Ab (Ab z):=λ{j z} h=>by
  by_cases hj:d=j
  .subst hj;have:=HQ h;cases this
  .exact⟨hj,by rw[Dc hj]at h;exact h⟩
 have sub:∀ b,Ch B (Y.set d Af) Z b->Ch B Y Z b:=λb h=>h.imp id λ⟨j,e,h1,h2⟩=>⟨j,e,(own h1).2,h2⟩
 refine⟨⟨λj e h=>let ⟨v,q,r⟩:=x.good.sh j e (own h).2;⟨v,q,Y5.sub sub _ r⟩,λj e h hn=>?_,by rw[Bj];exact x.len⟩,λb h=>x.aok b (sub b h),λj e b g1 g2=>x.new j e b (own g1).2 g2,λj k e g b g1 g2 g3 g4=>x.dis j k e g b (own g1).2 (own g2).2 g3 g4,x.same,by rw[Bj];exact x.len,λj h=>?_⟩
 .obtain⟨b,ys,es,q,z,hb,h2,rr⟩:=x.good.ow j e (own h).2 hn;exact⟨b,ys,es,q,z,.inr ⟨j,e,h,q⟩,h2,Z9.sub sub _ rr⟩
 .obtain⟨b,u,p1,p2⟩:=x.pin j (own h).2;exact⟨b,u,⟨(own h).1.symm,p1⟩,p2⟩
def ownF(Y:Rho)(Z:L2.St)(H:Hp):Ak->HO->Prop:=λb o=>H b=Ab o/\¬ ∃(j:Ag)(d:D),Y[j]?=Ab (Ab (d,Aa))/\Z[j]?=Ab (Ab (.ref b))
theorem Sx.strong(x:Sx K CL ⟨f,pn⟩ B Y Z H):Sx K CL ⟨ownF Y Z H,pn⟩ B Y Z H:=⟨x.good,x.aok,λj d a h1 h2=>⟨λo z=>z.2 ⟨j,d,h1,h2⟩,(x.new j d a h1 h2).2⟩,x.dis,λb o z=>z.1,x.len,x.pin⟩
theorem Sx.ownF(x:Sx K CL ⟨f,pn⟩ B Y Z H):∀ b o,f b o->ownF Y Z H b o:=λb o z=>⟨x.same b o z,λ⟨j,d,h1,h2⟩=>(x.new j d b h1 h2).1 o z⟩
theorem RC(x':Sx K CL ⟨ownF Y Z H,pn⟩ B Y' Z' H')(r:Z9 K CL H (Ch B Y Z) vs ds):Z9 K CL H' (Ch B Y' Z') vs ds:=by
 have wd:∀ b,Ch B Y' Z' b->Ch B Y Z b\/H b=Af:=λb yi=>by
  rcases yi with h|⟨j,d,h1,h2⟩
  .exact .inl (.inl h)
  .cases e:H b with
   |none=>exact .inr rfl
   |some o=>
    by_cases ho:∃(j:Ag)(d:Ov.D),Y[j]?=Ab (Ab (d,Aa))/\Z[j]?=Ab (Ab (.ref b))
    .exact .inl (.inr ho)
    .exact absurd ⟨e,ho⟩ ((x'.new j d b h1 h2).1 o)
 have r1:Z9 K CL H (λb=>Ch B Y Z b\/Ch B Y' Z' b) vs ds:=Z9.wide (λb yi=>yi.elim .inl (wd b)) _ r
 have r2:Z9 K CL H' (λb=>Ch B Y Z b\/Ch B Y' Z' b) vs ds:=Z9.kp (λb o e na=>x'.same b o ⟨e,λz=>na (.inl (.inr z))⟩) _ r1
 exact Z9.sub (λb yi=>.inr yi) _ r2
end
theorem Vm{M:FK}{A:A9}{E:Vq}{env:DA}{rest:Ac A8}{Q:Flow->Aq->Prop}{J:PySem.Ctx}(hΓ:J.In A):∀(l:Ac A8)(p:Bm)(s:Aq),QI M J (execs l env) (λf _ s'=>match f with | .next=>Az M A (execs rest env) Q E s'|f=>Q f s') (λe _ s'=>E e s') p s->QI M J (execs (l++rest) env) (λf _ s'=>Q f s') (λe _ s'=>E e s') p s
 |[],p,s,h=>by
  rw[execs_nil,Sem.wp_pure']at h;exact h J p hΓ
 |st::l,p,s,h=>by
  rw[execs_cons,dW]at h;show QI M J (execs (st::(l++rest)) env) _ _ p s;rw[execs_cons,dW];refine Sem.wp_mono M J _ (λf p' s' h'=>?_) (λ_ _ _ h'=>h') _ _ h
  cases f with
  |next=>exact Vm hΓ l p' s' h'
  |_=>exact h'
theorem tT{a:Ac A8}(h1:xk X a t)(h2:xk X b u):xk X (a++b) (U3 t u):=λpI s Z H D I h J p hΓ=>by
 refine Vm hΓ a p s (J9 (h1 pI s Z H {D with nx:=u D} I h) (λf s1 q=>?_) J p hΓ)
 cases f with
 |next=>
  obtain⟨Z',H',I',q⟩:=q;exact h2 pI s1 Z' H' D I' q
 |ret v=>exact q
 |brk=>exact q
 |cont=>exact q
theorem Sx.to(x:Sx K CL ⟨f',pn'⟩ B Y Z H)(k:∀ b o,f b o->f' b o)(kp:∀ j b u,pn' j b u->pn j b u):Sx K CL ⟨f,pn⟩ B Y Z H:=Sx.mono (Fz:=⟨f,pn⟩) (Fy:=⟨f',pn'⟩) k kp x
def Ć(Fz:Fr)(i d:Ag)(la da:Ak)(o1 o2:HO):Ag->Ak->HO->Prop:=λj b u=>(j=d/\b=da/\u=o2)\/(j≠d/\((j=i/\b=la/\u=o1)\/(j≠i/\Fz.pin j b u)))
structure CS (K:Fg) (CL:ClA) (Fz:Fr) (B:Ak->Prop) (i d:Ag) (la da:Ak) (xs:Ac V) (ds:Ac D) (es:Ac (Ac Ad×Ak)) (Y:Rho) (Z:L2.St) (H:Hp):Prop where
 x:Sx K CL ⟨Fz.f,Ć Fz i d la da (.L xs) (.ext (Gf da es))⟩ B Y Z H
 l9:∀ e∈es,e.1.length=9
 rx:Z9 K CL H (Ch B Y Z) xs ds
 rk:Z9 K CL H (Ch B Y Z) (es.map vK) (es.map dK)
theorem CS.at_d{d:Ag}(x:Sx K CL ⟨f,Ć Fz i d la da o1 o2⟩ B Y Z H)(h:Gh Y i d=Aa)(ne:d≠i):(Y[d]?=Ab (Ab (.O,Aa))/\Z[d]?=Ab (Ab (.ref da))/\H da=Ab o2)/\Z[i]?=Ab (Ab (.ref la))/\H la=Ab o1:=by
 have h:=(An _ _).mp h;obtain⟨b,u,p1,p2,p3⟩:=x.pin d (PH h.2);obtain⟨b',u',q1,q2,q3⟩:=x.pin i (PH h.1);rcases p1 with ⟨_,rfl,rfl⟩|⟨z,_⟩
 .rcases q1 with ⟨z,_⟩|⟨_,⟨_,rfl,rfl⟩|⟨z,_⟩⟩
  .exact absurd z.symm ne
  .exact⟨⟨PH h.2,p2,p3⟩,q2,q3⟩
  .exact absurd rfl z
 .exact absurd rfl z
theorem cf(l9:r.length=9):∀{es:Ac (Ac Ad×Ak)},(∀ e∈es,e.1.length=9)->((es.map dK).reverse.all λy=>!Y0 (tN r) y)=Aa->r∉es.map (·.1):=λ{es} h k m=>by
 obtain⟨e,he,rfl⟩:=Bp.mp m;have:=Cj.mp k (dK e) (List.mem_reverse.mpr (aZ he));have z:Y0 (tN e.1) (dK e)=Aa:=by
  show Y0 (tN e.1) (tN e.1)=Aa;rw[L9 l9 l9];exact Cm rfl
 rw[z]at this;exact BP this
theorem CH.cnt{X:Cx}{d:Ag}{h:D->Rho->O}(hr:D2.rt=D'.rt)(hf:∀ b q,Fz b q->f b q)(p:CH X.K CL Fz B W ((ϙ i d ds (Ol o fk h)).seq g) D')(k:∀ Y' Z' H' kd,Sx X.K CL ⟨f,pn⟩ B Y' Z' H'->fk Y'=.ok kd->CH X.K CL Fz B W ((ϙ i d ds (h kd Y')).seq g) D'->D2.nx Z' H'):CH X.K CL ⟨f,pn⟩ B W o D2:=by
 cases o with
 |next Y'=>
  intro Z' H' x;have p:CH X.K CL Fz B W ((ϙ i d ds (match fk Y' with | .ok k=>h k Y'|_=>.bad)).seq g) D':=p
  cases e:fk Y' with
  |ok kd=>rw[e]at p;exact k Y' Z' H' kd x e p
  |exn _=>rw[e]at p;exact p.elim
  |bad=>rw[e]at p;exact p.elim
 |ret d b=>exact λv H' s r n=>hr ▸ p v H' (λb o z=>s b o (hf b o z)) r λz ds e=>let ⟨a,xs,h1,h2,h3⟩:=n z ds e;⟨a,xs,h1,λo q=>h2 o (hf a o q),h3⟩
 |cont _=>exact p.elim
 |brk _=>exact p.elim
 |exn _ _=>exact p.elim
 |bad=>exact p
theorem wT:yq X (Du .NotEq) (λx y H Q=>∃ i j:Ad,x=.int i/\y=.int j/\Q (.bl (!(i==j))) H):=by
 intro pI s Z H x y v u Q I rx ry h;obtain⟨i,j,rfl,rfl,q⟩:=h;obtain⟨t,rfl⟩:=rx;obtain⟨t',rfl⟩:=ry;exact ne_int (TC I q rfl)
theorem vD{d:Ag}{a:Am}{rest:Ac A8}(hN:X.N.Nodup)(hd:X.N[d]?=Ab dn)(hx:Χ X.env.scope dn)(k5:EO (.Dict [] [] dpos) (Ab (.Name dn p1)) pos1.line X.env=pure Ae)(hf1:X.fn dn=Aa\/X.env.scope.names.lookup dn=Ab .local)(hp:ID (model X.prog X.w) X.A X.env X.xe)(hc:X.calm=Aa)(hg:PG X tg (Gg t))(ha:PE X a (IB i))(hb:Û X CL W body fbd)(y6:∀ x,DD a X.env x=pure x)(hdE:PE X dE (IB d))(hke:SE X CL W ke fk)(hte:SE X CL W te (λ_=>.ok (.bl Aa)))(ha4:∀ v,assign (.Subscript dE ke yw) X.env v=(do
   let ov <-holding [v] (eval dE X.env)
   let iv <-holding [v,ov] (eval ke X.env)
   Ks yw
   holding [v,ov,iv] (Mz ov iv v)
   release [v,ov,iv] []))(hs4:Hj [.Subscript dE ke yw] te pos4.line X.env=pure Ae)(hw4:Gq [.Subscript dE ke yw] te X.env=pure Af)(h14:(CQ [.Subscript dE ke yw] X.env).map (·.2)=[assign (.Subscript dE ke yw) X.env])(hu:X.A.units+64<Cf)(hgl:Gl X "len")(hml:X.mg "len" = Af)(hdE':PE X dE' (IB d))(ha':PE X a' (IB i))(î:AR [dE'] X.env=[(Ae,eval dE' X.env)])(Ň:AR [a'] X.env=[(Ae,eval a' X.env)])(ņ:Û X CL W rest g):
  Û X CL W (.Assign [.Name dn p1] (.Dict [] [] dpos) pos1 :: .For tg a (body++[.Assign [.Subscript dE ke yw] te pos4]) [] pos2 :: .If (.Compare (.Call (.Name "len" q1) [dE'] [] q2) [.NotEq] [.Call (.Name "len" q3) [a'] [] q4] q5) r3 [] pos3::rest)
   (λY=>(O.of Y (DR Y i) λxs=>if (decide (xs.length<=1000)&&decide (d≠i)&&decide (d<Y.length))=Aa then ϙ i d xs (Kf (λx Y'=>if Gh Y' i d=Aa then fbd (Y'.set t (Ab (x,Ae))) else .bad) (λY'=>if Gh Y' i d=Aa then fk Y' else .bad) xs [] ((Y.set i (Ab (.O,Aa))).set d (Ab (.O,Aa)))) else .bad).seq g):=λFz B=>by
 have b4:xk X [.Assign [.Subscript dE ke yw] te pos4] (λD Z H=>∃ A,Of (λZ H Q=>zw H A/\∃ Y,Y4 X.K CL A Y Z H/\BO (λH=>Y5 X.K CL H A) W H (.ok (.bl Aa)) Q) (UY (IB d) (λZ H Q=>zw H A/\∃ Y,Y4 X.K CL A Y Z H/\BO (λH=>Y5 X.K CL H A) W H (fk Y) Q) (Zn X.K CL A)) D Z H):=tS λpI s Z H D I ⟨A,q⟩=>Tq (hte A) (Yo hdE (hke A) (qT (CL:=CL) (A:=A) hu) ha4) hs4 hw4 h14 pI s Z H D I q
 have b2:xk X body (λD Z H=>∃ Fy Y,Sx X.K CL Fy B Y Z H/\CH X.K CL Fy B W (fbd Y) D):=λpI s Z H D I ⟨Fy,q⟩=>hb Fy B pI s Z H D I q
 have l1:PE X (.Call (.Name "len" q1) [dE'] [] q2) _:=NN (p:=q1) (pos:=q2) pW hgl hml boot_len (GP hdE' IR î) (by decide) (by decide) î rfl
 have l2:PE X (.Call (.Name "len" q3) [a'] [] q4) _:=NN (p:=q3) (pos:=q4) Re hgl hml boot_len (GP ha' IR Ň) (by decide) (by decide) Ň rfl
 refine xk.weak (O5 (YJ hN hd hx sG k5 hf1) (O5 (YK hp hc (Yn ha) hg (tT b2 b4) y6) (O5 (Zo (Xf wT l1 l2 rfl) (mY (sts:=r3)) Xg) (ņ Fz B)))) λD Z H ⟨Y,x,p⟩=>?_
 dsimp only at p;cases e:DR Y i with
 |bad=>rw[e]at p;exact p.elim
 |exn y=>exact(O6 e).elim
 |ok ds=>
 rw[e,O.of_ok]at p;have hi:=Pi e;obtain⟨la,xs,ϳ,qa,e2,oa,hh,r⟩:=x.good.ow i _ hi (λz=>nomatch z)
 have ez:ds=ϳ:=by injection e2
 subst ez;have ó:(decide (ds.length<=1000)&&decide (d≠i)&&decide (d<Y.length))=Aa:=by
  refine E7 λó=>?_
  rw[AF ó]at p;exact p.elim
 rw[AB ó]at p;simp only[An,AN]at ó;obtain⟨⟨hz,ne⟩,hdl⟩:=ó;generalize hfb:(fun(x:Ov.D)(Y':Rho)=>if Gh Y' i d=Aa then fbd (Y'.set t (Ab (x,Ae))) else .bad)=fb at p
 generalize hfk:(fun(Y':Rho)=>if Gh Y' i d=Aa then fk Y' else .bad)=fkk at p
 intro da hda;have xp:=x.pinned hi qa hh;have x1:=xp.setF (i:=d) (xs:=[]) (ds:=[]) (G7 hda (.L [])) hda HP trivial;have d1:((Y.set i (Ab (.O,Aa))).set d (Ab (.L [],Aa)))[d]?=Ab (Ab (.L [],Aa)):=Ci (by rw[Bj];exact hdl)
 have s1:(Z.set d (Ab (.ref da)))[d]?=Ab (Ab (.ref da)):=Ci (by rw[<-x.len];exact hdl)
 have x2:Sx X.K CL ⟨ownF Y Z H,λj b u=>(j=d/\b=da/\u=.L [])\/(j≠d/\((j=i/\b=la/\u=.L xs)\/(j≠i/\Fz.pin j b u)))⟩ B (((Y.set i (Ab (.O,Aa))).set d (Ab (.L [],Aa))).set d (Ab (.O,Aa))) (Z.set d (Ab (.ref da))) (upd H da (.L [])):=(x1.pinned d1 s1 HP).to (Sx.ownF x1) λ_ _ _ z=>z
 rw[K4]at x2;have d2:((Y.set i (Ab (.O,Aa))).set d (Ab (.O,Aa)))[d]?=Ab (Ab (.O,Aa)):=Ci (by rw[Bj];exact hdl)
 have x3:=x2.repin d2 s1 (o:=.ext (Gf da [])) trivial;have eu:upd (upd H da (.L [])) da (.ext (Gf da []))=upd H da (.ext (Gf da [])):=by
  funext b
  by_cases hb:b=da
  .rw[hb,HP,HP]
  .rw[Dp hb,Dp hb,Dp hb]
 rw[eu]at x3;have x4:Sx X.K CL ⟨ownF Y Z H,Ć Fz i d la da (.L xs) (.ext (Gf da []))⟩ B ((Y.set i (Ab (.O,Aa))).set d (Ab (.O,Aa))) (Z.set d (Ab (.ref da))) (upd H da (.ext (Gf da []))):=x3.to (λ_ _ z=>z) λj b u z=>z.imp id λ⟨h1,h2⟩=>⟨h1,h2.elim (λh=>absurd h.1 h1) λh=>h.2⟩
 have xF:∀ b o,Fz b o->ownF Y Z H b o:=Sx.ownF (f:=Fz.f) (pn:=Fz.pin) x;have c0:CS X.K CL Fz B i d la da xs ds [] ((Y.set i (Ab (.O,Aa))).set d (Ab (.O,Aa))) (Z.set d (Ab (.ref da))) (upd H da (.ext (Gf da []))):=⟨x4.to xF (λ_ _ _ z=>z),(λe m=>nomatch m),RC x4 r,trivial⟩
 have p0:Gh ((Y.set i (Ab (.O,Aa))).set d (Ab (.O,Aa))) i d=Aa:=by
  have h1:((Y.set i (Ab (.O,Aa))).set d (Ab (.O,Aa)))[i]?=Ab (Ab (.O,Aa)):=by rw[Dc ne];exact Ci (Bh.mp hi).1
  unfold Gh Mk;rw[h1,d2];rfl
 obtain⟨_,i0,l0⟩:=CS.at_d c0.x p0 ne;refine⟨.ref la,i0,.inl ⟨la,rfl,xs,zp.of l0,λ_=>⟨λk m Z' H'=>m=ds.length-k/\k<=ds.length/\∃ Y' es,es.length=k/\CS X.K CL Fz B i d la da xs ds es Y' Z' H'/\CH X.K CL Fz B W ((ϙ i d ds (Kf fb fkk (ds.drop k) (es.map dK).reverse Y')).seq g) D,⟨ds.length,rfl,Ds _,_,[],rfl,c0,p⟩,?_⟩⟩⟩
 rintro k m Z' H' ⟨rfl,hk,Y',es,hes,c,q⟩;have ϐ:Gh Y' i d=Aa:=by
  refine E7 λhn=>?_
  by_cases zd:k<ds.length
  .rw[CJ zd]at q;have eb:fb ds[k] Y'=.bad:=by rw[<-hfb];exact AF hn
   have q2:CH X.K CL Fz B W ((ϙ i d ds (Ol (fb ds[k] Y') fkk λkd np=>if (JL kd&&(es.map dK).reverse.all λy=>!Y0 kd y)=Aa then Kf fb fkk (ds.drop (k+1)) (kd::(es.map dK).reverse) np else .bad)).seq g) D:=q
   rw[eb]at q2;exact q2.elim
  .rw[FM (by lia)]at q
   have q2:CH X.K CL Fz B W ((if Gh Y' i d=Aa then .next ((Y'.set i (Ab (.L ds,Aa))).set d Af) else .bad:O).seq g) D:=q
   rw[AF hn]at q2;exact q2.elim
 obtain⟨⟨pd,sd,È⟩,si',hl⟩:=CS.at_d c.x ϐ ne;by_cases zd:k<ds.length
 .rw[CJ zd]at q;have q2:CH X.K CL Fz B W ((ϙ i d ds (Ol (fb ds[k] Y') fkk λkd np=>if (JL kd&&(es.map dK).reverse.all λy=>!Y0 kd y)=Aa then Kf fb fkk (ds.drop (k+1)) (kd::(es.map dK).reverse) np else .bad)).seq g) D:=q
  obtain⟨u,đ,ru⟩:=c.rx.get (AU zd);refine .inr ⟨⟨xs,u,zp.of hl,đ⟩,λĦ Ģ=>∃ np xm,xm.length=k+1/\CS X.K CL Fz B i d la da xs ds xm np Ħ Ģ/\CH X.K CL Fz B W ((ϙ i d ds (Kf fb fkk (ds.drop (k+1)) (xm.map dK).reverse np)).seq g) D,λĦ Ģ z=>⟨ds.length-(k+1),by lia,rfl,zd,z⟩,?_⟩
  rintro v H2 ⟨rfl,hv⟩;have ev:v=u:=B6 ((hv xs (zp.of hl)).symm.trans đ);subst ev;have eb:fb ds[k] Y'=fbd (Y'.set t (Ab (ds[k],Ae))):=by rw[<-hfb];exact AB ϐ
  rw[eb]at q2;have cF:∀ b o,Fz b o->ownF Y' Z' H2 b o:=c.x.ownF;refine⟨⟨ownF Y' Z' H2,Ć Fz i d la da (.L xs) (.ext (Gf da es))⟩,_,c.x.strong.set t ru,CH.cnt (D':=D) rfl cF q2 λY2 Z2 H3 kd x2 ek q3=>?_⟩
  have ek2:Gh Y2 i d=Aa/\fk Y2=.ok kd:=by
   rw[<-hfk]at ek;dsimp only at ek;by_cases h:Gh Y2 i d=Aa
   .exact⟨h,by rw[AB h]at ek;exact ek⟩
   .rw[AF h]at ek;cases ek
  obtain⟨⟨pd2,sd2,hd2⟩,_,_⟩:=CS.at_d x2 ek2.1 ne;have rx2:=RC x2 c.rx;have rk2:=RC x2 c.rk;have Α:(JL kd&&(es.map dK).reverse.all λy=>!Y0 kd y)=Aa:=by
   refine E7 λhn=>?_
   rw[AF hn]at q3;exact q3.elim
  rw[AB Α]at q3;obtain⟨hc3,hc4⟩:=(An _ _).mp Α;obtain⟨r9,l9,rfl⟩:=XU hc3;have hn:=cf l9 c.l9 hc4;refine⟨Ch B Y2 Z2,x2.aok,Y2,x2.good,λv3 H4 s3 hv3=>⟨.ref da,sd2,x2.aok.same s3,Y2,x2.good.same s3,?_⟩⟩
  rw[ek2.2];intro v4 H5 s4 rv4;obtain⟨ka,_,rfl,_⟩:=id rv4;have kp:Kp (Ch B Y2 Z2) H5 (upd H5 da (.ext (Gf da (es++[(r9,ka)])))):=λb o e na=>by
   have il:b≠da:=λz=>na (by rw[z];exact .inr ⟨d,_,pd2,sd2⟩)
   rw[Dp il];exact e
  refine⟨da,ka,es,r9,rfl,rfl,hv3,s4 _ _ (s3 _ _ hd2),c.l9,(rk2.same s3).same s4,l9,rv4,hn,by lia,Y2,es++[(r9,ka)],by rw[BL,hes];rfl,⟨?_,λe m=>?_,?_,?_⟩,?_⟩
  .have x5:=((x2.grow s3).grow s4).repin pd2 sd2 (o:=.ext (Gf da (es++[(r9,ka)]))) trivial;exact x5.to cF λj b u z=>z.imp id λ⟨h1,h2⟩=>⟨h1,h2.elim (λh=>absurd h.1 h1) λh=>h.2⟩
  .rcases FI.mp m with m|m
   .exact c.l9 e m
   .rw[Bc.mp m];exact l9
  .exact Z9.kp kp _ ((rx2.same s3).same s4)
  .rw[Er,Er];exact Z9.append (Z9.kp kp _ ((rk2.same s3).same s4)) ⟨Y5.kp kp _ rv4,trivial⟩
  .rw[Er,DZ];exact q3
 .have ek:ds.length=k:=by lia
  rw[FM (by lia)]at q
  have q2:CH X.K CL Fz B W ((if Gh Y' i d=Aa then .next ((Y'.set i (Ab (.L ds,Aa))).set d Af) else .bad:O).seq g) D:=q
  rw[AB ϐ]at q2;have xl:xs.length=es.length:=by rw[c.rx.length,hes,ek]
  refine .inl ⟨⟨xs,zp.of hl,by rw[xl,hes];exact AE _⟩,.ref da,sd,da,es,rfl,È,by lia,.ref la,si',la,xs,rfl,.inl (zp.of hl),_,_,rfl,rfl,Ae,?_,(Y'.set i (Ab (.L ds,Aa))).set d Af,?_,q2⟩
  .rw[xl,Gi];rfl
  .rw[List.set_comm _ _ (Cy ne)];have yp:(Y'.set d Af)[i]?=Ab (Ab (.O,Aa)):=by rw[Dc ne];exact PH ((An _ _).mp ϐ).1
   have xf:=c.x.forget d;have sub:∀ b,Ch B (Y'.set d Af) Z' b->Ch B Y' Z' b:=λb h=>h.imp id λ⟨j,e,h1,h2⟩=>⟨j,e,by
    by_cases hj:d=j
    .subst hj;have:=HQ h1;cases this
    .rw[Dc hj]at h1;exact h1,h2⟩
   refine xf.unpinned yp (λ_ _ z=>z) (a:=la) (xs:=xs) (λj b u z=>?_) (Z9.sub sub _ c.rx)
   rcases z with ⟨z1,⟨z2,_⟩|⟨_,z⟩⟩
   .exact absurd z2 z1
   .exact z
def J4{P:Prop}(h:Ae=Aa):P:=nomatch h
structure Tc where
 sc:CP
 N:Ac Al
 fns:Ac (Al×Ag×Ag)
 bl:Ac Al
 rzs:Ac (Al×Ag)
 exs:Ac (Al×Ag)
 gls:Ac (Al×Ag)
variable{T:Tc}
noncomputable def UE(T:Tc)(x:Al):Ai:=match T.sc.names.lookup x with
  |some .local=>Aa
  |some .cell=>Aa
  |some .free=>Aa
  |_=>Ae
noncomputable def LC(T:Tc)(x:Al):Ai:=match T.sc.names.lookup x with
  |some .local=>Aa
  |some .cell=>Aa
  |_=>Ae
noncomputable def Ċ(T:Tc)(x:Al):Ai:=T.sc.names.lookup x==Ab .globalImplicit
noncomputable def Oj(x:Al):Ai:=!(x==("__debug__" : Al)) && !(x==("__classdict__" : Al)) && !(x==("__name__" : Al))
def á(T:Tc)(x:Al)(i:Ag):Ai:=T.N[i]? == Ab x&&UE T x&&Oj x
def we(T:Tc)(x:Al):Ai:=T.bl.contains x&&Ċ T x&&Oj x
def DS{a:Ai}(h:(a&&b)=Aa):a=Aa/\b=Aa:=(An a b).mp h
def Ų{a:Ai}(h:(a||b)=Aa):a=Aa\/b=Aa:=(DX a b).mp h
noncomputable def G8(e:Am)(F:Al->Ai):Ai:=if c:e.ctorIdx=23 then Kl (motive_1:=λ_=>Ai) e c λx _=>F x else Ae
theorem OR(h:G8 e F=Aa):∃ x p,e=Nu x p/\F x=Aa:=by
 by_cases c:e.ctorIdx=23
 .exact Kl (motive_1:=λe=>G8 e F=Aa->∃ x p,e=Nu x p/\F x=Aa) e c (λx p h=>⟨x,p,rfl,h⟩) h
 .exact J4 ((CW c).symm.trans h)
@[elab_as_elim] theorem KD(h:G8 e F=Aa)(k:∀ x p,F x=Aa->P (Nu x p)):P e:=by
 by_cases c:e.ctorIdx=23
 .exact Kl (motive_1:=λe=>G8 e F=Aa->P e) e c k h
 .exact J4 ((CW c).symm.trans h)
noncomputable def Nc(e:Am)(F:Const->Ai):Ai:=if c:e.ctorIdx=19 then cR (motive_1:=λ_=>Ai) e c λc _ _=>F c else Ae
@[elab_as_elim] theorem Pq(h:Nc e F=Aa)(k:∀ c u p,F c=Aa->P (Expr.Constant c u p)):P e:=by
 by_cases c:e.ctorIdx=19
 .exact cR (motive_1:=λe=>Nc e F=Aa->P e) e c k h
 .exact J4 ((CW c).symm.trans h)
noncomputable def Uc(e:Am)(F:Am->Hm->Am->Ai):Ai:=if c:e.ctorIdx=2 then cM (motive_1:=λ_=>Ai) e c λx o y _=>F x o y else Ae
@[elab_as_elim] theorem wL(h:Uc e F=Aa)(k:∀ x o y p,F x o y=Aa->P (Expr.BinOp x o y p)):P e:=by
 by_cases c:e.ctorIdx=2
 .exact cM (motive_1:=λe=>Uc e F=Aa->P e) e c k h
 .exact J4 ((CW c).symm.trans h)
noncomputable def Np(e:Am)(F:LO->Am->Ai):Ai:=if c:e.ctorIdx=3 then cY (motive_1:=λ_=>Ai) e c λo x _=>F o x else Ae
@[elab_as_elim] theorem TJ(h:Np e F=Aa)(k:∀ o x p,F o x=Aa->P (Expr.UnaryOp o x p)):P e:=by
 by_cases c:e.ctorIdx=3
 .exact cY (motive_1:=λe=>Np e F=Aa->P e) e c k h
 .exact J4 ((CW c).symm.trans h)
noncomputable def Nd(e:Am)(F:BoolOp->Ac Am->Bm->Ai):Ai:=if c:e.ctorIdx=0 then cN (motive_1:=λ_=>Ai) e c λo xs p=>F o xs p else Ae
@[elab_as_elim] theorem SX(h:Nd e F=Aa)(k:∀ o xs p,F o xs p=Aa->P (Expr.BoolOp o xs p)):P e:=by
 by_cases c:e.ctorIdx=0
 .exact cN (motive_1:=λe=>Nd e F=Aa->P e) e c k h
 .exact J4 ((CW c).symm.trans h)
noncomputable def Mg(e:Am)(F:Am->Ac El->Ac Am->Ai):Ai:=if c:e.ctorIdx=15 then cQ (motive_1:=λ_=>Ai) e c λx os ys _=>F x os ys else Ae
@[elab_as_elim] theorem Ps(h:Mg e F=Aa)(k:∀ x os ys p,F x os ys=Aa->P (Expr.Compare x os ys p)):P e:=by
 by_cases c:e.ctorIdx=15
 .exact cQ (motive_1:=λe=>Mg e F=Aa->P e) e c k h
 .exact J4 ((CW c).symm.trans h)
noncomputable def Qi(e:Am)(F:Am->Ac Am->Ac Gs->Bm->Ai):Ai:=if c:e.ctorIdx=16 then cP (motive_1:=λ_=>Ai) e c λf as ks p=>F f as ks p else Ae
theorem Ww(h:Qi e F=Aa):∃ f as ks p,e=cO f as ks p/\F f as ks p=Aa:=by
 by_cases c:e.ctorIdx=16
 .exact cP (motive_1:=λe=>Qi e F=Aa->∃ f as ks p,e=cO f as ks p/\F f as ks p=Aa) e c (λf as ks p h=>⟨f,as,ks,p,rfl,h⟩) h
 .exact J4 ((CW c).symm.trans h)
noncomputable def Ud(e:Am)(F:Am->Al->Bm->Ai):Ai:=if c:e.ctorIdx=20 then cL (motive_1:=λ_=>Ai) e c λo m p=>F o m p else Ae
theorem qK(h:Ud e F=Aa):∃ o m p,e=cK o m p/\F o m p=Aa:=by
 by_cases c:e.ctorIdx=20
 .exact cL (motive_1:=λe=>Ud e F=Aa->∃ o m p,e=cK o m p/\F o m p=Aa) e c (λo m p h=>⟨o,m,p,rfl,h⟩) h
 .exact J4 ((CW c).symm.trans h)
noncomputable def Na(e:Am)(F:Am->Am->Ai):Ai:=if c:e.ctorIdx=21 then cW (motive_1:=λ_=>Ai) e c λx y _=>F x y else Ae
@[elab_as_elim] theorem Pp(h:Na e F=Aa)(k:∀ x y p,F x y=Aa->P (Expr.Subscript x y p)):P e:=by
 by_cases c:e.ctorIdx=21
 .exact cW (motive_1:=λe=>Na e F=Aa->P e) e c k h
 .exact J4 ((CW c).symm.trans h)
noncomputable def Uj(e:Am)(F:Ar Am->Ar Am->Ar Am->Ai):Ai:=if c:e.ctorIdx=26 then cV (motive_1:=λ_=>Ai) e c λl u s _=>F l u s else Ae
@[elab_as_elim] theorem xT(h:Uj e F=Aa)(k:∀ l u s p,F l u s=Aa->P (Expr.Slice l u s p)):P e:=by
 by_cases c:e.ctorIdx=26
 .exact cV (motive_1:=λe=>Uj e F=Aa->P e) e c k h
 .exact J4 ((CW c).symm.trans h)
noncomputable def M9(e:Am)(F:Ac Am->Ai):Ai:=if c:e.ctorIdx=25 then cX (motive_1:=λ_=>Ai) e c λxs _ _=>F xs else Ae
@[elab_as_elim] theorem Po(h:M9 e F=Aa)(k:∀ xs c p,F xs=Aa->P (Expr.Tuple xs c p)):P e:=by
 by_cases c:e.ctorIdx=25
 .exact cX (motive_1:=λe=>M9 e F=Aa->P e) e c k h
 .exact J4 ((CW c).symm.trans h)
noncomputable def Ul(e:Am)(F:Ac Am->Ai):Ai:=if c:e.ctorIdx=24 then cS (motive_1:=λ_=>Ai) e c λxs _=>F xs else Ae
@[elab_as_elim] theorem xV(h:Ul e F=Aa)(k:∀ xs p,F xs=Aa->P (Expr.List xs p)):P e:=by
 by_cases c:e.ctorIdx=24
 .exact cS (motive_1:=λe=>Ul e F=Aa->P e) e c k h
 .exact J4 ((CW c).symm.trans h)
noncomputable def Um(e:Am)(F:Am->Ac KW->CP->Ai):Ai:=if c:e.ctorIdx=8 then cU (motive_1:=λ_=>Ai) e c λx gs sc _=>F x gs sc else Ae
theorem qH(h:Um e F=Aa):∃ x gs sc p,e=cT x gs sc p/\F x gs sc=Aa:=by
 by_cases c:e.ctorIdx=8
 .exact cU (motive_1:=λe=>Um e F=Aa->∃ x gs sc p,e=cT x gs sc p/\F x gs sc=Aa) e c (λx gs sc p h=>⟨x,gs,sc,p,rfl,h⟩) h
 .exact J4 ((CW c).symm.trans h)
noncomputable def Ue(e:A8)(F:Ac Am->Am->Ai):Ai:=if c:e.ctorIdx=5 then eA (motive_2:=λ_=>Ai) e c λts v _=>F ts v else Ae
theorem qL(h:Ue e F=Aa):∃ ts v p,e=dZ ts v p/\F ts v=Aa:=by
 by_cases c:e.ctorIdx=5
 .exact eA (motive_2:=λe=>Ue e F=Aa->∃ ts v p,e=dZ ts v p/\F ts v=Aa) e c (λts v p h=>⟨ts,v,p,rfl,h⟩) h
 .exact J4 ((CW c).symm.trans h)
noncomputable def Nb(e:A8)(F:Am->Ai):Ai:=if c:e.ctorIdx=24 then Kn (motive_2:=λ_=>Ai) e c λv _=>F v else Ae
theorem qI(h:Nb e F=Aa):∃ v p,e=Nv v p/\F v=Aa:=by
 by_cases c:e.ctorIdx=24
 .exact Kn (motive_2:=λe=>Nb e F=Aa->∃ v p,e=Nv v p/\F v=Aa) e c (λv p h=>⟨v,p,rfl,h⟩) h
 .exact J4 ((CW c).symm.trans h)
@[elab_as_elim] theorem xX{P:A8->Prop}(h:Nb e F=Aa)(k:∀ v p,F v=Aa->P (Nv v p)):P e:=by
 by_cases c:e.ctorIdx=24
 .exact Kn (motive_2:=λe=>Nb e F=Aa->P e) e c k h
 .exact J4 ((CW c).symm.trans h)
noncomputable def Uk(e:A8)(F:Ar Am->Ai):Ai:=if c:e.ctorIdx=3 then eF (motive_2:=λ_=>Ai) e c λo _=>F o else Ae
@[elab_as_elim] theorem xU{P:A8->Prop}(h:Uk e F=Aa)(k:∀ o p,F o=Aa->P (Stmt.Return o p)):P e:=by
 by_cases c:e.ctorIdx=3
 .exact eF (motive_2:=λe=>Uk e F=Aa->P e) e c k h
 .exact J4 ((CW c).symm.trans h)
noncomputable def QA(e:A8)(F:Am->Ac A8->Ac A8->Ai):Ai:=if c:e.ctorIdx=12 then eE (motive_2:=λ_=>Ai) e c λt xs ys _=>F t xs ys else Ae
@[elab_as_elim] theorem Yr{P:A8->Prop}(h:QA e F=Aa)(k:∀ t xs ys p,F t xs ys=Aa->P (Stmt.If t xs ys p)):P e:=by
 by_cases c:e.ctorIdx=12
 .exact eE (motive_2:=λe=>QA e F=Aa->P e) e c k h
 .exact J4 ((CW c).symm.trans h)
noncomputable def Oa(e:A8)(F:Am->Am->Ac A8->Ac A8->Ai):Ai:=if c:e.ctorIdx=9 then eC (motive_2:=λ_=>Ai) e c λt it xs ys _=>F t it xs ys else Ae
@[elab_as_elim] theorem SV{P:A8->Prop}(h:Oa e F=Aa)(k:∀ t it xs ys p,F t it xs ys=Aa->P (Stmt.For t it xs ys p)):P e:=by
 by_cases c:e.ctorIdx=9
 .exact eC (motive_2:=λe=>Oa e F=Aa->P e) e c k h
 .exact J4 ((CW c).symm.trans h)
noncomputable def Lp{α:Type}:Ac α->(α->Ac α->Ai)->Ai
 |[],_=>Ae
 |x::xs,F=>F x xs
theorem OS{l:Ac α}{F:α->Ac α->Ai}(h:Lp l F=Aa):∃ x xs,l=x::xs/\F x xs=Aa:=by
 cases l with
 |nil=>exact J4 h
 |cons x xs=>exact⟨x,xs,rfl,h⟩
@[elab_as_elim] theorem Sj{l:Ac α}{F:α->Ac α->Ai}{P:Ac α->Prop}(h:Lp l F=Aa)(k:∀ x xs,F x xs=Aa->P (x::xs)):P l:=by
 obtain⟨x,xs,rfl,g0⟩:=OS h;exact k x xs g0
def Lq{l:Ac α}(h:l.isEmpty=Aa):l=[]:=List.isEmpty_iff.mp h
def GC{α:Type}(l:Ac α)(F:α->Ai):Ai:=Lp l λx r=>r.isEmpty&&F x
theorem NO{l:Ac α}{F:α->Ai}(h:GC l F=Aa):∃ x,l=[x]/\F x=Aa:=by
 obtain⟨x,r,rfl,h⟩:=OS h;obtain⟨h1,h2⟩:=DS h;exact⟨x,by rw[Lq h1],h2⟩
@[elab_as_elim] theorem JX{l:Ac α}{F:α->Ai}{P:Ac α->Prop}(h:GC l F=Aa)(k:∀ x,F x=Aa->P ([x])):P l:=by
 obtain⟨x,rfl,g0⟩:=NO h;exact k x g0
def JG{α:Type}(l:Ac α)(F:α->α->Ai):Ai:=Lp l λx r=>GC r λy=>F x y
theorem qD{l:Ac α}{F:α->α->Ai}(h:JG l F=Aa):∃ x y,l=[x,y]/\F x y=Aa:=by
 obtain⟨x,r,rfl,h⟩:=OS h;obtain⟨y,rfl,h⟩:=NO h;exact⟨x,y,rfl,h⟩
@[elab_as_elim] theorem L4{l:Ac α}{F:α->α->Ai}{P:Ac α->Prop}(h:JG l F=Aa)(k:∀ x y,F x y=Aa->P ([x,y])):P l:=by
 obtain⟨x,y,rfl,g0⟩:=qD h;exact k x y g0
def KN(e:Am)(F:Al->Ac Am->Ai):Ai:=Qi e λf as ks _=>G8 f λg=>ks.isEmpty&&F g as
theorem Sk(h:KN e F=Aa):∃ g p as q,e=.Call (.Name g p) as [] q/\F g as=Aa:=by
 obtain⟨f,as,ks,q,rfl,h⟩:=Ww h;obtain⟨g,p,rfl,h⟩:=OR h;obtain⟨h1,h2⟩:=DS h;exact⟨g,p,as,q,by rw[Lq h1],h2⟩
@[elab_as_elim] theorem NV(h:KN e F=Aa)(k:∀ g p as q,F g as=Aa->P (.Call (.Name g p) as [] q)):P e:=by
 obtain⟨g,p,as,q,rfl,g0⟩:=Sk h;exact k g p as q g0
def PJ(e:Am)(F:Al->Am->Ac Am->Ai):Ai:=KN e λg l=>Lp l λx xs=>F g x xs
theorem oB(h:PJ e F=Aa):∃ g p x xs q,e=.Call (.Name g p) (x::xs) [] q/\F g x xs=Aa:=by
 obtain⟨g,p,as,q,rfl,h⟩:=Sk h;obtain⟨x,xs,rfl,h⟩:=OS h;exact⟨g,p,x,xs,q,rfl,h⟩
@[elab_as_elim] theorem Wx(h:PJ e F=Aa)(k:∀ g p x xs q,F g x xs=Aa->P (.Call (.Name g p) (x::xs) [] q)):P e:=by
 obtain⟨g,p,x,xs,q,rfl,g0⟩:=oB h;exact k g p x xs q g0
def Qc(st:A8)(F:Al->Al->Ac Am->Ai):Ai:=Nb st λe=>Qi e λf as ks cp=>Ud f λo m ap=>G8 o λx=>ks.isEmpty&&(ap.endLine==cp.line&&F x m as)
theorem qF{st:A8}(h:Qc st F=Aa):∃ x p m ap as cp q,st=.Expr (.Call (.Attribute (.Name x p) m ap) as [] cp) q/\ap.endLine=cp.line/\F x m as=Aa:=by
 obtain⟨e,q,rfl,h⟩:=qI h;obtain⟨f,as,ks,cp,rfl,h⟩:=Ww h;obtain⟨o,m,ap,rfl,h⟩:=qK h;obtain⟨x,p,rfl,h⟩:=OR h;obtain⟨h1,h⟩:=DS h;obtain⟨h2,h3⟩:=DS h;exact⟨x,p,m,ap,as,cp,q,by rw[Lq h1],eq_of_beq h2,h3⟩
@[elab_as_elim] theorem XQ{st:A8}{P:A8->Prop}(h:Qc st F=Aa)(k:∀ x p m ap as cp q,ap.endLine=cp.line->F x m as=Aa->P (.Expr (.Call (.Attribute (.Name x p) m ap) as [] cp) q)):P st:=by
 obtain⟨x,p,m,ap,as,cp,q,rfl,g0,g1⟩:=qF h;exact k x p m ap as cp q g0 g1
def Nf(st:A8)(F:Am->Am->Ai):Ai:=Ue st λts v=>GC ts λt=>F t v
theorem Wy{st:A8}(h:Nf st F=Aa):∃ t v q,st=.Assign [t] v q/\F t v=Aa:=by
 obtain⟨ts,v,q,rfl,h⟩:=qL h;obtain⟨t,rfl,h⟩:=NO h;exact⟨t,v,q,rfl,h⟩
@[elab_as_elim] theorem SY{st:A8}{P:A8->Prop}(h:Nf st F=Aa)(k:∀ t v q,F t v=Aa->P (.Assign [t] v q)):P st:=by
 obtain⟨t,v,q,rfl,g0⟩:=Wy h;exact k t v q g0
def Qj(st:A8)(F:Al->Am->Ai):Ai:=Nf st λt v=>G8 t λx=>F x v
theorem qM{st:A8}(h:Qj st F=Aa):∃ x p v q,st=.Assign [.Name x p] v q/\F x v=Aa:=by
 obtain⟨t,v,q,rfl,h⟩:=Wy h;obtain⟨x,p,rfl,h⟩:=OR h;exact⟨x,p,v,q,rfl,h⟩
@[elab_as_elim] theorem XS{st:A8}{P:A8->Prop}(h:Qj st F=Aa)(k:∀ x p v q,F x v=Aa->P (.Assign [.Name x p] v q)):P st:=by
 obtain⟨x,p,v,q,rfl,g0⟩:=qM h;exact k x p v q g0
def Qz(e:Am)(F:Am->Am->Am->Ac Am->CP->Ai):Ai:=Um e λx gs sc=>GC gs λg=>decide (g.is_async=0)&&F x g.target g.iter g.ifs sc
theorem xW(h:Qz e F=Aa):∃ x t it ifs sc p,e=.ListComp x [⟨t,it,ifs,0⟩] sc p/\F x t it ifs sc=Aa:=by
 obtain⟨x,gs,sc,p,rfl,h⟩:=qH h;obtain⟨g,rfl,h⟩:=NO h;obtain⟨t,it,ifs,a⟩:=g;obtain⟨h1,h2⟩:=DS h;have h1:a=0:=BD h1;subst h1;exact⟨x,t,it,ifs,sc,p,rfl,h2⟩
@[elab_as_elim] theorem Yq(h:Qz e F=Aa)(k:∀ x t it ifs sc p,F x t it ifs sc=Aa->P (.ListComp x [⟨t,it,ifs,0⟩] sc p)):P e:=by
 obtain⟨x,t,it,ifs,sc,p,rfl,g0⟩:=xW h;exact k x t it ifs sc p g0
noncomputable def Qy(e:E)(F:E->Ai):Ai:=if c:e.ctorIdx=8 then E.no.elim (motive_1:=λ_=>Ai) e c F else Ae
@[elab_as_elim] theorem jl{P:E->Prop}(h:Qy e F=Aa)(k:∀ a,F a=Aa->P (E.no a)):P e:=by
 by_cases c:e.ctorIdx=8
 .exact E.no.elim (motive_1:=λe=>Qy e F=Aa->P e) e c k h
 .exact J4 ((CW c).symm.trans h)
noncomputable def Qk(e:E)(F:Es->Ai):Ai:=if c:e.ctorIdx=9 then E.and.elim (motive_1:=λ_=>Ai) e c F else Ae
@[elab_as_elim] theorem wM{P:E->Prop}(h:Qk e F=Aa)(k:∀ es,F es=Aa->P (E.and es)):P e:=by
 by_cases c:e.ctorIdx=9
 .exact E.and.elim (motive_1:=λe=>Qk e F=Aa->P e) e c k h
 .exact J4 ((CW c).symm.trans h)
noncomputable def Qx(e:E)(F:Es->Ai):Ai:=if c:e.ctorIdx=10 then E.or.elim (motive_1:=λ_=>Ai) e c F else Ae
@[elab_as_elim] theorem jk{P:E->Prop}(h:Qx e F=Aa)(k:∀ es,F es=Aa->P (E.or es)):P e:=by
 by_cases c:e.ctorIdx=10
 .exact E.or.elim (motive_1:=λe=>Qx e F=Aa->P e) e c k h
 .exact J4 ((CW c).symm.trans h)
noncomputable def Qf(e:E)(F:El->E->E->Ai):Ai:=if c:e.ctorIdx=11 then E.cmp.elim (motive_1:=λ_=>Ai) e c F else Ae
@[elab_as_elim] theorem wI{P:E->Prop}(h:Qf e F=Aa)(k:∀ o a b,F o a b=Aa->P (E.cmp o a b)):P e:=by
 by_cases c:e.ctorIdx=11
 .exact E.cmp.elim (motive_1:=λe=>Qf e F=Aa->P e) e c k h
 .exact J4 ((CW c).symm.trans h)
noncomputable def Qg(e:E)(F:El->El->E->E->E->Ai):Ai:=if c:e.ctorIdx=12 then E.cmp2.elim (motive_1:=λ_=>Ai) e c F else Ae
@[elab_as_elim] theorem wJ{P:E->Prop}(h:Qg e F=Aa)(k:∀ o q a b c,F o q a b c=Aa->P (E.cmp2 o q a b c)):P e:=by
 by_cases c:e.ctorIdx=12
 .exact E.cmp2.elim (motive_1:=λe=>Qg e F=Aa->P e) e c k h
 .exact J4 ((CW c).symm.trans h)
noncomputable def Qh(e:E)(F:BI->Es->Ai):Ai:=if c:e.ctorIdx=15 then E.bi.elim (motive_1:=λ_=>Ai) e c F else Ae
@[elab_as_elim] theorem wK{P:E->Prop}(h:Qh e F=Aa)(k:∀ b as,F b as=Aa->P (E.bi b as)):P e:=by
 by_cases c:e.ctorIdx=15
 .exact E.bi.elim (motive_1:=λe=>Qh e F=Aa->P e) e c k h
 .exact J4 ((CW c).symm.trans h)
noncomputable def QL(e:E)(F:Ai->Ai):Ai:=if c:e.ctorIdx=1 then E.bl.elim (motive_1:=λ_=>Ai) e c F else Ae
@[elab_as_elim] theorem jm{P:E->Prop}(h:QL e F=Aa)(k:∀ b,F b=Aa->P (E.bl b)):P e:=by
 by_cases c:e.ctorIdx=1
 .exact E.bl.elim (motive_1:=λe=>QL e F=Aa->P e) e c k h
 .exact J4 ((CW c).symm.trans h)
noncomputable def Qb(e:E):Ai:=decide (e.ctorIdx=0)
theorem pZ(h:Qb e=Aa):e=.O:=E.O.elim (motive_1:=λe=>e=.O) e (BD h) rfl
noncomputable def EY:Am->Ai
 |.Starred _ _=>Ae
 |_=>Aa
noncomputable def ZH:Am->Ai
 |.Dict [] [] _=>Aa
 |_=>Ae
theorem qA(h:ZH e=Aa):∃ p,e=.Dict [] [] p:=by
 cases e with
 |Dict ks vs p=>
  cases ks with
  |nil=>
   cases vs with
   |nil=>exact⟨p,rfl⟩
   |cons=>exact J4 h
  |cons=>exact J4 h
 |_=>exact J4 h
noncomputable def Qe(l:Ac A8)(F:Ac A8->A8->Ai):Ai:=match l.getLast? with
  |some st=>F l.dropLast st
  |none=>Ae
theorem qJ(h:Qe l F=Aa):∃ b st,l=b++[st]/\F b st=Aa:=by
 unfold Qe at h;split at h
 .next st e=>
  obtain⟨ys,rfl⟩:=List.getLast?_eq_some_iff.mp e;rw[List.dropLast_concat]at h;exact⟨ys,st,rfl,h⟩
 .exact BP h
@[elab_as_elim] theorem xY{P:Ac A8->Prop}(h:Qe l F=Aa)(k:∀ b st,F b st=Aa->P (b++[st])):P l:=by
 obtain⟨b,st,rfl,g0⟩:=qJ h;exact k b st g0
def Qd(e:Am)(F:Al->Ai):Ai:=KN e λg l=>GC l λx=>g==("len" : Al)&&G8 x F
theorem qG(h:Qd e F=Aa):∃ p z q r,e=.Call (.Name "len" p) [.Name z q] [] r/\F z=Aa:=by
 obtain⟨g,p,l,r,rfl,h⟩:=Sk h;obtain⟨x,rfl,h⟩:=NO h;obtain⟨h1,h⟩:=(An _ _).mp h;obtain rfl:=eq_of_beq h1;obtain⟨z,q,rfl,h⟩:=OR h;exact⟨p,z,q,r,rfl,h⟩
@[elab_as_elim] theorem XR(h:Qd e F=Aa)(k:∀ p z q r,F z=Aa->P (.Call (.Name "len" p) [.Name z q] [] r)):P e:=by
 obtain⟨p,z,q,r,rfl,g0⟩:=qG h;exact k p z q r g0
noncomputable def NW:Am->Ai
 |.Slice _ _ _ _=>Ae
 |_=>Aa
noncomputable def Ob:Am->Ai
 |.Set _ _ _=>Ae
 |_=>Aa
noncomputable def M3:Am->Ai
 |.ListComp _ _ _ _=>Ae
 |.SetComp _ _ _ _=>Ae
 |.DictComp _ _ _ _ _=>Ae
 |_=>Aa
noncomputable def UJ(tu:Ai):Am->Ai
 |.Tuple ..=>tu
 |.Name ..=>!tu
 |_=>Ae
noncomputable def fS:Am->Ai
 |.Tuple _ _ _=>Aa
 |_=>Ae
noncomputable def Zu:Am->Ai
 |.Tuple _ _ _=>Ae
 |_=>Aa
noncomputable def OQ:Am->Ai
 |.UnaryOp _ _ _=>Ae
 |.BoolOp _ _ _=>Ae
 |.IfExp _ _ _ _=>Ae
 |.Compare _ _ _ _=>Ae
 |_=>Aa
noncomputable def Uf:Ki->Ar Al
 |.int=>Ab "int"
 |.bool=>Ab "bool"
 |.str=>Ab "str"
 |.list=>Ab "list"
 |.tuple=>Ab "tuple"
 |_=>Af
noncomputable def Zw:BI->Ar Al
 |.len=>Ab "len"
 |.abs=>Af
 |.max=>Ab "max"
 |.min=>Ab "min"
 |.int=>Af
 |.list=>Ab "list"
 |.tuple=>Ab "tuple"
 |.all=>Ab "all"
 |.any=>Af
 |.sum=>Ab "sum"
 |.sorted=>Ab "sorted"
 |.tmin=>Af
 |.tmax=>Af
 |_=>Af
noncomputable def T7(o scope:CP):CP:={scope with names:=scope.names.map λ(n,k)=>if (k==.free&&o.kind==.function&&o.names.lookup n==Ab .cell) then (n,.cell) else (n,k)}
noncomputable def No:Ac Ag->Ac Al->Ac Al->Ac Al
 |t::ts,x::xs,N=>No ts xs ((N.map λy=>if y==x then N.getD t x else y).set t x)
 |_,_,N=>N
noncomputable def N2:Ac Al->Ai
 |[]=>Aa
 |x::xs=>!xs.contains x&&N2 xs
def Op(T:Tc)(scope:CP)(ts:Ac Ag)(N':Ac Al):Ai:=
  scope.kind==.function&&scope.names.all (λy=>scope.names.lookup y.1==Ab y.2) &&
  scope.names.all (λy=>y.2 != .free||T.sc.names.lookup y.1==Ab .cell||T.sc.names.lookup y.1==Ab .free) &&
  N'.length==T.N.length&&N2 N' &&
  (B5 N'.length).all λi=>ts.contains i||(match N'[i]? with
    |some x=>(scope.names.lookup x != Ab .local&&scope.names.lookup x != Ab .cell)&&(scope.names.lookup x != Ab .free||T.N[i]? == Ab x)
    | none=>Aa)
noncomputable def GB:Ac Am->Ar (Ac Al)
 |[]=>Ab []
 |.Name x _::r=>(GB r).map (x :: ·)
 |_=>Af
def ð(ys:Ac Am):Ac Al:=(GB ys).getD []
noncomputable def Ŝ(T:Tc):Ac Ag->Ac Al->Ai
 |[],[]=>Aa
 |t::ts,x::xs=>T.N[t]? == Ab x&&T.sc.names.lookup x==Ab .local&&Ŝ T ts xs
 |_,_=>Ae
noncomputable def tgO(T:Tc)(scope:CP)(t:Ag)(x:Al):Ai:=T.N[t]? == Ab x&&(T.sc.names.lookup x==Ab .local||(T.sc.names.lookup x==Ab .cell&&scope.names.lookup x==Ab .cell))
def Ì(T:Tc):Ac Ag->Ac Al->Ai
 |[],[]=>Aa
 |t::ts,x::xs=>T.N[t]? == Ab x&&LC T x&&Ì T ts xs
 |_,_=>Ae
def cn1(T:Tc)(d:Ag)(s:A8):Ai:=Qj s λx v=>T.N[d]? == Ab x&&(LC T x&&ZH v)
def cn2(cs:Ac A8->Ss->Ai)(ce:Am->E->Ai)(T:Tc)(d i t:Ag)(body:Ss)(k:E)(s:A8):Ai:=Oa s λtg it xs ys=>ys.isEmpty&&((G8 tg λx=>Ì T [t] [x])&&((G8 it λz=>á T z i)&&(Qe xs λb st=>cs b body&&(Nf st λu v=>Na u λo y=>G8 o λz=>á T z d&&(NW y&&(ce y k&&ce v (.bl Aa)))))))
def cn3(T:Tc)(d i:Ag)(s:A8):Ai:=QA s λc a b=>b.isEmpty&&(Mg c λl os cs=>decide (os=[.NotEq])&&(GC cs λm=>Qd l λz=>á T z d&&(Qd m λz=>á T z i)))
def QN(cs:Ac A8->Ss->Ai)(ce:Am->E->Ai)(T:Tc)(d i t:Ag)(body:Ss)(k:E)(xs:Ac A8)(ss:Ss):Ai:=Lp xs λs1 r=>Lp r λs2 r=>Lp r λs3 r=>cn1 T d s1&&(cn2 cs ce T d i t body k s2&&(cn3 T d i s3&&(we T "len" && cs r ss)))
def Tc.blk(T:Tc)(scope:CP)(ts:Ac Ag)(xs:Ac Al):Tc:={T with sc:=T7 T.sc scope,N:=No ts xs T.N}
noncomputable def Ve:E->Ai
 |.L _=>Aa
 |.comp _ _ _ _=>Aa
 |.compT _ _ _ _=>Aa
 |.B .Add _ _=>Aa
 |.bi .list _=>Aa
 |.sl _ _ _=>Aa
 |_=>Ae
theorem wQ(J:Y7)(h:Ve e=Aa):E0 J e=Aa:=by
 cases e with
 |B op a b=>cases op<;>first|rfl|exact BP h
 |bi b as=>cases b<;>first|rfl|exact BP h
 |_=>first|rfl|exact BP h
noncomputable def UP:Am->Ar (Am×Am×Bm)
  | .Compare x ops ys p=>(match ops with
    | [.Lt]=>(match ys with
      |[y]=>Ab (x,y,p)
      | _=>Af)
    | _=>Af)
  |_=>Af
def Ux(_:Es):Ar (E×E):=Af
noncomputable def UB(_:Tc)(_:Tc->Am->E->Ai)(_:Am)(_:Ac El)(_:Ac Am)(_:BI)(_:Es):Ai:=Ae
noncomputable def U1(T:Tc)(e:Am)(b:BI)(as:Es):Ai:=Ae
noncomputable def TW:Am->Ar (Al×Bm)
 |.Name x p=>Ab (x,p)
 |_=>Af
theorem Wi(q:TW e=Ab t):e=.Name t.1 t.2:=by
 cases e with
 |Name x p=>cases q;rfl
 |_=>exact Hd q
noncomputable def TX:Am->Ar (Am×Ac Am×Ac Gs×Bm)
 |.Call f as ks p=>Ab (f,as,ks,p)
 |_=>Af
theorem Wj(q:TX e=Ab t):e=.Call t.1 t.2.1 t.2.2.1 t.2.2.2:=by
 cases e with
 |Call f as ks p=>cases q;rfl
 |_=>exact Hd q
noncomputable def one{α:Type}:Ac α->Ar α
 |[a]=>Ab a
 |_=>Af
theorem m9{l:Ac α}{a:α}(q:one l=Ab a):l=[a]:=by
  match l,q with
  |[b],q=>cases q;rfl
def Oo(e:Am):Ar (Al×Al×Ac Am):=(TX e).bind λc=>(TW c.1).bind λg=>(one c.2.1).bind λa=>(TX a).bind λd=>(TW d.1).bind λh=>if (c.2.2.1.isEmpty&&d.2.2.1.isEmpty)=Aa then Ab (g.1,h.1,d.2.1) else Af
theorem yO{g h:Al}(q:Oo e=Ab (g,h,bs)):∃ p p' pos pos',e=.Call (.Name g p) [.Call (.Name h p') bs [] pos'] [] pos:=by
 obtain⟨⟨f,as,ks,pos⟩,e1,q⟩:=ED.mp q;obtain⟨⟨g',p⟩,e2,q⟩:=ED.mp q;obtain⟨a,e3,q⟩:=ED.mp q;obtain⟨⟨f',bs',ks',pos'⟩,e4,q⟩:=ED.mp q;obtain⟨⟨h',p'⟩,e5,q⟩:=ED.mp q;by_cases hk:(ks.isEmpty&&ks'.isEmpty)=Aa
 .rw[AB hk]at q;cases q;rw[An,Jr,Jr]at hk;obtain⟨rfl,rfl⟩:=hk;have x1:=Wj e1;have x2:=Wi e2;have x3:=m9 e3;have x4:=Wj e4;have x5:=Wi e5;dsimp only at x1 x2 x3 x4 x5;subst x1 x2 x3 x4 x5;exact⟨_,_,_,_,rfl⟩
 .rw[AF hk]at q;exact Hd q
def QD(e:Am):Ar (Al×Al×Am×Am×Am):=match Oo e with
  | some (g,h,bs)=>(match bs with
    |[x,y,z]=>Ab (g,h,x,y,z)
    | _=>Af)
  |none=>Af
theorem yJ{g h:Al}{y:Am}(q:QD e=Ab (g,h,x,y,z)):∃ p p' pos pos',e=.Call (.Name g p) [.Call (.Name h p') [x,y,z] [] pos'] [] pos:=by
  unfold QD at q;cases c:Oo e with
  |none=>rw[c]at q;cases q
  |some t=>
    obtain⟨g',h',bs⟩:=t;rw[c]at q
    match bs,q,c with
    |[a,b,d],q,c=>cases q;exact yO c
def UW(e:Am):Ar (Al×Al×Am×Am):=match Oo e with
  | some (g,h,bs)=>(match bs with
    |[x,y]=>Ab (g,h,x,y)
    | _=>Af)
  |none=>Af
def UA(_:Es):Ar (E×E):=Af
def Vf(e:Am):Ar (Al×Al×Am):=match Oo e with
  | some (g,h,bs)=>(match bs with
    |[x]=>Ab (g,h,x)
    | _=>Af)
  |none=>Af
def Uz(_:Es):Ar E:=Af
def QQ(_:Es):Ar E:=Af
def U5(_:Am):Ar Am:=Af
noncomputable def U4:Am->Ar (Am×Ad)
  | .Subscript v s _=>(match s with
    | .Slice lo hi st _=>(match lo with
      | some (.Constant (.int k) _ _)=>(match hi with
        | none=>(match st with
          |some (.Constant (.int j) _ _)=>if j=2 then Ab (v,k) else Af
          | _=>Af)
        | some _=>Af)
      | _=>Af)
    | _=>Af)
  |_=>Af
def Uy(_:Es):Ar (E×Ad):=Af
mutual
def BE:Ag->Tc->Am->E->Ai
  |0,_,_,_=>Ae
  |n+1,T,e,c=>match c with
    |.O=>Nc e λc=>decide (c=.none)
    |.bl b=>Nc e λc=>decide (c=.bool b)
    |.int i=>Nc e λc=>decide (c=.int i)
    |.str x=>Nc e λc=>decide (c=.str x)
    |.var i=>G8 e λx=>á T x i
    |.glob g=>Ae
    |.B op a b=>Uc e λx op' y=>decide (op'=op)&&BE n T x a&&BE n T y b
    |.un op a=>Np e λo x=>decide (o=.USub)&&(decide (op=.USub)&&BE n T x a)
    |.no a=>Np e λo x=>decide (o=.Not)&&BE n T x a
    |.and es=>Nd e λo xs _=>decide (o=.And)&&(zn n T xs es && !xs.isEmpty)
    |.or es=>Nd e λo xs _=>decide (o=.Or)&&(zn n T xs es && !xs.isEmpty)
    |.cmp op a b=>Mg e λx os ys=>GC os λop'=>GC ys λy=>decide (op'=op) && !behindInMarks op y&&BE n T x a&&BE n T y b
    |.cmp2 ϧ ã a b c=>Mg e λx os ys=>JG os λo1 o2=>JG ys λy z=>decide (o1=ϧ)&&decide (o2=ã) && !lastMarks [ϧ,ã] [y,z]&&BE n T x a&&BE n T y b&&BE n T z c
    |.ite c a b=>Ae
    |.call f as=>PJ e λg x xs=>(T.fns.any λp=>p.1==g&&p.2.1==f&&p.2.2==xs.length+1)&&decide (xs.length<900)&&Ċ T g&&Oj g&&zn n T (x::xs) as
    |.bi b as=>(PJ e λg x xs=>Zw b==Ab g&&we T g&&zn n T (x::xs) as)||U1 T e b as||(match UA as with|some (a,c)=>(match UW e with|some (g,h,x,y)=>decide (b=.list)&&g==("list" : Al)&&h==("range" : Al)&&we T g&&we T h&&EY x&&EY y&&BE n T x a&&BE n T y c|none=>Ae)|none=>Ae)||(match Uy as with|some (a,k)=>(match U4 e with|some (x,j)=>decide (b=.stp)&&decide (j=k)&&decide (0<=k)&&BE n T x a|none=>Ae)|none=>Ae)||(match Uz as with|some a=>(match Vf e with|some (g,h,x)=>decide (b=.lset)&&g==("len" : Al)&&h==("set" : Al)&&we T g&&we T h&&EY x&&BE n T x a|none=>Ae)|none=>Ae)||(match Ux as with|some (a,c)=>(match UP e with|some (x,y,_)=>decide (b=.tlt) && !behindInMarks .Lt y&&BE n T x a&&BE n T y c|none=>Ae)|none=>Ae)||(match QQ as with|some a=>(match U5 e with|some x=>decide (b=.rvs)&&BE n T x a|none=>Ae)|none=>Ae)
    |.isi a ks=>GC ks λk=>KN e λg l=>JG l λx t=>G8 t λt=>g==("isinstance" : Al)&&we T g&&Uf k==Ab t&&we T t&&EY x&&BE n T x a
    |.idx a i=>Na e λx y=>NW y&&BE n T x a&&BE n T y i
    |.sl a lo hi=>Na e λx s=>Uj s λl h st=>st.isNone&&(BE n T x a&&υ n T l lo&&υ n T h hi)
    |.H es=>M9 e λxs=>zn n T xs es&&decide (xs.length<=1000)
    |.L es=>Ul e λxs=>zn n T xs es&&decide (xs.length<=1000)
    |.comp elt t it c=>Qz e λx tg iter ifs scope=>G8 tg λy=>Ï n T Ae iter it&&Ob iter&&Op T scope [t] (No [t] [y] T.N)&&tgO (T.blk scope [t] [y]) scope t y&&χ n (T.blk scope [t] [y]) ifs c&&BE n (T.blk scope [t] [y]) x elt
    |.compT elt ts it c=>Qz e λx tg iter ifs scope=>M9 tg λys=>(GB ys).isSome&&Ï n T Aa iter it&&Ob iter&&Op T scope ts (No ts (ð ys) T.N)&&Ŝ (T.blk scope ts (ð ys)) ts (ð ys)&&χ n (T.blk scope ts (ð ys)) ifs c&&BE n (T.blk scope ts (ð ys)) x elt
    |.tupI it=>(match it with | .zip3 a b c=>(match QD e with|some (g,h,x,y,z)=>g==("tuple" : Al)&&h==("zip" : Al)&&we T g&&we T h&&EY x&&EY y&&EY z&&BE n T x a&&BE n T y b&&BE n T z c|none=>Ae)|_=>Ae)
    |.dnew=>Ae
    |.fld _ _=>Ae
def KS:Ag->Tc->Am->E->Ai
 |0,_,_,_=>Ae
 |n+1,T,e,c=>(Np e λo x=>decide (o=.Not)&&(Qy c λa=>KS n T x a)) ||
  (Nd e λo xs _=>(decide (o=.And)&&(Qk c λes=>yd n T xs es && !xs.isEmpty))||(decide (o=.Or)&&(Qx c λes=>yd n T xs es && !xs.isEmpty))) ||
  (Mg e λx os ys=>(Qf c λop a b=>GC os λop'=>GC ys λy=>decide (op'=op) && !behindInMarks op y&&BE n T x a&&BE n T y b) ||
   (Qg c λϧ ã a b c=>JG os λo1 o2=>JG ys λy z=>decide (o1=ϧ)&&decide (o2=ã) && !lastMarks [ϧ,ã] [y,z]&&BE n T x a&&BE n T y b&&BE n T z c) ||
   (Qh c λb as=>UB T (BE n) x os ys b as)) ||
  OQ e&&BE n T e c
def yd:Ag->Tc->Ac Am->Es->Ai
  |0,_,_,_=>Ae
  |n+1,T,xs,es=>match xs,es with
    |[],.nil=>Aa
    |x::xs,.cons e es=>KS n T x e&&yd n T xs es
    |_,_=>Ae
def zn:Ag->Tc->Ac Am->Es->Ai
  |0,_,_,_=>Ae
  |n+1,T,xs,es=>match xs,es with
    |[],.nil=>Aa
    |x::xs,.cons e es=>EY x&&BE n T x e&&zn n T xs es
    |_,_=>Ae
def υ:Ag->Tc->Ar Am->E->Ai
  |0,_,_,_=>Ae
  |n+1,T,x,e=>match x with
    |none=>Qb e
    |some x=>!(Qb e)&&BE n T x e
def χ:Ag->Tc->Ac Am->E->Ai
  |0,_,_,_=>Ae
  |n+1,T,xs,e=>match xs with
    |[]=>QL e λb=>b
    |x::r=>r.isEmpty&&KS n T x e
def Ï:Ag->Tc->Ai->Am->I->Ai
  |0,_,_,_,_=>Ae
  |n+1,T,tu,e,i=>match i with
    |.e a=>BE n T e a
    |.rng a=>KN e λg l=>GC l λx=>g==("range" : Al)&&we T g&&EY x&&BE n T x a
    |.enm a=>KN e λg l=>GC l λx=>tu&&g==("enumerate" : Al)&&we T g&&EY x&&BE n T x a
    |.zip a b=>KN e λg l=>JG l λx y=>tu&&g==("zip" : Al)&&we T g&&EY x&&EY y&&BE n T x a&&BE n T y b
    |.rng2 a b=>KN e λg l=>JG l λx y=>g==("range" : Al)&&we T g&&EY x&&EY y&&BE n T x a&&BE n T y b
    |.zip3 a b c=>Ae
end
noncomputable def ZG(_:Ag)(_:Tc)(_:Ag)(_:Ac A8)(_:Ss):Ai:=Ae
noncomputable def jL:E->Ai
  | .bi b as=>(match b,as with
    |.len,.nil=>Aa
    | _,_=>Ae)
  |_=>Ae
def jK:S->Ai
 |.expr e=>jL e
 |_=>Ae
def LK:Ss->Ai
 |.cons s _=>jK s
 |.nil=>Ae
mutual
def QE:Ag->Tc->A8->S->Ai
  |0,_,_,_=>Ae
  |n+1,T,st,s=>match s with
    |.pass=>Ae
    |.brk=>Ae
    |.cont=>Ae
    |.asg i _ e=>Qj st λx v=>T.N[i]? == Ab x&&LC T x&&BE n T v e
    |.asgT ts e=>Nf st λt v=>M9 t λys=>(GB ys).isSome&&Ì T ts (ð ys)&&(Zu v||Fi 4 ys.length)&&BE n T v e
    |.expr e=>Nb st λv=>M3 v&&BE n T v e
    |.ret e=>Uk st λo=>match o with|some v=>BE n T v e|none=>Ae
    |.retN=>Ae
    |.ife c a b=>QA st λt xs ys=>KS n T t c&&zq n T xs a&&zq n T ys b
    |.fors t it body=>Oa st λtg iter xs ys=>ys.isEmpty&&(G8 tg λx=>Ì T [t] [x]&&Ob iter&&Ï n T Ae iter it&&zq n T xs body)
    |.forT ts it body=>Oa st λtg iter xs zs=>zs.isEmpty&&(M9 tg λys=>(GB ys).isSome&&Ì T ts (ð ys)&&Ob iter&&Ï n T Aa iter it&&zq n T xs body)
    |.cnt _ _ _ _ _=>Ae
    |.forO _ _ _=>Ae
    |.whl c body=>Ae
    |.rais c as=>!(T.rzs.any λp=>p.2==c)
    |.tryx _ _ _ _=>Ae
    |.try2 _ _ _ _ _ _ _=>Ae
    |.app i e=>Qc st λx m l=>GC l λv=>m==("append" : Al)&&á T x i&&EY v&&BE n T v e
    |.ext i e=>Qc st λx m l=>GC l λv=>m==("extend" : Al)&&á T x i&&EY v&&Ve e&&BE n T v e
    |.rev i=>Ae
    |.clr i=>Ae
    |.put i k e=>Nf st λt v=>Na t λo y=>G8 o λx=>á T x i&&NW y&&BE n T y k&&BE n T v e
    |.swp _ _ _=>Ae
    |.apop _ _ _=>Ae
    |.ins i k e=>Ae
    |.dput _ _ _=>Ae
    |.dsd _ _ _=>Ae
    |.rel _=>Ae
def zq:Ag->Tc->Ac A8->Ss->Ai
  |0,_,_,_=>Ae
  | n+1,T,sts,ss=>(match ss with
    |.nil=>sts.isEmpty
    |.cons (.rel i) ss=>zq n T sts ss
    |.cons (.cnt d i t body k) ss=>QN (zq n T) (BE n T) T d i t body k sts ss
    | .cons s ss=>(match sts with
      |st::r=>QE n T st s&&zq n T r ss
      | []=>Ae))||LK ss
end
def JJ(fuel:Ag)(hot:Ai)(fns:Ac (Al×Ag×Ag))(bl:Ac Al)(rzs exs gls:Ac (Al×Ag))(ps N:Ac Al)(st:A8)(df:Df):Ai:=
  let sc:=JC st
  sc.kind==.function && !sc.isCoroutine && !sc.isGenerator&&N2 N&&N.take ps.length==ps&&ps.all (λx=>sc.names.lookup x==Ab .local||sc.names.lookup x==Ab .cell)&&sc.names.all (λy=>y.2 != .free)&&N.length==df.n &&
  (match hot with
  |true=>ZG fuel ⟨sc,N,fns,bl,rzs,exs,gls⟩ 0 (JZ st) df.body
  | false=>zq fuel ⟨sc,N,fns,bl,rzs,exs,gls⟩ (JZ st) df.body)
structure XT (up:Ag->Ac Ag) (xn:Ag->Ac D->R Ex) (CL:ClA) (rzs exs:Ac (Al×Ag)) (K:Fg) (mg:Al->Ar Aj):Prop where
 xc:∀ c C,CL c=Ab C->XcOk K C
 rz:∀ p∈rzs,∃ C,CL p.2=Ab C/\mg p.1=Ab (.ref C)
 ex:∀ p∈exs,∃ C,mg p.1=Ab (.ref C)/\qo K CL up p.2 C/\∀ c D,CL c=Ab D->eS K (.ref D) (.ref C)=Ab ((up c).contains p.2)
 made:∀ c C ds,CL c=Ab C->xn c ds=.bad\/(xn c ds=.ok ⟨c,[]⟩/\UM K C Af=Aa)\/BR
 nf:∀ c C,CL c=Ab C->∀ f:Al,(f==("triple" : Al)||f==("points" : Al))=Aa->jO K C=Aa/\Il K (.ref C) f=Ab Af
 xb:∀ c,(∀ p∈rzs,p.2≠c)->∀ ds,xn c ds=.bad
def QU(K:Fg)(mg:Al->Ar Aj)(CL:ClA)(x:Al)(d:D):Prop:=∃ u v,mg x=Ab u/\Cp v u/\∀ H A,Y5 K CL H A v d
structure VX (J:Y7) (CL:ClA) (k:Ag) (W:XW) (T:Tc) (X:Cx):Prop where
 sc:X.env.scope=T.sc
 kd:T.sc.kind=.function
 N:X.N=T.N
 nd:T.N.Nodup
 calm:X.calm=Aa
 room:y8 k X.A
 bl:∀ x,x∈T.bl->X.mg x=Af
 fn:∀ p∈T.fns,∃ f fd ps,X.mg p.1=Ab (.ref f)/\Ei X.K (.ref f)=Aa/\Ϡ X.K fd ps []/\ps.length=p.2.2%1000/\(p.2.2<1000->y7 X.prog X.w X.K X.mg X.base (CXR X.prog X.w) k f fd ps (spD X.K CL (p.2.2%1000) (J.fr p.2.1) (J.F p.2.1)))/\(1000<=p.2.2->ϲ X.prog X.w X.K X.mg X.base k f fd ps (spH X.K CL (p.2.2%1000) (J.fr p.2.1) (J.F p.2.1)))
 own:ID (model X.prog X.w) X.A X.env X.xe
 px:∀ A,M6 (CXR X.prog X.w) X (EKW X.K CL A W)
 rz:QR X CL W
 xt:XT J.up J.xn CL T.rzs T.exs X.K X.mg
 gl:∀ p∈T.gls,QU X.K X.mg CL p.1 (J.G p.2)
theorem lj:∀ A,M6 (CXR X.prog X.w) X (EKW X.K CL A W0):=λA pI Z H s ev s' I h=>by
 obtain⟨e,T,cls,dx,H',_,_,_,_,_,_,_,_,_,_,x,_,w⟩:=h;exact w.elim
def kF:QR X CL W0:=λ_ _ _ _ _ _ _ _ _ _ _ _ _ _ z=>z.elim
def Rf{α:Type}(g f:Rho->R α):Prop:=∀ Y,g Y=.bad\/g Y=f Y
section
variable{a:Am}
theorem SB.ref{g:Rho->R Ai}(h:SB X CL W a f)(r:Rf g f):SB X CL W a g:=λA=>PT.weak (h A) λZ H Q ⟨hA,Y,q,p⟩=>⟨hA,Y,q,by
 rcases r Y with e|e
 .rw[e]at p;exact p.elim
 .rw[e]at p;exact p⟩
theorem SW.ref{g:Rho->R Ai}(h:SW X CL W a f)(r:Rf g f):SW X CL W a g:=λA=>PW.weak (h A) λZ H Q ⟨hA,Y,q,p⟩=>⟨hA,Y,q,by
 rcases r Y with e|e
 .rw[e]at p;exact p.elim
 .rw[e]at p;exact p⟩
theorem SS.ref{st:A8}(h:SS X CL W st f)(r:∀ Y,g Y=.bad\/g Y=f Y):SS X CL W st g:=λFz B=>PS.weak (h Fz B) λD Z H ⟨Y,x,p⟩=>⟨Y,x,by
 rcases r Y with e|e
 .rw[e]at p;exact p.elim
 .rw[e]at p;exact p⟩
end
theorem OU:∀{l:Ac Al},N2 l=Aa->l.Nodup
 |[],_=>Kj
 |x::xs,h=>by
  unfold N2 at h;simp only[An,CZ,aM,G3]at h;exact List.nodup_cons.mpr ⟨h.1,OU h.2⟩
theorem tK(h:UE T x=Aa):Vis T.sc x:=by
 unfold UE at h;split at h
 .exact .inl (by assumption)
 .exact .inr (.inl (by assumption))
 .exact .inr (.inr (by assumption))
 .exact BP h
theorem Pv(h:LC T x=Aa):Χ T.sc x:=by
 unfold LC at h;split at h
 .exact .inl (by assumption)
 .exact .inr (by assumption)
 .exact BP h
theorem S5(h:Oj x=Aa):(x==("__debug__" : Al))=Ae/\(x==("__classdict__" : Al))=Ae/\x≠"__name__" := by
 unfold Oj at h;simp only[An,CZ]at h;exact⟨h.1.1,h.1.2,λe=>by subst e;exact absurd h.2 (by simp)⟩
theorem Ϛ(v:VX J CL k W T X)(h:á T x i=Aa):PE X (.Name x pos) (IB i):=by
 unfold á at h;simp only[An,Ce]at h;obtain⟨h2,h3,_⟩:=S5 h.2;exact kg (by rw[v.N];exact h.1.1) (by rw[v.sc];exact tK h.1.2) h2 h3
theorem ϛ(v:VX J CL k W T X)(h:we T x=Aa):Gl X x/\X.mg x=Af/\x≠"__name__"/\(x==("__debug__" : Al))=Ae:=by
 unfold we Ċ at h;simp only[An,Ce,aM,AN]at h;obtain⟨h2,h3,h4⟩:=S5 h.2;exact⟨by show X.env.scope.names.lookup x=_;rw[v.sc];exact h.1.2,v.bl x h.1.1,h4,h2⟩
theorem Ec(h:EY x=Aa):AR (x::xs) env=(Ae,eval x env)::AR xs env:=by
 cases x<;>first|rfl|exact BP h
theorem oV(h:NW y=Aa):Th y:=by
 intro o i;cases y<;>first|rfl|exact BP h
theorem P0(h:Ob e=Aa):∀ x,DD e env x=pure x:=by
 intro x;cases e<;>first|rfl|exact BP h
theorem Xq{l:Ag}(h:M3 e=Aa):EO e t l env=pure Ae:=by
 cases e<;>first|rfl|exact BP h
theorem sV(h:OQ e=Aa):∀ whole,Ko e env whole=(do let v <-whole;Ks e.pos;holding [v] (truthy v)):=by
 intro whole;cases e<;>first|rfl|exact BP h
theorem lR(v:VX J CL k W T X)(scope:CP):relabel scope X.env=T7 T.sc scope:=by
 unfold relabel T7;have:∀ n,X.env.kindOf n=T.sc.names.lookup n:=λn=>by show X.env.scope.names.lookup n=_;rw[v.sc]
 simp only[this,v.sc]
theorem TU(v:VX J CL k W T X)(h:Op T scope ts N'=Aa):zk X scope N' ts/\N'.Nodup/\scope.kind=.function:=by
 unfold Op at h;simp only[An,Ce,Cj,DX,Mw,ne_eq]at h;obtain⟨⟨⟨⟨⟨h1,h2⟩,h4⟩,h5⟩,h6⟩,h7⟩:=h;have at7:∀ i x,N'[i]?=Ab x->i∈ts\/((scope.names.lookup x≠Ab .local/\scope.names.lookup x≠Ab .cell)/\(scope.names.lookup x≠Ab .free\/T.N[i]?=Ab x)):=λi x e=>by
  have hi:=(Bh.mp e).1;have:=h7 i (Dl.mpr hi);rcases this with z|z
  .exact .inl (by simpa using z)
  .rw[e]at z;simp only[An,Mw,ne_eq,DX,Ce]at z;exact .inr z
 refine⟨⟨h1,h2,λy hy hl=>by rw[h2 y hy,hl],λy hy hf=>?_,by rw[v.N];exact h5,λi x e hf hn=>?_,λi x e hl=>?_⟩,OU h6,h1⟩
 .rw[v.sc];rcases h4 y hy with (z|z)|z
  .exact absurd hf z
  .exact .inl z
  .exact .inr z
 .rw[v.N];rcases at7 i x e with z|⟨_,z⟩
  .exact absurd z hn
  .exact z.resolve_left λq=>q hf
 .rcases at7 i x e with z|⟨z,_⟩
  .exact z
  .exact hl.elim (λq=>absurd q z.1) (λq=>absurd q z.2)
theorem VX.blk{xs:Ac Al}(v:VX J CL k W T X)(h:Op T scope ts (No ts xs T.N)=Aa):VX J CL k W0 (T.blk scope ts xs) (yu X scope cl C (No ts xs T.N) s H fp):=by
 obtain⟨_,h2,h3⟩:=TU v h;exact⟨lR v scope,h3,rfl,h2,v.calm,v.room,v.bl,v.fn,PassesOwn.never,lj,kF,v.xt,v.gl⟩
theorem sR(v:VX J CL k W T X)(Ļ:scope.names.lookup x=Ab .cell->X.fn x=Aa)(h:tgO T scope t x=Aa):PG X (.Name x pos) (Gg t):=by
 unfold tgO at h;simp only[An,DX,Ce]at h;rcases h with ⟨h1,h2|h2⟩
 .exact NY (by rw[v.N];exact v.nd) (by rw[v.N];exact h1) (by rw[v.sc];exact .inl h2) (.inr (by rw[v.sc];exact h2))
 .exact NY (by rw[v.N];exact v.nd) (by rw[v.N];exact h1) (by rw[v.sc];exact .inr h2.1) (.inl (Ļ h2.2))
theorem Rt{r:Ac Am}(h:GB (y::r)=Ab zs):∃ x p ws,y=.Name x p/\GB r=Ab ws/\zs=x::ws:=by
 cases y with
 |Name x p=>
  have h':(GB r).map (x :: ·)=Ab zs:=h;cases e:GB r with
  |none=>rw[e]at h';cases h'
  |some ws=>rw[e]at h';cases h';exact⟨x,p,ws,rfl,rfl,rfl⟩
 |_=>exact Hd h
theorem R8(x:Al)(p:Bm)(r:Ac Am)(env:DA):CQ (.Name x p::r) env=(Ae,assign (.Name x p) env)::CQ r env:=rfl
theorem Rs:∀(ys:Ac Am)(zs:Ac Al),GB ys=Ab zs->(CQ ys env).length=ys.length/\(CQ ys env).findIdx? (·.1)=Af/\(CQ ys env).map (·.2)=ys.map λy=>assign y env:=by
 intro ys
 induction ys with
 |nil=>intro _ _;exact⟨rfl,rfl,rfl⟩
 |cons y r ih=>
  intro zs h;obtain⟨x,p,ws,rfl,e,rfl⟩:=Rt h;obtain⟨h1,h2,h3⟩:=ih ws e;rw[R8];refine⟨?_,?_,?_⟩
  .rw[BV,BV,h1]
  .rw[List.findIdx?_cons,h2];simp
  .rw[BG,BG,h3]
theorem sU(v:VX J CL k W T X):∀(ys:Ac Am)(ts:Ac Ag)(zs:Ac Al),GB ys=Ab zs->Ŝ T ts zs=Aa->ŷ X ys (ts.foldr (λt u=>JF (Gg t) u) JK)/\ts.length=ys.length:=by
 intro ys
 induction ys with
 |nil=>
  intro ts zs e h;cases e;cases ts with
  |nil=>exact⟨W5,rfl⟩
  |cons t ts=>exact BP h
 |cons y r ih=>
  intro ts zs e h;obtain⟨x,p,ws,rfl,e2,rfl⟩:=Rt e;cases ts with
  |nil=>exact BP h
  |cons t ts=>
   have h':(T.N[t]? == Ab x&&T.sc.names.lookup x==Ab .local&&Ŝ T ts ws)=Aa:=h;simp only[An,Ce]at h';obtain⟨h1,h2⟩:=ih ts ws e2 h'.2;exact⟨Wv (NY (by rw[v.N];exact v.nd) (by rw[v.N];exact h'.1.1) (by rw[v.sc];exact .inl h'.1.2) (.inr (by rw[v.sc];exact h'.1.2))) h1 (by rw[R8];rfl),congrArg (· + 1) h2⟩
theorem sT{kk:Ag}(v:VX J CL k W T X)(hn:(GB ys).isSome=Aa)(h:Ŝ T ts (ð ys)=Aa):PG X (.Tuple ys kk pos) (Nq X.K ts.length (ts.foldr (λt u=>JF (Gg t) u) JK)):=by
 cases e:GB ys with
 |none=>rw[e]at hn;cases hn
 |some zs=>
  have e2:ð ys=zs:=by unfold ð;rw[e];rfl
  rw[e2]at h;obtain⟨h1,h2⟩:=sU v ys ts zs e h;obtain⟨h3,h4,_⟩:=Rs (env:=X.env) ys zs e;exact Ti v.calm h1 (by rw[h3,h2]) h4
noncomputable def Es.len:Es->Ag
 |.nil=>0
 |.cons _ es=>es.len+1
theorem SD(J:Y7)(Y:Rho):∀(es:Es)(ds:Ac D),í J Y es=.ok ds->ds.length=es.len
 |.nil,ds,h=>by cases h;rfl
 |.cons e es,ds,h=>by
  obtain⟨x,h1,h2⟩:=LW (WT J Y e es ▸ h);obtain⟨xs,h3,h4⟩:=LW h2;cases h4;exact congrArg (· + 1) (SD J Y es xs h3)
theorem XF(J:Y7)(Y:Rho):∀(es:Es)(ds:Ac D),Ð J Y es=.ok ds->ds.length=es.len
 |.nil,ds,h=>by cases h;rfl
 |.cons e es,ds,h=>by
  obtain⟨x,h1,h2⟩:=LW (Wq J Y e es ▸ h);obtain⟨xs,h3,h4⟩:=LW h2;cases h4;exact congrArg (· + 1) (XF J Y es xs h3)
theorem Yx(J:Y7)(Y:Rho)(e:E)(h:ï Y e=Aa):top Y e (evE J Y e)=evE J Y e:=by
 cases e with
 |var i=>
  show Hb Y i=Hc Y i;have h':ξ Y i=Aa:=h;unfold ξ at h';unfold Hb Hc;cases q:Y[i]? with
  |none=>rfl
  |some x=>
   cases x with
   |none=>rfl
   |some y=>
    obtain⟨d,o⟩:=y;cases o with
    |true=>rw[q]at h';cases h'
    |false=>rfl
 |_=>rfl
theorem Za(J:Y7)(Y:Rho):∀(es:Es),LF Y es=Aa->Ð J Y es=í J Y es
 |.nil,_=>rfl
 |.cons e es,h=>by
  simp only[nN,An]at h;rw[WT,Wq,Yx J Y e h.1,Za J Y es h.2]
theorem Tv(J:Y7)(c:E):Rf (λY=>evE J Y c) (λY=>top Y c (evE J Y c)):=λY=>by
 by_cases h:ï Y c=Aa
 .exact .inr (Yx J Y c h).symm
 .cases c with
  |var i=>
   refine .inl ?_;show Hc Y i=.bad;have h':¬ ξ Y i=Aa:=h;unfold ξ at h';unfold Hc;cases q:Y[i]? with
   |none=>rfl
   |some x=>
    cases x with
    |none=>rfl
    |some y=>
     obtain⟨d,o⟩:=y;cases o with
     |true=>rfl
     |false=>rw[q]at h';exact absurd rfl h'
  |_=>exact absurd rfl h
def ć(X:Cx)(CL:ClA)(W:XW)(e:Am)(f:Rho->R D):Prop:=∃ tg iter elt ifs scope pos N' ts fi fc fe as g,e=.ListComp elt [⟨tg,iter,ifs,0⟩] scope pos/\zk X scope N' ts/\SI X CL W tg iter fi/\GG X.K CL ts as g /\
 (∀ cl C s H fp,PG (yu X scope cl C N' s H fp) tg g)/\(∀ cl C s H fp,Ÿ (yu X scope cl C N' s H fp) CL ifs fc)/\(∀ cl C s H fp,SE (yu X scope cl C N' s H fp) CL W0 elt fe)/\(∀ x,DD iter X.env x=pure x) /\
 ∀ Y,f Y=(fi Y).bind λxs=>(â (B7 (λx=>(as x Y).bind fc) (λx=>(as x Y).bind fe) xs)).bind λys=>.ok (.L ys)
theorem ć.sc(hc:X.calm=Aa)(h:ć X CL W e f):SC X CL W Aa e f:=by
 obtain⟨tg,iter,elt,ifs,scope,pos,N',ts,fi,fc,fe,as,g,rfl,B,hi,Æ,hg,ht,he,hs,ef⟩:=h;exact SC.congr (vS hc B hi Æ hg ht he hs) ef
structure Í (J:Y7) (CL:ClA) (W:XW) (X:Cx) (e:Am) (c:E):Prop where
 se:SE X CL W e (λY=>evE J Y c)
 st:ST X CL W e (λY=>top Y c (evE J Y c))
 nw:E0 J c=Aa->SC X CL W Aa e (λY=>evE J Y c)
 cp:M3 e=Ae->ć X CL W e (λY=>evE J Y c)
section
variable{c:E}
theorem F4(h:SE X CL W e (λY=>evE J Y c))(ht:∀ Y r,top Y c r=r)(hn:E0 J c=Ae)(hc:M3 e=Aa):Í J CL W X e c:=
 ⟨h,by simp only[ht];exact h.st,λz=>absurd z (by rw[hn];decide),λz=>absurd z (by rw[hc];decide)⟩
theorem PK(h:SC X CL W Aa e (λY=>evE J Y c))(ht:∀ Y r,top Y c r=r)(hc:M3 e=Aa):Í J CL W X e c:=
 ⟨h.se,by simp only[ht];exact h.se.st,λ_=>h,λz=>absurd z (by rw[hc];decide)⟩
theorem Zt(hc:X.calm=Aa)(h:ć X CL W e (λY=>evE J Y c))(ht:∀ Y r,top Y c r=r):Í J CL W X e c:=
 ⟨(h.sc hc).se,by simp only[ht];exact(h.sc hc).se.st,λ_=>h.sc hc,λ_=>h⟩
end
theorem iB(h:Uf k=Ab x):∃ T,Ã k=Ab T/\DP x=Ab (.type T):=by
 cases k<;>simp only[Uf]at h<;>cases h
 .exact⟨_,rfl,PyProof.Rows.boot_int⟩
 .exact⟨_,rfl,PyProof.Rows.boot_bool⟩
 .exact⟨_,rfl,PyProof.Rows.boot_str⟩
 .exact⟨_,rfl,bR⟩
 .exact⟨_,rfl,G2⟩
structure è (J:Y7) (CL:ClA) (k:Ag) (n:Ag):Prop where
 e:∀(W:XW)(T:Tc)(X:Cx)(x:Am)(c:E),VX J CL k W T X->BE n T x c=Aa->Í J CL W X x c
 b:∀(W:XW)(T:Tc)(X:Cx)(x:Am)(c:E),VX J CL k W T X->KS n T x c=Aa->SB X CL W x (λY=>(top Y c (evE J Y c)).bind DJ)
 bs:∀(W:XW)(T:Tc)(X:Cx)(xs:Ac Am)(es:Es)(pos:Bm),VX J CL k W T X->yd n T xs es=Aa->xs≠[]->SW X CL W (.BoolOp .And xs pos) (λY=>(evN J Y es).bind DJ)/\SW X CL W (.BoolOp .Or xs pos) (λY=>(evO J Y es).bind DJ)
 es:∀(W:XW)(T:Tc)(X:Cx)(xs:Ac Am)(es:Es),VX J CL k W T X->zn n T xs es=Aa->SA X CL W xs (λY=>í J Y es)/\Ä X CL W xs (λY=>Ð J Y es)/\xs.length=es.len/\(∀ pos,xs≠[]->SE X CL W (.BoolOp .And xs pos) (λY=>evN J Y es)/\SE X CL W (.BoolOp .Or xs pos) (λY=>evO J Y es))/\(∀ pos,(DO pos (AR xs X.env)).any (·.1)=Ae)
 o:∀(W:XW)(T:Tc)(X:Cx)(x:Ar Am)(c:E),VX J CL k W T X->υ n T x c=Aa->SO X CL W x (λY=>(top Y c (evE J Y c)).bind (slE c))
 t:∀(T:Tc)(X:Cx)(xs:Ac Am)(c:E),VX J CL k W0 T X->χ n T xs c=Aa->Ÿ X CL xs (λY=>(top Y c (evE J Y c)).bind DJ)
 i:∀(W:XW)(T:Tc)(X:Cx)(tu:Ai)(tg x:Am)(i:I),VX J CL k W T X->UJ tu tg=Aa->Ï n T tu x i=Aa->SI X CL W tg x (λY=>ad J Y i)
section
variable{n:Ag}
theorem oU:è J CL k 0:=⟨λ_ _ _ _ _ _ h=>J4 h,λ_ _ _ _ _ _ h=>J4 h,λ_ _ _ _ _ _ _ h=>J4 h,λ_ _ _ _ _ _ h=>J4 h,λ_ _ _ _ _ _ h=>J4 h,λ_ _ _ _ _ h=>J4 h,λ_ _ _ _ _ _ _ _ _ h=>J4 h⟩
theorem Vo(h:EY x=Aa)(hx:(DO pos (AR xs env)).any (·.1)=Ae):(DO pos (AR (x::xs) env)).any (·.1)=Ae:=by
 rw[Ec h];show (Ae||(DO pos (AR xs env)).any (·.1))=Ae;rw[hx];rfl
theorem b8(S:è J CL k n)(W:XW)(T:Tc)(X:Cx)(xs:Ac Am)(es:Es)(v:VX J CL k W T X)(h:zn (n+1) T xs es=Aa):SA X CL W xs (λY=>í J Y es)/\Ä X CL W xs (λY=>Ð J Y es)/\xs.length=es.len/\(∀ pos,xs≠[]->SE X CL W (.BoolOp .And xs pos) (λY=>evN J Y es)/\SE X CL W (.BoolOp .Or xs pos) (λY=>evO J Y es))/\(∀ pos,(DO pos (AR xs X.env)).any (·.1)=Ae):=by
 cases xs with
 |nil=>
  cases es with
  |nil=>exact⟨dh,vV,rfl,λ_ z=>absurd rfl z,λ_=>rfl⟩
  |cons=>exact J4 h
 |cons x xs=>
  cases es with
  |nil=>exact J4 h
  |cons e es=>
   replace h:(EY x&&BE n T x e&&zn n T xs es)=Aa:=h;simp only[An]at h;obtain⟨⟨h0,h1⟩,h2⟩:=h;have he:=S.e W T X x e v h1;obtain⟨a1,a2,a3,a4,a5⟩:=S.es W T X xs es v h2;refine⟨vW he.se a1 (Ec h0),qW he.st a2 (Ec h0),congrArg (· + 1) a3,λpos _=>?_,λpos=>Vo h0 (a5 pos)⟩
   cases xs with
   |nil=>
    cases es with
    |nil=>exact⟨YE he.se,YE he.se⟩
    |cons=>cases a3
   |cons y ys=>
    cases es with
    |nil=>cases a3
    |cons e' xm=>
     obtain⟨b1,b2⟩:=a4 pos (by simp)
     exact⟨d8 he.se b1,vw he.se b2⟩
theorem sg(S:è J CL k n)(W:XW)(T:Tc)(X:Cx)(x:Ar Am)(c:E)(v:VX J CL k W T X)(h:υ (n+1) T x c=Aa):SO X CL W x (λY=>(top Y c (evE J Y c)).bind (slE c)):=by
 cases x with
 |none=>
  obtain rfl:=pZ h;exact vN
 |some x=>
  replace h:(!(Qb c)&&BE n T x c)=Aa:=h;rw[An]at h;have q:=vM (S.e W T X x c v h.2).st;have e:slE c=λd=>(Gd d).bind λi=>.ok (Ab i):=by
   funext d
   cases c<;>first|rfl|exact absurd (show Ae=Aa from h.1) A3
  rw[e];exact q
theorem rl(S:è J CL k n)(T:Tc)(X:Cx)(xs:Ac Am)(c:E)(v:VX J CL k W0 T X)(h:χ (n+1) T xs c=Aa):Ÿ X CL xs (λY=>(top Y c (evE J Y c)).bind DJ):=by
 cases xs with
 |nil=>
  refine jm h λb h=>?_
  subst h;exact uY
 |cons x xs=>
  replace h:(xs.isEmpty&&KS n T x c)=Aa:=h;rw[An]at h;obtain rfl:=Lq h.1;exact uX (S.b W0 T X x c v h.2)
theorem sj(S:è J CL k n)(W:XW)(T:Tc)(X:Cx)(tu:Ai)(tg x:Am)(i:I)(v:VX J CL k W T X)(ht':UJ tu tg=Aa)(h:Ï (n+1) T tu x i=Aa):SI X CL W tg x (λY=>ad J Y i):=by
 have ht:tu=Aa->fS tg=Aa:=λz=>by
  subst z;cases tg<;>first|rfl|exact BP ht'
 cases i with
 |e a=>
  exact kE (S.e W T X x a v h).se
 |rng a=>
  refine NV h λg pp l qq h=>?_
  refine JX h λy h=>?_
  simp only[An,Ce]at h;obtain⟨⟨⟨rfl,h1⟩,h2⟩,h3⟩:=h;obtain⟨g1,g2,_,_⟩:=ϛ v h1;exact i8 (S.e W T X _ a v h3).st g1 g2 (Ec h2)
 |rng2 a b=>
  refine NV h λg pp l qq h=>?_
  refine L4 h λy z h=>?_
  simp only[An,Ce]at h;obtain⟨⟨⟨⟨⟨rfl,h1⟩,h2⟩,h3⟩,h4⟩,h5⟩:=h;obtain⟨g1,g2,_,_⟩:=ϛ v h1;exact vQ (S.e W T X _ a v h4).st (S.e W T X _ b v h5).st g1 g2 (by rw[Ec h2,Ec h3];rfl) (by rw[Ec h3];rfl)
 |zip a b=>
  refine NV h λg pp l qq h=>?_
  refine L4 h λy z h=>?_
  simp only[An,Ce]at h;obtain⟨⟨⟨⟨⟨⟨h0,rfl⟩,h1⟩,h2⟩,h3⟩,h4⟩,h5⟩:=h;obtain⟨g1,g2,_,_⟩:=ϛ v h1;have hg:=ht h0;cases tg with
  |Tuple es m tpos=>exact i7 (S.e W T X _ a v h4).se (S.e W T X _ b v h5).se g1 g2 (by rw[Ec h2,Ec h3];rfl) (by rw[Ec h3];rfl)
  |_=>exact BP hg
 |zip3 a b c=>exact absurd (show Ae=Aa from h) A3
 |enm a=>
  refine NV h λg pp l qq h=>?_
  refine JX h λy h=>?_
  simp only[An,Ce]at h;obtain⟨⟨⟨⟨h0,rfl⟩,h1⟩,h2⟩,h3⟩:=h;obtain⟨g1,g2,_,_⟩:=ϛ v h1;have hg:=ht h0;cases tg with
  |Tuple es m tpos=>exact vR (S.e W T X _ a v h3).se g1 g2 (Ec h2)
  |_=>exact BP hg
theorem pY[FE c]:(if c then R.ok (D.bl b) else .bad)=.bad\/∃ b',(if c then R.ok (D.bl b) else .bad)=.ok (.bl b'):=by
 by_cases h:c
 .rw[AB h];exact .inr ⟨_,rfl⟩
 .rw[AF h];exact .inl rfl
def BK(r:R D):Prop:=r=.bad\/∃ b,r=.ok (.bl b)
def bk0:BK .bad:=.inl rfl
def bk1:BK (.ok (.bl b)):=.inr ⟨b,rfl⟩
def bk2[FE c]:BK (if c then R.ok (D.bl b) else .bad):=pY
theorem sJ(op:El)(d d':D):BK (Dr op d d'):=by
 cases op with
 |Eq=>exact bk2
 |NotEq=>exact bk2
 |In=>
  cases d' with
  |L ys=>exact bk2
  |H ys=>exact bk2
  |dic kvs=>
   show BK (match Oh d with|some k=>R.ok (D.bl (kvs.any λp=>p.1==k))|none=>.bad)
   cases Oh d with
   |some k=>exact bk1
   |none=>exact bk0
  |_=>exact bk0
 |NotIn=>
  cases d' with
  |L ys=>exact bk2
  |H ys=>exact bk2
  |_=>exact bk0
 |Is=>
  cases d' with
  |O=>cases d<;>first|exact bk1|exact bk0
  |_=>cases d<;>first|exact bk0|exact bk1
 |IsNot=>
  cases d' with
  |O=>cases d<;>first|exact bk1|exact bk0
  |_=>cases d<;>first|exact bk0|exact bk1
 |_=>
  cases d with
  |int i=>cases d'<;>first|exact bk1|exact bk0
  |_=>exact bk0
theorem Xu(op:El)(d d':D):(Dr op d d').bind DJ=.bad\/(Dr op d d').bind DJ=(Dr op d d').bind E1:=by
 rcases sJ op d d' with h|⟨b,h⟩
 .rw[h];exact .inl rfl
 .rw[h];exact .inr rfl
theorem qd(e e':E)(es:Es):Rf (λY=>(evN J Y (.cons e (.cons e' es))).bind DJ) (λY=>((top Y e (evE J Y e)).bind DJ).bind λc=>if c=Aa then (evN J Y (.cons e' es)).bind DJ else .ok Ae):=λY=>by
 have e0:evN J Y (.cons e (.cons e' es))=(evE J Y e).bind λx=>(E1 x).bind λc=>if c=Aa then evN J Y (.cons e' es) else .ok (.bl Ae):=rfl
 dsimp only;rw[e0];rcases Tv J e Y with z|z<;>dsimp only at z
 .rw[z];exact .inl rfl
 .rw[<-z];cases evE J Y e with
  |bad=>exact .inl rfl
  |exn x=>exact .inr rfl
  |ok d=>
   cases d with
   |bl b=>cases b<;>exact .inr rfl
   |_=>exact .inl rfl
theorem qc(e e':E)(es:Es):Rf (λY=>(evO J Y (.cons e (.cons e' es))).bind DJ) (λY=>((top Y e (evE J Y e)).bind DJ).bind λc=>if c=Aa then .ok Aa else (evO J Y (.cons e' es)).bind DJ):=λY=>by
 have e0:evO J Y (.cons e (.cons e' es))=(evE J Y e).bind λx=>(E1 x).bind λc=>if c=Aa then .ok (.bl Aa) else evO J Y (.cons e' es):=rfl
 dsimp only;rw[e0];rcases Tv J e Y with z|z<;>dsimp only at z
 .rw[z];exact .inl rfl
 .rw[<-z];cases evE J Y e with
  |bad=>exact .inl rfl
  |exn x=>exact .inr rfl
  |ok d=>
   cases d with
   |bl b=>cases b<;>exact .inr rfl
   |_=>exact .inl rfl
theorem Rf.tru(e:E):Rf (λY=>(evE J Y e).bind DJ) (λY=>(top Y e (evE J Y e)).bind DJ):=λY=>by
 rcases Tv J e Y with z|z<;>dsimp only at z ⊢
 .rw[z];exact .inl rfl
 .rw[<-z];exact .inr rfl
theorem gk(S:è J CL k n)(W:XW)(T:Tc)(X:Cx)(xs:Ac Am)(es:Es)(pos:Bm)(v:VX J CL k W T X)(h:yd (n+1) T xs es=Aa)(il:xs≠[]):SW X CL W (.BoolOp .And xs pos) (λY=>(evN J Y es).bind DJ)/\SW X CL W (.BoolOp .Or xs pos) (λY=>(evO J Y es).bind DJ):=by
 cases xs with
 |nil=>exact absurd rfl il
 |cons x xs=>
  cases es with
  |nil=>exact J4 h
  |cons e es=>
   replace h:(KS n T x e&&yd n T xs es)=Aa:=h;simp only[An]at h;obtain⟨h1,h2⟩:=h;have he:=S.b W T X x e v h1;cases xs with
   |nil=>
    cases es with
    |nil=>exact⟨SW.ref (uW he) (Rf.tru e),SW.ref (ar he) (Rf.tru e)⟩
    |cons=>
     cases n with
     |zero=>exact absurd (show Ae=Aa from h2) A3
     |succ n=>exact absurd (show Ae=Aa from h2) A3
   |cons y ys=>
    cases es with
    |nil=>
     cases n with
     |zero=>exact absurd (show Ae=Aa from h2) A3
     |succ n=>exact absurd (show Ae=Aa from h2) A3
    |cons e' xm=>
     obtain⟨b1,b2⟩:=S.bs W T X (y::ys) (.cons e' xm) pos v h2 (by simp)
     exact⟨SW.ref (ay he b1) (qd e e' xm),SW.ref (rh he b2) (qc e e' xm)⟩
theorem sQ(S:è J CL k n)(v:VX J CL k W T X)(h:UB T (BE n) x ops ys b as=Aa):SB X CL W (.Compare x ops ys pos) (λY=>(top Y (.bi b as) (evE J Y (.bi b as))).bind DJ):=by
 exact absurd (show Ae=Aa from h) A3
theorem t5(S:è J CL k n)(W:XW)(T:Tc)(X:Cx)(x:Am)(c:E)(v:VX J CL k W T X)(h:KS (n+1) T x c=Aa):SB X CL W x (λY=>(top Y c (evE J Y c)).bind DJ):=by
 have plain:∀ e,OQ e=Aa->BE n T e c=Aa->SB X CL W e (λY=>(top Y c (evE J Y c)).bind DJ):=λe h1 h2=>d9 (S.e W T X e c v h2).st (sV h1)
 replace h:((Np x λo x=>decide (o=.Not)&&(Qy c λa=>KS n T x a))||(Nd x λo xs _=>(decide (o=.And)&&(Qk c λes=>yd n T xs es && !xs.isEmpty))||(decide (o=.Or)&&(Qx c λes=>yd n T xs es && !xs.isEmpty)))||(Mg x λx os ys=>(Qf c λop a b=>GC os λop'=>GC ys λy=>decide (op'=op) && !behindInMarks op y&&BE n T x a&&BE n T y b)||(Qg c λϧ ã a b c=>JG os λo1 o2=>JG ys λy z=>decide (o1=ϧ)&&decide (o2=ã) && !lastMarks [ϧ,ã] [y,z]&&BE n T x a&&BE n T y b&&BE n T z c)||(Qh c λb as=>UB T (BE n) x os ys b as))||OQ x&&BE n T x c)=Aa:=h
 replace h:=(Ų h).imp_left λz=>(Ų z).imp_left Ų
 rcases h with ((h|h)|h)|h
 .refine TJ h λo y p h=>?_
  replace h:=DS h;obtain⟨h0,h⟩:=h;obtain rfl:=BD h0;refine jl h λa h=>?_
  .skip
   refine SB.ref (de (S.b W T X _ a v h)) λY=>?_
   show ((top Y a (evE J Y a)).bind λx=>(E1 x).bind λb=>.ok (.bl (!b))).bind DJ=.bad\/((top Y a (evE J Y a)).bind λx=>(E1 x).bind λb=>.ok (.bl (!b))).bind DJ=_
   cases top Y a (evE J Y a) with
   |bad=>exact .inl rfl
   |exn x=>exact .inr rfl
   |ok d=>cases d<;>first|exact .inr rfl|exact .inl rfl
 .refine SX h λo ys p h=>?_
  replace h:=Ų h;rcases h with h|h
  .replace h:=DS h;obtain⟨h0,h⟩:=h;obtain rfl:=BD h0;refine wM h λes h=>?_
   simp only[An,CZ,E8]at h;exact(S.bs W T X _ _ _ v h.1 h.2).1.sb
  .replace h:=DS h;obtain⟨h0,h⟩:=h;obtain rfl:=BD h0;refine jk h λes h=>?_
   simp only[An,CZ,E8]at h;exact(S.bs W T X _ _ _ v h.1 h.2).2.sb
 .refine Ps h λw os ys p h=>?_
  replace h:=(Ų h).imp_left Ų;rcases h with (h|h)|h
  .refine wI h λop a b h=>?_
   refine JX h λop' h=>?_
   refine JX h λy h=>?_
   .simp only[An,CZ,AN]at h;obtain⟨⟨⟨rfl,h1⟩,h2⟩,h3⟩:=h;refine SB.ref (dg (MN v.room.units _) (S.e W T X _ a v h2).st (S.e W T X _ b v h3).st h1) λY=>?_
    show ((top Y a (evE J Y a)).bind λx=>(top Y b (evE J Y b)).bind λy=>Dr op' x y).bind DJ=.bad\/((top Y a (evE J Y a)).bind λx=>(top Y b (evE J Y b)).bind λy=>Dr op' x y).bind DJ=_
    cases top Y a (evE J Y a) with
    |bad=>exact .inl rfl
    |exn x=>exact .inr rfl
    |ok d=>
     cases top Y b (evE J Y b) with
     |bad=>exact .inl rfl
     |exn x=>exact .inr rfl
     |ok d'=>
      dsimp only[R.bind];exact Xu _ d d'
  .refine wJ h λϧ ã a b c h=>?_
   refine L4 h λo1 o2 h=>?_
   refine L4 h λy z h=>?_
   .simp only[An,CZ,AN]at h;obtain⟨⟨⟨⟨⟨rfl,rfl⟩,h1⟩,h2⟩,h3⟩,h4⟩:=h;refine SB.ref (qV v.room.units (S.e W T X _ a v h2).st (S.e W T X _ b v h3).st (S.e W T X _ c v h4).st h1) λY=>?_
    show ((top Y a (evE J Y a)).bind λx=>(top Y b (evE J Y b)).bind λy=>(Dr o1 x y).bind λz=>(E1 z).bind λk=>if k=Aa then (top Y c (evE J Y c)).bind λu=>Dr o2 y u else .ok (.bl Ae)).bind DJ=.bad\/((top Y a (evE J Y a)).bind λx=>(top Y b (evE J Y b)).bind λy=>(Dr o1 x y).bind λz=>(E1 z).bind λk=>if k=Aa then (top Y c (evE J Y c)).bind λu=>Dr o2 y u else .ok (.bl Ae)).bind DJ=_
    cases top Y a (evE J Y a) with
    |bad=>exact .inl rfl
    |exn x=>exact .inr rfl
    |ok d=>
     cases top Y b (evE J Y b) with
     |bad=>exact .inl rfl
     |exn x=>exact .inr rfl
     |ok d'=>
      dsimp only[R.bind];cases Dr o1 d d' with
      |bad=>exact .inl rfl
      |exn x=>exact .inr rfl
      |ok d3=>
       cases d3 with
       |bl k=>
        cases k with
        |false=>exact .inr rfl
        |true=>
         dsimp only[R.bind,E1];rw[AB rfl,AB rfl];cases top Y c (evE J Y c) with
         |bad=>exact .inl rfl
         |exn x=>exact .inr rfl
         |ok d4=>exact Xu _ d' d4
       |_=>exact .inl rfl
  .refine wK h λb as h=>?_
   exact sQ S v h
 .exact plain _ (DS h).1 (DS h).2
end
section
variable{J:Y7}{CL:ClA}{W:XW}{k n:Ag}{T:Tc}{X:Cx}
theorem iD{g:Al}(v:VX J CL k W T X)(hb:Zw b=Ab g)(hg:we T g=Aa)(hs:Ä X CL W (x::xs) (λY=>Ð J Y as))(h0:EY x=Aa)(yo:∀ pos,(DO pos (AR xs X.env)).any (·.1)=Ae):Í J CL W X (.Call (.Name g p) (x::xs) [] pos) (.bi b as):=by
 obtain⟨g1,g2,g3,g4⟩:=ϛ v hg;cases b<;>first|exact absurd (show Af=Ab g from hb) (λz=>nomatch z)|(obtain rfl:=B6 (show Ab _=Ab g from hb))
 .exact F4 (N1 pz g1 g2 PySem.boot_len hs g3 g4 (Ec h0) yo) (λ_ _=>rfl) rfl rfl
 .exact F4 (N1 (pv v.calm) g1 g2 PyProof.Rows.boot_max hs g3 g4 (Ec h0) yo) (λ_ _=>rfl) rfl rfl
 .exact F4 (N1 (n5 v.calm) g1 g2 PyProof.Rows.boot_min hs g3 g4 (Ec h0) yo) (λ_ _=>rfl) rfl rfl
 .exact PK (gv yN g1 g2 bR hs g3 g4 (Ec h0) yo) (λ_ _=>rfl) rfl
 .exact F4 (jc sK g1 g2 G2 hs g3 g4 (Ec h0) yo) (λ_ _=>rfl) rfl rfl
 .exact F4 (N1 (qb v.calm) g1 g2 PyProof.Rows.boot_all hs g3 g4 (Ec h0) yo) (λ_ _=>rfl) rfl rfl
 .exact F4 (N1 (mw v.calm) g1 g2 PyProof.Rows.boot_sum hs g3 g4 (Ec h0) yo) (λ_ _=>rfl) rfl rfl
 .exact PK (gw (nR v.room.units) g1 g2 PyProof.Rows.boot_sorted hs g3 g4 (Ec h0) yo) (λ_ _=>rfl) rfl
theorem RQ(h:zn n T (x::xs) es=Aa):EY x=Aa/\∃ e xm,es=.cons e xm/\∃ m,n=m+1/\zn m T xs xm=Aa:=by
 cases n with
 |zero=>exact J4 h
 |succ m=>
  cases es with
  |nil=>exact J4 h
  |cons e es=>
   replace h:(EY x&&BE m T x e&&zn m T xs es)=Aa:=h;simp only[An]at h;exact⟨h.1.1,e,es,rfl,m,rfl,h.2⟩
theorem Vz:∀(m:Ag)(xs:Ac Am)(es:Es),zn m T xs es=Aa->∀ pos,(DO pos (AR xs X.env)).any (·.1)=Ae:=by
 intro m
 induction m with
 |zero=>intro xs es h;exact J4 h
 |succ m ih=>
  intro xs es h pos;cases xs with
  |nil=>rfl
  |cons x xs=>
   obtain⟨h0,e,xm,rfl,m',e1,h1⟩:=RQ h;cases e1;exact Vo h0 (ih xs xm h1 pos)
theorem dm(S:è J CL k n){x:Am}{b:BI}(v:VX J CL k W T X)(h:(match QQ as with|some a=>(match U5 x with|some y=>decide (b=.rvs)&&BE n T y a|none=>Ae)|none=>Ae)=Aa):Í J CL W X x (.bi b as):=by
 simp[QQ]at h
theorem br(S:è J CL k n){x:Am}{b:BI}(v:VX J CL k W T X)(h:(match Ux as with|some (a,c)=>(match UP x with|some (y,z,_)=>decide (b=.tlt) && !behindInMarks .Lt z&&BE n T y a&&BE n T z c|none=>Ae)|none=>Ae)=Aa):Í J CL W X x (.bi b as):=by
 simp[Ux]at h
theorem nq(v:VX J CL k W T X)(h:U1 T x b as=Aa):Í J CL W X x (.bi b as):=by
 exact absurd h A3
theorem az(S:è J CL k n){x:Am}{b:BI}(v:VX J CL k W T X)(h:(match Uy as with|some (a,k)=>(match U4 x with|some (y,j)=>decide (b=.stp)&&decide (j=k)&&decide (0<=k)&&BE n T y a|none=>Ae)|none=>Ae)=Aa):Í J CL W X x (.bi b as):=by
 simp[Uy]at h
theorem k6(S:è J CL k n){x:Am}{b:BI}(v:VX J CL k W T X)(h:(match UA as with|some (a,c)=>(match UW x with|some (g,h,y,z)=>decide (b=.list)&&g==("list" : Al)&&h==("range" : Al)&&we T g&&we T h&&EY y&&EY z&&BE n T y a&&BE n T z c|none=>Ae)|none=>Ae)=Aa):Í J CL W X x (.bi b as):=by
 simp[UA]at h
theorem wY(S:è J CL k n){x:Am}{b:BI}(v:VX J CL k W T X)(h:(match Uz as with|some a=>(match Vf x with|some (g,h,y)=>decide (b=.lset)&&g==("len" : Al)&&h==("set" : Al)&&we T g&&we T h&&EY y&&BE n T y a|none=>Ae)|none=>Ae)=Aa):Í J CL W X x (.bi b as):=by
 simp[Uz]at h
theorem sv(S:è J CL k n)(W:XW)(T:Tc)(X:Cx)(x:Am)(c:E)(v:VX J CL k W T X)(h:BE (n+1) T x c=Aa):Í J CL W X x c:=by
 cases c with
 |O=>
  refine Pq h λc u p h=>?_
  obtain rfl:=BD h;exact F4 io (λ_ _=>rfl) rfl rfl
 |bl b=>
  refine Pq h λc u p h=>?_
  obtain rfl:=BD h;exact F4 vy (λ_ _=>rfl) rfl rfl
 |int i=>
  refine Pq h λc u p h=>?_
  obtain rfl:=BD h;exact F4 iw (λ_ _=>rfl) rfl rfl
 |str i=>
  refine Pq h λc u p h=>?_
  obtain rfl:=BD h;exact F4 ig (λ_ _=>rfl) rfl rfl
 |var i=>
  refine KD h λy p h=>?_
  exact⟨i9 (Ϛ v h),gm (Ϛ v h),λz=>(nomatch z),λz=>(nomatch z)⟩
 |glob g=>exact absurd (show Ae=Aa from h) A3
 |B op a b=>
  refine wL h λy op' z p h=>?_
  simp only[An,AN]at h;obtain⟨⟨rfl,h1⟩,h2⟩:=h;have ha:=(S.e W T X _ a v h1).st;have hb:=(S.e W T X _ b v h2).st;refine⟨YF (W9 _) ha hb,(YF (W9 _) ha hb).st,λz=>?_,λz=>nomatch z⟩
  cases op'<;>first|exact gy ha hb|exact BP z
 |un op a=>
  refine TJ h λo y p h=>?_
  replace h:=DS h;obtain⟨h0,h⟩:=h;obtain rfl:=BD h0;simp only[An,AN]at h;obtain⟨rfl,h1⟩:=h;exact F4 (iq (S.e W T X _ a v h1).st) (λ_ _=>rfl) rfl rfl
 |no a=>
  refine TJ h λo y p h=>?_
  replace h:=DS h;obtain⟨h0,h⟩:=h;obtain rfl:=BD h0;exact F4 (ii (S.e W T X _ a v h).st) (λ_ _=>rfl) rfl rfl
 |and es=>
  refine SX h λo ys p h=>?_
  replace h:=DS h;obtain⟨h0,h⟩:=h;obtain rfl:=BD h0;simp only[An,CZ,E8]at h;exact F4 ((S.es W T X _ es v h.1).2.2.2.1 _ h.2).1 (λ_ _=>rfl) rfl rfl
 |or es=>
  refine SX h λo ys p h=>?_
  replace h:=DS h;obtain⟨h0,h⟩:=h;obtain rfl:=BD h0;simp only[An,CZ,E8]at h;exact F4 ((S.es W T X _ es v h.1).2.2.2.1 _ h.2).2 (λ_ _=>rfl) rfl rfl
 |cmp op a b=>
  refine Ps h λy os ys p h=>?_
  refine JX h λop' h=>?_
  refine JX h λz h=>?_
  simp only[An,CZ,AN]at h;obtain⟨⟨⟨rfl,h1⟩,h2⟩,h3⟩:=h;exact F4 (j9 (MN v.room.units _) (S.e W T X _ a v h2).st (S.e W T X _ b v h3).st h1) (λ_ _=>rfl) rfl rfl
 |cmp2 ϧ ã a b c=>
  refine Ps h λy os ys p h=>?_
  refine L4 h λo1 o2 h=>?_
  refine L4 h λz w h=>?_
  simp only[An,CZ,AN]at h;obtain⟨⟨⟨⟨⟨rfl,rfl⟩,h1⟩,h2⟩,h3⟩,h4⟩:=h;exact F4 (qU v.room.units (S.e W T X _ a v h2).st (S.e W T X _ b v h3).st (S.e W T X _ c v h4).st h1) (λ_ _=>rfl) rfl rfl
 |ite c a b=>exact absurd (show Ae=Aa from h) A3
 |call f as=>
  refine Wx h λg pp y ys qq h=>?_
  simp only[An,aL,Ce,AN]at h;obtain⟨⟨⟨⟨⟨p,hp,⟨rfl,rfl⟩,hl⟩,h900⟩,h1⟩,h2⟩,h3⟩:=h;obtain⟨fa,fd,ps,m1,m2,m3,m4,m5,_⟩:=v.fn p hp;have zd:p.2.2<1000:=by omega
  rw[Nat.mod_eq_of_lt zd]at m4 m5;have m5:=m5 zd;obtain⟨n2,n3,n4⟩:=S5 h2;obtain⟨a1,a2,a3,a4,a5⟩:=S.es W T X _ as v h3;obtain⟨s0,e,xm,rfl,m,rfl,s1⟩:=RQ h3;have q:SC X CL W (J.fr p.2.1) (.Call (.Name p.1 pp) (y::ys) [] qq) (λY=>evE J Y (.call p.2.1 (.cons e xm))):=vT (sh:=λY=>LF Y (.cons e xm)) m5 v.room (by unfold Ċ at h1;show X.env.scope.names.lookup p.1=_;rw[v.sc];exact eq_of_beq h1) m1 m2 m3 v.px a1 a2 (λY z=>Za J Y _ z) (λY ds z=>by rw[XF J Y _ _ z,<-a3,hl];rfl) n2 (Ec s0) (Vz m ys xm s1)
  exact⟨q.se,q.se.st,λz=>by
   have z':J.fr p.2.1=Aa:=z;rw[z']at q;exact q,λz=>nomatch z⟩
 |bi b as=>
  unfold BE at h;dsimp only at h;simp only[DX]at h;rcases h with (((((h|h)|h)|h)|h)|h)|h
  .refine Wx h λg pp y ys qq h=>?_
   simp only[An,Ce]at h;obtain⟨⟨h1,h2⟩,h3⟩:=h;obtain⟨s0,e,xm,rfl,m,rfl,s1⟩:=RQ h3;exact iD v h1 h2 (S.es W T X _ _ v h3).2.1 s0 (Vz m _ xm s1)
  .exact nq v h
  .exact k6 S v h
  .exact az S v h
  .exact wY S v h
  .exact br S v h
  .exact dm S v h
 |isi a ks=>
  refine JX h λk' h=>?_
  refine NV h λg pp l qq h=>?_
  refine L4 h λy t h=>?_
  refine KD h λt pt h=>?_
  simp only[An,Ce]at h;obtain⟨⟨⟨⟨⟨rfl,h1⟩,h2⟩,h3⟩,h4⟩,h5⟩:=h;obtain⟨g1,g2,_,_⟩:=ϛ v h1;obtain⟨b1,b2,b3,b4⟩:=ϛ v h3;obtain⟨ty,t1,t2⟩:=iB h2;exact F4 (ir t1 g1 g2 b1 b2 t2 b3 b4 (S.e W T X _ a v h5).st (Ec h4)) (λ_ _=>rfl) rfl rfl
 |idx a i=>
  refine Pp h λy z p h=>?_
  simp only[An]at h;obtain⟨⟨h1,h2⟩,h3⟩:=h;exact F4 (j7 (oV h1) (S.e W T X _ a v h2).st (S.e W T X _ i v h3).st) (λ_ _=>rfl) rfl rfl
 |sl a lo hi=>
  refine Pp h λy s p h=>?_
  refine xT h λl u st p' h=>?_
  replace h:=DS h;obtain⟨h0,h⟩:=h;obtain rfl:=Option.isNone_iff_eq_none.mp h0;simp only[An]at h;obtain⟨⟨h1,h2⟩,h3⟩:=h;refine PK (SC.congr (tm (S.e W T X _ a v h1).st (S.o W T X _ lo v h2) (S.o W T X _ hi v h3)) λY=>?_) (λ_ _=>rfl) rfl
  show ((top Y a (evE J Y a)).bind λx=>(top Y lo (evE J Y lo)).bind λl=>(slE lo l).bind λl'=>(top Y hi (evE J Y hi)).bind λh=>(slE hi h).bind λh'=>Â x l' h')=_
  simp only[R.bind_assoc]
 |H es=>
  refine Po h λys cc p h=>?_
  simp only[An,AN]at h;have q:=S.es W T X _ es v h.1;exact F4 (ie q.1 λY ds z=>by rw[SD J Y _ _ z,<-q.2.2.1];omega) (λ_ _=>rfl) rfl rfl
 |L es=>
  refine xV h λys p h=>?_
  simp only[An,AN]at h;have q:=S.es W T X _ es v h.1;exact PK (gu q.1 λY ds z=>by rw[SD J Y _ _ z,<-q.2.2.1];omega) (λ_ _=>rfl) rfl
 |comp elt t it c=>
  refine Yq (e:=x) (F:=_) (by unfold BE at h;exact h) λy tg it' ifs scope p h=>?_
  refine KD h λw pw h=>?_
  simp only[An]at h;obtain⟨⟨⟨⟨⟨h1,h2⟩,h3⟩,h4⟩,h5⟩,h6⟩:=h;refine Zt v.calm ⟨_,_,_,_,_,_,_,_,_,_,_,_,_,rfl,(TU v h3).1,S.i W T X Ae _ _ it v rfl h1,zO t,λcl C s H fp=>sR (v.blk h3) (λz=>Ce.mpr z) h4,λcl C s H fp=>S.t _ _ _ c (v.blk h3) h5,λcl C s H fp=>(S.e W0 _ _ _ elt (v.blk h3) h6).se,P0 h2,λY=>rfl⟩ (λ_ _=>rfl)
 |compT elt ts it c=>
  refine Yq (e:=x) (F:=_) (by unfold BE at h;exact h) λy tg it' ifs scope p h=>?_
  refine Po h λys cc pw h=>?_
  simp only[An]at h;obtain⟨⟨⟨⟨⟨⟨h0,h1⟩,h2⟩,h3⟩,h4⟩,h5⟩,h6⟩:=h;refine Zt v.calm ⟨_,_,_,_,_,_,_,_,_,_,_,_,_,rfl,(TU v h3).1,S.i W T X Aa _ _ it v rfl h1,oq ts,λcl C s H fp=>sT (v.blk h3) h0 h4,λcl C s H fp=>S.t _ _ _ c (v.blk h3) h5,λcl C s H fp=>(S.e W0 _ _ _ elt (v.blk h3) h6).se,P0 h2,λY=>rfl⟩ (λ_ _=>rfl)
 |tupI it=>
  cases it with
  |zip3 a b c=>
   unfold BE at h;dsimp only at h;cases q:QD x with
   |none=>rw[q]at h;cases h
   |some t=>
    obtain⟨g,f,y1,y2,y3⟩:=t;rw[q]at h;simp only[An,Ce]at h;obtain⟨⟨⟨⟨⟨⟨⟨⟨⟨rfl,rfl⟩,h1⟩,h2⟩,h3⟩,h4⟩,h5⟩,h6⟩,h7⟩,h8⟩:=h;obtain⟨p,p',pos,pos',rfl⟩:=yJ q;obtain⟨g1,g2,_,_⟩:=ϛ v h1;obtain⟨g3,g4,_,_⟩:=ϛ v h2;exact F4 (j8 (S.e W T X _ a v h6).se (S.e W T X _ b v h7).se (S.e W T X _ c v h8).se v.calm g1 g2 g3 g4 (by rw[Ec h3,Ec h4,Ec h5];rfl) (by rw[Ec h4,Ec h5];rfl) (by rw[Ec h5];rfl)) (λ_ _=>rfl) rfl rfl
  |_=>exact J4 h
 |dnew=>exact J4 h
 |fld o f=>exact J4 h
theorem Ϫ:∀ n,è J CL k n
 |0=>oU
 |n+1=>⟨sv (Ϫ n),t5 (Ϫ n),gk (Ϫ n),b8 (Ϫ n),sg (Ϫ n),rl (Ϫ n),sj (Ϫ n)⟩
end
section
variable{J:Y7}{CL:ClA}{k n:Ag}
theorem Xj(v:VX J CL k W T X)(hf:∀ x,X.fn x=Aa)(h:Ì T [t] [x]=Aa):PG X (.Name x pos) (Gg t):=by
 unfold Ì at h;simp only[An,Ce]at h;exact NY (by rw[v.N];exact v.nd) (by rw[v.N];exact h.1.1) (by rw[v.sc];exact Pv h.1.2) (.inl (hf x))
theorem Xk(v:VX J CL k W T X)(hf:∀ x,X.fn x=Aa):∀(ys:Ac Am)(ts:Ac Ag)(zs:Ac Al),GB ys=Ab zs->Ì T ts zs=Aa->ŷ X ys (ts.foldr (λt u=>JF (Gg t) u) JK)/\ts.length=ys.length:=by
 intro ys
 induction ys with
 |nil=>
  intro ts zs e h;cases e;cases ts with
  |nil=>exact⟨W5,rfl⟩
  |cons t ts=>exact BP h
 |cons y r ih=>
  intro ts zs e h;obtain⟨x,p,ws,rfl,e2,rfl⟩:=Rt e;cases ts with
  |nil=>exact BP h
  |cons t ts=>
   have h':(T.N[t]? == Ab x&&LC T x&&Ì T ts ws)=Aa:=h;simp only[An,Ce]at h';obtain⟨h1,h2⟩:=ih ts ws e2 h'.2;exact⟨Wv (NY (by rw[v.N];exact v.nd) (by rw[v.N];exact h'.1.1) (by rw[v.sc];exact Pv h'.1.2) (.inl (hf x))) h1 (by rw[R8];rfl),congrArg (· + 1) h2⟩
theorem sS{kk:Ag}(v:VX J CL k W T X)(hf:∀ x,X.fn x=Aa)(hn:(GB ys).isSome=Aa)(h:Ì T ts (ð ys)=Aa):PG X (.Tuple ys kk pos) (Nq X.K ts.length (ts.foldr (λt u=>JF (Gg t) u) JK)):=by
 cases e:GB ys with
 |none=>rw[e]at hn;cases hn
 |some zs=>
  have e2:ð ys=zs:=by unfold ð;rw[e];rfl
  rw[e2]at h;obtain⟨h1,h2⟩:=Xk v hf ys ts zs e h;obtain⟨h3,h4,_⟩:=Rs (env:=X.env) ys zs e;exact Ti v.calm h1 (by rw[h3,h2]) h4
theorem bu{kk:Ag}(v:VX J CL k W T X)(hf:∀ x,X.fn x=Aa)(hn:(GB ys).isSome=Aa)(h:Ì T ts (ð ys)=Aa):PG X (.Tuple ys kk pos) (gSq X.K ts.length (ts.foldr (λt u=>JF (Gg t) u) JK)):=by
 cases e:GB ys with
 |none=>rw[e]at hn;cases hn
 |some zs=>
  have e2:ð ys=zs:=by unfold ð;rw[e];rfl
  rw[e2]at h;obtain⟨h1,h2⟩:=Xk v hf ys ts zs e h;obtain⟨h3,h4,_⟩:=Rs (env:=X.env) ys zs e;exact u9 v.calm h1 (by rw[h3,h2]) h4
theorem bo{kk:Ag}(h:(Zu e||Fi 4 ys.length)=Aa):Gq [.Tuple ys kk pos] e env=pure Af:=by
 cases e with
 |Tuple vs a b=>
  have h4:=Hu (show Fi 4 ys.length=Aa from h)
  have e2:(ys.length==2)=Ae:=by rw[D4];omega
  have e3:(ys.length==3)=Ae:=by rw[D4];omega
  unfold Gq;dsimp only;rw[e2,e3];rfl
 |_=>rfl
theorem VB(ts:Ac Ag):∀ d Y x,HR ts d Y≠.exn x:=λd Y x h=>by
 unfold HR at h;cases d with
 |H xs=>
  dsimp only at h;cases e:Gc ts xs Y with
  |some r=>rw[e]at h;cases h
  |none=>rw[e]at h;cases h
 |_=>cases h
theorem pP(ts:Ac Ag):∀ d Y x,Mj ts d Y≠.exn x:=λd Y x h=>by
 unfold Mj at h;split at h
 .split at h<;>cases h
 .exact VB ts _ Y x h
theorem oO{l:Ag}:∃ b,EO (.ListComp elt gs scope pos) (Ab (.Name x pos')) l env=pure b/\(b=Aa->env.scope.names.lookup x=Ab .local):=by
 refine⟨_,rfl,λh=>?_⟩
 simp only[An,Ce]at h;exact h.1.1.2
theorem Tj(v:VX J CL k W T X)(hf:∀ x,X.fn x=Aa)(hi:T.N[i]?=Ab x)(hl:LC T x=Aa)(o:Í J CL W X v0 e)(ύ:fr=Aa->E0 J e=Aa):Ũ X CL W fr i (.Assign [.Name x p] v0 pos) (λY=>evE J Y e):=by
 have hN:X.N.Nodup:=by rw[v.N];exact v.nd
 have yp:X.N[i]?=Ab x:=by rw[v.N];exact hi
 have hx:Χ X.env.scope x:=by rw[v.sc];exact Pv hl
 have sc:SC X CL W fr v0 (λY=>evE J Y e):=by
  cases fr with
  |false=>exact o.se.sc
  |true=>exact o.nw (ύ rfl)
 cases hc:M3 v0 with
 |true=>exact SC.sas hN yp hx sc (Xq hc) (.inl (hf x))
 |false=>
  obtain⟨tg,iter,elt,ifs,scope,pos2,N',ts,fi,fc,fe,as,g,rfl,B,h2,Æ,hg,ht,he,hs,ef⟩:=o.cp hc;obtain⟨b,hb,yi⟩:=oO (elt:=elt) (gs:=[⟨tg,iter,ifs,0⟩]) (scope:=scope) (pos:=pos2) (pos':=p) (x:=x) (l:=pos.line) (env:=X.env);cases b with
  |false=>exact SC.sas hN yp hx sc hb (.inl (hf x))
  |true=>
   have q:=qX (pos2:=pos) v.calm B h2 Æ hg ht he hs hN yp (yi rfl) hb;have q':Ũ X CL W Aa i (.Assign [.Name x p] (.ListComp elt [⟨tg,iter,ifs,0⟩] scope pos2) pos) (λY=>evE J Y e):=by
    have:(λY=>evE J Y e)=_:=funext ef
    rw[this];exact q
   cases fr with
   |true=>exact q'
   | false=>exact λA=>PS.weak (q' A) λD Z H ⟨hA,Y,gd,z⟩=>⟨hA,Y,gd,by
     dsimp only at z ⊢;cases e0:evE J Y e with
     |ok d=>
      rw[e0]at z;exact λv' H' s' r'=>z v' H' s' ⟨r'.1,λ_=>r'.2 rfl⟩
     |exn y=>rw[e0]at z;exact z
     | bad=>rw[e0]at z;exact z⟩
theorem SN{l:Ag}(h:∀ x p,t≠.Name x p):Hj [t] e l env=pure Ae:=by
 show EO e (Ab t) l env=pure Ae;cases e<;>first|rfl|(cases t<;>first|rfl|exact absurd rfl (h _ _))
theorem VJ(Y:Rho)(e:E)(h:∀ i,e≠.var i):yh J Y (.ret e)=O.of Y (evE J Y e) λd=>.ret d (E0 J e):=by
 have k:∀ b:Ai,b=Ae->top Y e (evE J Y e)=evE J Y e->(O.of Y (top Y e (evE J Y e)) λd=>.ret d (E0 J e||b))=O.of Y (evE J Y e) λd=>.ret d (E0 J e):=λb hb ht=>by
  rw[hb,ht];simp only[Go]
 rw[ae];cases e with
 |var i=>exact absurd rfl (h i)
 |_=>exact k _ rfl rfl
structure Ϯ (X:Cx):Prop where
 fn:∀ x,X.fn x=Aa
 ex:X.ex=[]
 st:X.stack=X.env::X.outer
 fm:X.env.frame=Ab X.env.locals
structure ς (J:Y7) (CL:ClA) (k:Ag) (n:Ag):Prop where
 s:∀(W:XW)(T:Tc)(X:Cx)(x:A8)(c:S),VX J CL k W T X->Ϯ X->QE n T x c=Aa->SS X CL W x (λY=>yh J Y c)
 ss:∀(W:XW)(T:Tc)(X:Cx)(x:Ac A8)(c:Ss),VX J CL k W T X->Ϯ X->zq n T x c=Aa->Û X CL W x (λY=>Y6 J Y c)
theorem rq(Z_:ς J CL k n)(W:XW)(T:Tc)(X:Cx)(st:A8)(c:S)(v:VX J CL k W T X)(hf:Ϯ X)(h:QE (n+1) T st c=Aa):SS X CL W st (λY=>yh J Y c):=by
  have E:=Ϫ (J:=J) (CL:=CL) (k:=k) n;cases c with
  |pass=>exact absurd (show Ae=Aa from h) A3
  |brk=>exact absurd (show Ae=Aa from h) A3
  |cont=>exact absurd (show Ae=Aa from h) A3
  |asg i fresh e=>
    refine XS h λx px v0 pos h=>?_
    simp only[An,Ce]at h;obtain⟨⟨h1,h2⟩,h3⟩:=h;have o:=E.e W T X _ e v h3;cases fresh with
    |false=>exact YD (Tj (fr:=Ae) v hf.fn h1 h2 o (λz=>nomatch z))
    |true=>
      cases hn:E0 J e with
      |true=>
        refine SS.ref (vL (Tj (fr:=Aa) v hf.fn h1 h2 o (λ_=>hn))) λY=>.inr ?_
        show O.of Y (evE J Y e) (λd=>if Aa=Aa then (if E0 J e=Aa then (match d with
          |.L xs=>.next (Y.set i (Ab (.L xs,Aa)))
          |.dic xs=>.next (Y.set i (Ab (.dic xs,Aa)))
          | _=>.bad) else .bad) else .next (Y.set i (Ab (d,Ae))))=_
        rw[hn];rfl
      |false=>
        refine SS.ref (YD (Tj (fr:=Ae) v hf.fn h1 h2 o (λz=>nomatch z))) λY=>?_
        have e0:yh J Y (.asg i Aa e)=O.of Y (evE J Y e) (λd=>if Aa=Aa then (if E0 J e=Aa then (match d with
          |.L xs=>.next (Y.set i (Ab (.L xs,Aa)))
          |.dic xs=>.next (Y.set i (Ab (.dic xs,Aa)))
          | _=>.bad) else .bad) else .next (Y.set i (Ab (d,Ae)))):=rfl
        rw[e0,hn];cases evE J Y e with
        |ok d=>exact .inl rfl
        |exn y=>exact .inr rfl
        |bad=>exact .inl rfl
  |asgT ts e=>
    refine SY h λt v0 pos h=>?_
    refine Po h λys cc pw h=>?_
    simp only[An]at h;obtain⟨⟨⟨h1,h2⟩,h3⟩,h5⟩:=h;exact vJ (fZ ts) (bu v hf.fn h1 h2) (E.e W T X _ e v h5).se (SN (λ_ _ z=>by cases z)) (bo h3) rfl (pP ts)
  |expr e=>
    refine xX h λv0 pos h=>?_
    simp only[An]at h;exact vH (E.e W T X _ e v h.2).se (Xq h.1)
  |ret e=>
    refine xU h λo pos h=>?_
    cases o with
    |none=>exact J4 h
    |some v0=>
    replace h:BE n T v0 e=Aa:=h;have o:=E.e W T X _ e v h;cases hv:E0 J e with
    |true=>
      refine SS.ref (vG (o.nw hv)) λY=>.inr ?_
      rw[VJ Y e (λi z=>by subst z;cases hv),hv]
    |false=>
      cases e with
      |var i=>
        cases n with
        |zero=>exact J4 h
        |succ n=>
          refine KD h λy py h=>?_
          exact vE (Ϛ v h)
      |_=>
        refine SS.ref (vF o.se) λY=>.inr ?_
        rw[VJ Y _ (by intro i z;cases z),hv]
  |retN=>exact absurd (show Ae=Aa from h) A3
  |ife c a b=>
    refine Yr h λt xs ys pos h=>?_
    simp only[An]at h;exact t7 (E.b W T X _ c v h.1.1) (Z_.ss W T X _ a v hf h.1.2) (Z_.ss W T X _ b v hf h.2)
  |fors t it body=>
    refine SV h λtg it' xs ys pos h=>?_
    replace h:=DS h;obtain⟨hn,h⟩:=h;obtain rfl:=Lq hn;refine KD h λy py h=>?_
    simp only[An]at h;obtain⟨⟨⟨h1,h2⟩,h3⟩,h4⟩:=h;exact YC v.own v.calm (zL t) (Xj v hf.fn h1) (E.i W T X Ae _ _ it v rfl h3) (Z_.ss W T X _ body v hf h4) (P0 h2) (λ_ _ _ z=>nomatch z)
  |forT ts it body=>
    refine SV h λtg it' xs zs pos h=>?_
    replace h:=DS h;obtain⟨hn,h⟩:=h;obtain rfl:=Lq hn;refine Po h λys cc py h=>?_
    simp only[An]at h;obtain⟨⟨⟨⟨h0,h1⟩,h2⟩,h3⟩,h4⟩:=h;exact YC v.own v.calm (Y_6 ts) (sS v hf.fn h0 h1) (E.i W T X Aa _ _ it v rfl h3) (Z_.ss W T X _ body v hf h4) (P0 h2) (VB ts)
  |cnt=>exact J4 h
  |forO i ts body=>exact absurd (show Ae=Aa from h) A3
  |whl c body=>exact absurd (show Ae=Aa from h) A3
  |rais c as=>
    replace h:(!(T.rzs.any λp=>p.2==c))=Aa:=h
    cases hc:T.rzs.any (λp=>p.2==c) with
    |false=>
      have hb:∀ ds,J.xn c ds=.bad:=v.xt.xb c λp hp z=>by
        have:T.rzs.any (λp=>p.2==c)=Aa:=List.any_eq_true.mpr ⟨p,hp,Ce.mpr z⟩
        rw[hc]at this;cases this
      intro Fz B pI s Z H D I ⟨Y,x,p⟩;have p':CH X.K CL Fz B W (O.of Y (â (í J Y as)) λxs=>O.of Y (J.xn c xs) λx=>.exn x Y) D:=p
      cases e1:í J Y as with
      |bad=>rw[e1]at p';exact p'.elim
      |exn y=>rw[e1]at p';exact p'.elim
      |ok ds=>
        rw[e1]at p';have p2:CH X.K CL Fz B W (O.of Y (J.xn c ds) λx=>.exn x Y) D:=p'
        rw[hb ds]at p2;exact p2.elim
    |true=>rw[hc]at h;cases h
  |app i e=>
    refine XQ h λx px m ap l cp pos h2 h=>?_
    refine JX h λv0 h=>?_
    simp only[An,Ce]at h;obtain⟨⟨⟨rfl,h1⟩,h3⟩,h4⟩:=h;exact gr (Ϛ v h1) (E.e W T X _ e v h4).se rfl (by rw[Ec h3];rfl) (by rw[h2];exact Gi _) (Ec h3) rfl
  |ext i e=>
    refine XQ h λx px m ap l cp pos h2 h=>?_
    refine JX h λv0 h=>?_
    simp only[An,Ce]at h;obtain⟨⟨⟨⟨rfl,h1⟩,h3⟩,h5⟩,h4⟩:=h;exact gq (Ϛ v h1) ((E.e W T X _ e v h4).nw (wQ J h5)) rfl (by rw[Ec h3];rfl) (by rw[h2];exact Gi _) (Ec h3) rfl
  |rev i=>exact absurd (show Ae=Aa from h) A3
  |clr i=>exact absurd (show Ae=Aa from h) A3
  |put i k e=>
    refine SY h λt v0 pos h=>?_
    refine Pp h λo y sp h=>?_
    refine KD h λx p h=>?_
    simp only[An]at h;obtain⟨⟨⟨h1,h2⟩,h4⟩,h5⟩:=h;exact gp (Ϛ v h1) (E.e W T X _ k v h4).st (E.e W T X _ e v h5).se (λw=>by cases y<;>first|rfl|exact BP h2) (SN (λ_ _ z=>by cases z)) rfl rfl
  |tryx body c x hh=>exact absurd (show Ae=Aa from h) A3
  |try2 body c x hd c' È els=>exact absurd (show Ae=Aa from h) A3
  |swp i k l=>exact absurd (show Ae=Aa from h) A3
  |apop j i e=>exact absurd (show Ae=Aa from h) A3
  |ins i k e=>exact absurd (show Ae=Aa from h) A3
  |dput=>exact J4 h
  |dsd=>exact J4 h
  |rel=>exact J4 h
theorem sM{c:Ss}(h:LK c=Aa)(Y:Rho):Y6 J Y c=.bad:=by
 cases c with
 |nil=>exact BP h
 |cons s ss=>
  cases s with
  |expr e=>
   cases e with
   |bi b as=>
    cases as with
    |nil=>
     cases b with
     |len=>rfl
     |_=>exact J4 h
    |cons=>cases b<;>exact J4 h
   |_=>exact J4 h
  |_=>exact J4 h
theorem o0{d:Ag}(h:cn1 T d s=Aa):∃ x p p2 q,s=.Assign [.Name x p] (.Dict [] [] p2) q/\T.N[d]?=Ab x/\LC T x=Aa:=by
 refine XS h λx p v q h=>?_
 replace h:=DS h;obtain⟨a1,h⟩:=h;replace h:=DS h;obtain⟨a2,h⟩:=h;replace h:=qA h;obtain⟨p2,rfl⟩:=h;exact⟨x,p,p2,q,rfl,eq_of_beq a1,a2⟩
theorem nv{d:Ag}{k:E}(h:cn2 cs ce T d i t body k s=Aa):∃ x p y q b z r e r2 v r3 r4,s=.For (.Name x p) (.Name y q) (b++[.Assign [.Subscript (.Name z r) e r2] v r3]) [] r4/\Ì T [t] [x]=Aa/\á T y i=Aa/\cs b body=Aa/\á T z d=Aa/\NW e=Aa/\ce e k=Aa/\ce v (.bl Aa)=Aa:=by
 refine SV h λtg it bs ys r4 h=>?_
 replace h:=DS h;obtain⟨b1,h⟩:=h;obtain rfl:=Lq b1;replace h:=DS h;obtain⟨b2,h⟩:=h;refine KD b2 λx p b2=>?_
 replace h:=DS h;obtain⟨b3,h⟩:=h;refine KD b3 λy q b3=>?_
 refine xY h λb st h=>?_
 replace h:=DS h;obtain⟨b4,h⟩:=h;refine SY h λu v r3 h=>?_
 refine Pp h λo e r2 h=>?_
 refine KD h λz r h=>?_
 replace h:=DS h;obtain⟨c1,h⟩:=h;replace h:=DS h;obtain⟨c2,h⟩:=h;exact⟨x,p,y,q,b,z,r,e,r2,v,r3,r4,rfl,b2,b3,b4,c1,c2,DS h⟩
theorem nr{d:Ag}(h:cn3 T d i s=Aa):∃ p y q p2 p3 z r p4 p5 a p6,s=.If (.Compare (.Call (.Name "len" p) [.Name y q] [] p2) [.NotEq] [.Call (.Name "len" p3) [.Name z r] [] p4] p5) a [] p6/\á T y d=Aa/\á T z i=Aa:=by
 refine Yr h λc a e p6 h=>?_
 replace h:=DS h;obtain⟨e1,h⟩:=h;obtain rfl:=Lq e1;refine Ps h λl os cs p5 h=>?_
 replace h:=DS h;obtain⟨e3,h⟩:=h;obtain rfl:=BD e3;refine JX h λm h=>?_
 refine XR h λp y q p2 h=>?_
 replace h:=DS h;obtain⟨e4,h⟩:=h;refine XR h λp3 z r p4 e5=>?_
 exact⟨p,y,q,p2,p3,z,r,p4,p5,a,p6,rfl,e4,e5⟩
theorem yM(Z_:ς J CL k n){xs:Ac A8}{d:Ag}(v:VX J CL k W T X)(hf:Ϯ X)(h:QN (zq n T) (BE n T) T d i t body ke xs ss=Aa):Û X CL W xs (λY=>Y6 J Y (.cons (.cnt d i t body ke) ss)):=by
 refine Sj h λs1 r h=>?_
 refine Sj h λs2 r h=>?_
 refine Sj h λs3 r h=>?_
 replace h:=DS h;obtain⟨h1,h⟩:=h;replace h:=DS h;obtain⟨h2,h⟩:=h;replace h:=DS h;obtain⟨h3,h⟩:=h;replace h:=DS h;obtain⟨h4,h5⟩:=h;obtain⟨_,_,_,_,rfl,a1,a2⟩:=o0 h1;obtain⟨_,_,_,_,_,_,_,y,_,_,_,_,rfl,b2,b3,b4,c1,c2,c3,c4⟩:=nv h2;obtain⟨_,_,_,_,_,_,_,_,_,_,_,rfl,e4,e5⟩:=nr h3;obtain⟨g1,g2,_,_⟩:=ϛ v h4;have S:=Ϫ (J:=J) (CL:=CL) (k:=k) n;exact vD (by rw[v.N];exact v.nd) (by rw[v.N];exact a1) (by rw[v.sc];exact Pv a2) rfl (.inl (hf.fn _)) v.own v.calm (Xj v hf.fn b2) (Ϛ v b3) (Z_.ss W T X _ body v hf b4) (λ_=>rfl) (Ϛ v c1) (S.e W T X _ ke v c3).se (S.e W T X _ (.bl Aa) v c4).se (λw=>by cases y<;>first|rfl|exact BP c2) (SN (λ_ _ z=>by cases z)) rfl rfl v.room.units g1 g2 (Ϛ v e4) (Ϛ v e5) rfl rfl (Z_.ss W T X _ ss v hf h5)
theorem b7(Z_:ς J CL k n)(W:XW)(T:Tc)(X:Cx)(xs:Ac A8)(c:Ss)(v:VX J CL k W T X)(hf:Ϯ X)(h:zq (n+1) T xs c=Aa):Û X CL W xs (λY=>Y6 J Y c):=by
 by_cases hb:LK c=Aa
 .exact λFz B pI s Z H D I ⟨Y,x,p⟩=>by
   dsimp only at p;rw[sM hb]at p;exact p.elim
 have hb:LK c=Ae:=by simpa using hb
 cases c with
 |nil=>
  have h:(xs.isEmpty||LK .nil)=Aa:=h;rw[hb,Go,Jr]at h;subst h;exact vC
 |cons s ss=>
  by_cases hr:∃ i,s=.rel i
  .obtain⟨i,rfl⟩:=hr;have h:(zq n T xs ss||LK (.cons (.rel i) ss))=Aa:=h;rw[hb,Go]at h;exact uZ i (Z_.ss W T X xs ss v hf h)
  .by_cases hc:∃ d i t b k,s=.cnt d i t b k
   .obtain⟨d,i,t,b,k,rfl⟩:=hc;have h:(QN (zq n T) (BE n T) T d i t b k xs ss||LK (.cons (.cnt d i t b k) ss))=Aa:=h;rw[hb,Go]at h;exact yM Z_ v hf h
   have key:∀ xs,zq (n+1) T xs (.cons s ss)=((match xs with|st::r=>QE n T st s&&zq n T r ss | []=>Ae)||LK (.cons s ss)):=λxs=>by
    cases s<;>first|rfl|exact absurd ⟨_,rfl⟩ hr|exact absurd ⟨_,_,_,_,_,rfl⟩ hc
   rw[key,hb,Go]at h;cases xs with
   |nil=>exact BP h
   |cons st r=>exact oR (Z_.s W T X st s v hf (DS h).1) (Z_.ss W T X r ss v hf (DS h).2)
theorem UD:∀ n,ς J CL k n
 |0=>⟨λ_ _ _ _ _ _ _ h=>J4 h,λ_ _ _ _ _ _ _ h=>J4 h⟩
 |n+1=>⟨rq (UD n),b7 (UD n)⟩
end
theorem MC{n:Ag}{i:Ag}(h:(Co n ds)[i]?=Ab (Ab (d,o))):o=Ae/\ds[i]?=Ab d:=by
 unfold Co at h;by_cases hi:i<ds.length
 .rw[Ek (by simpa using hi),EB]at h
  cases e:ds[i]? with
  |none=>rw[e]at h;cases h
  |some x=>rw[e]at h;cases h;exact⟨rfl,rfl⟩
 .rw[C4 (by simpa using Nat.le_of_not_lt hi),aQ]at h
  split at h<;>cases h
theorem nJ{i:Ag}(h:vs[i]?=Ab v):(L2.start N vs)[i]?=Ab (Ab v):=by
 unfold L2.start;have hi:=(Bh.mp h).1;rw[Ek (by simpa using hi),EB,h]
 rfl
theorem oN{n:Ag}(hn:N.length=n)(hA:zw H A)(r:Z9 K CL H A vs ds):Sx K CL ⟨λb o=>H b=Ab o,λ_ _ _=>BR⟩ A (Co n ds) (L2.start N vs) H:=by
 have own:∀ a,Ch A (Co n ds) (L2.start N vs) a->A a:=λa h=>by
  rcases h with h|⟨j,d,h,_⟩
  .exact h
  .exact absurd (MC h).1 (by decide)
 have J2:(Co n ds).length=(L2.start N vs).length:=by
  unfold Co L2.start;simp only[BL,A6,aU,r.length,hn]
 refine⟨⟨λi d h=>?_,λi d h _=>absurd (MC h).1 (by decide),J2⟩,λa h=>hA a (own a h),λj d a h _=>absurd (MC h).1 (by decide),λi j d e a h _ _ _=>absurd (MC h).1 (by decide),λb o h=>h,J2,λj h=>absurd (MC h).1 (by decide)⟩
 obtain⟨v,h1,h2⟩:=r.get (MC h).2;exact⟨v,nJ h1,Y5.sub own _ h2⟩
structure π (K:Fg) (x qual:Al) (st:A8) (f:Ak) (fd:Dm):Prop where
 ex:∃(oc:Aj)(od:Ar Ak)(dV kV doc pm:Aj)(an:Ar Ak)(cdv ct:Aj)(osl:Ax (Ar Aj)),
  fd=EN x qual (L5 st) (JZ st) (JC st) dV kV doc pm an cdv ct/\K.lookup f=Ab ⟨oc,od,.func fd,osl⟩/\GY K cdv qual=Aa
 kp:Ei K (.ref f)=Aa
theorem ZK{st:A8}(F:ġ K x qual st f fd):π K x qual st f fd:=by
 obtain⟨oc,od,kV,doc,pm,an,cdv,ct,osl,e,lk,ó⟩:=F.ex;exact⟨⟨oc,od,.none,kV,doc,pm,an,cdv,ct,osl,e,lk,ó⟩,F.kp⟩
def Nn(K:Fg)(mg:Al->Ar Aj)(fns:Ac (Al×Ag×Ag))(bl:Ac Al)(rzs exs gls:Ac (Al×Ag))(Pg:Prg)(fuel:Ag)(p:Al×Ag×Ag):Prop:=∃ f fd ps qual st N,mg p.1=Ab (.ref f)/\π K p.1 qual st f fd/\Ϡ K fd ps []/\ps.length=p.2.2%1000/\JJ fuel (Fi 1000 p.2.2) fns bl rzs exs gls ps N st (Pg.defs p.2.1)=Aa
structure Ĉ (K:Fg) (mg:Al->Ar Aj) (CL:ClA) (fns:Ac (Al×Ag×Ag)) (bl:Ac Al) (rzs exs gls:Ac (Al×Ag)) (Pg:Prg) (fuel:Ag):Prop where
 xt:XT Pg.up Pg.xn CL rzs exs K mg
 bln:∀ x,x∈bl->mg x=Af
 gl:∀ p∈gls,QU K mg CL p.1 (Pg.G p.2)
 fn:∀ p∈fns,Nn K mg fns bl rzs exs gls Pg fuel p
theorem oz(Pg:Prg)(n i:Ag):(LE Pg n).fr i=(Pg.defs i).fr:=by cases n<;>rfl
def oy(Pg:Prg)(n:Ag):(LE Pg n).up=Pg.up:=by cases n<;>rfl
def gA(Pg:Prg)(n:Ag):(LE Pg n).G=Pg.G:=by cases n<;>rfl
def ox(Pg:Prg)(n:Ag):(LE Pg n).xn=Pg.xn:=by cases n<;>rfl
section
variable{P:AW}{w:AJ}{K:Fg}{base:AO}
def Lvl(P:AW)(w:AJ)(K:Fg)(mg:Al->Ar Aj)(base:AO)(CL:ClA)(Pg:Prg)(n:Ag)(p:Al×Ag×Ag):Prop:=∃ f fd ps,mg p.1=Ab (.ref f)/\Ei K (.ref f)=Aa/\Ϡ K fd ps []/\ps.length=p.2.2%1000/\(p.2.2<1000->y7 P w K mg base (CXR P w) n f fd ps (spD K CL (p.2.2%1000) ((LE Pg n).fr p.2.1) ((LE Pg n).F p.2.1)))/\(1000<=p.2.2->ϲ P w K mg base n f fd ps (spH K CL (p.2.2%1000) ((LE Pg n).fr p.2.1) ((LE Pg n).F p.2.1)))
theorem Zd(t:Ĉ K mg CL fns bl rzs exs gls Pg fuel){n:Ag}(hlv:∀ q∈fns,Lvl P w K mg base CL Pg n q){st:A8}{id:Ag}(h2:π K x qual st f fd)(h4:ps.length=m)(h5:JJ fuel Ae fns bl rzs exs gls ps N st (Pg.defs id)=Aa):y7 P w K mg base (CXR P w) (n+1) f fd ps (spD K CL m ((LE Pg (n+1)).fr id) ((LE Pg (n+1)).F id)):=by
  unfold JJ at h5;simp only[An,Ce,CZ,Cj,DX,Mw,ne_eq]at h5;obtain⟨⟨⟨⟨⟨⟨⟨⟨c1,c2⟩,c3⟩,c4⟩,c5⟩,c6⟩,c7⟩,c8⟩,c9⟩:=h5;obtain⟨oc,od,dV,kV,doc,pm,an,cdv,ct,osl,rfl,lk,ó⟩:=h2.ex;refine gE (N:=N) lk ó ⟨c1,c2,c3,OU c4,c5,c6,c7⟩ (λvs H Q E ⟨ds,A,z,_⟩=>z.trans h4.symm) λA outer s H vs Q E hr ⟨ds,B,hl,hA,Ņ,Id⟩=>?_
  have xt:XT (LE Pg n).up (LE Pg n).xn CL rzs exs K mg:=by rw[oy,ox];exact t.xt
  have gl:∀ p∈gls,QU K mg CL p.1 ((LE Pg n).G p.2):=by rw[gA];exact t.gl
  have key:∀ W:XW,(∀ x cls dx H',W x H'->ϟ K CL H' cls dx x->E cls dx H')->CH K CL ⟨λb o=>H b=Ab o,λ_ _ _=>BR⟩ B W (Y6 (LE Pg n) (Co (Pg.defs id).n ds) (Pg.defs id).body) {nx:=λ_ H'=>Q .O H',rt:=Q} ->
      ∃ t,xk (IY (CXR P w) P w K mg base N qual (JC st) f cdv A outer s H E) (JZ st) t/\t {nx:=λ_ H'=>Q .O H',rt:=Q} (start N vs) H:=λW hW hp=>by
    have v:VX (LE Pg n) CL n W ⟨JC st,N,fns,bl,rzs,exs,gls⟩ (IY (CXR P w) P w K mg base N qual (JC st) f cdv A outer s H E):=⟨rfl,c1,rfl,OU c4,rfl,hr,t.bln,hlv,Ŕ,gG hW,rzR hW,xt,gl⟩;exact⟨_,(UD fuel).ss W _ _ _ (Pg.defs id).body v ⟨λ_=>rfl,rfl,rfl,rfl⟩ c9 ⟨λb o=>H b=Ab o,λ_ _ _=>BR⟩ B,_,oN c8 hA Ņ,hp⟩
  have no:∀ x cls dx H',W0 x H'->ϟ K CL H' cls dx x->E cls dx H':=λ_ _ _ _ z=>z.elim
  have e:(LE Pg (n+1)).F id ds=LG Pg.xs ((Y6 (LE Pg n) (Co (Pg.defs id).n ds) (Pg.defs id).body).ans (Pg.defs id).fr):=rfl;rw[e,oz]at Id;have ë:∀ r:R D,(∀ x,r≠.exn x)->LG Pg.xs r=r:=λr hr=>by
    cases Pg.xs<;>cases r<;>first|rfl|exact absurd rfl (hr _)
  cases eo:Y6 (LE Pg n) (Co (Pg.defs id).n ds) (Pg.defs id).body with
  |next Y'=>
    refine key W0 no ?_;rw[eo]at Id ⊢;cases ef:(Pg.defs id).fr with
    |true=>rw[ef]at Id;rw[ë _ (by intro x z;cases z)]at Id;exact Id.elim
    |false=>
      rw[ef]at Id;rw[ë _ (by intro x z;cases z)]at Id
      exact λZ' H' x'=>Id .O H' (λb o z=>x'.same b o z) ⟨rfl,λz=>nomatch z⟩
  |ret d b=>
    refine key W0 no ?_;rw[eo]at Id ⊢;intro v H' sm rp fr;have xj:(match LG Pg.xs (if ((Pg.defs id).fr&&(!b&&ŋ d))=Aa then R.bad else R.ok d) with
      |.ok d=>∀ v H',AV H H'->Fx K CL (Pg.defs id).fr H B H' v d->Q v H'
      |.exn x=>∀ cls dx H',AV H H'->ϟ K CL H' cls dx x->E cls dx H'
      | .bad=>BR):=Id
    cases ec:((Pg.defs id).fr&&(!b&&ŋ d)) with
    |true=>rw[ec,AB rfl,ë _ (by intro x z;cases z)]at xj;exact xj.elim
    |false=>
      rw[ec,AF (by decide),ë _ (by intro x z;cases z)]at xj
      refine xj v H' sm ⟨rp,λefr es hd=>?_⟩
      subst hd;have eb:b=Aa:=by
        cases b with
        |true=>rfl
        |false=>rw[efr]at ec;cases ec
      obtain⟨a,xs,h1,h2,h3,h4⟩:=fr eb es rfl;refine⟨a,xs,h1,?_,h3,h4⟩;cases ha:H a with
      |none=>rfl
      |some o=>exact absurd ha (h2 o)
  |brk Y'=>rw[eo]at Id;have xj:(match LG Pg.xs (R.bad:R D) with | .ok _=>_ | .exn _=>_ | .bad=>BR):=Id;rw[ë _ (by intro x z;cases z)]at xj;exact xj.elim
  |cont Y'=>rw[eo]at Id;have xj:(match LG Pg.xs (R.bad:R D) with | .ok _=>_ | .exn _=>_ | .bad=>BR):=Id;rw[ë _ (by intro x z;cases z)]at xj;exact xj.elim
  |bad=>rw[eo]at Id;have xj:(match LG Pg.xs (R.bad:R D) with | .ok _=>_ | .exn _=>_ | .bad=>BR):=Id;rw[ë _ (by intro x z;cases z)]at xj;exact xj.elim
  |exn x Y'=>
    rw[eo]at Id;have xj:(match LG Pg.xs (R.exn x:R D) with
      |.ok d=>∀ v H',AV H H'->Fx K CL (Pg.defs id).fr H B H' v d->Q v H'
      |.exn x=>∀ cls dx H',AV H H'->ϟ K CL H' cls dx x->E cls dx H'
      | .bad=>BR):=Id
    cases ex:Pg.xs with
    |false=>rw[ex]at xj;exact xj.elim
    |true=>
      rw[ex]at xj;have hp3:∀ cls dx H',AV H H'->ϟ K CL H' cls dx x->E cls dx H':=xj;refine key (λy H'=>y=x/\AV H H') (λy cls dx H' ⟨e1,sm⟩ xr=>?_) ?_
      · subst e1;exact hp3 cls dx H' sm xr
      · rw[eo];exact λH' sm=>⟨rfl,sm⟩
theorem om(t:Ĉ K mg CL fns bl rzs exs gls Pg fuel){n:Ag}(hlv:∀ q∈fns,Lvl P w K mg base CL Pg n q){st:A8}{id:Ag}(h2:π K x qual st f fd)(h4:ps.length=m)(h5:JJ fuel Aa fns bl rzs exs gls ps N st (Pg.defs id)=Aa):ϲ P w K mg base (n+1) f fd ps (spH K CL m ((LE Pg (n+1)).fr id) ((LE Pg (n+1)).F id)):=by
 exfalso
 unfold JJ at h5;simp[ZG]at h5
theorem Tw(t:Ĉ K mg CL fns bl rzs exs gls Pg fuel):∀ n,∀ p∈fns,Lvl P w K mg base CL Pg n p
 |0,p,hp=>by
  obtain⟨f,fd,ps,qual,st,N,h1,h2,h3,h4,h5⟩:=t.fn p hp;exact⟨f,fd,ps,h1,h2.kp,h3,h4,λ_=>⟨λvs H Q E ⟨ds,A,_,_,_,z⟩=>z.elim,λA outer s H args us vs Q E _ _ _ _ ⟨ds,A,_,_,_,z⟩=>z.elim⟩,λ_=>⟨λvs H Q E ⟨ds,A,_,_,_,z⟩=>z.elim,λA ev outer s H args us vs Q E _ _ _ _ ⟨ds,A,_,_,_,z⟩=>z.elim⟩⟩
 |n+1,p,hp=>by
  obtain⟨f,fd,ps,qual,st,N,h1,h2,h3,h4,h5⟩:=t.fn p hp;refine⟨f,fd,ps,h1,h2.kp,h3,h4,λzd=>?_,λhge=>?_⟩
  .have eb:Fi 1000 p.2.2=Ae:=by
    cases e:Fi 1000 p.2.2 with
    |false=>rfl
    |true=>exact absurd (Hu e) (by omega)
   rw[eb]at h5;exact Zd t (λq hq=>Tw t n q hq) h2 h4 h5
  .rw[bK hge]at h5;exact om t (λq hq=>Tw t n q hq) h2 h4 h5
theorem ni(h:CXR P w [] H s (λ_ _ _=>BR) e s'):BR:=by
 obtain⟨_,_,_,_,_,_,_,_,_,_,_,_,_,_,_,z⟩:=h;exact z
theorem tH(h:∀ c ds,xn c ds=.bad):XT up xn (λ_=>Af) [] [] K mg:=⟨λ_ _ z=>(nomatch z),λ_ z=>(nomatch z),λ_ z=>(nomatch z),λc _ ds z=>.inl (h c ds),λ_ _ z=>(nomatch z),λc _ ds=>h c ds⟩
def Qa(K:Fg):Sp:=λvs H Q _=>∃(a:Ak)(ns:Ac Ad),vs=[.ref a]/\ns.length<=63/\zp K H a (ns.map V.int)/\∀ v H',v=V.bl Aa->Q v H'
theorem xB(G:y7 P w K mg base CX k f fd ps (spD K CL 1 Ae F))(h:∀ ns:Ac Ad,ns.length<=63->F [.L (ns.map .int)]=.ok (.bl Aa)):y7 P w K mg base CX k f fd ps (Qa K):=G.imp λvs H Q E ⟨a,ns,e,hl,hS,q⟩=>by
 subst e;have rs:∀ l:Ac Ad,Z9 K CL H A0 (l.map V.int) (l.map D.int):=λl=>by
  induction l with
  |nil=>trivial
  |cons x l ih=>exact⟨rfl,ih⟩
 refine⟨[.L (ns.map .int)],A0,rfl,λ_ z=>z.elim,⟨⟨a,_,rfl,.inl (λz=>z),hS,rs ns⟩,trivial⟩,?_⟩
 rw[h ns hl];exact λv H' _ r=>q v H' r.1
def aNl{Q:α->Prop}:∀ x∈([]:Ac α),Q x:=λ_ h=>nomatch h
theorem J1{Q:α->Prop}{a:α}{l:Ac α}(h1:Q a)(h2:∀ x∈l,Q x):∀ x∈a::l,Q x:=List.forall_mem_cons.2 ⟨h1,h2⟩
def zy(K:Fg)(f:Ak)(n:Al)(st:A8):Prop:=∃ fd,ġ K n n st f fd/\CG K By n=Ab (Ab (.ref f))
theorem fni{st:A8}{kV:Aj}(a:CG K By n=Ab (Ab (.ref f)))(l:K.lookup f=Ab ⟨oc,od,.func (EN n n (L5 st) (JZ st) (JC st) .none kV doc pm an cdv ct),osl⟩)(c:GY K cdv n=Aa)(k:Ei K (.ref f)=Aa):zy K f n st:=⟨_,pc l c k,a⟩
def Bd(n:Al)(st:A8)(ps:Ac Al)(us:Ac Aj):Prop:=∀(kV doc pm:Aj)(an:Ar Ak)(cdv ct:Aj),NA (EN n n (L5 st) (JZ st) (JC st) .none kV doc pm an cdv ct) ⟨us,[]⟩=pure (ps.zip us)
theorem PD{st:A8}(m id:Ag)(X:K.In h)(G:h.Ns By mg)(A:zy K f n st)(hl:ps.length=m%1000)(hc:JJ fuel (Fi 1000 m) fns bl rzs exs gls ps N st (Pg.defs id)=Aa)(hb:∀ us:Ac Aj,us.length=ps.length->Bd n st ps us):Nn K mg fns bl rzs exs gls Pg fuel (n,id,m):=by
 obtain⟨fd,F,a⟩:=A;exact⟨_,_,_,_,_,_,KY X G a,ZK F,F.binds λkV doc pm an cdv ct us hu=>hb us hu kV doc pm an cdv ct,hl,hc⟩
theorem QC{l:Ac α}(h:l.length=0):l=[]:=List.eq_nil_of_length_eq_zero h
theorem Kd{l:Ac α}{n:Ag}(h:l.length=n+1):∃ a r,l=a::r/\r.length=n:=by
 cases l with
 |nil=>cases h
 |cons a r=>exact⟨a,r,rfl,Jt h⟩
theorem Og{st:A8}(m id:Ag)(X:K.In h)(G:h.Ns By mg)(A:zy K f n st)(hc:JJ fuel (Fi 1000 m) fns bl rzs exs gls [x0] N st (Pg.defs id)=Aa)(hl:1=m%1000:=by rfl)(hb :∀ u0,Bd n st [x0] [u0]:=by exact λ_ _ _ _ _ _ _=>rfl):Nn K mg fns bl rzs exs gls Pg fuel (n,id,m):=
 PD (ps:=[x0]) m id X G A hl hc λus hu=>by obtain⟨u0,v0,rfl,h0⟩:=Kd hu;obtain rfl:=QC h0;exact hb u0
theorem Fq{st:A8}(m id:Ag)(X:K.In h)(G:h.Ns By mg)(A:zy K f n st)(hc:JJ fuel (Fi 1000 m) fns bl rzs exs gls [x0,x1] N st (Pg.defs id)=Aa)(hl:2=m%1000:=by rfl)(hb :∀ u0 u1,Bd n st [x0,x1] [u0,u1]:=by exact λ_ _ _ _ _ _ _ _=>rfl):Nn K mg fns bl rzs exs gls Pg fuel (n,id,m):=
 PD (ps:=[x0,x1]) m id X G A hl hc λus hu=>by obtain⟨u0,v0,rfl,h0⟩:=Kd hu;obtain⟨u1,v1,rfl,h1⟩:=Kd h0;obtain rfl:=QC h1;exact hb u0 u1
theorem Hr{st:A8}(m id:Ag)(X:K.In h)(G:h.Ns By mg)(A:zy K f n st)(hc:JJ fuel (Fi 1000 m) fns bl rzs exs gls [x0,x1,x2] N st (Pg.defs id)=Aa)(hl:3=m%1000:=by rfl)(hb :∀ u0 u1 u2,Bd n st [x0,x1,x2] [u0,u1,u2]:=by exact λ_ _ _ _ _ _ _ _ _=>rfl):Nn K mg fns bl rzs exs gls Pg fuel (n,id,m):=
 PD (ps:=[x0,x1,x2]) m id X G A hl hc λus hu=>by obtain⟨u0,v0,rfl,h0⟩:=Kd hu;obtain⟨u1,v1,rfl,h1⟩:=Kd h0;obtain⟨u2,v2,rfl,h2⟩:=Kd h1;obtain rfl:=QC h2;exact hb u0 u1 u2
theorem kH{st:A8}(m id:Ag)(X:K.In h)(G:h.Ns By mg)(A:zy K f n st)(hc:JJ fuel (Fi 1000 m) fns bl rzs exs gls [x0,x1,x2,x3] N st (Pg.defs id)=Aa)(hl:4=m%1000:=by rfl)(hb :∀ u0 u1 u2 u3,Bd n st [x0,x1,x2,x3] [u0,u1,u2,u3]:=by exact λ_ _ _ _ _ _ _ _ _ _=>rfl):Nn K mg fns bl rzs exs gls Pg fuel (n,id,m):=
 PD (ps:=[x0,x1,x2,x3]) m id X G A hl hc λus hu=>by obtain⟨u0,v0,rfl,h0⟩:=Kd hu;obtain⟨u1,v1,rfl,h1⟩:=Kd h0;obtain⟨u2,v2,rfl,h2⟩:=Kd h1;obtain⟨u3,v3,rfl,h3⟩:=Kd h2;obtain rfl:=QC h3;exact hb u0 u1 u2 u3
end
end Ov
namespace OvC
open PySem Ov
variable{k:Ad}{xs:Ac Ad}{n:Ag}{α:Type}
def Sd:Df:=⟨4,Ae,{.ret (.call 1 {.var 0,.B .Add (.B .Sub (.B .Mult (.idx (.var 1) (.int 0)) (.B .Sub (.B .Mult (.idx (.var 2) (.int 1)) (.idx (.var 3) (.int 2))) (.B .Mult (.idx (.var 2) (.int 2)) (.idx (.var 3) (.int 1))))) (.B .Mult (.idx (.var 1) (.int 1)) (.B .Sub (.B .Mult (.idx (.var 2) (.int 0)) (.idx (.var 3) (.int 2))) (.B .Mult (.idx (.var 2) (.int 2)) (.idx (.var 3) (.int 0)))))) (.B .Mult (.idx (.var 1) (.int 2)) (.B .Sub (.B .Mult (.idx (.var 2) (.int 0)) (.idx (.var 3) (.int 1))) (.B .Mult (.idx (.var 2) (.int 1)) (.idx (.var 3) (.int 0)))))})}⟩
noncomputable abbrev tr(a b c:Ad):D:=.H [.int a,.int b,.int c]
def zj(a0 a1 a2 b0 b1 b2 c0 c1 c2:Ad):Ad:=a0*(b1*c2-b2*c1)-a1*(b0*c2-b2*c0)+a2*(b0*c1-b1*c0)
def g30(x y z:D):Dz [x,y,z] 0=.ok x:=rfl
def g31(x y z:D):Dz [x,y,z] 1=.ok y:=rfl
def g32(x y z:D):Dz [x,y,z] 2=.ok z:=rfl
def iM(q:Ad)(h:x=y+p*q):x%p=y%p:=by rw[h,Z_8]
theorem Vx(I:Rho->Prop)(g:Ad->Ai):∀(L:Ac Ad),(∀ t∈L,∀ Y,I Y->(g t=Aa/\body (.int t) Y=.ret (.int t) Ae)\/(g t=Ae/\∃ Y',body (.int t) Y=.next Y'/\I Y'))->∀ Y,I Y->(∃ t∈L,g t=Aa/\DG body (L.map D.int) Y=.ret (.int t) Ae)\/((∀ t∈L,g t=Ae)/\∃ Y',DG body (L.map D.int) Y=.next Y'/\I Y')
 |[],_,Y,i=>.inr ⟨(λ_ h=>nomatch h),Y,rfl,i⟩
 |m::L,h,Y,i=>by
  rcases h m (Av ..) Y i with ⟨e1,e2⟩|⟨e1,Y',e2,i'⟩
  .refine .inl ⟨m,Av ..,e1,?_⟩;show (body (.int m) Y).turn _=_;rw[e2];rfl
  .rcases Vx I g L (λm' h'=>h m' (As _ h')) Y' i' with ⟨t,ht,a,b⟩|⟨a,r,b,c⟩
   .refine .inl ⟨t,As _ ht,a,?_⟩;show (body (.int m) Y).turn _=_;rw[e2];exact b
   .refine .inr ⟨λt ht=>?_,r,?_,c⟩
    .rcases Ay.mp ht with rfl|ht
     .exact e1
     .exact a t ht
    .show (body (.int m) Y).turn _=_;rw[e2];exact b
def MA:Ss:={.ife (.cmp .Eq (.call 1 {.var 0,.B .Mult (.var 1) (.var 2)}) (.int 1)) {.ret (.var 2)} .nil}
def OD:Df:=⟨3,Ae,{.fors 2 (.rng2 (.int 1) (.var 0)) MA,.rais 2 {.str (Do "a number with the rest 0 is not turned over")}}⟩
def H9(p:Ad):Ac Ad:=(B5 (p-1).toNat).map fun(k:Ag)=>1+(k:Ad)
theorem MS:t∈H9 p↔1<=t/\t<p:=by
 unfold H9;rw[Bp];constructor
 .rintro⟨k,hk,rfl⟩;have:=Dl.mp hk;omega
 .rintro⟨h1,h2⟩;exact⟨(t-1).toNat,Dl.mpr (by omega),by omega⟩
theorem Wt(h:P4 p):D8 1 p=.ok ((H9 p).map D.int):=by
 rcases h with rfl|rfl|rfl|rfl<;>rfl
theorem wG:∀ p:Fin 12,(p.val=3\/p.val=5\/p.val=7\/p.val=11)->∀ r:Fin 12,r.val<p.val->r.val≠0->∃ t:Fin 12,1<=t.val/\t.val<p.val/\r.val*t.val%p.val=1:=by decide+kernel
theorem JD{n:Ad}(h:P4 p)(hn:n%p≠0):∃ t,1<=t/\t<p/\n*t%p=1:=by
 have p0:0<p/\p<12:=by rcases h with rfl|rfl|rfl|rfl<;>decide
 obtain⟨q,rfl⟩:∃ q:Ag,p=q:=⟨p.toNat,by lia⟩
 have h0:=A4 n (b:=(q:Ad)) (by lia)
 have h1:=AY n p0.1;obtain⟨r,hr⟩:∃ r:Ag,n%(q:Ad)=r:=⟨(n%(q:Ad)).toNat,by lia⟩
 obtain⟨t,t1,t2,t3⟩:=wG ⟨q,by lia⟩ (by rcases h with e|e|e|e<;>simp<;>lia) ⟨r,by lia⟩ (by show r<q;lia) (by show r≠0;lia)
 refine⟨(t.val:Ad),by lia,by show (t.val:Ad)<q;exact Int.ofNat_lt.mpr t2,?_⟩
 have e:((r*t.val%q:Ag):Ad)=1:=by rw[show r*t.val%q=1 from t3];rfl
 rw[<-e,Int.natCast_emod,Int.natCast_mul,<-hr];exact(Bu n _ _).trans (by rw[Bu (n%(q:Ad)) (t.val:Ad) (q:Ad),A7 n (BX _)])
def ER(p n t:Ad):Prop:=1<=t/\t<p/\n*t%p=1
theorem V7{n:Ad}(h1:ER p n t)(h2:ER p n u):t=u:=by
 have hp:1<p:=by have:=h1.1;have:=h1.2.1;lia
 have e:t%p=u%p:=by
  have a:t%p=t*(n*u)%p:=by rw[Bu,h2.2.2,Gr,A7 _ (BX p)]
  have b:u%p=(n*t)*u%p:=by rw[Bu (n*t) u p,h1.2.2,Da,A7 _ (BX p)]
  rw[a,b]
  congr 1
  rw[<-Gp,BF t n]
 rwa [AZ (by have:=h1.1;lia) h1.2.1,AZ (by have:=h2.1;lia) h2.2.1]at e
theorem Ck(hp:P4 p)(hc:c%p≠0)(hx:x%p≠0):c*x%p≠0:=λz=>by
 obtain⟨t,_,_,e⟩:=JD hp hc;refine hx ?_;have e1:x%p=(c*t)*x%p:=by rw[Bu (c*t) x p,e,Da,A7 _ (BX p)]
 rw[e1,show c*t*x=t*(c*x) by rw[BF c t,Gp],Bu,z,Fj,BQ]
noncomputable def Bg(p:Ad):Ac Ad->Ar Ad
 |[]=>Af
 |x::xs=>if x%p=0 then Bg p xs else Ab (x%p)
theorem MJ:∀{xs:Ac Ad},Bg p xs=Af↔∀ x∈xs,x%p=0
 |[]=>by simp[Bg]
 |x::xs=>by
  unfold Bg;by_cases h:x%p=0
  .rw[AB h,MJ (xs:=xs)];simp[h]
  .rw[AF h];simp[h]
theorem KG(hp:0<p):∀{xs:Ac Ad},Bg p xs=Ab l->l%p≠0/\0<l/\l<p
 |[],h=>by cases h
 |x::xs,h=>by
  unfold Bg at h;by_cases hx:x%p=0
  .rw[AB hx]at h;exact KG hp h
  .rw[AF hx]at h;cases h;have h0:=A4 x (b:=p) (by lia)
   have h1:=AY x hp;exact⟨by rw[A7 _ (BX p)];exact hx,by lia,h1⟩
theorem LZ(hp:P4 p)(hc:c%p≠0)(hf:∀ x,f x%p=c*x%p):∀ xs:Ac Ad,Bg p (xs.map f)=(Bg p xs).map λl=>c*l%p
 |[]=>rfl
 |x::xs=>by
  rw[BG];unfold Bg;rw[hf x];by_cases hx:x%p=0
  .rw[AB hx,AB (by rw[Bu,hx,Fj,BQ]),LZ hp hc hf xs]
  .rw[AF hx,AF (Ck hp hc hx),FJ]
   congr 1
   rw[Bu c (x%p),A7 _ (BX p),<-Bu]
noncomputable def ds(xs:Ac Ad):Ac D:=xs.map D.int
def Ep(b:Ai)(xs:Ac Ad):D:=if b=Aa then .H (ds xs) else .L (ds xs)
theorem VC(b xs):Db (Ep b xs)=.ok (ds xs):=by unfold Ep;cases b<;>rfl
theorem ML:∀(xs:Ac Ad),(∀ x∈xs,g (.int x)=.ok Aa/\f (.int x)=.ok (.int (φ x)))->B7 g f (ds xs)=.ok (ds (xs.map φ))
 |[],_=>rfl
 |x::xs,h=>by
  obtain⟨h1,h2⟩:=h x (Av ..);show (g (.int x)).bind _=_;rw[h1,R.bind_ok,AB rfl,h2,R.bind_ok];show (B7 g f (ds xs)).bind _=_;rw[ML xs λy hy=>h y (As _ hy)]
  rfl
def Cv:E:=(.bl Aa)
def Rm:E:=(.call 1 {.var 0,.var 5})
def Rl:E:=(.call 1 {.var 0,.B .Mult (.var 4) (.var 6)})
def Jz:Ss:={.ife (.cmp .NotEq (.var 3) (.int 0)) {.asg 4 Ae (.call 9 {.var 0,.var 3}),.ret (.bi .tuple {.comp Rl 6 (.e (.var 2)) Cv})} .nil}
def O2:Df:=⟨7,Ae,{.asg 2 Ae (.comp Rm 5 (.e (.var 1)) Cv),.fors 3 (.e (.var 2)) Jz,.rais 3 {.str (Do "all the numbers have the rest 0")}}⟩
def am(p t:Ad)(xs:Ac Ad):Ac Ad:=xs.map λx=>t*(x%p)%p
theorem OP:∀(xs:Ac Ad),(∀ x∈xs,g (.int x)=.ok (q x)/\f (.int x)=.ok (.int x))->B7 g f (ds xs)=.ok (ds (xs.filter q))
 |[],_=>rfl
 |x::xs,h=>by
  obtain⟨h1,h2⟩:=h x (Av ..);have ih:=OP xs λy hy=>h y (As _ hy)
  show (g (.int x)).bind _=_;rw[h1,R.bind_ok];cases hq:q x with
  |true=>
   rw[AB rfl,h2,R.bind_ok,EE,hq,AB rfl];show (B7 g f (ds xs)).bind _=_;rw[ih];rfl
  |false=>
   rw[AF (by decide),EE,hq,AF (by decide)]
   exact ih
theorem Vj(hp:0<p):∀(xs:Ac Ad),((xs.map λx=>x%p).filter λr=>decide (0<r)).head?=Bg p xs
 |[]=>rfl
 |x::xs=>by
  have h0:=A4 x (b:=p) (by lia)
  unfold Bg;rw[BG,EE];by_cases h:x%p=0
  .rw[AB h,AF (by simp[h]),Vj hp xs]
  .rw[AF h,AB (by simp;lia)]
   rfl
theorem lZ(it:ER p l t):((H9 p).filter λk=>decide (k*l%p=1)).head?=Ab t:=by
 have hm:t∈(H9 p).filter λk=>decide (k*l%p=1):=AH.mpr ⟨MS.mpr ⟨it.1,it.2.1⟩,by simp[BF t l,it.2.2]⟩
 cases e:(H9 p).filter λk=>decide (k*l%p=1) with
 |nil=>rw[e]at hm;cases hm
 |cons u us=>
  have hu:u∈(H9 p).filter λk=>decide (k*l%p=1):=by rw[e];exact Av ..
  obtain⟨h1,h2⟩:=AH.mp hu;obtain⟨a,b⟩:=MS.mp h1;have h3:u*l%p=1:=by simpa using h2
  rw[V7 it ⟨a,b,by rw[BF];exact h3⟩]
  rfl
theorem RM(h:xs.head?=Ab l):Dz (ds xs) 0=.ok (.int l):=by
 cases xs with
 |nil=>cases h
 |cons x xs=>cases h;exact Sr (by lia) rfl
theorem TD:∀ xs:Ac Ad,OV (ds xs) (ds xs)=Aa
 |[]=>rfl
 |x::xs=>by
  show (Y0 (.int x) (.int x)&&OV (ds xs) (ds xs))=Aa;rw[TD xs];simp
theorem WX:∀ xs:Ac Ad,Ir (xs.map λ_=>D.bl Aa)=.ok Aa
 |[]=>rfl
 |x::xs=>by
  rw[BG,RX,WX xs];rfl
theorem Xr:∀(xs:Ac Ad),(∀ x∈xs,g (.int x)=.ok Aa/\f (.int x)=.ok (.bl Aa))->B7 g f (ds xs)=.ok (xs.map λ_=>D.bl Aa)
 |[],_=>rfl
 |x::xs,h=>by
  obtain⟨h1,h2⟩:=h x (Av ..);show (g (.int x)).bind _=_;rw[h1,R.bind_ok,AB rfl,h2,R.bind_ok];show (B7 g f (ds xs)).bind _=_;rw[Xr xs λy hy=>h y (As _ hy)]
  rfl
abbrev own(xs:Ac Ad):Sl:=Ab (.L (ds xs),Aa)
theorem qQ(hp:P4 p)(hc:c%p≠0)(hl:l%p≠0)(it:ER p l t)(hf:∀ x,f x%p=c*x%p)(xs:Ac Ad):∃ u,ER p (c*l%p) u/\am p u (xs.map f)=am p t xs:=by
 have h1:(c*l%p)%p≠0:=by rw[A7 _ (BX p)];exact Ck hp hc hl
 obtain⟨u,u1,u2,u3⟩:=JD hp h1;refine⟨u,⟨u1,u2,u3⟩,?_⟩;unfold am;rw[CF];refine DY λx _=>?_
 show u*(f x%p)%p=t*(x%p)%p;have u4:c*l*u%p=1:=by rw[<-u3,Bu (c*l%p) u p,A7 _ (BX p),<-Bu]
 have e1:u*(f x%p)%p=u*(c*x)%p:=by rw[hf,Bu u (c*x%p) p,A7 _ (BX p),<-Bu]
 have e2:t*(x%p)%p=t*x%p:=by rw[Bu t (x%p) p,A7 _ (BX p),<-Bu]
 have e3:u*(c*x)%p=(l*t)*(u*(c*x))%p:=by rw[Bu (l*t) _ p,it.2.2,Da,A7 _ (BX p)]
 have e4:t*x%p=(c*l*u)*(t*x)%p:=by rw[Bu (c*l*u) _ p,u4,Da,A7 _ (BX p)]
 rw[e1,e2,e3,e4]
 congr 1
 grind
def Cg(p x y:Ad):Prop:=x%p=y%p
theorem Cg.rfl:Cg p a a:=Eq.refl _
def Cg.of(h:a=b):Cg p a b:=by unfold Cg;rw[h]
def Cg.trans(h:Cg p a b)(g:Cg p b c):Cg p a c:=Eq.trans h g
def Cg.symm(h:Cg p a b):Cg p b a:=Os h
theorem Cg.add(h:Cg p a b)(g:Cg p c d):Cg p (a+c) (b+d):=by unfold Cg at *;rw[Z_7,h,g,<-Z_7]
theorem Cg.sub(h:Cg p a b)(g:Cg p c d):Cg p (a-c) (b-d):=by unfold Cg at *;rw[aG,h,g,<-aG]
theorem Cg.mul(h:Cg p a b)(g:Cg p c d):Cg p (a*c) (b*d):=by unfold Cg at *;rw[Bu,h,g,<-Bu]
def Cg.md(h:a=b%p):Cg p a b:=by unfold Cg;rw[h,A7 _ (BX p)]
theorem Cg.far(q:Ad)(h:a=b+p*q):Cg p a b:=iM q h
theorem KJ(h0:Cg p a0 x0)(h1:Cg p a1 x1)(h2:Cg p a2 x2)(h3:Cg p b0 y0)(h4:Cg p b1 y1)(h5:Cg p b2 y2)(h6:Cg p c0 z0)(h7:Cg p c1 z1)(h8:Cg p c2 z2):Cg p (a0*(b1*c2-b2*c1)-a1*(b0*c2-b2*c0)+a2*(b0*c1-b1*c0)) (x0*(y1*z2-y2*z1)-x1*(y0*z2-y2*z0)+x2*(y0*z1-y1*z0)):=
 ((h0.mul ((h4.mul h8).sub (h5.mul h7))).sub (h1.mul ((h3.mul h8).sub (h5.mul h6)))).add (h2.mul ((h3.mul h7).sub (h4.mul h6)))
theorem P4.m1(h:P4 p):(-1:Ad)%p≠0:=by rcases h with rfl|rfl|rfl|rfl<;>decide
theorem P4.o1(h:P4 p):(1:Ad)%p≠0:=by rcases h with rfl|rfl|rfl|rfl<;>decide
abbrev R3:=Ad×Ad×Ad
variable{a:R3}
noncomputable def Dq(a:R3):D:=.L [.int a.1,.int a.2.1,.int a.2.2]
def Ao(a b c:R3):Ad:=zj a.1 a.2.1 a.2.2 b.1 b.2.1 b.2.2 c.1 c.2.1 c.2.2
def Y9(p:Ad)(a:R3):Prop:=(0<=a.1/\a.1<p)/\(0<=a.2.1/\a.2.1<p)/\(0<=a.2.2/\a.2.2<p)
structure Y8 (p:Ad) (a b c:R3):Prop where
 p4:P4 p
 ia:Y9 p a
 ib:Y9 p b
 ic:Y9 p c
 nz:Ao a b c%p≠0
theorem Y8.of{a:R3}(h:Y8 p a b c)(hk:k%p≠0)(e:Cg p (Ao a' b' c') (k*Ao a b c))(hin:Y9 p a'/\Y9 p b'/\Y9 p c'):Y8 p a' b' c':=⟨h.p4,hin.1,hin.2.1,hin.2.2,by rw[show Ao a' b' c'%p=_ from e];exact Ck h.p4 hk h.nz⟩
def QM(t:Ad)(a:R3):R3:=(a.1*t,a.2.1*t,a.2.2*t)
def Ix(t:Ad)(a b:R3):R3:=(a.1+t*b.1,a.2.1+t*b.2.1,a.2.2+t*b.2.2)
def LT(p:Ad)(a:R3):R3:=(a.1%p,a.2.1%p,a.2.2%p)
def Ĝ(p t:Ad)(a:R3):R3:=LT p (QM t a)
def τ(p t:Ad)(a b:R3):R3:=LT p (Ix t a b)
theorem Zx(h:0<p)(a:R3):Y9 p (LT p a):=⟨⟨A4 _ (by lia),AY _ h⟩,⟨A4 _ (by lia),AY _ h⟩,⟨A4 _ (by lia),AY _ h⟩⟩
def w5(h:0<p)(t:Ad)(a:R3):Y9 p (Ĝ p t a):=Zx h _
def Ni(h:0<p)(t:Ad)(a b:R3):Y9 p (τ p t a b):=Zx h _
theorem jI(p t:Ad)(a b c:R3):Cg p (Ao (Ĝ p t a) b c) (t*Ao a b c):=by
 refine Cg.trans (b:=Ao (QM t a) b c) ?_ (Cg.of (by unfold Ao zj QM;grind))
 unfold Ao zj;exact KJ (Cg.md (by rfl)) (Cg.md (by rfl)) (Cg.md (by rfl)) Cg.rfl Cg.rfl Cg.rfl Cg.rfl Cg.rfl Cg.rfl
theorem iA(p t:Ad)(a b c:R3):Cg p (Ao (τ p t a b) b c) (1*Ao a b c):=by
 refine Cg.trans (b:=Ao (Ix t a b) b c) ?_ (Cg.of (by unfold Ao zj Ix;grind))
 unfold Ao zj;exact KJ (Cg.md (by rfl)) (Cg.md (by rfl)) (Cg.md (by rfl)) Cg.rfl Cg.rfl Cg.rfl Cg.rfl Cg.rfl Cg.rfl
theorem hZ(p t:Ad)(a b c:R3):Cg p (Ao (τ p t a c) b c) (1*Ao a b c):=by
 refine Cg.trans (b:=Ao (Ix t a c) b c) ?_ (Cg.of (by unfold Ao zj Ix;grind))
 unfold Ao zj;exact KJ (Cg.md (by rfl)) (Cg.md (by rfl)) (Cg.md (by rfl)) Cg.rfl Cg.rfl Cg.rfl Cg.rfl Cg.rfl Cg.rfl
theorem hV(p t:Ad)(a b c:R3):Cg p (Ao a (τ p t b a) c) (1*Ao a b c):=by
 refine Cg.trans (b:=Ao a (Ix t b a) c) ?_ (Cg.of (by unfold Ao zj Ix;grind))
 unfold Ao zj;exact KJ Cg.rfl Cg.rfl Cg.rfl (Cg.md (by rfl)) (Cg.md (by rfl)) (Cg.md (by rfl)) Cg.rfl Cg.rfl Cg.rfl
theorem iQ(p t:Ad)(a b c:R3):Cg p (Ao a (τ p t b c) c) (1*Ao a b c):=by
 refine Cg.trans (b:=Ao a (Ix t b c) c) ?_ (Cg.of (by unfold Ao zj Ix;grind))
 unfold Ao zj;exact KJ Cg.rfl Cg.rfl Cg.rfl (Cg.md (by rfl)) (Cg.md (by rfl)) (Cg.md (by rfl)) Cg.rfl Cg.rfl Cg.rfl
theorem iP(p t:Ad)(a b c:R3):Cg p (Ao a b (τ p t c a)) (1*Ao a b c):=by
 refine Cg.trans (b:=Ao a b (Ix t c a)) ?_ (Cg.of (by unfold Ao zj Ix;grind))
 unfold Ao zj;exact KJ Cg.rfl Cg.rfl Cg.rfl Cg.rfl Cg.rfl Cg.rfl (Cg.md (by rfl)) (Cg.md (by rfl)) (Cg.md (by rfl))
theorem iO(p t:Ad)(a b c:R3):Cg p (Ao a b (τ p t c b)) (1*Ao a b c):=by
 refine Cg.trans (b:=Ao a b (Ix t c b)) ?_ (Cg.of (by unfold Ao zj Ix;grind))
 unfold Ao zj;exact KJ Cg.rfl Cg.rfl Cg.rfl Cg.rfl Cg.rfl Cg.rfl (Cg.md (by rfl)) (Cg.md (by rfl)) (Cg.md (by rfl))
theorem zP{ns:Ac Ad}(h0:0<=k)(h1:k<ns.length):Dz (ns.map D.int) k=.ok (.int (ns.getD k.toNat 0)):=Sr h0 (by
 have:k.toNat<ns.length:=by omega
 simp[this])
abbrev Ŕ(a b c:R3):Sl:=Ab (.L [Dq a,Dq b,Dq c],Aa)
def CY(a b c:R3):D:=.L [Dq a,Dq b,Dq c]
noncomputable def Q6:E:=(.B .Mod (.var 5) (.var 0))
noncomputable def QZ:E:=(.cmp .Gt (.var 6) (.int 0))
def Q5:E:=(.var 6)
noncomputable def QY:E:=(.cmp .Eq (.B .Mod (.B .Mult (.var 7) (.var 3)) (.var 0)) (.int 1))
def Q4:E:=(.var 7)
noncomputable def Q1:E:=(.B .Mod (.B .Mult (.var 8) (.var 4)) (.var 0))
def Rn:Df:=⟨9,Ae,{.asg 2 Ae (.comp Q6 5 (.e (.var 1)) Cv),.asg 3 Ae (.idx (.comp Q5 6 (.e (.var 2)) QZ) (.int 0)),.asg 4 Ae (.idx (.comp Q4 7 (.rng2 (.int 1) (.var 0)) QY) (.int 0)),.ret (.bi .tuple {.comp Q1 8 (.e (.var 2)) Cv})}⟩
theorem uK(J:Y7)(hp:P4 p)(e:Bg p xs=Ab l)(it:ER p l t):Rn.run J [.int p,Ep b xs]=.ok (.H (ds (am p t xs))):=by
 have p0:=hp.pos;have ph:=hp.hi;have c1:B7 (cG J [si p,sh (Ep b xs),Af,Af,Af,Af,Af,Af,Af] 5 Cv) (cF J [si p,sh (Ep b xs),Af,Af,Af,Af,Af,Af,Af] 5 Q6) (ds xs)=.ok (ds (xs.map λx=>x%p)):=by
  refine ML xs λx _=>⟨rfl,?_⟩
  simp[cF,Q6,p0]
 generalize hR:(xs.map λx=>x%p)=rs at c1
 have c2:B7 (cG J [si p,sh (Ep b xs),sh (.L (ds rs)),Af,Af,Af,Af,Af,Af] 6 QZ) (cF J [si p,sh (Ep b xs),sh (.L (ds rs)),Af,Af,Af,Af,Af,Af] 6 Q5) (ds rs)=.ok (ds (rs.filter λr=>decide (0<r))):=by
  refine OP rs λx _=>⟨?_,?_⟩
  .simp[cG,QZ]
  .simp[cF,Q5]
 have hl:=Vj p0 xs;rw[hR,e]at hl;generalize hL:(rs.filter λr=>decide (0<r))=ls at c2 hl
 have g0:=RM hl;obtain⟨_,l0,l1⟩:=KG p0 e;have c3:B7 (cG J [si p,sh (Ep b xs),sh (.L (ds rs)),si l,Af,Af,Af,Af,Af] 7 QY) (cF J [si p,sh (Ep b xs),sh (.L (ds rs)),si l,Af,Af,Af,Af,Af] 7 Q4) (ds (H9 p))=.ok (ds ((H9 p).filter λk=>decide (k*l%p=1))):=by
  refine OP (H9 p) λx hx=>⟨?_,?_⟩
  .obtain⟨x1,x2⟩:=MS.mp hx;have m:Ew x l=Aa:=JA (by lia) (by lia)
   simp[cG,QY,m,p0];rw[ET];simp
  .simp[cF,Q4]
 have g1:=RM (lZ it);have c4:B7 (cG J [si p,sh (Ep b xs),sh (.L (ds rs)),si l,si t,Af,Af,Af,Af] 8 Cv) (cF J [si p,sh (Ep b xs),sh (.L (ds rs)),si l,si t,Af,Af,Af,Af] 8 Q1) (ds rs)=.ok (ds (rs.map λr=>t*r%p)):=by
  refine ML rs λx _=>⟨rfl,?_⟩
  have m:Ew x t=Aa:=Pt (by have:=it.1;lia) (by have:=it.2.1;lia)
  simp[cF,Q1,m,p0,BF]
 have ru:D8 1 p=.ok (ds (H9 p)):=Wt hp;have fe:am p t xs=rs.map λr=>t*r%p:=by rw[<-hR];simp[am,CF,IZ]
 simp[Rn,Df.run,Co,VC,c1,c2,g0,ru,c3,g1,c4,fe]
def nine(a b c:R3):Ac Ad:=[a.1,a.2.1,a.2.2,b.1,b.2.1,b.2.2,c.1,c.2.1,c.2.2]
noncomputable def yf(a:R3):D:=.H [.int a.1,.int a.2.1,.int a.2.2]
def B8(a b c:R3):D:=.H [yf a,yf b,yf c]
def Z0(p t:Ad)(a:R3):R3:=(t*(a.1%p)%p,t*(a.2.1%p)%p,t*(a.2.2%p)%p)
theorem Tb(p t:Ad)(a b c:R3):am p t (nine a b c)=nine (Z0 p t a) (Z0 p t b) (Z0 p t c):=rfl
theorem OW{a:R3}(h:Ao a b c%p≠0):∃ l,Bg p (nine a b c)=Ab l:=by
 cases e:Bg p (nine a b c) with
 |some l=>exact⟨l,rfl⟩
 |none=>
  refine absurd ?_ h;have z:=MJ.mp e;have q:∀ x∈nine a b c,Cg p x 0:=λx hx=>by
   have:=z x hx;show x%p=0%p;rw[this];simp
  have:=KJ (p:=p) (q a.1 (by simp[nine])) (q a.2.1 (by simp[nine])) (q a.2.2 (by simp[nine])) (q b.1 (by simp[nine])) (q b.2.1 (by simp[nine])) (q b.2.2 (by simp[nine])) (q c.1 (by simp[nine])) (q c.2.1 (by simp[nine])) (q c.2.2 (by simp[nine]))
  have e2:Ao a b c%p=(0*(0*0-0*0)-0*(0*0-0*0)+0*(0*0-0*0))%p:=this;rw[e2];simp
theorem U0(a b c:R3):Â (.H (ds (nine a b c))) Af (Ab 3)=.ok (yf a)/\Â (.H (ds (nine a b c))) (Ab 3) (Ab 6)=.ok (yf b)/\Â (.H (ds (nine a b c))) (Ab 6) Af=.ok (yf c):=⟨rfl,rfl,rfl⟩
theorem WY(a b c:R3):Ey .Add (Dq a) (Dq b)=.ok (.L [.int a.1,.int a.2.1,.int a.2.2,.int b.1,.int b.2.1,.int b.2.2])/\Ey .Add (.L [.int a.1,.int a.2.1,.int a.2.2,.int b.1,.int b.2.1,.int b.2.2]) (Dq c)=.ok (.L (ds (nine a b c))):=⟨rfl,rfl⟩
def Bd(n:Ag)(x:Ad):Prop:=x.natAbs<2 ^ n
theorem Bd.mul(h:Bd m x)(g:Bd n y):Bd (m+n) (x*y):=by
 unfold Bd at *;rw[Int.natAbs_mul,Nat.pow_add];exact Nat.mul_lt_mul'' h g
theorem Bd.sub(h:Bd n x)(g:Bd n y):Bd (n+1) (x-y):=by
 unfold Bd at *;rw[Nat.pow_succ];omega
theorem KM(h:Bd m x)(g:Bd n y)(hm:m<=2000)(hn:n<=2000):GD x y=Aa:=by
 unfold GD Bd at *;rw[An,AN,AN];exact⟨AS h (Fa (by decide) hm),AS g (Fa (by decide) hn)⟩
def B3(a:R3):Prop:=Bd 300 a.1/\Bd 300 a.2.1/\Bd 300 a.2.2
def Ap(q:Ai)(a:R3):D:=Ep q [a.1,a.2.1,a.2.2]
theorem Fw(q:Ai)(a:R3):Cw (Ap q a) (.int 0)=.ok (.int a.1)/\Cw (Ap q a) (.int 1)=.ok (.int a.2.1)/\Cw (Ap q a) (.int 2)=.ok (.int a.2.2):=by cases q<;>exact⟨rfl,rfl,rfl⟩
def NZ(J:Y7):Prop:=∀(p:Ad)(q:Ai)(a b c:R3),0<p->B3 a->B3 b->B3 c->J.F 61 [.int p,Ap q a,Ap q b,Ap q c]=.ok (.int (Ao a b c%p))
theorem uH(h:Lw J)(p:Ad)(q:Ai)(a b c:R3)(hp:0<p)(ha:B3 a)(hb:B3 b)(hc:B3 c):Sd.run J [.int p,Ap q a,Ap q b,Ap q c]=.ok (.int (Ao a b c%p)):=by
 obtain⟨a0,a1,a2⟩:=Fw q a;obtain⟨b0,b1,b2⟩:=Fw q b;obtain⟨c0,c1,c2⟩:=Fw q c;have k:∀ {x y},Bd 300 x->Bd 300 y->GD x y=Aa:=λhx hy=>KM hx hy (by decide) (by decide)
 have k2:∀ {x y z u v},Bd 300 x->Bd 300 y->Bd 300 z->Bd 300 u->Bd 300 v->GD x (y*z-u*v)=Aa:=λhx hy hz hu hv=>KM hx ((hy.mul hz).sub (hu.mul hv)) (by decide) (by decide)
 simp[Sd,Df.run,Co,a0,a1,a2,b0,b1,b2,c0,c1,c2,k hb.2.1 hc.2.2,k hb.2.2 hc.2.1,k hb.1 hc.2.2,k hb.2.2 hc.1,k hb.1 hc.2.1,k hb.2.1 hc.1,k2 ha.1 hb.2.1 hc.2.2 hb.2.2 hc.2.1,k2 ha.2.1 hb.1 hc.2.2 hb.2.2 hc.1,k2 ha.2.2 hb.1 hc.2.1 hb.2.1 hc.1,h p _ hp];rfl
def RU:Df:=⟨3,Ae,{.ife (.cmp .Eq (.call 61 {.var 0,.idx (.var 1) (.int 0),.idx (.var 1) (.int 1),.idx (.var 1) (.int 2)}) (.int 0)) {.rais 4 {.str (Do "the measure of the rows is 0")}} .nil,.asg 2 Ae (.call 17 {.var 0,.B .Add (.B .Add (.bi .list {.idx (.var 1) (.int 0)}) (.bi .list {.idx (.var 1) (.int 1)})) (.bi .list {.idx (.var 1) (.int 2)})}),.ret (.H {.sl (.var 2) .O (.int 3),.sl (.var 2) (.int 3) (.int 6),.sl (.var 2) (.int 6) .O})}⟩
theorem jz(q:Ai)(a:R3):zc .list [Ap q a]=.ok (Dq a):=by cases q<;>rfl
theorem O1:∀{xs ys:Ac Ad},xs.map (λx=>x%p)=ys.map (λx=>x%p)->Bg p xs=Bg p ys
 |[],[],_=>rfl
 |x::xs,y::ys,h=>by
  rw[BG,BG,GE]at h;unfold Bg;rw[h.1,O1 h.2]
 |[],_::_,h=>by simp at h
 |_::_,[],h=>by simp at h
theorem Wo(h:xs.map (λx=>x%p)=ys.map (λx=>x%p)):am p t xs=am p t ys:=by
 have e:∀ zs:Ac Ad,am p t zs=(zs.map λx=>x%p).map λr=>t*r%p:=λzs=>by simp[am,CF,IZ]
 rw[e,e,h]
theorem qO{a:R3}(h:nine a b c=nine a' b' c'):a=a'/\b=b'/\c=c':=by
 unfold nine at h;simp only[GE,and_true]at h;obtain⟨h1,h2,h3,h4,h5,h6,h7,h8,h9⟩:=h;exact⟨BJ h1 (BJ h2 h3),BJ h4 (BJ h5 h6),BJ h7 (BJ h8 h9)⟩
theorem Iq(hp:0<p)(t:Ad)(a:R3):Y9 p (Z0 p t a):=⟨⟨A4 _ (by lia),AY _ hp⟩,⟨A4 _ (by lia),AY _ hp⟩,⟨A4 _ (by lia),AY _ hp⟩⟩
theorem Y_7(a b c:R3):Tm 5 (B8 a b c)=Aa/\Y0 (B8 a b c) (B8 a b c)=Aa:=by
 refine⟨rfl,?_⟩;show (OV (ds [a.1,a.2.1,a.2.2]) (ds [a.1,a.2.1,a.2.2])&&(OV (ds [b.1,b.2.1,b.2.2]) (ds [b.1,b.2.1,b.2.2])&&(OV (ds [c.1,c.2.1,c.2.2]) (ds [c.1,c.2.1,c.2.2])&&Aa)))=Aa;simp only[TD,Bool.and_self]
def Sg(J:Y7):Prop:=∀ p n:Ad,P4 p->n%p≠0->∃ t,1<=t/\t<p/\n*t%p=1/\J.F 9 [.int p,.int n]=.ok (.int t)
def Pk(J:Y7):Prop:=∀(p:Ad)(b:Ai)(xs:Ac Ad)(l t:Ad),P4 p->Bg p xs=Ab l->ER p l t->J.F 17 [.int p,Ep b xs]=.ok (.H (ds (am p t xs)))
theorem mU(hr:Lw J)(p n:Ad)(hp:P4 p)(z:n%p≠0):∃ t,1<=t/\t<p/\n*t%p=1/\OD.run J [.int p,.int n]=.ok (.int t):=by
 have p0:=hp.pos;have ph:=hp.hi;have body:∀ t∈H9 p,∀ Y,(∃ s,Y=[si p,si n,s])->(decide (n*t%p=1)=Aa/\CI J 2 MA (.int t) Y=.ret (.int t) Ae)\/(decide (n*t%p=1)=Ae/\∃ Y',CI J 2 MA (.int t) Y=.next Y'/\∃ s,Y'=[si p,si n,s]):=by
  rintro t ht Y ⟨s,rfl⟩;obtain⟨t1,t2⟩:=MS.mp ht;have m:Ew n t=Aa:=Pt (by lia) (by lia)
  by_cases e:n*t%p=1
  .exact .inl ⟨by simp[e],by simp[CI,MA,hr p (n*t) p0,m,e]⟩
  .exact .inr ⟨by simp[e],_,by simp[CI,MA,hr p (n*t) p0,m,e];rfl,_,rfl⟩
 have run:∀ o,DG (CI J 2 MA) ((H9 p).map D.int) [si p,si n,Af]=o->OD.run J [.int p,.int n]=(HX J (.cons (.rais 2 (.cons (.str (Do "a number with the rest 0 is not turned over")) .nil)) .nil) o).ans Ae:=by
  rintro o rfl;simp[OD,Df.run,Co,Wt hp]
 rcases Vx (λY=>∃ s,Y=[si p,si n,s]) (λt=>decide (n*t%p=1)) (H9 p) body [si p,si n,Af] ⟨_,rfl⟩ with ⟨t,ht,a,b⟩|⟨a,r,b,s,rfl⟩
 .obtain⟨t1,t2⟩:=MS.mp ht;have a':n*t%p=1:=by simpa using a
  exact⟨t,t1,t2,a',by rw[run _ b];rfl⟩
 .obtain⟨t,t1,t2,e⟩:=JD hp z;have:=a t (MS.mpr ⟨t1,t2⟩);simp[e]at this
section
variable{xs:Ac Ad}{b:Ai}
theorem Wz(hr:Lw J)(ht:Sg J)(hp:P4 p)(rs:Ac Ad):∀(ys:Ac Ad),(∀ y∈ys,0<=y/\y<p)->∀ s3,(Bg p ys=Af->∃ s3',DG (CI J 3 Jz) (ds ys) [si p,sh (Ep b xs),sh (.L (ds rs)),s3,Af,Af,Af]=.next [si p,sh (Ep b xs),sh (.L (ds rs)),s3',Af,Af,Af])/\(∀ l t,Bg p ys=Ab l->ER p l t->DG (CI J 3 Jz) (ds ys) [si p,sh (Ep b xs),sh (.L (ds rs)),s3,Af,Af,Af]=.ret (.H (ds (rs.map λr=>t*r%p))) Ae)
 |[],_,s3=>⟨λ_=>⟨s3,rfl⟩,(λl t h=>nomatch h)⟩
 |y::ys,hy,s3=>by
  obtain⟨y0,y1⟩:=hy y (Av ..);have ym:y%p=y:=AZ y0 y1;have ih:=Wz hr ht hp rs ys (λz hz=>hy z (As _ hz)) (si y)
  have step:∀ o,CI J 3 Jz (.int y) [si p,sh (Ep b xs),sh (.L (ds rs)),s3,Af,Af,Af]=o->DG (CI J 3 Jz) (ds (y::ys)) [si p,sh (Ep b xs),sh (.L (ds rs)),s3,Af,Af,Af]=o.turn (DG (CI J 3 Jz) (ds ys)):=by
   rintro o rfl;rfl
  unfold Bg;rw[ym];by_cases hz:y=0
  .have e:CI J 3 Jz (.int y) [si p,sh (Ep b xs),sh (.L (ds rs)),s3,Af,Af,Af]=.next [si p,sh (Ep b xs),sh (.L (ds rs)),si y,Af,Af,Af]:=by
    simp[CI,Jz,hz]
   rw[AB hz,step _ e];exact ih
  .rw[AF hz];refine⟨(λz=>nomatch z),λl t e it=>?_⟩
   cases e;obtain⟨u,u1,u2,u3,u4⟩:=ht p y hp (by rw[ym];exact hz)
   have:t=u:=V7 it ⟨u1,u2,u3⟩;subst this;have p0:=hp.pos;have ph:=hp.hi;have cp:B7 (cG J [si p,sh (Ep b xs),sh (.L (ds rs)),si y,si t,Af,Af] 6 Cv) (cF J [si p,sh (Ep b xs),sh (.L (ds rs)),si y,si t,Af,Af] 6 Rl) (ds rs)=.ok (ds (rs.map λr=>t*r%p)):=by
    refine ML rs λr _=>⟨rfl,?_⟩
    have m:Ew t r=Aa:=JA (by lia) (by lia)
    simp[cF,Rl,m,hr p (t*r) p0]
   have e:CI J 3 Jz (.int y) [si p,sh (Ep b xs),sh (.L (ds rs)),s3,Af,Af,Af]=.ret (.H (ds (rs.map λr=>t*r%p))) Ae:=by
    simp[CI,Jz,hz,u4,cp]
   rw[step _ e];rfl
theorem uJ(hr:Lw J)(ht:Sg J)(hp:P4 p)(e:Bg p xs=Ab l)(it:ER p l t):O2.run J [.int p,Ep b xs]=.ok (.H (ds (am p t xs))):=by
 have p0:=hp.pos;have cp:B7 (cG J [si p,sh (Ep b xs),Af,Af,Af,Af,Af] 5 Cv) (cF J [si p,sh (Ep b xs),Af,Af,Af,Af,Af] 5 Rm) (ds xs)=.ok (ds (xs.map λx=>x%p)):=by
  refine ML xs λx _=>⟨rfl,?_⟩
  simp[cF,Rm,hr p x p0]
 have run:∀ o,DG (CI J 3 Jz) (ds (xs.map λx=>x%p)) [si p,sh (Ep b xs),sh (.L (ds (xs.map λx=>x%p))),Af,Af,Af,Af]=o->O2.run J [.int p,Ep b xs]=(HX J (.cons (.rais 3 (.cons (.str (Do "all the numbers have the rest 0")) .nil)) .nil) o).ans Ae:=by
  rintro o rfl;simp[O2,Df.run,Co,VC,cp]
 have le:Bg p (xs.map λx=>x%p)=Bg p xs:=by
  have:=LZ (c:=1) hp (by rcases hp with rfl|rfl|rfl|rfl<;>decide) (f:=λx=>x%p) (λx=>by rw[Da,A7 _ (BX p)]) xs
  rw[this];cases e:Bg p xs with
  |none=>rfl
  |some l=>
   obtain⟨_,l0,l1⟩:=KG p0 e;simp[AZ (Int.le_of_lt l0) l1]
 obtain⟨a,c⟩:=Wz (b:=b) (xs:=xs) hr ht hp (xs.map λx=>x%p) (xs.map λx=>x%p) (λy hy=>by
  obtain⟨x,_,rfl⟩:=Bp.mp hy;exact⟨A4 _ (by lia),AY _ p0⟩) Af
 rw[le]at a c;rw[run _ (c l t e it)];simp[am,CF,IZ]
end
def BY(t q:Ai)(a b c:R3):D:=if t=Aa then .H [Ap q a,Ap q b,Ap q c] else .L [Ap q a,Ap q b,Ap q c]
theorem Oi(t q:Ai)(a b c:R3):Cw (BY t q a b c) (.int 0)=.ok (Ap q a)/\Cw (BY t q a b c) (.int 1)=.ok (Ap q b)/\Cw (BY t q a b c) (.int 2)=.ok (Ap q c):=by cases t<;>exact⟨rfl,rfl,rfl⟩
theorem PZ(q:Ai)(a:R3):Db (Ap q a)=.ok [.int a.1,.int a.2.1,.int a.2.2]:=by cases q<;>rfl
theorem UC(t q:Ai)(a b c:R3):Db (BY t q a b c)=.ok [Ap q a,Ap q b,Ap q c]:=by cases t<;>rfl
def Bf(a b c:R3):R3:=(a.1,b.1,c.1)
def Bb(a b c:R3):R3:=(a.2.1,b.2.1,c.2.1)
def Ba(a b c:R3):R3:=(a.2.2,b.2.2,c.2.2)
def Sf:Df:=⟨1,Ae,{.ret (.tupI (.zip3 (.idx (.var 0) (.int 0)) (.idx (.var 0) (.int 1)) (.idx (.var 0) (.int 2))))}⟩
def P9(J:Y7):Prop:=∀(t q:Ai)(a b c:R3),J.F 104 [BY t q a b c]=.ok (BY Aa Aa (Bf a b c) (Bb a b c) (Ba a b c))
theorem gh(J:Y7)(t q:Ai)(a b c:R3):Sf.run J [BY t q a b c]=.ok (BY Aa Aa (Bf a b c) (Bb a b c) (Ba a b c)):=by
 obtain⟨r0,r1,r2⟩:=Oi t q a b c;have z:Nj (Ap q a) (Ap q b) (Ap q c)=.ok [Ap Aa (Bf a b c),Ap Aa (Bb a b c),Ap Aa (Ba a b c)]:=by
  unfold Nj;rw[PZ,PZ,PZ];rfl
 simp[Sf,Df.run,Co,r0,r1,r2,z];rfl
def AI(a x:R3):Ad:=a.1*x.1+a.2.1*x.2.1+a.2.2*x.2.2
def OA:E:=(.call 1 {.var 0,.B .Add (.B .Add (.B .Mult (.idx (.var 3) (.int 0)) (.idx (.var 2) (.int 0))) (.B .Mult (.idx (.var 3) (.int 1)) (.idx (.var 2) (.int 1)))) (.B .Mult (.idx (.var 3) (.int 2)) (.idx (.var 2) (.int 2)))})
def Sc:Df:=⟨4,Ae,{.ret (.bi .tuple {.comp OA 3 (.e (.var 1)) Cv})}⟩
def TY(J:Y7):Prop:=∀(p:Ad)(t q q':Ai)(a b c x:R3),0<p->B3 a->B3 b->B3 c->B3 x->J.F 91 [.int p,BY t q a b c,Ap q' x]=.ok (Ap Aa (AI a x%p,AI b x%p,AI c x%p))
theorem fq(h:Lw J)(p:Ad)(t q q':Ai)(a b c x:R3)(hp:0<p)(ha:B3 a)(hb:B3 b)(hc:B3 c)(hx:B3 x):Sc.run J [.int p,BY t q a b c,Ap q' x]=.ok (Ap Aa (AI a x%p,AI b x%p,AI c x%p)):=by
 obtain⟨x0,x1,x2⟩:=Fw q' x;have k:∀ {u v},Bd 300 u->Bd 300 v->GD u v=Aa:=λhu hv=>KM hu hv (by decide) (by decide)
 have key:∀ r:R3,B3 r->cF J [si p,sh (BY t q a b c),sh (Ap q' x),Af] 3 OA (Ap q r)=.ok (.int (AI r x%p)):=λr hr=>by
  obtain⟨y0,y1,y2⟩:=Fw q r;simp[cF,OA,x0,x1,x2,y0,y1,y2,k hr.1 hx.1,k hr.2.1 hx.2.1,k hr.2.2 hx.2.2,h p _ hp];rfl
 have g:∀ r,cG J [si p,sh (BY t q a b c),sh (Ap q' x),Af] 3 Cv r=.ok Aa:=λ_=>rfl
 have cp:B7 (cG J [si p,sh (BY t q a b c),sh (Ap q' x),Af] 3 Cv) (cF J [si p,sh (BY t q a b c),sh (Ap q' x),Af] 3 OA) [Ap q a,Ap q b,Ap q c]=.ok [.int (AI a x%p),.int (AI b x%p),.int (AI c x%p)]:=by
  simp[B7,g,key a ha,key b hb,key c hc]
 simp[Sc,Df.run,Co,UC,cp];rfl
def crs(a b:R3):R3:=(a.2.1*b.2.2-a.2.2*b.2.1,a.2.2*b.1-a.1*b.2.2,a.1*b.2.1-a.2.1*b.1)
theorem XG:∀ xs ys:Ac Ad,OV (ds xs) (ds ys)=decide (xs=ys)
 |[],[]=>rfl
 |[],_::_=>rfl
 |_::_,[]=>rfl
 |x::xs,y::ys=>by
  show ((x==y)&&OV (ds xs) (ds ys))=_;rw[XG xs ys,ET];simp
theorem Lu(a b:R3):Y0 (Ap Aa a) (Ap Aa b)=decide (a=b):=by
 show OV (ds [a.1,a.2.1,a.2.2]) (ds [b.1,b.2.1,b.2.2])=_;rw[XG,ET];simp only[GE,and_true,AN];exact⟨λ⟨h1,h2,h3⟩=>by obtain⟨a1,a2,a3⟩:=a;obtain⟨b1,b2,b3⟩:=b;simp at h1 h2 h3;rw[h1,h2,h3],λh=>by rw[h];exact⟨rfl,rfl,rfl⟩⟩
def X5(J:Y7):Prop:=∀ a b:R3,B3 a->B3 b->a≠b->J.F 23 [Ap Aa a,Ap Aa b]=.ok (Ap Aa (crs a b))
def RB:Df:=⟨1,Ae,{.ret (.H {.call 23 {.idx (.var 0) (.int 1),.idx (.var 0) (.int 2)},.call 23 {.idx (.var 0) (.int 2),.idx (.var 0) (.int 0)},.call 23 {.idx (.var 0) (.int 0),.idx (.var 0) (.int 1)}})}⟩
def Ym(J:Y7):Prop:=∀ a b c:R3,B3 a->B3 b->B3 c->a≠b->b≠c->c≠a->J.F 98 [BY Aa Aa a b c]=.ok (BY Aa Aa (crs b c) (crs c a) (crs a b))
theorem uP(h:X5 J)(a b c:R3)(ha:B3 a)(hb:B3 b)(hc:B3 c)(n1:a≠b)(n2:b≠c)(n3:c≠a):RB.run J [BY Aa Aa a b c]=.ok (BY Aa Aa (crs b c) (crs c a) (crs a b)):=by
 obtain⟨r0,r1,r2⟩:=Oi Aa Aa a b c;simp[RB,Df.run,Co,r0,r1,r2,h b c hb hc n2,h c a hc ha n3,h a b ha hb n1];rfl
def N4(J:Y7):Prop:=∀(p:Ad)(t q:Ai)(a b c:R3),P4 p->B3 a->B3 b->B3 c->Ao a b c%p≠0->∀ l u,Bg p (nine a b c)=Ab l->ER p l u->J.F 78 [.int p,BY t q a b c]=.ok (B8 (Z0 p u a) (Z0 p u b) (Z0 p u c))
theorem fg(hm:NZ J)(hf:Pk J)(p:Ad)(t q:Ai)(a b c:R3)(hp:P4 p)(ha:B3 a)(hb:B3 b)(hc:B3 c)(z:Ao a b c%p≠0)(l u:Ad)(e:Bg p (nine a b c)=Ab l)(it:ER p l u):RU.run J [.int p,BY t q a b c]=.ok (B8 (Z0 p u a) (Z0 p u b) (Z0 p u c)):=by
 obtain⟨r0,r1,r2⟩:=Oi t q a b c;have m:=hm p q a b c hp.pos ha hb hc;have f:=hf p Ae (nine a b c) l u hp e it;rw[Tb]at f;have f':J.F 17 [.int p,.L (ds (nine a b c))]=.ok (.H (ds (nine (Z0 p u a) (Z0 p u b) (Z0 p u c)))):=f;obtain⟨x1,x2⟩:=WY a b c;obtain⟨y1,y2,y3⟩:=U0 (Z0 p u a) (Z0 p u b) (Z0 p u c);simp[RU,Df.run,Co,r0,r1,r2,m,z,jz,x1,x2,f',y1,y2,y3,slE];rfl
def Rg:Df:=⟨2,Ae,{.ret (.call 78 {.var 0,.call 104 {.call 98 {.var 1}}})}⟩
def bk0(a b c:R3):R3:=Bf (crs b c) (crs c a) (crs a b)
def bk1(a b c:R3):R3:=Bb (crs b c) (crs c a) (crs a b)
def bk2(a b c:R3):R3:=Ba (crs b c) (crs c a) (crs a b)
def TL(J:Y7):Prop:=∀(p:Ad)(a b c:R3),P4 p->Y9 p a->Y9 p b->Y9 p c->Ao a b c%p≠0->∀ l u,Bg p (nine (bk0 a b c) (bk1 a b c) (bk2 a b c))=Ab l->ER p l u->J.F 106 [.int p,B8 a b c]=.ok (B8 (Z0 p u (bk0 a b c)) (Z0 p u (bk1 a b c)) (Z0 p u (bk2 a b c)))
theorem Mh(hp:P4 p)(h0:0<=x)(h1:x<p):Bd 10 x:=by
 unfold Bd;have:=hp.hi
 lia
theorem Bd.mono(h:Bd m x)(hm:m<=n):Bd n x:=AS h (Fa (by decide) hm)
def Bn(n:Ag)(a:R3):Prop:=Bd n a.1/\Bd n a.2.1/\Bd n a.2.2
theorem Bn.b3(h:Bn n a)(hn:n<=300):B3 a:=⟨h.1.mono hn,h.2.1.mono hn,h.2.2.mono hn⟩
theorem Dy(hp:P4 p)(h:Y9 p a):Bn 10 a:=⟨Mh hp h.1.1 h.1.2,Mh hp h.2.1.1 h.2.1.2,Mh hp h.2.2.1 h.2.2.2⟩
theorem Ut{a:R3}(ha:Bn n a)(hb:Bn n b):Bn (n+n+1) (crs a b):=
 ⟨(ha.2.1.mul hb.2.2).sub (ha.2.2.mul hb.2.1),(ha.2.2.mul hb.1).sub (ha.1.mul hb.2.2),(ha.1.mul hb.2.1).sub (ha.2.1.mul hb.1)⟩
theorem Uu{a:R3}(ha:Bn n a)(hb:Bn n b)(hc:Bn n c):Bn n (Bf a b c)/\Bn n (Bb a b c)/\Bn n (Ba a b c):=⟨⟨ha.1,hb.1,hc.1⟩,⟨ha.2.1,hb.2.1,hc.2.1⟩,⟨ha.2.2,hb.2.2,hc.2.2⟩⟩
theorem nh{a:R3}(z:Ao a b c%p≠0):a≠b/\b≠c/\c≠a:=by
 refine⟨λe=>z ?_,λe=>z ?_,λe=>z ?_⟩
 .subst e;rw[show Ao a a c=0 by unfold Ao zj;grind,BQ]
 .subst e;rw[show Ao a b b=0 by unfold Ao zj;grind,BQ]
 .subst e;rw[show Ao c b c=0 by unfold Ao zj;grind,BQ]
theorem Zg(a b c:R3):Ao (bk0 a b c) (bk1 a b c) (bk2 a b c)=Ao a b c*Ao a b c:=by
 unfold Ao zj bk0 bk1 bk2 Bf Bb Ba crs;grind
theorem HW{a:R3}(hp:P4 p)(z:Ao a b c%p≠0):Ao (bk0 a b c) (bk1 a b c) (bk2 a b c)%p≠0:=by
 rw[Zg];exact Ck hp z z
theorem cu(h1:Ym J)(h2:P9 J)(h3:N4 J)(p:Ad)(a b c:R3)(hp:P4 p)(ha:Y9 p a)(hb:Y9 p b)(hc:Y9 p c)(z:Ao a b c%p≠0)(l u:Ad)(e:Bg p (nine (bk0 a b c) (bk1 a b c) (bk2 a b c))=Ab l)(it:ER p l u):Rg.run J [.int p,B8 a b c]=.ok (B8 (Z0 p u (bk0 a b c)) (Z0 p u (bk1 a b c)) (Z0 p u (bk2 a b c))):=by
 have ba:=Dy hp ha;have bb:=Dy hp hb;have bc:=Dy hp hc;obtain⟨n1,n2,n3⟩:=nh z;have e1:J.F 98 [B8 a b c]=.ok (BY Aa Aa (crs b c) (crs c a) (crs a b)):=h1 a b c (ba.b3 (by decide)) (bb.b3 (by decide)) (bc.b3 (by decide)) n1 n2 n3
 have e2:=h2 Aa Aa (crs b c) (crs c a) (crs a b);obtain⟨c0,c1,c2⟩:=Uu (Ut bb bc) (Ut bc ba) (Ut ba bb);have z2:=HW hp z;have e3:J.F 78 [.int p,BY Aa Aa (Bf (crs b c) (crs c a) (crs a b)) (Bb (crs b c) (crs c a) (crs a b)) (Ba (crs b c) (crs c a) (crs a b))]=.ok (B8 (Z0 p u (bk0 a b c)) (Z0 p u (bk1 a b c)) (Z0 p u (bk2 a b c))):=h3 p Aa Aa _ _ _ hp (c0.b3 (by decide)) (c1.b3 (by decide)) (c2.b3 (by decide)) z2 l u e it
 simp[Rg,Df.run,Co,e1,e2,e3]
def Ty(p:Ad)(x a b c:R3):R3:=(AI (Bf a b c) x%p,AI (Bb a b c) x%p,AI (Ba a b c) x%p)
def O3:E:=(.call 91 {.var 0,.var 3,.var 4})
def SJ:Df:=⟨5,Ae,{.asg 3 Ae (.call 104 {.var 2}),.ret (.call 78 {.var 0,.comp O3 4 (.e (.var 1)) Cv})}⟩
def X6(J:Y7):Prop:=∀(p:Ad)(x y z a b c:R3),P4 p->Y9 p x->Y9 p y->Y9 p z->Y9 p a->Y9 p b->Y9 p c->Ao (Ty p x a b c) (Ty p y a b c) (Ty p z a b c)%p≠0->∀ l u,Bg p (nine (Ty p x a b c) (Ty p y a b c) (Ty p z a b c))=Ab l->ER p l u ->
 J.F 105 [.int p,B8 x y z,B8 a b c]=.ok (B8 (Z0 p u (Ty p x a b c)) (Z0 p u (Ty p y a b c)) (Z0 p u (Ty p z a b c)))
theorem Ng(hp:0<p)(x a b c:R3):Y9 p (Ty p x a b c):=⟨⟨A4 _ (by lia),AY _ hp⟩,⟨A4 _ (by lia),AY _ hp⟩,⟨A4 _ (by lia),AY _ hp⟩⟩
theorem uS(h2:P9 J)(hs:TY J)(h3:N4 J)(p:Ad)(x y z a b c:R3)(hp:P4 p)(hx:Y9 p x)(hy:Y9 p y)(hz:Y9 p z)(ha:Y9 p a)(hb:Y9 p b)(hc:Y9 p c)(nz:Ao (Ty p x a b c) (Ty p y a b c) (Ty p z a b c)%p≠0)(l u:Ad)(e:Bg p (nine (Ty p x a b c) (Ty p y a b c) (Ty p z a b c))=Ab l)(it:ER p l u):SJ.run J [.int p,B8 x y z,B8 a b c]=.ok (B8 (Z0 p u (Ty p x a b c)) (Z0 p u (Ty p y a b c)) (Z0 p u (Ty p z a b c))):=by
 have p0:=hp.pos;have e1:J.F 104 [B8 a b c]=.ok (BY Aa Aa (Bf a b c) (Bb a b c) (Ba a b c)):=h2 Aa Aa a b c;obtain⟨c0,c1,c2⟩:=Uu (Dy hp ha) (Dy hp hb) (Dy hp hc);have es:∀ r:R3,Y9 p r->J.F 91 [.int p,BY Aa Aa (Bf a b c) (Bb a b c) (Ba a b c),Ap Aa r]=.ok (Ap Aa (Ty p r a b c)):=λr hr=>hs p Aa Aa Aa _ _ _ r p0 (c0.b3 (by decide)) (c1.b3 (by decide)) (c2.b3 (by decide)) ((Dy hp hr).b3 (by decide))
 have key:∀ r:R3,Y9 p r->cF J [si p,sh (B8 x y z),sh (B8 a b c),sh (BY Aa Aa (Bf a b c) (Bb a b c) (Ba a b c)),Af] 4 O3 (Ap Aa r)=.ok (Ap Aa (Ty p r a b c)):=λr hr=>by
  simp[cF,O3,es r hr]
 have g:∀ r,cG J [si p,sh (B8 x y z),sh (B8 a b c),sh (BY Aa Aa (Bf a b c) (Bb a b c) (Ba a b c)),Af] 4 Cv r=.ok Aa:=λ_=>rfl
 have sq:Db (B8 x y z)=.ok [Ap Aa x,Ap Aa y,Ap Aa z]:=rfl;have cp:B7 (cG J [si p,sh (B8 x y z),sh (B8 a b c),sh (BY Aa Aa (Bf a b c) (Bb a b c) (Ba a b c)),Af] 4 Cv) (cF J [si p,sh (B8 x y z),sh (B8 a b c),sh (BY Aa Aa (Bf a b c) (Bb a b c) (Ba a b c)),Af] 4 O3) [Ap Aa x,Ap Aa y,Ap Aa z]=.ok [Ap Aa (Ty p x a b c),Ap Aa (Ty p y a b c),Ap Aa (Ty p z a b c)]:=by
  simp[B7,g,key x hx,key y hy,key z hz]
 have e3:J.F 78 [.int p,.L [Ap Aa (Ty p x a b c),Ap Aa (Ty p y a b c),Ap Aa (Ty p z a b c)]]=.ok (B8 (Z0 p u (Ty p x a b c)) (Z0 p u (Ty p y a b c)) (Z0 p u (Ty p z a b c))):=
  h3 p Ae Aa _ _ _ hp ((Dy hp (Ng p0 x a b c)).b3 (by decide)) ((Dy hp (Ng p0 y a b c)).b3 (by decide)) ((Dy hp (Ng p0 z a b c)).b3 (by decide)) nz l u e it
 simp[SJ,Df.run,Co,e1,sq,cp,e3]
noncomputable def RF:E:=(.B .Mult (.var 0) (.var 2))
def Sy:Df:=⟨3,Ae,{.ret (.comp RF 2 (.e (.var 1)) Cv)}⟩
def rR(J:Y7):Prop:=∀(k:Ad)(a:R3),0<=k->k<100->J.F 110 [.int k,Ap Aa a]=.ok (Ap Ae (k*a.1,k*a.2.1,k*a.2.2))
theorem rB(J:Y7)(k:Ad)(a:R3)(h0:0<=k)(h1:k<100):Sy.run J [.int k,Ap Aa a]=.ok (Ap Ae (k*a.1,k*a.2.1,k*a.2.2)):=by
 have m:∀ x,Ew k x=Aa:=λx=>JA (by lia) (by lia)
 have key:∀ x:Ad,cF J [si k,sh (Ap Aa a),Af] 2 RF (.int x)=.ok (.int (k*x)):=λx=>by
  simp[cF,RF,m]
 have g:∀ x,cG J [si k,sh (Ap Aa a),Af] 2 Cv x=.ok Aa:=λ_=>rfl
 simp[Sy,Df.run,Co,PZ,B7,g,key];rfl
def DI(a b c d:R3):D:=.L [Ap Aa a,Ap Aa b,Ap Aa c,Ap Aa d]
def AL(k:Ad)(a:R3):R3:=(k*a.1,k*a.2.1,k*a.2.2)
theorem wF(a b c d:R3):Cw (DI a b c d) (.int 0)=.ok (Ap Aa a)/\Cw (DI a b c d) (.int 1)=.ok (Ap Aa b)/\Cw (DI a b c d) (.int 2)=.ok (Ap Aa c)/\Cw (DI a b c d) (.int 3)=.ok (Ap Aa d):=⟨rfl,rfl,rfl,rfl⟩
def Rr:Df:=⟨3,Ae,{.asg 2 Ae (.H {.call 110 {.call 61 {.var 0,.idx (.var 1) (.int 3),.idx (.var 1) (.int 1),.idx (.var 1) (.int 2)},.idx (.var 1) (.int 0)},.call 110 {.call 61 {.var 0,.idx (.var 1) (.int 0),.idx (.var 1) (.int 3),.idx (.var 1) (.int 2)},.idx (.var 1) (.int 1)},.call 110 {.call 61 {.var 0,.idx (.var 1) (.int 0),.idx (.var 1) (.int 1),.idx (.var 1) (.int 3)},.idx (.var 1) (.int 2)}}),.ret (.call 78 {.var 0,.call 104 {.var 2}})}⟩
def fk0(p:Ad)(a b c d:R3):Ad:=Ao d b c%p
def fk1(p:Ad)(a b c d:R3):Ad:=Ao a d c%p
def fk2(p:Ad)(a b c d:R3):Ad:=Ao a b d%p
def ϣ(p:Ad)(a b c d:R3):R3:=AL (fk0 p a b c d) a
def ż(p:Ad)(a b c d:R3):R3:=AL (fk1 p a b c d) b
def Ž(p:Ad)(a b c d:R3):R3:=AL (fk2 p a b c d) c
def ö(p:Ad)(a b c d:R3):R3:=Bf (ϣ p a b c d) (ż p a b c d) (Ž p a b c d)
def ø(p:Ad)(a b c d:R3):R3:=Bb (ϣ p a b c d) (ż p a b c d) (Ž p a b c d)
def ù(p:Ad)(a b c d:R3):R3:=Ba (ϣ p a b c d) (ż p a b c d) (Ž p a b c d)
def US(J:Y7):Prop:=∀(p:Ad)(a b c d:R3),P4 p->Y9 p a->Y9 p b->Y9 p c->Y9 p d->Ao (ö p a b c d) (ø p a b c d) (ù p a b c d)%p≠0->∀ l u,Bg p (nine (ö p a b c d) (ø p a b c d) (ù p a b c d))=Ab l->ER p l u ->
 J.F 111 [.int p,DI a b c d]=.ok (B8 (Z0 p u (ö p a b c d)) (Z0 p u (ø p a b c d)) (Z0 p u (ù p a b c d)))
theorem UG(hk:Bd n k)(ha:Bn m a):Bn (n+m) (AL k a):=⟨hk.mul ha.1,hk.mul ha.2.1,hk.mul ha.2.2⟩
theorem kI(hm:NZ J)(hs:rR J)(h2:P9 J)(h3:N4 J)(p:Ad)(a b c d:R3)(hp:P4 p)(ha:Y9 p a)(hb:Y9 p b)(hc:Y9 p c)(hd:Y9 p d)(z:Ao (ö p a b c d) (ø p a b c d) (ù p a b c d)%p≠0)(l u:Ad)(e:Bg p (nine (ö p a b c d) (ø p a b c d) (ù p a b c d))=Ab l)(it:ER p l u):Rr.run J [.int p,DI a b c d]=.ok (B8 (Z0 p u (ö p a b c d)) (Z0 p u (ø p a b c d)) (Z0 p u (ù p a b c d))):=by
 have p0:=hp.pos;have ph:=hp.hi;have ba:=(Dy hp ha).b3 (by decide)
 have bb:=(Dy hp hb).b3 (by decide)
 have bc:=(Dy hp hc).b3 (by decide)
 have bd:=(Dy hp hd).b3 (by decide)
 obtain⟨x0,x1,x2,x3⟩:=wF a b c d;have m0:=hm p Aa d b c p0 bd bb bc;have m1:=hm p Aa a d c p0 ba bd bc;have m2:=hm p Aa a b d p0 ba bb bd;have k0:0<=Ao d b c%p/\Ao d b c%p<p:=⟨A4 _ (by lia),AY _ p0⟩
 have k1:0<=Ao a d c%p/\Ao a d c%p<p:=⟨A4 _ (by lia),AY _ p0⟩
 have k2:0<=Ao a b d%p/\Ao a b d%p<p:=⟨A4 _ (by lia),AY _ p0⟩
 have s0:J.F 110 [.int (Ao d b c%p),Ap Aa a]=.ok (Ap Ae (AL (Ao d b c%p) a)):=hs (Ao d b c%p) a k0.1 (by lia)
 have s1:J.F 110 [.int (Ao a d c%p),Ap Aa b]=.ok (Ap Ae (AL (Ao a d c%p) b)):=hs (Ao a d c%p) b k1.1 (by lia)
 have s2:J.F 110 [.int (Ao a b d%p),Ap Aa c]=.ok (Ap Ae (AL (Ao a b d%p) c)):=hs (Ao a b d%p) c k2.1 (by lia)
 have e2:J.F 104 [.H [Ap Ae (AL (Ao d b c%p) a),Ap Ae (AL (Ao a d c%p) b),Ap Ae (AL (Ao a b d%p) c)]]=.ok (BY Aa Aa (ö p a b c d) (ø p a b c d) (ù p a b c d)):=h2 Aa Ae _ _ _;obtain⟨c0,c1,c2⟩:=Uu (UG (Mh hp k0.1 k0.2) (Dy hp ha)) (UG (Mh hp k1.1 k1.2) (Dy hp hb)) (UG (Mh hp k2.1 k2.2) (Dy hp hc));have e3:=h3 p Aa Aa (ö p a b c d) (ø p a b c d) (ù p a b c d) hp (c0.b3 (by decide)) (c1.b3 (by decide)) (c2.b3 (by decide)) z l u e it
 simp[Rr,Df.run,Co,x0,x1,x2,x3,m0,m1,m2,s0,s1,s2,e2,e3]
def OI:Ss:={.ife (.cmp .Eq (.call 61 {.var 0,.var 3,.idx (.var 1) (.var 4),.idx (.var 1) (.var 5)}) (.int 0)) {.ret (.H {.var 3,.idx (.var 1) (.var 4),.idx (.var 1) (.var 5)})} .nil}
def LU:Ss:={.fors 5 (.rng2 (.B .Add (.var 4) (.int 1)) (.bi .len {.var 1})) OI}
def OH:Ss:=(.cons (.fors 4 (.rng2 (.B .Add (.var 2) (.int 1)) (.bi .len (.cons (.var 1) .nil))) LU) .nil)
def NI:Df:=⟨6,Ae,{.forT [2,3] (.enm (.var 1)) OH,.ret .O}⟩
theorem rD(p:Ad)(a b c d:D)(h0:J.F 61 [.int p,a,b,c]=.ok (.int m0))(h1:J.F 61 [.int p,a,b,d]=.ok (.int m1))(h2:J.F 61 [.int p,a,c,d]=.ok (.int m2))(h3:J.F 61 [.int p,b,c,d]=.ok (.int m3))(n0:m0≠0)(n1:m1≠0)(n2:m2≠0)(n3:m3≠0):NI.run J [.int p,.L [a,b,c,d]]=.ok .O:=by
 generalize hL:[a,b,c,d]=L;have x1:Dz L 1=.ok b:=by rw[<-hL];rfl
 have x2:Dz L 2=.ok c:=by rw[<-hL];rfl
 have x3:Dz L 3=.ok d:=by rw[<-hL];rfl
 have ln:((L.length:Ag):Ad)=4:=by rw[<-hL];rfl
 have en:Hq 0 L=[.H [.int 0,a],.H [.int 1,b],.H [.int 2,c],.H [.int 3,d]]:=by rw[<-hL];rfl
 have t2:∀{i j k m:Ad}{x y z:D}{s:Sl},Dz L j=.ok y->Dz L k=.ok z->J.F 61 [.int p,x,y,z]=.ok (.int m)->m≠0->CI J 5 OI (.int k) [si p,sh (.L L),si i,sh x,si j,s]=.next [si p,sh (.L L),si i,sh x,si j,si k]:=λe1 e2 e3 e4=>by
  simp[CI,OI,e1,e2,e3,e4]
 have t1:∀{i j:Ad}{x:D}{s s':Sl}{ks:Ac D}{o:O},D8 (j+1) 4=.ok ks->DG (CI J 5 OI) ks [si p,sh (.L L),si i,sh x,si j,s']=o->CI J 4 LU (.int j) [si p,sh (.L L),si i,sh x,s,s']=o:=λe1 e2=>by
  simp[CI,LU,ln,e1,e2]
 have r24:D8 (1+1) 4=.ok [.int 2,.int 3]:=rfl;have r34:D8 (2+1) 4=.ok [.int 3]:=rfl;have r44:D8 (3+1) 4=.ok []:=rfl;have t0:∀{i:Ad}{x:D}{ks:Ac D}{s s' s2 s3:Sl}{o:O},D8 (i+1) 4=.ok ks->DG (CI J 4 LU) ks [si p,sh (.L L),si i,sh x,s,s']=o->N8 J [2,3] OH (.H [.int i,x]) [si p,sh (.L L),s2,s3,s,s']=o:=λe1 e2=>by
  simp[N8,HR,OH,ln,e1,e2]
 have w0:∀ {s s'},DG (CI J 4 LU) [.int 1,.int 2,.int 3] [si p,sh (.L L),si 0,sh a,s,s']=.next [si p,sh (.L L),si 0,sh a,si 3,si 3]:=by
  intro s s';simp[DG,t1 r24 rfl,t1 r34 rfl,t1 r44 rfl,t2 x1 x2 h0 n0,t2 x1 x3 h1 n1,t2 x2 x3 h2 n2]
 have w1:∀ {s s'},DG (CI J 4 LU) [.int 2,.int 3] [si p,sh (.L L),si 1,sh b,s,s']=.next [si p,sh (.L L),si 1,sh b,si 3,si 3]:=by
  intro s s';simp[DG,t1 r34 rfl,t1 r44 rfl,t2 x2 x3 h3 n3]
 have w2:∀ {s s'},DG (CI J 4 LU) [.int 3] [si p,sh (.L L),si 2,sh c,s,s']=.next [si p,sh (.L L),si 2,sh c,si 3,s']:=by
  intro s s';simp[DG,t1 r44 rfl]
 have w:DG (N8 J [2,3] OH) (Hq 0 L) [si p,sh (.L L),Af,Af,Af,Af]=.next [si p,sh (.L L),si 3,sh d,si 3,si 3]:=by
  rw[en];simp[DG,t0 (i:=0) rfl w0,t0 (i:=1) rfl w1,t0 (i:=2) rfl w2,t0 (i:=3) (ks:=[]) rfl rfl]
 clear t0 t1 t2 w0 w1 w2 h0 h1 h2 h3
 generalize hn:Hq 0 L=EL at w;simp[NI,Df.run,Co,hn,w]
def Iy(p:Ad)(a b c d:R3):Prop:=Ao a b c%p≠0/\Ao a b d%p≠0/\Ao a c d%p≠0/\Ao b c d%p≠0
def ZX(J:Y7):Prop:=∀(p:Ad)(a b c d:R3),P4 p->Y9 p a->Y9 p b->Y9 p c->Y9 p d->Iy p a b c d->J.F 109 [.int p,DI a b c d]=.ok .O
def rS(J:Y7):Prop:=∀(p:Ad)(a b c d:R3),P4 p->Y9 p a->Y9 p b->Y9 p c->Y9 p d->Iy p a b c d->J.F 65 [.int p,DI a b c d]=.ok .O
theorem uL(hm:NZ J)(p:Ad)(a b c d:R3)(hp:P4 p)(ha:Y9 p a)(hb:Y9 p b)(hc:Y9 p c)(hd:Y9 p d)(h:Iy p a b c d):NI.run J [.int p,DI a b c d]=.ok .O:=by
 have p0:=hp.pos;have ba:=(Dy hp ha).b3 (by decide)
 have bb:=(Dy hp hb).b3 (by decide)
 have bc:=(Dy hp hc).b3 (by decide)
 have bd:=(Dy hp hd).b3 (by decide)
 exact rD p _ _ _ _ (hm p Aa a b c p0 ba bb bc) (hm p Aa a b d p0 ba bb bd) (hm p Aa a c d p0 ba bc bd) (hm p Aa b c d p0 bb bc bd) h.1 h.2.1 h.2.2.1 h.2.2.2
def NH:Df:=⟨3,Ae,{.ife (.or {.cmp .NotEq (.bi .len {.var 1}) (.int 4),.cmp .NotEq (.bi .len {.var 2}) (.int 4)}) {.rais 13 {.str (Do "a frame has four points")}} .nil,.expr (.call 109 {.var 0,.var 1}),.expr (.call 109 {.var 0,.var 2}),.ret (.call 105 {.var 0,.call 111 {.var 0,.var 2},.call 106 {.var 0,.call 111 {.var 0,.var 1}}})}⟩
theorem fz{a:R3}{R:D}(e1:J.F 109 [.int p,DI a b c d]=.ok .O)(e2:J.F 109 [.int p,DI a' b' c' d']=.ok .O)(e3:J.F 111 [.int p,DI a' b' c' d']=.ok N)(e4:J.F 111 [.int p,DI a b c d]=.ok M)(e5:J.F 106 [.int p,M]=.ok B)(e6:J.F 105 [.int p,N,B]=.ok R):NH.run J [.int p,DI a b c d,DI a' b' c' d']=.ok R:=by
 have l1:zc .len [DI a b c d]=.ok (.int 4):=rfl;have l2:zc .len [DI a' b' c' d']=.ok (.int 4):=rfl;simp[NH,Df.run,Co,l1,l2,e1,e2,e3,e4,e5,e6]
def Z5(p:Ad)(x y:R3):Prop:=Cg p x.1 y.1/\Cg p x.2.1 y.2.1/\Cg p x.2.2 y.2.2
theorem Z5.rfl:Z5 p a a:=⟨Cg.rfl,Cg.rfl,Cg.rfl⟩
def Z5.of(h:a=b):Z5 p a b:=by rw[h];exact Z5.rfl
theorem Z5.trans(h:Z5 p a b)(g:Z5 p b c):Z5 p a c:=⟨h.1.trans g.1,h.2.1.trans g.2.1,h.2.2.trans g.2.2⟩
theorem Z5.symm(h:Z5 p a b):Z5 p b a:=⟨h.1.symm,h.2.1.symm,h.2.2.symm⟩
theorem Z5.sc(hk:Cg p k k')(h:Z5 p a b):Z5 p (AL k a) (AL k' b):=⟨hk.mul h.1,hk.mul h.2.1,hk.mul h.2.2⟩
theorem Z5.md(h:a=LT p b):Z5 p a b:=by rw[h];exact⟨Cg.md _root_.rfl,Cg.md _root_.rfl,Cg.md _root_.rfl⟩
theorem JB(ha:Z5 p a a')(hb:Z5 p b b')(hc:Z5 p c c'):Cg p (Ao a b c) (Ao a' b' c'):=by
 unfold Ao zj;exact KJ ha.1 ha.2.1 ha.2.2 hb.1 hb.2.1 hb.2.2 hc.1 hc.2.1 hc.2.2
theorem G9(ha:Z5 p a a')(hb:Z5 p b b'):Cg p (AI a b) (AI a' b'):=((ha.1.mul hb.1).add (ha.2.1.mul hb.2.1)).add (ha.2.2.mul hb.2.2)
theorem P7(ha:Z5 p a a')(hb:Z5 p b b')(hc:Z5 p c c'):Z5 p (Bf a b c) (Bf a' b' c')/\Z5 p (Bb a b c) (Bb a' b' c')/\Z5 p (Ba a b c) (Ba a' b' c'):=⟨⟨ha.1,hb.1,hc.1⟩,⟨ha.2.1,hb.2.1,hc.2.1⟩,⟨ha.2.2,hb.2.2,hc.2.2⟩⟩
theorem TH(ha:Z5 p a a')(hb:Z5 p b b'):Z5 p (crs a b) (crs a' b'):=
 ⟨(ha.2.1.mul hb.2.2).sub (ha.2.2.mul hb.2.1),(ha.2.2.mul hb.1).sub (ha.1.mul hb.2.2),(ha.1.mul hb.2.1).sub (ha.2.1.mul hb.1)⟩
theorem ZS(ha:Z5 p a a')(hb:Z5 p b b')(hc:Z5 p c c'):Z5 p (bk0 a b c) (bk0 a' b' c')/\Z5 p (bk1 a b c) (bk1 a' b' c')/\Z5 p (bk2 a b c) (bk2 a' b' c'):=P7 (TH hb hc) (TH hc ha) (TH ha hb)
theorem EQ(p t:Ad)(a:R3):Z5 p (Z0 p t a) (AL t a):=by
 have key:∀ x:Ad,Cg p (t*(x%p)%p) (t*x):=λx=>(Cg.md _root_.rfl).trans (Cg.rfl.mul (Cg.md _root_.rfl))
 exact⟨key _,key _,key _⟩
def rm(a x y z:R3):R3:=(AI (Bf x y z) a,AI (Bb x y z) a,AI (Ba x y z) a)
theorem Ug(p:Ad)(a x y z:R3):Z5 p (Ty p a x y z) (rm a x y z):=⟨Cg.md _root_.rfl,Cg.md _root_.rfl,Cg.md _root_.rfl⟩
theorem v9(ha:Z5 p a a')(hx:Z5 p x x')(hy:Z5 p y y')(hz:Z5 p z z'):Z5 p (rm a x y z) (rm a' x' y' z'):=by
 obtain⟨c0,c1,c2⟩:=P7 hx hy hz;exact⟨G9 c0 ha,G9 c1 ha,G9 c2 ha⟩
def ap(a b c x:R3):R3:=(AI a x,AI b x,AI c x)
theorem TF(a b c x y z:R3):Ao (ap a b c x) (ap a b c y) (ap a b c z)=Ao a b c*Ao x y z:=by
 unfold Ao zj ap AI;grind
theorem Ma(k l m:Ad)(x y z:R3):Ao (AL k x) (AL l y) (AL m z)=k*l*m*Ao x y z:=by
 unfold Ao zj AL;grind
theorem Ip(k l:Ad)(x:R3):AL k (AL l x)=AL (k*l) x:=by
 unfold AL;simp only[Gp]
theorem ZV(a b c x:R3)(k:Ad):ap a b c (AL k x)=AL k (ap a b c x):=by
 unfold ap AL AI;refine BJ ?_ (BJ ?_ ?_)<;>(simp only;grind)
theorem uy(k:Ad)(a x y z:R3):rm (AL k a) x y z=AL k (rm a x y z):=by
 unfold rm AL AI Bf Bb Ba;refine BJ ?_ (BJ ?_ ?_)<;>(simp only;grind)
theorem eh(k:Ad)(a x y z:R3):rm a (AL k x) (AL k y) (AL k z)=AL k (rm a x y z):=by
 unfold rm AL AI Bf Bb Ba;refine BJ ?_ (BJ ?_ ?_)<;>(simp only;grind)
theorem ZR(k:Ad)(x y z:R3):bk0 (AL k x) (AL k y) (AL k z)=AL (k*k) (bk0 x y z)/\bk1 (AL k x) (AL k y) (AL k z)=AL (k*k) (bk1 x y z)/\bk2 (AL k x) (AL k y) (AL k z)=AL (k*k) (bk2 x y z):=by
 unfold bk0 bk1 bk2 AL Bf Bb Ba crs;refine⟨?_,?_,?_⟩<;>refine BJ ?_ (BJ ?_ ?_)<;>(simp only;grind)
theorem vc(a x y z:R3):rm (rm a x y z) (bk0 x y z) (bk1 x y z) (bk2 x y z)=AL (Ao x y z) a:=by
 unfold rm AL AI bk0 bk1 bk2 Bf Bb Ba crs Ao zj;refine BJ ?_ (BJ ?_ ?_)<;>(simp only;grind)
theorem SG(x y z:R3):Ao (Bf x y z) (Bb x y z) (Ba x y z)=Ao x y z:=by
 unfold Ao zj Bf Bb Ba;grind
def L0(a b:R3):AI a b=AI b a:=by unfold AI;grind
theorem JH(h:Cg p x y)(hy:y%p≠0):x%p≠0:=λz=>hy ((show x%p=y%p from h).symm.trans z)
theorem Ϧ(hp:P4 p)(hx:x%p≠0)(hy:y%p≠0)(hz:z%p≠0):x*y*z%p≠0:=Ck hp (Ck hp hx hy) hz
theorem MP(hx:Z5 p g0 (AL d0 (ap a b c f0)))(hy:Z5 p g1 (AL d1 (ap a b c f1)))(hz:Z5 p g2 (AL d2 (ap a b c f2))):Cg p (Ao g0 g1 g2) (d0*d1*d2*(Ao a b c*Ao f0 f1 f2)):=
 (JB hx hy hz).trans (Cg.of (by rw[Ma,TF]))
theorem Tz(hx:Z5 p x' (AL k0 (ap a b c x)))(hy:Z5 p y' (AL k1 (ap a b c y)))(hz:Z5 p z' (AL k2 (ap a b c z)))(hw:Z5 p w' (AL k3 (ap a b c w)))(hK:K=k0*k1*k2*k3*Ao a b c):Z5 p (AL (Ao x' y' z'%p) w') (AL K (ap a b c (AL (Ao x y z%p) w))):=by
 have e1:Cg p (Ao x' y' z'%p) (k0*k1*k2*(Ao a b c*(Ao x y z%p))):=((Cg.md rfl).trans (MP hx hy hz)).trans (Cg.rfl.mul (Cg.rfl.mul (Cg.md rfl).symm));refine(Z5.sc e1 hw).trans (Z5.of ?_);rw[Ip,ZV,Ip,hK]
 congr 1
 grind
theorem pe(h0:Z5 p g0 (AL d0 (ap a b c f0)))(h1:Z5 p g1 (AL d1 (ap a b c f1)))(h2:Z5 p g2 (AL d2 (ap a b c f2)))(h3:Z5 p g3 (AL d3 (ap a b c f3))):Z5 p (ö p g0 g1 g2 g3) (AL (d0*d1*d2*d3*Ao a b c) (rm a (ö p f0 f1 f2 f3) (ø p f0 f1 f2 f3) (ù p f0 f1 f2 f3)))/\Z5 p (ø p g0 g1 g2 g3) (AL (d0*d1*d2*d3*Ao a b c) (rm b (ö p f0 f1 f2 f3) (ø p f0 f1 f2 f3) (ù p f0 f1 f2 f3)))/\Z5 p (ù p g0 g1 g2 g3) (AL (d0*d1*d2*d3*Ao a b c) (rm c (ö p f0 f1 f2 f3) (ø p f0 f1 f2 f3) (ù p f0 f1 f2 f3))):=by
 have s0:Z5 p (ϣ p g0 g1 g2 g3) (AL (d0*d1*d2*d3*Ao a b c) (ap a b c (ϣ p f0 f1 f2 f3))):=Tz h3 h1 h2 h0 (by grind)
 have s1:Z5 p (ż p g0 g1 g2 g3) (AL (d0*d1*d2*d3*Ao a b c) (ap a b c (ż p f0 f1 f2 f3))):=Tz h0 h3 h2 h1 (by grind)
 have s2:Z5 p (Ž p g0 g1 g2 g3) (AL (d0*d1*d2*d3*Ao a b c) (ap a b c (Ž p f0 f1 f2 f3))):=Tz h0 h1 h3 h2 (by grind)
 obtain⟨c0,c1,c2⟩:=P7 s0 s1 s2;have key:∀ r:R3,rm r (ö p f0 f1 f2 f3) (ø p f0 f1 f2 f3) (ù p f0 f1 f2 f3)=(AI r (ϣ p f0 f1 f2 f3),AI r (ż p f0 f1 f2 f3),AI r (Ž p f0 f1 f2 f3)):=λr=>by
  rw[L0 r,L0 r,L0 r];rfl
 rw[key a,key b,key c];exact⟨c0,c1,c2⟩
theorem pf(p:Ad)(f0 f1 f2 f3:R3):Ao (ö p f0 f1 f2 f3) (ø p f0 f1 f2 f3) (ù p f0 f1 f2 f3)=fk0 p f0 f1 f2 f3*fk1 p f0 f1 f2 f3*fk2 p f0 f1 f2 f3*Ao f0 f1 f2:=by
 unfold ö ø ù;rw[SG];unfold ϣ ż Ž;rw[Ma]
def Uh{x:Ad}(h:x%p≠0):x%p%p≠0:=by rw[A7 _ (BX p)];exact h
theorem ZL(hp:P4 p)(h:Iy p f0 f1 f2 f3):Ao (ö p f0 f1 f2 f3) (ø p f0 f1 f2 f3) (ù p f0 f1 f2 f3)%p≠0:=by
 rw[pf];obtain⟨h1,h2,h3,h4⟩:=h;have k0:Ao f3 f1 f2%p≠0:=by rw[show Ao f3 f1 f2=Ao f1 f2 f3 by unfold Ao zj;grind];exact h4
 have k1:Ao f0 f3 f2%p≠0:=by rw[show Ao f0 f3 f2=-1*Ao f0 f2 f3 by unfold Ao zj;grind];exact Ck hp hp.m1 h3
 exact Ck hp (Ϧ hp (Uh k0) (Uh k1) (Uh h2)) h1
theorem zT(hp:P4 p)(hD:Ao a b c%p≠0)(n0:d0%p≠0)(n1:d1%p≠0)(n2:d2%p≠0)(n3:d3%p≠0)(h0:Z5 p g0 (AL d0 (ap a b c f0)))(h1:Z5 p g1 (AL d1 (ap a b c f1)))(h2:Z5 p g2 (AL d2 (ap a b c f2)))(h3:Z5 p g3 (AL d3 (ap a b c f3)))(h:Iy p f0 f1 f2 f3):Iy p g0 g1 g2 g3:=
 ⟨JH (MP h0 h1 h2) (Ck hp (Ϧ hp n0 n1 n2) (Ck hp hD h.1)),JH (MP h0 h1 h3) (Ck hp (Ϧ hp n0 n1 n3) (Ck hp hD h.2.1)),JH (MP h0 h2 h3) (Ck hp (Ϧ hp n0 n2 n3) (Ck hp hD h.2.2.1)),JH (MP h1 h2 h3) (Ck hp (Ϧ hp n1 n2 n3) (Ck hp hD h.2.2.2))⟩
theorem zW{a:R3}(hp:P4 p)(hk:k%p≠0)(ha:Y9 p a)(hb:Y9 p b)(hc:Y9 p c)(l1:Bg p (nine a b c)=Ab 1)(hx:Z5 p x (AL k a))(hy:Z5 p y (AL k b))(hz:Z5 p z (AL k c)):∃ l u,Bg p (nine x y z)=Ab l/\ER p l u/\Z0 p u x=a/\Z0 p u y=b/\Z0 p u z=c:=by
 have p1:1<p:=by have:=hp.lo;lia
 have rs:(nine x y z).map (λx=>x%p)=((nine a b c).map λx=>k*x).map (λx=>x%p):=by
  simp only[nine,BG,Js];rw[show x.1%p=k*a.1%p from hx.1,show x.2.1%p=k*a.2.1%p from hx.2.1,show x.2.2%p=k*a.2.2%p from hx.2.2,show y.1%p=k*b.1%p from hy.1,show y.2.1%p=k*b.2.1%p from hy.2.1,show y.2.2%p=k*b.2.2%p from hy.2.2,show z.1%p=k*c.1%p from hz.1,show z.2.1%p=k*c.2.1%p from hz.2.1,show z.2.2%p=k*c.2.2%p from hz.2.2]
 have it:ER p 1 1:=⟨by decide,p1,by rw[Da,AZ (by decide) p1]⟩
 have l0:(1:Ad)%p≠0:=hp.o1;obtain⟨u,iu,eu⟩:=qQ hp hk l0 it (f:=λx=>k*x) (λ_=>rfl) (nine a b c)
 have el:=LZ hp hk (f:=λx=>k*x) (λ_=>rfl) (nine a b c)
 rw[l1,<-O1 rs]at el;rw[<-Wo rs]at eu;have one:∀ v:Ad,0<=v->v<p->1*(v%p)%p=v:=λv h0 h1=>by rw[Da,A7 _ (BX p),AZ h0 h1]
 have same:am p 1 (nine a b c)=nine a b c:=by
  unfold am nine;simp only[BG,Js];rw[one _ ha.1.1 ha.1.2,one _ ha.2.1.1 ha.2.1.2,one _ ha.2.2.1 ha.2.2.2,one _ hb.1.1 hb.1.2,one _ hb.2.1.1 hb.2.1.2,one _ hb.2.2.1 hb.2.2.2,one _ hc.1.1 hc.1.2,one _ hc.2.1.1 hc.2.1.2,one _ hc.2.2.1 hc.2.2.2]
 rw[same,Tb]at eu;obtain⟨e1,e2,e3⟩:=qO eu;exact⟨_,u,el,iu,e1,e2,e3⟩
theorem uG(hk:ZX J)(hf:US J)(hb:TL J)(ha:X6 J){a:R3}(hp:P4 p)(ia:Y9 p a)(ib:Y9 p b)(ic:Y9 p c)(hD:Ao a b c%p≠0)(l1:Bg p (nine a b c)=Ab 1)(i0:Y9 p f0)(i1:Y9 p f1)(i2:Y9 p f2)(i3:Y9 p f3)(hg:Iy p f0 f1 f2 f3)(j0:Y9 p g0)(j1:Y9 p g1)(j2:Y9 p g2)(j3:Y9 p g3)(n0:d0%p≠0)(n1:d1%p≠0)(n2:d2%p≠0)(n3:d3%p≠0)(h0:Z5 p g0 (AL d0 (ap a b c f0)))(h1:Z5 p g1 (AL d1 (ap a b c f1)))(h2:Z5 p g2 (AL d2 (ap a b c f2)))(h3:Z5 p g3 (AL d3 (ap a b c f3))):NH.run J [.int p,DI f0 f1 f2 f3,DI g0 g1 g2 g3]=.ok (B8 a b c):=by
 have p0:=hp.pos;have ū:=zT hp hD n0 n1 n2 n3 h0 h1 h2 h3 hg;have e1:=hk p f0 f1 f2 f3 hp i0 i1 i2 i3 hg;have e2:=hk p g0 g1 g2 g3 hp j0 j1 j2 j3 ū;have zM:=ZL hp hg;have zN:=ZL hp ū;obtain⟨r0,r1,r2⟩:=pe h0 h1 h2 h3
 obtain⟨lM,eM⟩:=OW zM;obtain⟨v,v1,v2,v3⟩:=JD hp (KG p0 eM).1;have e4:=hf p f0 f1 f2 f3 hp i0 i1 i2 i3 zM lM v eM ⟨v1,v2,v3⟩;obtain⟨lN,eN⟩:=OW zN;obtain⟨u,u1,u2,u3⟩:=JD hp (KG p0 eN).1;have e3:=hf p g0 g1 g2 g3 hp j0 j1 j2 j3 zN lN u eN ⟨u1,u2,u3⟩;have vz:v%p≠0:=by rw[AZ (by lia) v2];lia
 have uz:u%p≠0:=by rw[AZ (by lia) u2];lia
 generalize ö p f0 f1 f2 f3=x,ø p f0 f1 f2 f3=y,ù p f0 f1 f2 f3=z,ö p g0 g1 g2 g3=x',ø p g0 g1 g2 g3=y',ù p g0 g1 g2 g3=z' at *;have mx:=EQ p v x;have my:=EQ p v y;have mz:=EQ p v z;have kx:Y9 p (Z0 p v x):=Iq p0 v x;have ky:Y9 p (Z0 p v y):=Iq p0 v y;have kz:Y9 p (Z0 p v z):=Iq p0 v z;have zM':Ao (Z0 p v x) (Z0 p v y) (Z0 p v z)%p≠0:=JH ((JB mx my mz).trans (Cg.of (Ma v v v x y z))) (Ck hp (Ϧ hp vz vz vz) zM);obtain⟨b0,b1,b2⟩:=ZS mx my mz;obtain⟨s0,s1,s2⟩:=ZR v x y z;rw[s0]at b0;rw[s1]at b1;rw[s2]at b2;have zB:Ao (bk0 (Z0 p v x) (Z0 p v y) (Z0 p v z)) (bk1 (Z0 p v x) (Z0 p v y) (Z0 p v z)) (bk2 (Z0 p v x) (Z0 p v y) (Z0 p v z))%p≠0:=HW hp zM';obtain⟨lB,eB⟩:=OW zB;obtain⟨w,w1,w2,w3⟩:=JD hp (KG p0 eB).1;have wz:w%p≠0:=by rw[AZ (by lia) w2];lia
 have e5:=hb p _ _ _ hp kx ky kz zM' lB w eB ⟨w1,w2,w3⟩;generalize bk0 (Z0 p v x) (Z0 p v y) (Z0 p v z)=B0,bk1 (Z0 p v x) (Z0 p v y) (Z0 p v z)=B1,bk2 (Z0 p v x) (Z0 p v y) (Z0 p v z)=B2 at *;have c0:Z5 p (Z0 p w B0) (AL (w*(v*v)) (bk0 x y z)):=(EQ p w B0).trans ((Z5.sc Cg.rfl b0).trans (Z5.of (Ip _ _ _)));have c1:Z5 p (Z0 p w B1) (AL (w*(v*v)) (bk1 x y z)):=(EQ p w B1).trans ((Z5.sc Cg.rfl b1).trans (Z5.of (Ip _ _ _)));have c2:Z5 p (Z0 p w B2) (AL (w*(v*v)) (bk2 x y z)):=(EQ p w B2).trans ((Z5.sc Cg.rfl b2).trans (Z5.of (Ip _ _ _)))
 have row:∀{r t:R3},Z5 p t (AL (d0*d1*d2*d3*Ao a b c) (rm r x y z))->Z5 p (Ty p (Z0 p u t) (Z0 p w B0) (Z0 p w B1) (Z0 p w B2)) (AL (w*(v*v)*(u*(d0*d1*d2*d3*Ao a b c))*Ao x y z) r):=λ{r t} ht=>by
  have q:Z5 p (Z0 p u t) (AL (u*(d0*d1*d2*d3*Ao a b c)) (rm r x y z)):=(EQ p u t).trans ((Z5.sc Cg.rfl ht).trans (Z5.of (Ip _ _ _)));refine(Ug p _ _ _ _).trans ((v9 q c0 c1 c2).trans (Z5.of ?_));rw[eh,uy,vc,Ip,Ip]
 have q0:=row r0;have q1:=row r1;have q2:=row r2;have Ĕ:w*(v*v)*(u*(d0*d1*d2*d3*Ao a b c))*Ao x y z%p≠0:=Ck hp (Ck hp (Ck hp wz (Ck hp vz vz)) (Ck hp uz (Ck hp (Ck hp (Ϧ hp n0 n1 n2) n3) hD))) zM;obtain⟨l,t,el,it,f0',Ż,ĭ⟩:=zW hp Ĕ ia ib ic l1 q0 q1 q2;have zR:Ao (Ty p (Z0 p u x') (Z0 p w B0) (Z0 p w B1) (Z0 p w B2)) (Ty p (Z0 p u y') (Z0 p w B0) (Z0 p w B1) (Z0 p w B2)) (Ty p (Z0 p u z') (Z0 p w B0) (Z0 p w B1) (Z0 p w B2))%p≠0:=JH ((JB q0 q1 q2).trans (Cg.of (Ma _ _ _ a b c))) (Ck hp (Ϧ hp Ĕ Ĕ Ĕ) hD);have e6:=ha p _ _ _ _ _ _ hp (Iq p0 u x') (Iq p0 u y') (Iq p0 u z') (Iq p0 w B0) (Iq p0 w B1) (Iq p0 w B2) zR l t el it;rw[f0',Ż,ĭ]at e6;exact fz e1 e2 e3 e4 e5 e6
set_option genInjectivity true in
structure C6 where
 c0:Ad
 c1:Ad
 c2:Ad
 c3:Ad
 c4:Ad
 c5:Ad
def C6.l(C:C6):Ac Ad:=[C.c0,C.c1,C.c2,C.c3,C.c4,C.c5]
def C3(C:C6):D:=.H (ds C.l)
def vI(C:C6)(x:R3):Ad:=C.c0*x.1*x.1+C.c1*x.2.1*x.2.1+C.c2*x.2.2*x.2.2+(C.c3*x.1*x.2.1+C.c4*x.1*x.2.2+C.c5*x.2.1*x.2.2)
def J5(C:C6):R3:=(2*C.c0,C.c3,C.c4)
def J6(C:C6):R3:=(C.c3,2*C.c1,C.c5)
def J7(C:C6):R3:=(C.c4,C.c5,2*C.c2)
def bI(C:C6)(x y:R3):Ad:=AI (ap (J5 C) (J6 C) (J7 C) x) y
def zf(k:Ad)(C:C6):C6:=⟨k*C.c0,k*C.c1,k*C.c2,k*C.c3,k*C.c4,k*C.c5⟩
def zr(p:Ad)(C D:C6):Prop:=Cg p C.c0 D.c0/\Cg p C.c1 D.c1/\Cg p C.c2 D.c2/\Cg p C.c3 D.c3/\Cg p C.c4 D.c4/\Cg p C.c5 D.c5
def pb(C:C6)(a b c:R3):C6:=⟨vI C (Bf a b c),vI C (Bb a b c),vI C (Ba a b c),bI C (Bf a b c) (Bb a b c),bI C (Bf a b c) (Ba a b c),bI C (Bb a b c) (Ba a b c)⟩
section
variable{D E:C6}
theorem C6.ext'(h0:C.c0=D.c0)(h1:C.c1=D.c1)(h2:C.c2=D.c2)(h3:C.c3=D.c3)(h4:C.c4=D.c4)(h5:C.c5=D.c5):C=D:=by
 cases C;cases D;simp_all
theorem zr.rfl:zr p C C:=⟨Cg.rfl,Cg.rfl,Cg.rfl,Cg.rfl,Cg.rfl,Cg.rfl⟩
def zr.of(h:C=D):zr p C D:=by rw[h];exact zr.rfl
theorem zr.symm(h:zr p C D):zr p D C:=⟨h.1.symm,h.2.1.symm,h.2.2.1.symm,h.2.2.2.1.symm,h.2.2.2.2.1.symm,h.2.2.2.2.2.symm⟩
theorem zr.trans(h:zr p C D)(g:zr p D E):zr p C E:=⟨h.1.trans g.1,h.2.1.trans g.2.1,h.2.2.1.trans g.2.2.1,h.2.2.2.1.trans g.2.2.2.1,h.2.2.2.2.1.trans g.2.2.2.2.1,h.2.2.2.2.2.trans g.2.2.2.2.2⟩
theorem zr.sc(hk:Cg p k k')(h:zr p C D):zr p (zf k C) (zf k' D):=⟨hk.mul h.1,hk.mul h.2.1,hk.mul h.2.2.1,hk.mul h.2.2.2.1,hk.mul h.2.2.2.2.1,hk.mul h.2.2.2.2.2⟩
theorem Mi(h:zr p C D)(hx:Z5 p x x'):Cg p (vI C x) (vI D x'):=
 (((((h.1.mul hx.1).mul hx.1).add ((h.2.1.mul hx.2.1).mul hx.2.1)).add ((h.2.2.1.mul hx.2.2).mul hx.2.2))).add ((((h.2.2.2.1.mul hx.1).mul hx.2.1).add ((h.2.2.2.2.1.mul hx.1).mul hx.2.2)).add ((h.2.2.2.2.2.mul hx.2.1).mul hx.2.2))
theorem N7(h:zr p C D):Z5 p (J5 C) (J5 D)/\Z5 p (J6 C) (J6 D)/\Z5 p (J7 C) (J7 D):=
 ⟨⟨Cg.rfl.mul h.1,h.2.2.2.1,h.2.2.2.2.1⟩,⟨h.2.2.2.1,Cg.rfl.mul h.2.1,h.2.2.2.2.2⟩,⟨h.2.2.2.2.1,h.2.2.2.2.2,Cg.rfl.mul h.2.2.1⟩⟩
theorem qh(ha:Z5 p a a')(hb:Z5 p b b')(hc:Z5 p c c')(hx:Z5 p x x'):Z5 p (ap a b c x) (ap a' b' c' x'):=⟨G9 ha hx,G9 hb hx,G9 hc hx⟩
theorem Qs(h:zr p C D)(hx:Z5 p x x')(hy:Z5 p y y'):Cg p (bI C x y) (bI D x' y'):=
 let ⟨t0,t1,t2⟩:=N7 h
 G9 (qh t0 t1 t2 hx) hy
theorem Qn(h:zr p C D)(ha:Z5 p a a')(hb:Z5 p b b')(hc:Z5 p c c'):zr p (pb C a b c) (pb D a' b' c'):=
 let ⟨s0,s1,s2⟩:=P7 ha hb hc
 ⟨Mi h s0,Mi h s1,Mi h s2,Qs h s0 s1,Qs h s0 s2,Qs h s1 s2⟩
theorem P5(k l:Ad)(C:C6):zf k (zf l C)=zf (k*l) C:=by
 unfold zf;simp only[Gp]
def NX(C:C6):zf 1 C=C:=by unfold zf;simp only[Da]
theorem ug(k:Ad)(C:C6)(a b c:R3):pb (zf k C) a b c=zf k (pb C a b c):=by
 unfold pb zf vI bI ap J5 J6 J7 AI;refine C6.ext' ?_ ?_ ?_ ?_ ?_ ?_<;>(simp only;grind)
theorem lh(k:Ad)(C:C6)(a b c:R3):pb C (AL k a) (AL k b) (AL k c)=zf (k*k) (pb C a b c):=by
 unfold pb zf vI bI ap J5 J6 J7 AI Bf Bb Ba AL;refine C6.ext' ?_ ?_ ?_ ?_ ?_ ?_<;>(simp only;grind)
theorem Ts(C:C6)(x y z:R3)(k l m:Ad):vI C (k*x.1+l*y.1+m*z.1,k*x.2.1+l*y.2.1+m*z.2.1,k*x.2.2+l*y.2.2+m*z.2.2)=k*k*vI C x+l*l*vI C y+m*m*vI C z+(k*l*bI C x y+k*m*bI C x z+l*m*bI C y z):=by
 unfold vI bI ap J5 J6 J7 AI;simp only;grind
theorem TV(C:C6)(x y z w:R3)(k l m:Ad):bI C (k*x.1+l*y.1+m*z.1,k*x.2.1+l*y.2.1+m*z.2.1,k*x.2.2+l*y.2.2+m*z.2.2) w=k*bI C x w+l*bI C y w+m*bI C z w:=by
 unfold bI ap J5 J6 J7 AI;simp only;grind
theorem HS(C:C6)(x y:R3):bI C x y=bI C y x:=by
 unfold bI ap J5 J6 J7 AI;simp only;grind
theorem IQ(C:C6)(x:R3):bI C x x=2*vI C x:=by
 unfold vI bI ap J5 J6 J7 AI;simp only;grind
theorem gW(v0 v1 v2 b0 b1 b2:Ad)(u:R3):vI ⟨v0,v1,v2,b0,b1,b2⟩ u=u.1*u.1*v0+u.2.1*u.2.1*v1+u.2.2*u.2.2*v2+(u.1*u.2.1*b0+u.1*u.2.2*b1+u.2.1*u.2.2*b2):=by
 unfold vI;simp only;grind
theorem gX(v0 v1 v2 b0 b1 b2:Ad)(u w:R3):bI ⟨v0,v1,v2,b0,b1,b2⟩ u w=u.1*(w.1*(2*v0)+w.2.1*b0+w.2.2*b1)+u.2.1*(w.1*b0+w.2.1*(2*v1)+w.2.2*b2)+u.2.2*(w.1*b1+w.2.1*b2+w.2.2*(2*v2)):=by
 unfold bI ap J5 J6 J7 AI;simp only;grind
theorem jM(C:C6)(s0 s1 s2 u:R3):vI C (u.1*s0.1+u.2.1*s1.1+u.2.2*s2.1,u.1*s0.2.1+u.2.1*s1.2.1+u.2.2*s2.2.1,u.1*s0.2.2+u.2.1*s1.2.2+u.2.2*s2.2.2)=vI ⟨vI C s0,vI C s1,vI C s2,bI C s0 s1,bI C s0 s2,bI C s1 s2⟩ u:=by
 exact(Ts C s0 s1 s2 u.1 u.2.1 u.2.2).trans (gW _ _ _ _ _ _ u).symm
theorem UO(C:C6)(s0 s1 s2 u w:R3):bI C (u.1*s0.1+u.2.1*s1.1+u.2.2*s2.1,u.1*s0.2.1+u.2.1*s1.2.1+u.2.2*s2.2.1,u.1*s0.2.2+u.2.1*s1.2.2+u.2.2*s2.2.2) (w.1*s0.1+w.2.1*s1.1+w.2.2*s2.1,w.1*s0.2.1+w.2.1*s1.2.1+w.2.2*s2.2.1,w.1*s0.2.2+w.2.1*s1.2.2+w.2.2*s2.2.2)=bI ⟨vI C s0,vI C s1,vI C s2,bI C s0 s1,bI C s0 s2,bI C s1 s2⟩ u w:=by
 have e:∀ s:R3,bI C s (w.1*s0.1+w.2.1*s1.1+w.2.2*s2.1,w.1*s0.2.1+w.2.1*s1.2.1+w.2.2*s2.2.1,w.1*s0.2.2+w.2.1*s1.2.2+w.2.2*s2.2.2)=w.1*bI C s0 s+w.2.1*bI C s1 s+w.2.2*bI C s2 s:=λs=>(HS C _ _).trans (TV C s0 s1 s2 s w.1 w.2.1 w.2.2)
 refine Eq.trans ?_ (gX _ _ _ _ _ _ u w).symm;rw[TV,e,e,e,IQ C s0,IQ C s1,IQ C s2,HS C s1 s0,HS C s2 s0,HS C s2 s1]
theorem ZD(C:C6)(a b c x y z:R3):pb (pb C a b c) x y z=pb C (rm a x y z) (rm b x y z) (rm c x y z):=by
 have v:=λu=>(jM C (Bf a b c) (Bb a b c) (Ba a b c) u).symm
 have w:=λu u'=>(UO C (Bf a b c) (Bb a b c) (Ba a b c) u u').symm
 exact C6.ext' (v (Bf x y z)) (v (Bb x y z)) (v (Ba x y z)) (w (Bf x y z) (Bb x y z)) (w (Bf x y z) (Ba x y z)) (w (Bb x y z) (Ba x y z))
theorem ZE(C:C6)(k:Ad):pb C (k,0,0) (0,k,0) (0,0,k)=zf (k*k) C:=by
 unfold pb zf vI bI ap J5 J6 J7 AI Bf Bb Ba;refine C6.ext' ?_ ?_ ?_ ?_ ?_ ?_<;>(simp only;grind)
theorem Tl(a b c:R3):rm a (bk0 a b c) (bk1 a b c) (bk2 a b c)=(Ao a b c,0,0)/\rm b (bk0 a b c) (bk1 a b c) (bk2 a b c)=(0,Ao a b c,0)/\rm c (bk0 a b c) (bk1 a b c) (bk2 a b c)=(0,0,Ao a b c):=by
 unfold rm AI bk0 bk1 bk2 Bf Bb Ba crs Ao zj;refine⟨?_,?_,?_⟩<;>refine BJ ?_ (BJ ?_ ?_)<;>(simp only;grind)
theorem ng(C:C6)(a b c:R3):Ao (J5 (pb C a b c)) (J6 (pb C a b c)) (J7 (pb C a b c))=Ao a b c*Ao a b c*Ao (J5 C) (J6 C) (J7 C):=by
 have row:∀ s:R3,(bI C s (Bf a b c),bI C s (Bb a b c),bI C s (Ba a b c))=ap (Bf a b c) (Bb a b c) (Ba a b c) (ap (J5 C) (J6 C) (J7 C) s):=λs=>by
  unfold bI;rw[L0,L0 _ (Bb a b c),L0 _ (Ba a b c)];rfl
 have e0:J5 (pb C a b c)=(bI C (Bf a b c) (Bf a b c),bI C (Bf a b c) (Bb a b c),bI C (Bf a b c) (Ba a b c)):=by rw[IQ];rfl
 have e1:J6 (pb C a b c)=(bI C (Bb a b c) (Bf a b c),bI C (Bb a b c) (Bb a b c),bI C (Bb a b c) (Ba a b c)):=by rw[IQ,HS C (Bb a b c) (Bf a b c)];rfl
 have e2:J7 (pb C a b c)=(bI C (Ba a b c) (Bf a b c),bI C (Ba a b c) (Bb a b c),bI C (Ba a b c) (Ba a b c)):=by rw[IQ,HS C (Ba a b c) (Bf a b c),HS C (Ba a b c) (Bb a b c)];rfl
 rw[e0,e1,e2,row,row,row,TF,TF,SG];grind
theorem SF(k:Ad)(C:C6):Ao (J5 (zf k C)) (J6 (zf k C)) (J7 (zf k C))=k*k*k*Ao (J5 C) (J6 C) (J7 C):=by
 rw[<-Ma];unfold J5 J6 J7 zf AL;simp only[<-Gp,BF 2 k]
def Cl(p:Ad)(C D:C6):Prop:=∃ d,d%p≠0/\zr p C (zf d D)
theorem Cl.trans(hp:P4 p)(i:Cl p C D)(j:Cl p D E):Cl p C E:=by
 obtain⟨d,dz,e⟩:=i;obtain⟨d',ω,e'⟩:=j;exact⟨d*d',Ck hp dz ω,e.trans ((zr.sc Cg.rfl e').trans (zr.of (P5 _ _ _)))⟩
theorem PN(hp:P4 p)(dz:k%p≠0):∃ u,u%p≠0/\Cg p (u*k) 1:=by
 obtain⟨u,u1,u2,u3⟩:=JD hp dz;refine⟨u,by rw[AZ (by lia) u2];lia,?_⟩
 show u*k%p=1%p;rw[BF,u3,AZ (by decide) (by have:=hp.lo;lia)]
theorem Cl.symm(hp:P4 p)(i:Cl p C D):Cl p D C:=by
 obtain⟨d,dz,e⟩:=i;obtain⟨u,uz,o⟩:=PN hp dz;refine⟨u,uz,?_⟩;have q:=zr.sc (k:=u) (k':=u) Cg.rfl e;rw[P5]at q;exact(q.trans ((zr.sc o zr.rfl).trans (zr.of (NX D)))).symm
theorem Cl.pb(i:Cl p C D):Cl p (OvC.pb C a b c) (OvC.pb D a b c):=by
 obtain⟨d,dz,e⟩:=i;exact⟨d,dz,(Qn e Z5.rfl Z5.rfl Z5.rfl).trans (zr.of (ug d D a b c))⟩
theorem Cl.tab(hp:P4 p)(kz:k%p≠0)(ha:Z5 p a (AL k a'))(hb:Z5 p b (AL k b'))(hc:Z5 p c (AL k c')):Cl p (OvC.pb C a b c) (OvC.pb C a' b' c'):=
 ⟨k*k,Ck hp kz kz,(Qn zr.rfl ha hb hc).trans (zr.of (lh k C a' b' c'))⟩
def xq(p:Ad)(C:C6):Prop:=∀ x∈C.l,0<=x/\x<p
end
def SH:Df:=⟨5,Ae,{.asg 3 Ae (.B .Add (.B .Add (.B .Mult (.B .Mult (.idx (.var 1) (.int 0)) (.idx (.var 2) (.int 0))) (.idx (.var 2) (.int 0))) (.B .Mult (.B .Mult (.idx (.var 1) (.int 1)) (.idx (.var 2) (.int 1))) (.idx (.var 2) (.int 1)))) (.B .Mult (.B .Mult (.idx (.var 1) (.int 2)) (.idx (.var 2) (.int 2))) (.idx (.var 2) (.int 2)))),.asg 4 Ae (.B .Add (.B .Add (.B .Mult (.B .Mult (.idx (.var 1) (.int 3)) (.idx (.var 2) (.int 0))) (.idx (.var 2) (.int 1))) (.B .Mult (.B .Mult (.idx (.var 1) (.int 4)) (.idx (.var 2) (.int 0))) (.idx (.var 2) (.int 2)))) (.B .Mult (.B .Mult (.idx (.var 1) (.int 5)) (.idx (.var 2) (.int 1))) (.idx (.var 2) (.int 2)))),.ret (.call 1 {.var 0,.B .Add (.var 3) (.var 4)})}⟩
def Rj:Df:=⟨2,Ae,{.ret (.H {.H {.call 1 {.var 0,.B .Mult (.int 2) (.idx (.var 1) (.int 0))},.idx (.var 1) (.int 3),.idx (.var 1) (.int 4)},.H {.idx (.var 1) (.int 3),.call 1 {.var 0,.B .Mult (.int 2) (.idx (.var 1) (.int 1))},.idx (.var 1) (.int 5)},.H {.idx (.var 1) (.int 4),.idx (.var 1) (.int 5),.call 1 {.var 0,.B .Mult (.int 2) (.idx (.var 1) (.int 2))}}})}⟩
def RW:Df:=⟨3,Ae,{.asg 2 Ae (.call 131 {.var 0,.var 1}),.ret (.cmp .NotEq (.call 61 {.var 0,.idx (.var 2) (.int 0),.idx (.var 2) (.int 1),.idx (.var 2) (.int 2)}) (.int 0))}⟩
theorem ix6(C:C6):Cw (C3 C) (.int 0)=.ok (.int C.c0)/\Cw (C3 C) (.int 1)=.ok (.int C.c1)/\Cw (C3 C) (.int 2)=.ok (.int C.c2)/\Cw (C3 C) (.int 3)=.ok (.int C.c3)/\Cw (C3 C) (.int 4)=.ok (.int C.c4)/\Cw (C3 C) (.int 5)=.ok (.int C.c5):=⟨rfl,rfl,rfl,rfl,rfl,rfl⟩
structure BC (C:C6):Prop where
 b0:Bd 10 C.c0
 b1:Bd 10 C.c1
 b2:Bd 10 C.c2
 b3:Bd 10 C.c3
 b4:Bd 10 C.c4
 b5:Bd 10 C.c5
theorem xq.b(hp:P4 p)(h:xq p C):BC C:=by
 have k:∀ x∈C.l,Bd 10 x:=λx hx=>Mh hp (h x hx).1 (h x hx).2
 exact⟨k _ (by simp[C6.l]),k _ (by simp[C6.l]),k _ (by simp[C6.l]),k _ (by simp[C6.l]),k _ (by simp[C6.l]),k _ (by simp[C6.l])⟩
def Ye(J:Y7):Prop:=∀(p:Ad)(C:C6)(x:R3),P4 p->xq p C->Y9 p x->J.F 126 [.int p,C3 C,Ap Aa x]=.ok (.int (vI C x%p))
theorem uA(hr:Lw J)(p:Ad)(C:C6)(x:R3)(hp:P4 p)(iC:xq p C)(ix:Y9 p x):SH.run J [.int p,C3 C,Ap Aa x]=.ok (.int (vI C x%p)):=by
 obtain⟨i0,i1,i2,i3,i4,i5⟩:=ix6 C;obtain⟨x0,x1,x2⟩:=Fw Aa x;have bC:=iC.b hp;have bx:=Dy hp ix;have k:∀ {u v},Bd 10 u->Bd 10 v->GD u v=Aa:=λhu hv=>KM hu hv (by decide) (by decide)
 have k2:∀ {u v w},Bd 10 u->Bd 10 v->Bd 10 w->GD (u*v) w=Aa:=λhu hv hw=>KM (hu.mul hv) hw (by decide) (by decide)
 simp[SH,Df.run,Co,i0,i1,i2,i3,i4,i5,x0,x1,x2,k bC.b0 bx.1,k bC.b1 bx.2.1,k bC.b2 bx.2.2,k bC.b3 bx.1,k bC.b4 bx.1,k bC.b5 bx.2.1,k2 bC.b0 bx.1 bx.1,k2 bC.b1 bx.2.1 bx.2.1,k2 bC.b2 bx.2.2 bx.2.2,k2 bC.b3 bx.1 bx.2.1,k2 bC.b4 bx.1 bx.2.2,k2 bC.b5 bx.2.1 bx.2.2,hr p _ hp.pos];rfl
def t0(p:Ad)(C:C6):R3:=(2*C.c0%p,C.c3,C.c4)
def t1(p:Ad)(C:C6):R3:=(C.c3,2*C.c1%p,C.c5)
def t2(p:Ad)(C:C6):R3:=(C.c4,C.c5,2*C.c2%p)
theorem UK(hp:P4 p)(h:xq p C):Y9 p (t0 p C)/\Y9 p (t1 p C)/\Y9 p (t2 p C):=by
 have p0:=hp.pos;have k:∀ x∈C.l,0<=x/\x<p:=h;have m:∀ x:Ad,0<=x%p/\x%p<p:=λx=>⟨A4 _ (by lia),AY _ p0⟩
 exact⟨⟨m _,k _ (by simp[C6.l,t0]),k _ (by simp[C6.l,t0])⟩,⟨k _ (by simp[C6.l,t1]),m _,k _ (by simp[C6.l,t1])⟩,⟨k _ (by simp[C6.l,t2]),k _ (by simp[C6.l,t2]),m _⟩⟩
theorem UL(p:Ad)(C:C6):Z5 p (t0 p C) (J5 C)/\Z5 p (t1 p C) (J6 C)/\Z5 p (t2 p C) (J7 C):=⟨⟨Cg.md rfl,Cg.rfl,Cg.rfl⟩,⟨Cg.rfl,Cg.md rfl,Cg.rfl⟩,⟨Cg.rfl,Cg.rfl,Cg.md rfl⟩⟩
def Te(J:Y7):Prop:=∀(p:Ad)(C:C6),P4 p->J.F 131 [.int p,C3 C]=.ok (B8 (t0 p C) (t1 p C) (t2 p C))
theorem uB(hr:Lw J)(p:Ad)(C:C6)(hp:P4 p):Rj.run J [.int p,C3 C]=.ok (B8 (t0 p C) (t1 p C) (t2 p C)):=by
 obtain⟨i0,i1,i2,i3,i4,i5⟩:=ix6 C;have m22:∀ y,Ew 2 y=Aa:=λy=>JA (by decide) (by decide)
 simp[Rj,Df.run,Co,i0,i1,i2,i3,i4,i5,m22,hr p _ hp.pos];rfl
theorem gD{E:C6}(hp:P4 p)(el:Bg p E.l=Ab l):∃(t:Ad)(D:C6),ER p l t/\am p t E.l=D.l/\xq p D/\Bg p D.l=Ab 1/\Cl p D E:=by
 have p0:=hp.pos;obtain⟨lz,_,_⟩:=KG p0 el;obtain⟨t,t1,t2,t3⟩:=JD hp lz;have tz:t%p≠0:=by rw[AZ (by lia) t2];lia
 have ff:∀ x,(t*(x%p)%p)%p=t*x%p:=λx=>by rw[A7 _ (BX p),Bu t (x%p) p,A7 _ (BX p),<-Bu]
 have lv:=LZ hp tz (f:=λx=>t*(x%p)%p) ff E.l
 rw[el,FJ,BF,t3]at lv;have key:∀ x:Ad,Cg p (t*(x%p)%p) (t*x):=λx=>(Cg.md rfl).trans (Cg.rfl.mul (Cg.md rfl))
 refine⟨t,⟨t*(E.c0%p)%p,t*(E.c1%p)%p,t*(E.c2%p)%p,t*(E.c3%p)%p,t*(E.c4%p)%p,t*(E.c5%p)%p⟩,⟨t1,t2,t3⟩,rfl,λx hx=>?_,lv,t,tz,key _,key _,key _,key _,key _,key _⟩
 obtain⟨y,_,rfl⟩:=Bp.mp (show x∈E.l.map λx=>t*(x%p)%p from hx)
 exact⟨A4 _ (by lia),AY _ p0⟩
def ϡ:R3:=(1,0,0)
def Ϣ:R3:=(0,1,0)
def e2R:R3:=(0,0,1)
def e3R:R3:=(1,1,1)
theorem jH(hp:P4 p):Y9 p ϡ/\Y9 p Ϣ/\Y9 p e2R/\Y9 p e3R:=by
 have z:0<=(0:Ad)/\(0:Ad)<p:=⟨by decide,hp.pos⟩
 have o:0<=(1:Ad)/\(1:Ad)<p:=⟨by decide,by have:=hp.lo;lia⟩
 exact⟨⟨o,z,z⟩,⟨z,o,z⟩,⟨z,z,o⟩,⟨o,o,o⟩⟩
theorem iN(hp:P4 p):Iy p ϡ Ϣ e2R e3R:=by
 rcases hp with rfl|rfl|rfl|rfl<;>exact⟨by decide,by decide,by decide,by decide⟩
structure Frm (p:Ad) (f0 f1 f2 f3:R3):Prop where
 i0:Y9 p f0
 i1:Y9 p f1
 i2:Y9 p f2
 i3:Y9 p f3
 gen:Iy p f0 f1 f2 f3
def Pr(p:Ad)(x y:R3):Prop:=∃ d,d%p≠0/\Z5 p x (AL d y)
def L7(x:R3):AL 1 x=x:=by unfold AL;simp only[Da]
theorem Pr.rfl(hp:P4 p):Pr p x x:=⟨1,hp.o1,Z5.of (L7 x).symm⟩
theorem Pr.trans(hp:P4 p)(i:Pr p x y)(j:Pr p y z):Pr p x z:=by
 obtain⟨d,dz,e⟩:=i;obtain⟨d',ω,e'⟩:=j;exact⟨d*d',Ck hp dz ω,e.trans ((Z5.sc Cg.rfl e').trans (Z5.of (Ip _ _ _)))⟩
theorem Pr.symm(hp:P4 p)(i:Pr p x y):Pr p y x:=by
 obtain⟨d,dz,e⟩:=i;obtain⟨u,u1,u2,u3⟩:=JD hp dz;have uz:u%p≠0:=by rw[AZ (by lia) u2];lia
 have o:Cg p (u*d) 1:=by
  show u*d%p=1%p;rw[BF,u3,AZ (by decide) (by have:=hp.lo;lia)]
 refine⟨u,uz,?_⟩;have q:=Z5.sc (k:=u) (k':=u) Cg.rfl e;rw[Ip]at q;exact(q.trans ((Z5.sc o Z5.rfl).trans (Z5.of (L7 y)))).symm
theorem Pr.cg(hp:P4 p)(e:Z5 p x y):Pr p x y:=⟨1,hp.o1,e.trans (Z5.of (L7 y).symm)⟩
theorem Qu(ha:Z5 p a a')(hb:Z5 p b b')(hc:Z5 p c c')(hx:Z5 p x x'):Z5 p (ap a b c x) (ap a' b' c' x'):=⟨G9 ha hx,G9 hb hx,G9 hc hx⟩
theorem Pr.ap(i:Pr p x y):Pr p (OvC.ap a b c x) (OvC.ap a b c y):=by
 obtain⟨d,dz,e⟩:=i;exact⟨d,dz,(Qu Z5.rfl Z5.rfl Z5.rfl e).trans (Z5.of (ZV a b c y d))⟩
theorem qg(k:Ad)(a b c x:R3):ap (AL k a) (AL k b) (AL k c) x=AL k (ap a b c x):=by
 unfold ap AL AI;refine BJ ?_ (BJ ?_ ?_)<;>(simp only;grind)
theorem Pr.tab(kz:k%p≠0)(ha:Z5 p a (AL k a'))(hb:Z5 p b (AL k b'))(hc:Z5 p c (AL k c')):Pr p (OvC.ap a b c x) (OvC.ap a' b' c' x):=
 ⟨k,kz,(Qu ha hb hc Z5.rfl).trans (Z5.of (qg k a' b' c' x))⟩
theorem iG(a b c x y z v:R3):ap (rm a x y z) (rm b x y z) (rm c x y z) v=ap a b c (ap x y z v):=by
 unfold ap rm AI Bf Bb Ba;refine BJ ?_ (BJ ?_ ?_)<;>(simp only;grind)
theorem Qv(a b c v:R3):ap (bk0 a b c) (bk1 a b c) (bk2 a b c) (ap a b c v)=AL (Ao a b c) v:=by
 unfold ap AL AI bk0 bk1 bk2 Bf Bb Ba crs Ao zj;refine BJ ?_ (BJ ?_ ?_)<;>(simp only;grind)
theorem Zc(a b c x y z:R3):Ao (rm a x y z) (rm b x y z) (rm c x y z)=Ao a b c*Ao x y z:=by
 unfold Ao zj rm AI Bf Bb Ba;grind
def J3(g:R3):Ac Ad:=[g.1,g.2.1,g.2.2]
theorem XO(hp:P4 p)(ix:Y9 p x)(iy:Y9 p y)(lx:Bg p (J3 x)=Ab 1)(ly:Bg p (J3 y)=Ab 1)(h:Pr p x y):x=y:=by
 obtain⟨d,dz,e⟩:=h;have p1:1<p:=by have:=hp.lo;lia
 have rs:(J3 x).map (λx=>x%p)=((J3 y).map λx=>d*x).map (λx=>x%p):=by
  simp only[J3,BG,Js];rw[show x.1%p=d*y.1%p from e.1,show x.2.1%p=d*y.2.1%p from e.2.1,show x.2.2%p=d*y.2.2%p from e.2.2]
 have el:=LZ hp dz (f:=λx=>d*x) (λ_=>rfl) (J3 y)
 rw[ly,<-O1 rs,lx,FJ,C1,Gr]at el;have o:Cg p d 1:=by
  show d%p=1%p;rw[<-el,AZ (by decide) p1]
 have q:=e.trans ((Z5.sc o Z5.rfl).trans (Z5.of (L7 y)));have same:∀{u v:Ad},(0<=u/\u<p)->(0<=v/\v<p)->Cg p u v->u=v:=λhu hv huv=>by
  have:=show _%p=_%p from huv
  rwa [AZ hu.1 hu.2,AZ hv.1 hv.2]at this
 exact BJ (same ix.1 iy.1 q.1) (BJ (same ix.2.1 iy.2.1 q.2.1) (same ix.2.2 iy.2.2 q.2.2))
theorem NL{a:R3}(hp:P4 p)(nz:Ao a b c%p≠0):∃ l t,Bg p (nine a b c)=Ab l/\ER p l t/\t%p≠0/\Y8 p (Z0 p t a) (Z0 p t b) (Z0 p t c)/\Bg p (nine (Z0 p t a) (Z0 p t b) (Z0 p t c))=Ab 1:=by
 have p0:=hp.pos;obtain⟨l,el⟩:=OW nz;obtain⟨lz,_,_⟩:=KG p0 el;obtain⟨t,t1,t2,t3⟩:=JD hp lz;have tz:t%p≠0:=by rw[AZ (by lia) t2];lia
 have ff:∀ x,(t*(x%p)%p)%p=t*x%p:=λx=>by rw[A7 _ (BX p),Bu t (x%p) p,A7 _ (BX p),<-Bu]
 have lv:=LZ hp tz (f:=λx=>t*(x%p)%p) ff (nine a b c)
 rw[el]at lv;refine⟨l,t,el,⟨t1,t2,t3⟩,tz,⟨hp,Iq p0 t a,Iq p0 t b,Iq p0 t c,JH ((JB (EQ p t a) (EQ p t b) (EQ p t c)).trans (Cg.of (Ma t t t a b c))) (Ck hp (Ϧ hp tz tz tz) nz)⟩,?_⟩;have e:Bg p ((nine a b c).map λx=>t*(x%p)%p)=Ab 1:=by rw[lv,FJ,BF,t3]
 exact e
structure Φ (p:Ad) (a b c f0 f1 f2 f3 g0 g1 g2 g3:R3):Prop where
 h0:Pr p g0 (ap a b c f0)
 h1:Pr p g1 (ap a b c f1)
 h2:Pr p g2 (ap a b c f2)
 h3:Pr p g3 (ap a b c f3)
theorem gQ(hp:P4 p)(T:Y8 p a b c)(T':Y8 p a' b' c')(L:Φ p a b c ϡ Ϣ e2R e3R f0 f1 f2 f3)(L':Φ p a' b' c' ϡ Ϣ e2R e3R g0 g1 g2 g3):∃ x y z,Y8 p x y z/\Bg p (nine x y z)=Ab 1/\Φ p x y z f0 f1 f2 f3 g0 g1 g2 g3:=by
 have zB:=HW hp T.nz;have zR:Ao (rm a' (bk0 a b c) (bk1 a b c) (bk2 a b c)) (rm b' (bk0 a b c) (bk1 a b c) (bk2 a b c)) (rm c' (bk0 a b c) (bk1 a b c) (bk2 a b c))%p≠0:=by rw[Zc];exact Ck hp T'.nz zB
 obtain⟨l,t,_,_,tz,gd,l1⟩:=NL hp zR;refine⟨_,_,_,gd,l1,?_⟩;have key:∀{e f g:R3},Pr p f (ap a b c e)->Pr p g (ap a' b' c' e)->Pr p g (ap (Z0 p t (rm a' (bk0 a b c) (bk1 a b c) (bk2 a b c))) (Z0 p t (rm b' (bk0 a b c) (bk1 a b c) (bk2 a b c))) (Z0 p t (rm c' (bk0 a b c) (bk1 a b c) (bk2 a b c))) f):=λ{e f g} hf hg=>by
  refine hg.trans hp (Pr.symm hp ?_);refine(Pr.tab tz (EQ p t _) (EQ p t _) (EQ p t _)).trans hp ?_;rw[iG];refine Pr.ap ((Pr.ap hf).trans hp ?_);rw[Qv];exact⟨_,T.nz,Z5.rfl⟩
 exact⟨key L.h0 L'.h0,key L.h1 L'.h1,key L.h2 L'.h2,key L.h3 L'.h3⟩
theorem wH(hp:P4 p):Y8 p ϡ Ϣ e2R/\Bg p (nine ϡ Ϣ e2R)=Ab 1:=by
 obtain⟨i0,i1,i2,i3⟩:=jH hp;refine⟨⟨hp,i0,i1,i2,(iN hp).1⟩,?_⟩;rcases hp with rfl|rfl|rfl|rfl<;>decide
def L3(a b c:R3):Ac D:=[Dq a,Dq b,Dq c]
def Ij(i j:Ad):Prop:=(i=0/\j=1)\/(i=0/\j=2)\/(i=1/\j=0)\/(i=1/\j=2)\/(i=2/\j=0)\/(i=2/\j=1)
theorem fU(hi:m%3=i)(hj:(i+1+m/3%2)%3=j):Ij i j:=by
 have i3:i=0\/i=1\/i=2:=by lia
 have e2:m/3%2=0\/m/3%2=1:=by lia
 rcases i3 with z|z|z<;>rcases e2 with e|e<;>rw[z,e]at hj
 .exact .inl ⟨z,hj.symm⟩
 .exact .inr (.inl ⟨z,hj.symm⟩)
 .exact .inr (.inr (.inr (.inl ⟨z,hj.symm⟩)))
 .exact .inr (.inr (.inl ⟨z,hj.symm⟩))
 .exact .inr (.inr (.inr (.inr (.inl ⟨z,hj.symm⟩))))
 .exact .inr (.inr (.inr (.inr (.inr ⟨z,hj.symm⟩))))
def P8(J:Y7)(mid:Ag)(ns:Ac Ad):Prop:=∀ k:Ad,0<=k->∃ m,0<=m/\J.F mid [zh ns,.int k]=.ok (.int m)
theorem mR(h1:-1000<=lo)(h2:lo<=1000)(h3:-1000<=hi)(h4:hi<=1000):D8 lo hi=.ok (FS lo (hi-lo).toNat):=by
 unfold D8;rw[AB (by refine⟨⟨by lia,by lia⟩,⟨by lia,by lia⟩,?_⟩;lia)]
theorem Y_1(h:1<p):Bg p [0,0,1]=Ab 1:=by
 simp[Bg,AZ (by decide:(0:Ad)<=1) h]
theorem gY(h:1<p)(z:Ad):Bg p [0,1,z]=Ab 1:=by
 simp[Bg,AZ (by decide:(0:Ad)<=1) h]
theorem UX(h:1<p)(y z:Ad):Bg p [1,y,z]=Ab 1:=by
 simp[Bg,AZ (by decide:(0:Ad)<=1) h]
def Ê(a b:R3):C6:=⟨a.1*b.1,a.2.1*b.2.1,a.2.2*b.2.2,a.1*b.2.1+a.2.1*b.1,a.1*b.2.2+a.2.2*b.1,a.2.1*b.2.2+a.2.2*b.2.1⟩
def LD(C D:C6):C6:=⟨C.c0-D.c0,C.c1-D.c1,C.c2-D.c2,C.c3-D.c3,C.c4-D.c4,C.c5-D.c5⟩
theorem lX(z:Ao (J5 C) (J6 C) (J7 C)%p≠0):∃ l,Bg p C.l=Ab l:=by
 cases el:Bg p C.l with
 |some l=>exact⟨l,rfl⟩
 |none=>
  have hz:=MJ.mp el;refine absurd ?_ z;have k:∀ x∈C.l,Cg p x (0*x):=λx hx=>by show x%p=0*x%p;rw[hz x hx,Jn,BQ]
  have e0:zr p C (zf 0 C):=⟨k _ (by simp[C6.l]),k _ (by simp[C6.l]),k _ (by simp[C6.l]),k _ (by simp[C6.l]),k _ (by simp[C6.l]),k _ (by simp[C6.l])⟩
  obtain⟨x0,x1,x2⟩:=N7 e0;rw[show Ao (J5 C) (J6 C) (J7 C)%p=_ from JB x0 x1 x2,SF,Fj,Jn,BQ]
theorem WM{E:C6}(hp:P4 p)(h:Cl p C E)(z:Ao (J5 E) (J6 E) (J7 E)%p≠0):Ao (J5 C) (J6 C) (J7 C)%p≠0:=by
 obtain⟨d,dz,cg⟩:=h;obtain⟨x0,x1,x2⟩:=N7 cg;exact JH ((JB x0 x1 x2).trans (Cg.of (SF d E))) (Ck hp (Ϧ hp dz dz dz) z)
def Uv:Df:=⟨3,Ae,{.ret (.call 17 {.var 0,.call 91 {.var 0,.var 1,.var 2}})}⟩
theorem O4(hp:P4 p)(el:Bg p (J3 r)=Ab l):∃ u,ER p l u/\Y9 p (Z0 p u r)/\Bg p (J3 (Z0 p u r))=Ab 1/\Pr p (Z0 p u r) r/\am p u (J3 r)=J3 (Z0 p u r):=by
 have p0:=hp.pos;obtain⟨lz,_,_⟩:=KG p0 el;obtain⟨t,t1,t2,t3⟩:=JD hp lz;have tz:t%p≠0:=by rw[AZ (by lia) t2];lia
 have ff:∀ x,(t*(x%p)%p)%p=t*x%p:=λx=>by rw[A7 _ (BX p),Bu t (x%p) p,A7 _ (BX p),<-Bu]
 have lv:=LZ hp tz (f:=λx=>t*(x%p)%p) ff (J3 r)
 rw[el,FJ,BF,t3]at lv;exact⟨t,⟨t1,t2,t3⟩,Iq p0 t r,lv,⟨t,tz,EQ p t r⟩,rfl⟩
theorem WK(h:Bg p (J3 g)=Af):Z5 p g (0,0,0):=by
 have hz:=MJ.mp h;have k:∀ x∈J3 g,Cg p x 0:=λx hx=>by show x%p=0%p;rw[hz x hx,BQ]
 exact⟨k _ (by simp[J3]),k _ (by simp[J3]),k _ (by simp[J3])⟩
theorem Wr(h:Z5 p g (0,0,0)):Bg p (J3 g)=Af:=by
 refine MJ.mpr λx hx=>?_
 have k:∀{x:Ad},Cg p x 0->x%p=0:=λ{x} h=>by rw[show x%p=_ from h,BQ]
 simp only[J3,Ay,Bl,CD]at hx;rcases hx with rfl|rfl|rfl
 .exact k h.1
 .exact k h.2.1
 .exact k h.2.2
theorem MX{a:R3}(hp:P4 p)(z:Ao a b c%p≠0)(lf:Bg p (J3 f)=Ab l)(h:Z5 p g (ap a b c f)):∃ l,Bg p (J3 g)=Ab l:=by
 cases el:Bg p (J3 g) with
 |some l=>exact⟨l,rfl⟩
 |none=>
  have q0:Z5 p (ap a b c f) (0,0,0):=h.symm.trans (WK el);have q1:Z5 p (AL (Ao a b c) f) (0,0,0):=by
   have:=Qu (Z5.rfl (a:=bk0 a b c)) (Z5.rfl (a:=bk1 a b c)) (Z5.rfl (a:=bk2 a b c)) q0;rw[Qv]at this;refine this.trans (Z5.of ?_);unfold ap AI;simp
  obtain⟨u,uz,o⟩:=PN hp z;have q2:Z5 p f (0,0,0):=by
   have w:=Z5.sc (k:=u) (k':=u) Cg.rfl q1;rw[Ip]at w;refine((Z5.of (L7 f).symm).trans (Z5.sc o.symm Z5.rfl)).trans (w.trans (Z5.of ?_));unfold AL;simp
  rw[Wr q2]at lf;cases lf
def YW(J:Y7):Prop:=∀(p:Ad)(a b c f:R3),Y8 p a b c->Y9 p f->Bg p (J3 f)=Ab 1->∃ g,Y9 p g/\Bg p (J3 g)=Ab 1/\Pr p g (ap a b c f)/\J.F 92 [.int p,B8 a b c,Ap Aa f]=.ok (Ap Aa g)
theorem gf(hs:TY J)(hf:Pk J)(p:Ad)(a b c f:R3)(g:Y8 p a b c)(i0:Y9 p f)(lf:Bg p (J3 f)=Ab 1):∃ g,Y9 p g/\Bg p (J3 g)=Ab 1/\Pr p g (ap a b c f)/\Uv.run J [.int p,B8 a b c,Ap Aa f]=.ok (Ap Aa g):=by
 have hp:=g.p4;have e1:J.F 91 [.int p,B8 a b c,Ap Aa f]=_:=hs p Aa Aa Aa a b c f hp.pos ((Dy hp g.ia).b3 (by decide)) ((Dy hp g.ib).b3 (by decide)) ((Dy hp g.ic).b3 (by decide)) ((Dy hp i0).b3 (by decide))
 have cg:Z5 p (AI a f%p,AI b f%p,AI c f%p) (ap a b c f):=⟨Cg.md rfl,Cg.md rfl,Cg.md rfl⟩;obtain⟨l,el⟩:=MX hp g.nz lf cg;obtain⟨u,iu,j,l1,pr,ef⟩:=O4 hp el;have e2:=hf p Aa _ l u hp el iu;rw[ef]at e2;generalize (AI a f%p,AI b f%p,AI c f%p)=w at *;have e2':J.F 17 [.int p,Ap Aa w]=.ok (Ap Aa (Z0 p u w)):=e2;refine⟨Z0 p u w,j,l1,pr.trans hp (Pr.cg hp cg),?_⟩;simp[Uv,Df.run,Co,e1,e2']
def WZ(J:Y7):Prop:=∀(p:Ad)(C:C6),P4 p->xq p C->Ao (J5 C) (J6 C) (J7 C)%p≠0->J.F 136 [.int p,C3 C]=.ok (.bl Aa)
theorem qZ(ht:Te J)(hm:NZ J)(p:Ad)(C:C6)(hp:P4 p)(iC:xq p C)(z:Ao (J5 C) (J6 C) (J7 C)%p≠0):RW.run J [.int p,C3 C]=.ok (.bl Aa):=by
 obtain⟨h0,h1,h2⟩:=UK hp iC;have e1:=ht p C hp;have e2:=hm p Aa (t0 p C) (t1 p C) (t2 p C) hp.pos ((Dy hp h0).b3 (by decide)) ((Dy hp h1).b3 (by decide)) ((Dy hp h2).b3 (by decide))
 have td:Ao (t0 p C) (t1 p C) (t2 p C)%p=Ao (J5 C) (J6 C) (J7 C)%p:=let ⟨h0,h1,h2⟩:=UL p C;JB h0 h1 h2
 rw[td]at e2;have k0:Cw (B8 (t0 p C) (t1 p C) (t2 p C)) (.int 0)=.ok (Ap Aa (t0 p C)):=rfl;have k1:Cw (B8 (t0 p C) (t1 p C) (t2 p C)) (.int 1)=.ok (Ap Aa (t1 p C)):=rfl;have k2:Cw (B8 (t0 p C) (t1 p C) (t2 p C)) (.int 2)=.ok (Ap Aa (t2 p C)):=rfl;generalize Ao (J5 C) (J6 C) (J7 C)%p=d at *;simp[RW,Df.run,Co,e1,e2,k0,k1,k2,z]
def RG:Df:=⟨2,Ae,{.ife (.no (.call 136 {.var 0,.var 1})) {.rais 14 {.str (Do "the curve is not whole")}} .nil}⟩
def Rk:Df:=⟨2,Ae,{.expr (.call 147 {.var 0,.var 1}),.ret (.call 78 {.var 0,.call 131 {.var 0,.var 1}})}⟩
def TQ:Df:=⟨3,Ae,{.ret (.call 92 {.var 0,.call 106 {.var 0,.call 148 {.var 0,.var 1}},.var 2})}⟩
def TM(J:Y7):Prop:=∀(p:Ad)(C:C6),P4 p->xq p C->Ao (J5 C) (J6 C) (J7 C)%p≠0->J.F 147 [.int p,C3 C]=.ok .O
theorem cw(h:WZ J)(p:Ad)(C:C6)(hp:P4 p)(iC:xq p C)(z:Ao (J5 C) (J6 C) (J7 C)%p≠0):RG.run J [.int p,C3 C]=.ok .O:=by
 have e:=h p C hp iC z;simp[RG,Df.run,Co,e]
def UU(p:Ad)(C:C6)(a b c:R3):Prop:=Y8 p a b c/\∃ k,k%p≠0/\Z5 p a (AL k (J5 C))/\Z5 p b (AL k (J6 C))/\Z5 p c (AL k (J7 C))
def YV(J:Y7):Prop:=∀(p:Ad)(C:C6),P4 p->xq p C->Ao (J5 C) (J6 C) (J7 C)%p≠0->∃ a b c,UU p C a b c/\J.F 148 [.int p,C3 C]=.ok (B8 a b c)
theorem fw(hw:TM J)(ht:Te J)(hf:N4 J)(p:Ad)(C:C6)(hp:P4 p)(iC:xq p C)(z:Ao (J5 C) (J6 C) (J7 C)%p≠0):∃ a b c,UU p C a b c/\Rk.run J [.int p,C3 C]=.ok (B8 a b c):=by
 obtain⟨i0,i1,i2⟩:=UK hp iC;obtain⟨h0,h1,h2⟩:=UL p C;have zt:Ao (t0 p C) (t1 p C) (t2 p C)%p≠0:=JH (JB h0 h1 h2) z;obtain⟨l,t,el,it,tz,gd,_⟩:=NL hp zt;have e1:=hw p C hp iC z;have e2:=ht p C hp;have e3:J.F 78 [.int p,B8 (t0 p C) (t1 p C) (t2 p C)]=_:=hf p Aa Aa _ _ _ hp ((Dy hp i0).b3 (by decide)) ((Dy hp i1).b3 (by decide)) ((Dy hp i2).b3 (by decide)) zt l t el it
 refine⟨_,_,_,⟨gd,t,tz,(EQ p t _).trans (Z5.sc Cg.rfl h0),(EQ p t _).trans (Z5.sc Cg.rfl h1),(EQ p t _).trans (Z5.sc Cg.rfl h2)⟩,?_⟩;generalize B8 (Z0 p t (t0 p C)) (Z0 p t (t1 p C)) (Z0 p t (t2 p C))=T at *;simp[Rk,Df.run,Co,e1,e2,e3]
def qk(J:Y7):Prop:=∀(p:Ad)(C:C6)(x:R3),P4 p->xq p C->Ao (J5 C) (J6 C) (J7 C)%p≠0->Y9 p x->Bg p (J3 x)=Ab 1->∃ y,Y9 p y/\Bg p (J3 y)=Ab 1/\Pr p y (ap (bk0 (J5 C) (J6 C) (J7 C)) (bk1 (J5 C) (J6 C) (J7 C)) (bk2 (J5 C) (J6 C) (J7 C)) x)/\J.F 149 [.int p,C3 C,Ap Aa x]=.ok (Ap Aa y)
theorem fx(hq:YV J)(hb:TL J)(hl:YW J)(p:Ad)(C:C6)(x:R3)(hp:P4 p)(iC:xq p C)(z:Ao (J5 C) (J6 C) (J7 C)%p≠0)(ix:Y9 p x)(lx:Bg p (J3 x)=Ab 1):∃ y,Y9 p y/\Bg p (J3 y)=Ab 1/\Pr p y (ap (bk0 (J5 C) (J6 C) (J7 C)) (bk1 (J5 C) (J6 C) (J7 C)) (bk2 (J5 C) (J6 C) (J7 C)) x)/\TQ.run J [.int p,C3 C,Ap Aa x]=.ok (Ap Aa y):=by
 obtain⟨a,b,c,⟨gd,k,kz,h0,h1,h2⟩,e1⟩:=hq p C hp iC z;have zB:=HW hp gd.nz;obtain⟨l,t,el,it,tz,gB,_⟩:=NL hp zB;have e2:=hb p a b c hp gd.ia gd.ib gd.ic gd.nz l t el it;obtain⟨y,j,l1,pr,e3⟩:=hl p _ _ _ x gB ix lx;obtain⟨b0,b1,b2⟩:=ZS h0 h1 h2;obtain⟨s0,s1,s2⟩:=ZR k (J5 C) (J6 C) (J7 C);rw[s0]at b0;rw[s1]at b1;rw[s2]at b2;refine⟨y,j,l1,(pr.trans hp (Pr.tab tz (EQ p t _) (EQ p t _) (EQ p t _))).trans hp (Pr.tab (Ck hp kz kz) b0 b1 b2),?_⟩;generalize B8 (Z0 p t (bk0 a b c)) (Z0 p t (bk1 a b c)) (Z0 p t (bk2 a b c))=TB at *;simp[TQ,Df.run,Co,e1,e2,e3]
theorem qi(a b c v:R3):ap a b c (ap (bk0 a b c) (bk1 a b c) (bk2 a b c) v)=AL (Ao a b c) v:=by
 unfold ap AL AI bk0 bk1 bk2 Bf Bb Ba crs Ao zj;refine BJ ?_ (BJ ?_ ?_)<;>(simp only;grind)
theorem Y_8(x:R3):Tm 5 (Ap Aa x)=Aa/\Y0 (Ap Aa x) (Ap Aa x)=Aa:=by
 refine⟨rfl,?_⟩;show OV (ds [x.1,x.2.1,x.2.2]) (ds [x.1,x.2.1,x.2.2])=Aa;rw[TD]
def NE:Ss:={.asg 2 Ae (.B .FloorDiv (.var 2) (.int 1000033))}
def NC:Df:=⟨4,Ae,{.asg 2 Ae (.int 0),.ife (.cmp .Gt (.bi .len {.var 0}) (.int 0)) {.asg 2 Ae (.idx (.var 0) (.B .Mod (.var 1) (.bi .len {.var 0})))} .nil,.ife (.cmp .Eq (.B .Mod (.bi .len {.var 0}) (.int 2)) (.int 0)) {.fors 3 (.rng (.bi .min {.int 60,.B .FloorDiv (.var 1) (.bi .max {.int 1,.bi .len {.var 0}})})) NE,.ret (.B .Mod (.var 2) (.int 1000033))} .nil,.ret (.B .Mod (.B .Mult (.B .Mod (.B .Mult (.B .Add (.B .Add (.B .Mod (.var 2) (.int 1000003)) (.B .Mult (.int 7919) (.var 1))) (.int 11)) (.int 48271)) (.int 1000033)) (.int 69621)) (.int 1000033))}⟩
theorem qP(k x:Ad)(n:Ag):∃ y s3,DG (CI J 3 NE) (FS 0 n) [sh (zh ns),si k,si x,Af]=.next [sh (zh ns),si k,si y,s3]:=by
 obtain⟨Y',e,y,s3,rfl⟩:=Su (body:=CI J 3 NE) (λY=>∃ y s3,Y=[sh (zh ns),si k,si y,s3]) (FS 0 n) [sh (zh ns),si k,si x,Af] ⟨x,Af,rfl⟩ (by
  rintro z hz Y ⟨y,s3,rfl⟩;obtain⟨j,_,rfl⟩:=WD hz;exact⟨[sh (zh ns),si k,si (y/1000033),si (0+(j:Ad))],by simp[CI,NE],_,_,rfl⟩)
 exact⟨y,s3,e⟩
theorem gc(J:Y7)(ns:Ac Ad)(hl:ns.length<=63)(k:Ad)(k0:0<=k):∃ m,0<=m/\NC.run J [zh ns,.int k]=.ok (.int m):=by
 have m1:Ew 7919 k=Aa:=JA (by decide) (by decide)
 have m2:∀ x,Ew x 48271=Aa:=λx=>Pt (by decide) (by decide)
 have m3:∀ x,Ew x 69621=Aa:=λx=>Pt (by decide) (by decide)
 generalize hn:(ns.length:Ad)=n;have n0:0<=n:=by lia
 have n1:n<=63:=by lia
 have len:zc .len [zh ns]=.ok (.int n):=by rw[<-hn];show R.ok (D.int ((ns.map D.int).length:Ag))=_;rw[A6]
 have fin:∀ x hi:Ad,0<=hi->hi<=60->∃ y s3,QJ J 3 NE [sh (zh ns),si k,si x,Af] (D8 0 hi)=.next [sh (zh ns),si k,si y,s3]:=λx hi h0 h1=>by
  rw[mT h0 (by lia)]
  exact qP (J:=J) (ns:=ns) k x hi.toNat
 have mx:0<(if 1<n then n else 1)/\(if 1<n then n else 1)<1073741824:=by split<;>lia
 generalize hM:(if 1<n then n else 1)=M at mx
 have hi:∀ q:Ad,0<=q->0<=(if q<60 then q else 60)/\(if q<60 then q else 60)<=60:=λq h=>by split<;>lia
 have q0:0<=k/M:=Z_9 k0 (by lia)
 obtain⟨u1,u2⟩:=hi _ q0;by_cases hp:0<n
 .have r0:0<=k%n:=A4 _ (by lia)
  have r1:k%n<ns.length:=by rw[hn];exact AY _ hp
  have g:=zP r0 r1;generalize ns.getD (k%n).toNat 0=x at g;by_cases h2:n%2=0
  .obtain⟨y,s3,e⟩:=fin x _ u1 u2;refine⟨y%1000033,A4 _ (by decide),?_⟩
   have gx:Cw (zh ns) (.int (k%n))=.ok (.int x):=g;simp[NC,Df.run,Co,len,hp,gx,h2,hM,mx.1,mx.2,e]
  .refine⟨((x%1000003+7919*k+11)*48271%1000033)*69621%1000033,A4 _ (by decide),?_⟩
   have gx:Cw (zh ns) (.int (k%n))=.ok (.int x):=g;simp[NC,Df.run,Co,len,hp,gx,h2,m1,m2,m3]
 .have z:n=0:=by lia
  subst z;obtain⟨y,s3,e⟩:=fin 0 _ u1 u2;refine⟨y%1000033,A4 _ (by decide),?_⟩
  have hM':M=1:=by rw[<-hM];rfl
  subst hM';simp at e;simp[NC,Df.run,Co,len,e]
def TR:Df:=⟨3,Ae,{.ret (.call 17 {.var 0,.call 23 {.var 1,.var 2}})}⟩
theorem sH{a:R3}(hp:P4 p)(h:Z5 p (crs a b) (0,0,0))(la:Bg p (J3 a)=Ab 1)(lb:Bg p (J3 b)=Ab 1):Pr p b a:=by
 obtain⟨h0,h1,h2⟩:=h;have p1:1<p:=by have:=hp.lo;lia
 have sw:∀{x y:Ad},Cg p (x-y) 0->Cg p x y:=λ{x y} h=>by
  have:=h.add (Cg.rfl (a:=y))
  rwa [aF,FX]at this
 have e0:Cg p (a.2.1*b.2.2) (a.2.2*b.2.1):=sw h0;have e1:Cg p (a.2.2*b.1) (a.1*b.2.2):=sw h1;have e2:Cg p (a.1*b.2.1) (a.2.1*b.1):=sw h2;have one:∀{x:Ad},x%p=1->Cg p x 1:=λ{x} h=>by show x%p=1%p;rw[h,AZ (by decide) p1]
 have fin:∀ k,Z5 p b (AL k a)->Pr p b a:=λk hk=>by
  refine⟨k,λz=>?_,hk⟩
  have:Z5 p b (0,0,0):=by
   have kz:Cg p k 0:=by show k%p=0%p;rw[z,BQ]
   refine hk.trans ((Z5.sc kz Z5.rfl).trans (Z5.of ?_));unfold AL;simp
  rw[Wr this]at lb;cases lb
 unfold J3 Bg at la;by_cases z0:a.1%p=0
 .rw[AB z0]at la;have c0:Cg p a.1 0:=by show a.1%p=0%p;rw[z0,BQ]
  unfold Bg at la;by_cases z1:a.2.1%p=0
  .rw[AB z1]at la;have c1:Cg p a.2.1 0:=by show a.2.1%p=0%p;rw[z1,BQ]
   unfold Bg at la;by_cases z2:a.2.2%p=0
   .rw[AB z2]at la;cases la
   .rw[AF z2,C1]at la;have c2:=one la;refine fin b.2.2 ⟨?_,?_,?_⟩
    .have:=(c2.symm.mul (Cg.rfl (a:=b.1))).trans e1;rw[Da]at this;exact this.trans (Cg.of (BF _ _))
    .have:=(c2.symm.mul (Cg.rfl (a:=b.2.1))).trans e0.symm;rw[Da]at this;exact this.trans (Cg.of (BF _ _))
    .have:=(Cg.rfl (a:=b.2.2)).mul c2;rw[Gr]at this;exact this.symm
  .rw[AF z1,C1]at la;have c1:=one la;refine fin b.2.1 ⟨?_,?_,?_⟩
   .have:=(c1.symm.mul (Cg.rfl (a:=b.1))).trans e2.symm;rw[Da]at this;exact this.trans (Cg.of (BF _ _))
   .have:=(Cg.rfl (a:=b.2.1)).mul c1;rw[Gr]at this;exact this.symm
   .have:=(c1.symm.mul (Cg.rfl (a:=b.2.2))).trans e0;rw[Da]at this;exact this.trans (Cg.of (BF _ _))
 .rw[AF z0,C1]at la;have c0:=one la;refine fin b.1 ⟨?_,?_,?_⟩
  .have:=(Cg.rfl (a:=b.1)).mul c0;rw[Gr]at this;exact this.symm
  .have:=(c0.symm.mul (Cg.rfl (a:=b.2.1))).trans e2;rw[Da]at this;exact this.trans (Cg.of (BF _ _))
  .have:=(c0.symm.mul (Cg.rfl (a:=b.2.2))).trans e1.symm;rw[Da]at this;exact this.trans (Cg.of (BF _ _))
def Mc(J:Y7):Prop:=∀(p:Ad)(a b:R3),P4 p->Y9 p a->Y9 p b->Bg p (J3 a)=Ab 1->Bg p (J3 b)=Ab 1->a≠b->∃ y,Y9 p y/\Bg p (J3 y)=Ab 1/\Pr p y (crs a b)/\J.F 57 [.int p,Ap Aa a,Ap Aa b]=.ok (Ap Aa y)
theorem gg(hc:X5 J)(hf:Pk J)(p:Ad)(a b:R3)(hp:P4 p)(ia:Y9 p a)(ib:Y9 p b)(la:Bg p (J3 a)=Ab 1)(lb:Bg p (J3 b)=Ab 1)(ne:a≠b):∃ y,Y9 p y/\Bg p (J3 y)=Ab 1/\Pr p y (crs a b)/\TR.run J [.int p,Ap Aa a,Ap Aa b]=.ok (Ap Aa y):=by
 have e1:=hc a b ((Dy hp ia).b3 (by decide)) ((Dy hp ib).b3 (by decide)) ne
 cases el:Bg p (J3 (crs a b)) with
 |none=>exact absurd (XO hp ib ia lb la (sH hp (WK el) la lb)).symm ne
 |some l=>
  obtain⟨u,iu,j,l1,pr,ef⟩:=O4 hp el;have e2:=hf p Aa _ l u hp el iu;rw[ef]at e2;have e2':J.F 17 [.int p,Ap Aa (crs a b)]=.ok (Ap Aa (Z0 p u (crs a b))):=e2;refine⟨_,j,l1,pr,?_⟩;generalize Ap Aa (Z0 p u (crs a b))=Y_ at *;simp[TR,Df.run,Co,e1,e2']
theorem Ho(hp:P4 p)(kz:k%p≠0):k*x%p=0↔x%p=0:=by
 constructor
 .intro z;exact E7 λn=>Ck hp kz n z
 .intro z;rw[Bu,z,Fj,BQ]
theorem ZF(hp:P4 p)(hx:Pr p x x')(hy:Pr p y y'):(AI x y%p=0)↔(AI x' y'%p=0):=by
 obtain⟨d,dz,e⟩:=hx;obtain⟨d',ω,e'⟩:=hy;have q:Cg p (AI x y) (d*d'*AI x' y'):=(G9 e e').trans (Cg.of (by unfold AI AL;simp only;grind))
 rw[show AI x y%p=_ from q]
 exact Ho hp (Ck hp dz ω)
def NF(p:Ad)(x:R3):Prop:=Y9 p x/\Bg p (J3 x)=Ab 1
def ų(p n:Ad):R3:=if n=0 then (0,0,1) else if n<=p then (0,1,n-1) else (1,(n-p-1)/p,(n-p-1)%p)
def Fs(p:Ad):Ac R3:=(B5 (p*p+p+1).toNat).map fun(n:Ag)=>ų p n
theorem u7{n:Ad}(hp:P4 p)(h0:0<=n)(h1:n<p*p+p+1):NF p (ų p n):=by
 have p1:1<p:=by have:=hp.lo;lia
 have p0:=hp.pos;unfold ų;by_cases z:n=0
 .rw[AB z];exact⟨⟨⟨by decide,p0⟩,⟨by decide,p0⟩,⟨by decide,p1⟩⟩,Y_1 p1⟩
 .rw[AF z];by_cases z1:n<=p
  .rw[AB z1];exact⟨⟨⟨IC 0,p0⟩,⟨(by decide:(0:Ad)<=1),p1⟩,⟨by show 0<=n-1;lia,by show n-1<p;lia⟩⟩,gY p1 _⟩
  .rw[AF z1];have d0:0<=(n-p-1)/p:=Z_9 (by lia) (by lia)
   have d1:(n-p-1)/p<p:=by rw[Int.ediv_lt_iff_lt_mul p0];lia
   exact⟨⟨⟨(by decide:(0:Ad)<=1),p1⟩,⟨d0,d1⟩,⟨A4 _ (by lia),AY _ p0⟩⟩,UX p1 _ _⟩
theorem gO(hp:P4 p)(h:NF p x):∃ n:Ad,0<=n/\n<p*p+p+1/\x=ų p n:=by
 obtain⟨⟨i0,i1,i2⟩,l⟩:=h;have p1:1<p:=by have:=hp.lo;lia
 have p0:=hp.pos;have pp:=aD p0 p0;obtain⟨x0,x1,x2⟩:=x;simp only at i0 i1 i2;unfold J3 Bg at l;simp only at l;rw[AZ i0.1 i0.2]at l;by_cases z0:x0=0
 .rw[AB z0]at l;unfold Bg at l;rw[AZ i1.1 i1.2]at l;by_cases z1:x1=0
  .rw[AB z1]at l;unfold Bg at l;rw[AZ i2.1 i2.2]at l;by_cases z2:x2=0
   .rw[AB z2]at l;cases l
   .rw[AF z2,C1]at l;exact⟨0,IC 0,by lia,by rw[z0,z1,l];rfl⟩
  .rw[AF z1,C1]at l;refine⟨x2+1,by lia,by lia,?_⟩
   unfold ų;rw[AF (by lia),AB (by lia),z0,l,Int.add_sub_cancel]
 .rw[AF z0,C1]at l;have m1:p*x1<=p*(p-1):=Int.mul_le_mul_of_nonneg_left (by lia) (by lia)
  have m0:0<=p*x1:=aC (by lia) i1.1
  rw[aE,Gr]at m1;refine⟨p+1+p*x1+x2,by lia,by lia,?_⟩
  unfold ų;have e:p+1+p*x1+x2-p-1=x2+p*x1:=by lia
  rw[AF (by lia),AF (by lia),e,Int.add_mul_ediv_left _ _ (by lia),Int.ediv_eq_zero_of_lt i2.1 i2.2,Z_8,AZ i2.1 i2.2,FX,l]
theorem Em(hp:P4 p):x∈Fs p↔NF p x:=by
 have p0:=hp.pos;have pp:=aD p0 p0;constructor
 .intro h;obtain⟨n,hn,rfl⟩:=Bp.mp h;have:=Dl.mp hn;exact u7 hp (by omega) (by omega)
 .intro h;obtain⟨n,n0,n1,rfl⟩:=gO hp h;refine Bp.mpr ⟨n.toNat,Dl.mpr (by omega),?_⟩
  rw[Int.toNat_of_nonneg n0]
theorem OT(hp:P4 p):(Fs p).Nodup:=by
 rcases hp with rfl|rfl|rfl|rfl<;>decide+kernel
theorem S8{α:Type}[DecidableEq α]:∀{l1 l2:Ac α},l1.Nodup->(∀ x∈l1,x∈l2)->l1.length<=l2.length
 |[],_,_,_=>Ds _
 |x::l1,l2,nd,h=>by
  obtain⟨n1,n2⟩:=Cs.mp nd;have hx:=h x Av;have:=S8 (l1:=l1) (l2:=l2.erase x) n2 λy hy=>by
   have hy2:=h y (As _ hy);have ne:y≠x:=λe=>n1 (e ▸ hy)
   exact(aY ne).mpr hy2
  rw[GK hx]at this;have l0:0<l2.length:=List.length_pos_of_mem hx;rw[BV];omega
theorem NJ{α β:Type}{f:α->β}:∀{l:Ac α},l.Nodup->(∀ x∈l,∀ y∈l,f x=f y->x=y)->(l.map f).Nodup
 |[],_,_=>Kj
 |x::l,nd,h=>by
  obtain⟨n1,n2⟩:=Cs.mp nd;rw[BG,Cs];refine⟨λm=>?_,NJ n2 λy hy z hz=>h y (As _ hy) z (As _ hz)⟩
  obtain⟨y,hy,e⟩:=Bp.mp m;have:=h y (As _ hy) x Av e;exact n1 (this ▸ hy)
theorem yL[DecidableEq α]{l:Ac α}(nd:l.Nodup)(F G:α->α)(hF:∀ x∈l,F x∈l)(hG:∀ y∈l,G y∈l)(GF:∀ x∈l,G (F x)=x)(FG:∀ y∈l,F (G y)=y)(Q:α->Ai):(l.filter λx=>Q (F x)).length=(l.filter Q).length:=by
 refine bL ?_ ?_
 .have n:((l.filter λx=>Q (F x)).map F).Nodup:=NJ (nd.filter _) λx hx y hy e=>by
   have h1:=GF x (AH.mp hx).1;have h2:=GF y (AH.mp hy).1;rw[<-h1,<-h2,e]
  have:=S8 (l2:=l.filter Q) n λz hz=>by
   obtain⟨x,hx,rfl⟩:=Bp.mp hz;obtain⟨h1,h2⟩:=AH.mp hx;exact AH.mpr ⟨hF x h1,h2⟩
  rwa [A6]at this
 .have n:((l.filter Q).map G).Nodup:=NJ (nd.filter _) λx hx y hy e=>by
   have h1:=FG x (AH.mp hx).1;have h2:=FG y (AH.mp hy).1;rw[<-h1,<-h2,e]
  have:=S8 (l2:=l.filter λx=>Q (F x)) n λz hz=>by
   obtain⟨x,hx,rfl⟩:=Bp.mp hz;obtain⟨h1,h2⟩:=AH.mp hx;exact AH.mpr ⟨hG x h1,by rw[FG x h1];exact h2⟩
  rwa [A6]at this
noncomputable def J8(p:Ad)(r:R3):R3:=open Classical in if h:∃ y,NF p y/\Pr p y r then Z_6 h else r
theorem O9(hp:P4 p)(el:Bg p (J3 r)=Ab l):NF p (J8 p r)/\Pr p (J8 p r) r:=by
 have h:∃ y,NF p y/\Pr p y r:=by
  obtain⟨u,iu,j,l1,pr,_⟩:=O4 hp el;exact⟨_,⟨j,l1⟩,pr⟩
 unfold J8;rw[dif_pos h];exact FW h
theorem FR{a:R3}(hp:P4 p)(z:Ao a b c%p≠0)(hx:NF p x):NF p (J8 p (ap a b c x))/\Pr p (J8 p (ap a b c x)) (ap a b c x):=by
 obtain⟨l,el⟩:=MX hp z hx.2 Z5.rfl;exact O9 hp el
theorem Lr(hp:P4 p)(hx:NF p x)(hy:NF p y)(h:Pr p x y):x=y:=XO hp hx.1 hy.1 hx.2 hy.2 h
theorem KF{a:R3}(hp:P4 p)(z:Ao a b c%p≠0)(hx:NF p x):J8 p (ap (bk0 a b c) (bk1 a b c) (bk2 a b c) (J8 p (ap a b c x)))=x:=by
 obtain⟨h1,h2⟩:=FR hp z hx;have zB:=HW hp z;obtain⟨h3,h4⟩:=FR hp zB h1;refine Lr hp h3 hx (h4.trans hp ((Pr.ap h2).trans hp ?_));rw[Qv];exact⟨_,z,Z5.rfl⟩
theorem RJ{a:R3}(hp:P4 p)(z:Ao a b c%p≠0)(hx:NF p x):J8 p (ap a b c (J8 p (ap (bk0 a b c) (bk1 a b c) (bk2 a b c) x)))=x:=by
 have zB:=HW hp z;obtain⟨h1,h2⟩:=FR hp zB hx;obtain⟨h3,h4⟩:=FR hp z h1;refine Lr hp h3 hx (h4.trans hp ((Pr.ap h2).trans hp ?_));rw[qi];exact⟨_,z,Z5.rfl⟩
theorem yK{a:R3}(hp:P4 p)(z:Ao a b c%p≠0)(Q:R3->Ai):((Fs p).filter λx=>Q (J8 p (ap a b c x))).length=((Fs p).filter Q).length:=by
 have zB:=HW hp z;exact yL (OT hp) (λx=>J8 p (ap a b c x)) (λx=>J8 p (ap (bk0 a b c) (bk1 a b c) (bk2 a b c) x)) (λx hx=>(Em hp).mpr (FR hp z ((Em hp).mp hx)).1) (λx hx=>(Em hp).mpr (FR hp zB ((Em hp).mp hx)).1) (λx hx=>KF hp z ((Em hp).mp hx)) (λx hx=>RJ hp z ((Em hp).mp hx)) Q
def HY(p:Ad):Ad:=if p=7 then 3 else 2
def q4(w:Ag)(k:Ad)(y:R3):Ad:=match w with
  |0=>y.1*y.2.2-y.2.1*y.2.1
  |1=>y.1*y.1
  |2=>y.1*y.2.1
  |_=>y.1*y.1-k*(y.2.1*y.2.1)
def E4(w:Ag)(k:Ad)(a b c:R3):C6:=match w with
  |0=>LD (Ê a c) (Ê b b)
  |1=>Ê a a
  |2=>Ê a b
  |_=>LD (Ê a a) (zf k (Ê b b))
def W4(w:Ag):Prop:=w=0\/w=1\/w=2\/w=3
theorem MZ(u v x:R3):vI (Ê u v) x=AI u x*AI v x:=by
 unfold vI Ê AI;simp only;grind
theorem Yw(A B:C6)(x:R3):vI (LD A B) x=vI A x-vI B x:=by
 unfold vI LD;simp only;grind
theorem PR(k:Ad)(A:C6)(x:R3):vI (zf k A) x=k*vI A x:=by
 unfold vI zf;simp only;grind
theorem jP(hw:W4 w)(k:Ad)(a b c x:R3):vI (E4 w k a b c) x=q4 w k (ap a b c x):=by
 rcases hw with rfl|rfl|rfl|rfl
 .show vI (LD _ _) x=AI a x*AI c x-AI b x*AI b x;rw[Yw,MZ,MZ]
 .show vI (Ê _ _) x=AI a x*AI a x;rw[MZ]
 .show vI (Ê _ _) x=AI a x*AI b x;rw[MZ]
 .show vI (LD _ _) x=AI a x*AI a x-k*(AI b x*AI b x);rw[Yw,PR,MZ,MZ]
theorem vo(hw:W4 w)(k d:Ad)(y:R3):q4 w k (AL d y)=d*d*q4 w k y:=by
 rcases hw with rfl|rfl|rfl|rfl<;>(unfold q4 AL;simp only;grind)
theorem vt(hw:W4 w)(h:Z5 p y y'):Cg p (q4 w k y) (q4 w k y'):=by
 rcases hw with rfl|rfl|rfl|rfl
 .exact(h.1.mul h.2.2).sub (h.2.1.mul h.2.1)
 .exact h.1.mul h.1
 .exact h.1.mul h.2.1
 .exact(h.1.mul h.1).sub (Cg.rfl.mul (h.2.1.mul h.2.1))
theorem vq(hw:W4 w)(hp:P4 p)(h:Pr p y y'):(q4 w k y%p=0)↔(q4 w k y'%p=0):=by
 obtain⟨d,dz,e⟩:=h;have q:=(vt (k:=k) hw e).trans (Cg.of (vo hw k d y'));rw[show q4 w k y%p=_ from q]
 exact Ho hp (Ck hp dz dz)
theorem T6(hw:W4 w){a:R3}(hp:P4 p)(z:Ao a b c%p≠0)(h:Cl p C (E4 w k a b c))(hx:NF p x):(vI C x%p=0)↔(q4 w k (J8 p (ap a b c x))%p=0):=by
 rw[vq hw hp (FR hp z hx).2,<-jP hw];obtain⟨d,dz,e⟩:=h;have q:=(Mi e Z5.rfl (x:=x)).trans (Cg.of (PR d _ x));rw[show vI C x%p=_ from q]
 exact Ho hp dz
def Oe(p:Ad)(w:Ag):Ag:=match w with
  |0=>(p+1).toNat
  |1=>(p+1).toNat
  |2=>(2*p+1).toNat
  |_=>1
theorem jJ(hp:P4 p)(hw:W4 w):((Fs p).filter λy=>decide (q4 w (HY p) y%p=0)).length=Oe p w:=by
 rcases hp with rfl|rfl|rfl|rfl<;>rcases hw with rfl|rfl|rfl|rfl<;>decide+kernel
noncomputable def AX(p:Ad)(C:C6):Ac R3:=(Fs p).filter λx=>decide (vI C x%p=0)
theorem Xe(hw:W4 w){a:R3}(hp:P4 p)(z:Ao a b c%p≠0)(h:Cl p C (E4 w (HY p) a b c)):(AX p C).length=Oe p w:=by
 rw[<-jJ hp hw,<-yK hp z];unfold AX
 congr 1
 refine G4 λx hx=>?_
 rw[Gj];exact T6 hw hp z h ((Em hp).mp hx)
noncomputable def no3(p:Ad)(l:Ac R3):Ai:=l.all λx=>l.all λy=>l.all λu=>decide (x=y)||decide (x=u)||decide (y=u)||decide (Ao x y u%p≠0)
theorem nj(hp:P4 p):no3 p ((Fs p).filter λy=>decide (q4 0 (HY p) y%p=0))=Aa:=by
 rcases hp with rfl|rfl|rfl|rfl<;>decide+kernel
theorem tQ{a:R3}(hp:P4 p)(z:Ao a b c%p≠0)(h:Cl p C (E4 0 (HY p) a b c))(hx:x∈AX p C)(hy:y∈AX p C)(hu:u∈AX p C)(n1:x≠y)(n2:x≠u)(n3:y≠u):Ao x y u%p≠0:=by
 have hw:W4 0:=.inl rfl;have led:∀{x:R3},x∈AX p C->NF p x/\J8 p (ap a b c x)∈((Fs p).filter λy=>decide (q4 0 (HY p) y%p=0))/\Pr p (J8 p (ap a b c x)) (ap a b c x):=λ{x} hx=>by
  obtain⟨h1,h2⟩:=AH.mp hx;have nx:=(Em hp).mp h1;obtain⟨s1,s2⟩:=FR hp z nx;refine⟨nx,AH.mpr ⟨(Em hp).mpr s1,?_⟩,s2⟩;rw[AN]at h2 ⊢;exact(T6 hw hp z h nx).mp h2
 obtain⟨nx,mx,px⟩:=led hx;obtain⟨ny,my,py⟩:=led hy;obtain⟨nu,mu,pu⟩:=led hu;have inj:∀{x y:R3},NF p x->NF p y->x≠y->J8 p (ap a b c x)≠J8 p (ap a b c y):=λ{x y} hx hy ne e=>ne (by rw[<-KF hp z hx,<-KF hp z hy,e])
 have all:=nj hp;unfold no3 at all;rw[Cj]at all;have a1:=all _ mx;rw[Cj]at a1;have a2:=a1 _ my;rw[Cj]at a2;have a3:=a2 _ mu;simp only[DX,AN]at a3;rcases a3 with ((e|e)|e)|e
 .exact absurd e (inj nx ny n1)
 .exact absurd e (inj nx nu n2)
 .exact absurd e (inj ny nu n3)
 .intro z0;obtain⟨d1,_,g1⟩:=px;obtain⟨d2,_,g2⟩:=py;obtain⟨d3,_,g3⟩:=pu;have q:=MP g1 g2 g3;refine e ?_;rw[show Ao _ _ _%p=_ from q,Bu,Bu (Ao a b c),z0,Fj,BQ,Fj,BQ]
def Bz(pts:Ac R3):D:=.L (pts.map (Ap Aa))
theorem Wb:∀(xs:Ac R3),(∀ x∈xs,g (Ap Aa x)=.ok (q x)/\f (Ap Aa x)=.ok (Ap Aa x))->B7 g f (xs.map (Ap Aa))=.ok ((xs.filter q).map (Ap Aa))
 |[],_=>rfl
 |x::xs,h=>by
  obtain⟨h1,h2⟩:=h x (Av ..);have ih:=Wb xs λy hy=>h y (As _ hy)
  show (g (Ap Aa x)).bind _=_;rw[h1,R.bind_ok,EE];cases hq:q x with
  |true=>
   rw[AB rfl,AB rfl,h2,R.bind_ok,show B7 g f (List.map (Ap Aa) xs)=_ from ih]
   rfl
  |false=>
   rw[AF (by decide),AF (by decide)]
   exact ih
def kZ:Ss:={.app 1 (.H {.int 0,.int 1,.var 2})}
def lD:E:=(.H {.int 1,.var 3,.var 4})
def kY:Ss:={.ext 1 (.comp lD 4 (.rng (.var 0)) Cv)}
def Wc:Df:=⟨5,Aa,{.asg 1 Aa (.L {.H {.int 0,.int 0,.int 1}}),.fors 2 (.rng (.var 0)) kZ,.fors 3 (.rng (.var 0)) kY,.ret (.var 1)}⟩
def iI(J:Y7):Prop:=∀ p:Ad,P4 p->J.F 69 [.int p]=.ok (Bz (Fs p))
theorem vg(J:Y7)(p:Ad)(hp:P4 p):Wc.run J [.int p]=.ok (Bz (Fs p)):=by
 rcases hp with rfl|rfl|rfl|rfl<;>kernel_rfl!
def Ru:E:=(.cmp .Eq (.call 126 {.var 0,.var 1,.var 2}) (.int 0))
def Rv:E:=(.var 2)
def OL:Df:=⟨3,Aa,{.ret (.comp Rv 2 (.e (.call 69 {.var 0})) Ru)}⟩
def Yh(J:Y7):Prop:=∀(p:Ad)(C:C6),P4 p->xq p C->J.F 128 [.int p,C3 C]=.ok (Bz (AX p C))
theorem uE(ht:iI J)(hv:Ye J)(p:Ad)(C:C6)(hp:P4 p)(iC:xq p C):OL.run J [.int p,C3 C]=.ok (Bz (AX p C)):=by
 have e1:=ht p hp;have cp:B7 (cG J [si p,sh (C3 C),Af] 2 Ru) (cF J [si p,sh (C3 C),Af] 2 Rv) ((Fs p).map (Ap Aa))=.ok ((AX p C).map (Ap Aa)):=by
  refine Wb (Fs p) λx hx=>⟨?_,?_⟩
  .have e:=hv p C x hp iC ((Em hp).mp hx).1;generalize vI C x%p=v at *;simp[cG,Ru,e];rw[ET];simp
  .simp[cF,Rv]
 have sq:Db (Bz (Fs p))=.ok ((Fs p).map (Ap Aa)):=rfl;generalize Fs p=A at *;generalize Bz A=AA at *;simp[OL,Df.run,Co,e1,sq,cp];rfl
theorem aq(a b c:R3):AI (crs a b) c=Ao a b c:=by
 unfold AI crs Ao zj;grind
theorem ed(x:R3):Ap Aa x=tI (J3 x):=by
 unfold Ap Ep;rw[AB rfl];rfl
theorem Xa(m:Ac R3):m.map (Ap Aa)=(m.map J3).map tI:=by
 rw[CF];exact DY λx _=>ed x
theorem wZ(hp:P4 p):((Fs p).map J3).Pairwise (λa b=>BU a b=Aa):=by
 rcases hp with rfl|rfl|rfl|rfl<;>decide+kernel
theorem sO(h:J3 x=J3 y):x=y:=by
 obtain⟨x0,x1,x2⟩:=x;obtain⟨y0,y1,y2⟩:=y;unfold J3 at h;simp at h;obtain⟨rfl,rfl,rfl⟩:=h;rfl
theorem t9{l:Ac R3}(hp:P4 p)(hn:∀ x∈l,NF p x)(nd:l.Nodup)(ċ:l.length<64):F3 (l.map (Ap Aa))=.ok (((Fs p).filter λx=>decide (x∈l)).map (Ap Aa)):=by
 rw[Xa,Xa];refine nK (λr hr=>?_) (NJ nd λx _ y _=>sO) (by rw[A6];exact ċ) (List.Pairwise.sublist ((List.filter_sublist).map J3) (wZ hp)) λr=>?_
 .obtain⟨x,_,rfl⟩:=Bp.mp hr;intro z;cases z
 .rw[Bp,Bp];constructor
  .rintro⟨x,hx,rfl⟩;have:=(AH.mp hx).2;exact⟨x,by simpa using this,rfl⟩
  .rintro⟨x,hx,rfl⟩;exact⟨x,AH.mpr ⟨(Em hp).mpr (hn x hx),by simpa using hx⟩,rfl⟩
theorem kW[DecidableEq α]{l:Ac α}{q:α->Ai}{y:α}(nd:l.Nodup)(hy:y∈l)(h:∀ x∈l,q x=Aa↔x=y):l.filter q=[y]:=by
 have hm:∀ x,x∈l.filter q↔x∈[y]:=λx=>by
  rw[AH,Bc];constructor
  .rintro⟨h1,h2⟩;exact(h x h1).mp h2
  .rintro rfl;exact⟨hy,(h x hy).mpr rfl⟩
 exact List.perm_singleton.mp (RO (nd.filter _) (by simp) hm)
def VO(a b:R3):AI a b=AI b a:=by
 unfold AI;grind
noncomputable def ptL(p:Ad)(l:R3):Ac R3:=(Fs p).filter λx=>decide (AI x l%p=0)
theorem Px(h:Mc J){a:R3}(hp:P4 p)(ha:NF p a)(hb:NF p b)(ne:a≠b):∃ y,NF p y/\Pr p y (crs a b)/\J.F 57 [.int p,Ap Aa a,Ap Aa b]=.ok (Ap Aa y):=by
 obtain⟨y,h1,h2,h3,e⟩:=h p a b hp ha.1 hb.1 ha.2 hb.2 ne;exact⟨y,⟨h1,h2⟩,h3,e⟩
theorem SU{a:R3}(hp:P4 p)(pl:Pr p l (crs a b)):AI x l%p=0↔Ao a b x%p=0:=by
 rw[VO,ZF hp pl (Pr.rfl hp (x:=x)),aq]
theorem XI(a b:R3):Ao a b a=0/\Ao a b b=0:=by
 unfold Ao zj;constructor<;>grind
def É(p:Ad)(C:C6)(x:R3):R3:=J8 p (ap (J5 C) (J6 C) (J7 C) x)
abbrev yn(p:Ad)(C:C6):Prop:=Ao (J5 C) (J6 C) (J7 C)%p≠0
theorem rJ(hp:P4 p)(z:yn p C)(hx:NF p x):NF p (É p C x)/\Pr p (É p C x) (ap (J5 C) (J6 C) (J7 C) x):=FR hp z hx
theorem KH(hp:P4 p)(z:yn p C)(hx:NF p x):AI y (É p C x)%p=0↔bI C x y%p=0:=by
 rw[VO,ZF hp (rJ hp z hx).2 (Pr.rfl hp (x:=y))];exact LN
def b4(u v:R3):Ad:=u.1*v.2.2+u.2.2*v.1-2*(u.2.1*v.2.1)
theorem iE(k:Ad)(a b c x y:R3):bI (E4 0 k a b c) x y=b4 (ap a b c x) (ap a b c y):=by
 unfold bI E4 b4 ap AI J5 J6 J7 LD Ê;simp only;grind
theorem qf(d:Ad)(C:C6)(x y:R3):bI (zf d C) x y=d*bI C x y:=by
 unfold bI ap AI J5 J6 J7 zf;simp only;grind
theorem YN{E:C6}(hp:P4 p)(h:Cl p C E)(x y:R3):bI C x y%p=0↔bI E x y%p=0:=by
 obtain⟨d,dz,e⟩:=h;obtain⟨x0,x1,x2⟩:=N7 e;have q:Cg p (bI C x y) (bI (zf d E) x y):=G9 ⟨G9 x0 Z5.rfl,G9 x1 Z5.rfl,G9 x2 Z5.rfl⟩ Z5.rfl;rw[show bI C x y%p=_ from q,qf]
 exact Ho hp dz
theorem iF(hp:P4 p)(h:Pr p u u')(g:Pr p v v'):b4 u v%p=0↔b4 u' v'%p=0:=by
 obtain⟨d,dz,e⟩:=h;obtain⟨d',ω,e'⟩:=g;have q:Cg p (b4 u v) (b4 (AL d u') (AL d' v')):=((e.1.mul e'.2.2).add (e.2.2.mul e'.1)).sub (Cg.rfl.mul (e.2.1.mul e'.2.1));have q2:b4 (AL d u') (AL d' v')=d*d'*b4 u' v':=by
  unfold b4 AL;simp only;grind
 rw[show b4 u v%p=_ from q,q2]
 exact Ho hp (Ck hp dz ω)
theorem nk(hp:P4 p):(((Fs p).filter λy=>decide (q4 0 (HY p) y%p=0)).all λu=>((Fs p).filter λy=>decide (q4 0 (HY p) y%p=0)).all λv=>decide (b4 u v%p=0)==decide (u=v))=Aa:=by
 rcases hp with rfl|rfl|rfl|rfl<;>decide+kernel
theorem Zk{a:R3}(hp:P4 p)(z:Ao a b c%p≠0)(h:Cl p C (E4 0 (HY p) a b c))(hx:x∈AX p C)(hy:y∈AX p C):bI C x y%p=0↔x=y:=by
 have hw:W4 0:=.inl rfl;have led:∀{x:R3},x∈AX p C->NF p x/\J8 p (ap a b c x)∈((Fs p).filter λy=>decide (q4 0 (HY p) y%p=0))/\Pr p (J8 p (ap a b c x)) (ap a b c x):=λ{x} hx=>by
  obtain⟨h1,h2⟩:=AH.mp hx;have nx:=(Em hp).mp h1;obtain⟨s1,s2⟩:=FR hp z nx;refine⟨nx,AH.mpr ⟨(Em hp).mpr s1,?_⟩,s2⟩;rw[AN]at h2 ⊢;exact(T6 hw hp z h nx).mp h2
 obtain⟨nx,mx,px⟩:=led hx;obtain⟨ny,my,py⟩:=led hy;have all:=nk hp;rw[Cj]at all;have a1:=all _ mx;rw[Cj]at a1;have a2:=a1 _ my;rw[Ce,Gj]at a2;rw[YN hp h,iE,<-iF hp px py,a2];constructor
 .intro e;rw[<-KF hp z nx,<-KF hp z ny,e]
 .intro e;rw[e]
def Ml(p:Ad)(C:C6)(l:R3):Ac R3:=(ptL p l).filter λx=>decide (vI C x%p=0)
theorem S7(hp:P4 p)(z:Ao a b c%p≠0)(w:yn p C)(h:Cl p C (E4 0 (HY p) a b c))(hx:x∈AX p C):Ml p C (É p C x)=[x]:=by
 obtain⟨h1,h2⟩:=AH.mp hx;have nx:=(Em hp).mp h1;have xl:x∈ptL p (É p C x):=AH.mpr ⟨h1,Cm ((KH hp w nx).mpr ((Zk hp z h hx hx).mpr rfl))⟩;refine kW ((OT hp).filter _) xl λy hy=>?_
 obtain⟨g1,g2⟩:=AH.mp hy;rw[AN]at g2;constructor
 .intro v;exact((Zk hp z h hx (AH.mpr ⟨g1,v⟩)).mp ((KH hp w nx).mp g2)).symm
 .intro e;rw[e];exact h2
noncomputable def sides:D:=.H [.str (Do "inner"),.str (Do "on"),.str (Do "outer")]
theorem N5(C:C6)(a b c x:R3):vI (pb C a b c) x=vI C (ap a b c x):=by
 have e:ap a b c x=(x.1*(Bf a b c).1+x.2.1*(Bb a b c).1+x.2.2*(Ba a b c).1,x.1*(Bf a b c).2.1+x.2.1*(Bb a b c).2.1+x.2.2*(Ba a b c).2.1,x.1*(Bf a b c).2.2+x.2.1*(Bb a b c).2.2+x.2.2*(Ba a b c).2.2):=by
  unfold ap AI Bf Bb Ba;simp only;refine BJ ?_ (BJ ?_ ?_)<;>(simp only;grind)
 rw[e,Ts];have e2:∀(u0 u1 u2 u3 u4 u5:Ad),vI ⟨u0,u1,u2,u3,u4,u5⟩ x=x.1*x.1*u0+x.2.1*x.2.1*u1+x.2.2*x.2.2*u2+(x.1*x.2.1*u3+x.1*x.2.2*u4+x.2.1*x.2.2*u5):=λu0 u1 u2 u3 u4 u5=>by
  unfold vI;simp only;grind
 exact e2 ..
theorem Tt(C:C6)(k:Ad)(x:R3):vI C (AL k x)=k*k*vI C x:=by
 unfold vI AL;simp only;grind
theorem jt{E:C6}{a:R3}(hp:P4 p)(z:Ao a b c%p≠0)(h:Cl p E (pb C (bk0 a b c) (bk1 a b c) (bk2 a b c))):∃ k,k%p≠0/\∀ x,Cg p (vI E (ap a b c x)) (k*vI C x):=by
 obtain⟨d,dz,e⟩:=h;refine⟨d*(Ao a b c*Ao a b c),Ck hp dz (Ck hp z z),λx=>?_⟩
 refine(Mi e Z5.rfl).trans (Cg.of ?_);rw[PR,N5,Qv,Tt];simp only[Gp]
theorem Nk(hp:P4 p)(h:Pr p x y):vI C x%p=0↔vI C y%p=0:=by
 obtain⟨d,dz,e⟩:=h;have q:=(Mi (D:=C) ⟨Cg.rfl,Cg.rfl,Cg.rfl,Cg.rfl,Cg.rfl,Cg.rfl⟩ e).trans (Cg.of (Tt C d y));rw[show vI C x%p=_ from q]
 exact Ho hp (Ck hp dz dz)
theorem Ys{E:C6}{a:R3}(hp:P4 p)(z:Ao a b c%p≠0)(h:Cl p E (pb C (bk0 a b c) (bk1 a b c) (bk2 a b c)))(hx:NF p x):vI E (J8 p (ap a b c x))%p=0↔vI C x%p=0:=by
 obtain⟨k,kz,e⟩:=jt hp z h;rw[Nk hp (FR hp z hx).2,show vI E (ap a b c x)%p=_ from e x]
 exact Ho hp kz
theorem oS{E:C6}{a:R3}(hp:P4 p)(z:Ao a b c%p≠0)(h:Cl p E (pb C (bk0 a b c) (bk1 a b c) (bk2 a b c))){l:Ac R3}(nd:l.Nodup)(hl:∀ x,x∈l↔NF p x/\vI C x%p=0)(ċ:l.length<64):F3 ((l.map λx=>J8 p (ap a b c x)).map (Ap Aa))=.ok ((AX p E).map (Ap Aa)):=by
 have inj:∀ x∈l,∀ y∈l,J8 p (ap a b c x)=J8 p (ap a b c y)->x=y:=λx hx y hy e=>by
  have h1:=KF hp z ((hl x).mp hx).1;have h2:=KF hp z ((hl y).mp hy).1;rw[<-h1,<-h2,e]
 rw[t9 hp (l:=l.map λx=>J8 p (ap a b c x)) (λy hy=>by
  obtain⟨x,hx,rfl⟩:=Bp.mp hy;exact(FR hp z ((hl x).mp hx).1).1) (NJ nd inj) (by rw[A6];exact ċ)]
 congr 2
 unfold AX;refine G4 λy hy=>Gj.mpr ?_
 have ny:=(Em hp).mp hy;constructor
 .intro h1;obtain⟨x,hx,rfl⟩:=Bp.mp h1;exact(Ys hp z h ((hl x).mp hx).1).mpr ((hl x).mp hx).2
 .intro h1;have zB:=HW hp z;have hb:=RJ hp z ny;have nx:=(FR hp zB ny).1;refine Bp.mpr ⟨J8 p (ap (bk0 a b c) (bk1 a b c) (bk2 a b c) y),(hl _).mpr ⟨nx,?_⟩,hb⟩;rw[<-Ys hp z h nx,hb];exact h1
theorem Pu(hp:P4 p):x∈Ml p C l↔x∈AX p C/\AI x l%p=0:=by
 unfold Ml ptL AX;rw[AH,AH,AH,AN,AN];exact⟨λh=>⟨⟨h.1.1,h.2⟩,h.1.2⟩,λh=>⟨⟨h.1.1,h.2⟩,h.1.2⟩⟩
def xu(p:Ad)(C:C6)(l:R3):R3:=J8 p (ap (bk0 (J5 C) (J6 C) (J7 C)) (bk1 (J5 C) (J6 C) (J7 C)) (bk2 (J5 C) (J6 C) (J7 C)) l)
def Pz(J:Y7):Prop:=∀(p:Ad)(C:C6)(x:R3),P4 p->xq p C->yn p C->NF p x->J.F 149 [.int p,C3 C,Ap Aa x]=.ok (Ap Aa (xu p C x))
theorem tV(hp:P4 p)(z:yn p C)(hx:NF p x):NF p (xu p C x)/\É p C (xu p C x)=x:=by
 have zB:Ao (bk0 (J5 C) (J6 C) (J7 C)) (bk1 (J5 C) (J6 C) (J7 C)) (bk2 (J5 C) (J6 C) (J7 C))%p≠0:=HW hp z;exact⟨(FR hp zB hx).1,RJ hp z hx⟩
theorem u8(h:qk J):Pz J:=λp C x hp iC z nx=>by
 obtain⟨y,i,l,pr,e⟩:=h p C x hp iC z nx.1 nx.2;have zB:Ao (bk0 (J5 C) (J6 C) (J7 C)) (bk1 (J5 C) (J6 C) (J7 C)) (bk2 (J5 C) (J6 C) (J7 C))%p≠0:=HW hp z;obtain⟨h1,h2⟩:=FR hp zB nx;have q:y=xu p C x:=Lr hp ⟨i,l⟩ h1 (pr.trans hp (h2.symm hp));rw[<-q];exact e
structure ç (p:Ad) (C:C6) (A B P U:R3):Prop where
 vA:vI C A%p=0
 vB:vI C B%p=0
 vU:vI C U%p=0
 bA:bI C A P%p=0
 bB:bI C B P%p=0
theorem P6(A B P x:R3):AL (Ao A B P) x=(Ao x B P*A.1+Ao A x P*B.1+Ao A B x*P.1,Ao x B P*A.2.1+Ao A x P*B.2.1+Ao A B x*P.2.1,Ao x B P*A.2.2+Ao A x P*B.2.2+Ao A B x*P.2.2):=by
 unfold AL Ao zj;refine BJ ?_ (BJ ?_ ?_)<;>(simp only;grind)
section
variable{R:C6}
theorem ÿ{k:Ad}(h:x%p=0):Cg p (k*x) 0:=by
 show k*x%p=0%p;rw[Bu,h,Fj]
theorem Xi(h:ç p C A B P U)(x:R3):Cg p (Ao A B P*Ao A B P*vI C x) (Ao A B x*Ao A B x*vI C P+Ao x B P*Ao A x P*bI C A B):=by
 have e:=Ts C A B P (Ao x B P) (Ao A x P) (Ao A B x);rw[<-P6,Tt]at e;rw[e];generalize Ao x B P=α;generalize Ao A x P=β;generalize Ao A B x=γ;have k1:Cg p (α*α*vI C A) 0:=ÿ h.vA;have k2:Cg p (β*β*vI C B) 0:=ÿ h.vB;have k3:Cg p (α*γ*bI C A P) 0:=ÿ h.bA;have k4:Cg p (β*γ*bI C B P) 0:=ÿ h.bB;refine(((k1.add k2).add Cg.rfl).add ((Cg.rfl.add k3).add k4)).trans (Cg.of ?_);grind
theorem T5(h:ç p C A B P U)(x:R3):Cg p (Ao A B U*Ao A B U*(Ao A B P*Ao A B P*vI C x)) (bI C A B*(Ao A B U*Ao A B U*(Ao x B P*Ao A x P)-Ao A B x*Ao A B x*(Ao U B P*Ao A U P))):=by
 have e1:=Xi h x;have e2:=Xi h U;have e0:Cg p (Ao A B P*Ao A B P*vI C U) 0:=ÿ h.vU;have e3:Cg p (Ao A B U*Ao A B U*vI C P+Ao U B P*Ao A U P*bI C A B) 0:=e2.symm.trans e0;generalize Ao A B P=D,Ao x B P=α,Ao A x P=β,Ao A B x=γ,Ao U B P=α0,Ao A U P=β0,Ao A B U=γ0,bI C A B=b,vI C P=v,vI C x=vx at *;have e4:Cg p (γ0*γ0*(D*D*vx)) (γ0*γ0*(γ*γ*v+α*β*b)):=Cg.rfl.mul e1;have e5:Cg p (γ*γ*(γ0*γ0*v+α0*β0*b)) (γ*γ*0):=Cg.rfl.mul e3;refine e4.trans ?_;have e6:γ0*γ0*(γ*γ*v+α*β*b)=γ*γ*(γ0*γ0*v+α0*β0*b)+b*(γ0*γ0*(α*β)-γ*γ*(α0*β0)):=by grind
 rw[e6];refine(e5.add Cg.rfl).trans (Cg.of ?_);grind
theorem Ze{k:Ad}(hp:P4 p)(kz:k%p≠0)(h:Cg p (k*x) (k*y)):Cg p x y:=by
 have e:k*(x-y)%p=0:=by
  have q:=h.sub (Cg.rfl (p:=p) (a:=k*y));have q2:(k*x-k*y)%p=(k*y-k*y)%p:=q
  rwa [Int.sub_self,BQ,<-aE]at q2
 have z:=(Ho hp kz).mp e;have q3:=Cg.add (p:=p) (a:=x-y) (b:=0) (c:=y) (d:=y) (by show (x-y)%p=0%p;rw[z,BQ]) Cg.rfl
 have q4:Cg p (x-y+y) (0+y):=q3
 rwa [aF,FX]at q4
theorem bg(hp:P4 p)(d1:Ao A B P%p≠0)(d2:Ao A B U%p≠0)(hC:ç p C A B P U)(hR:ç p R A B P U)(x:R3):Cg p (bI C A B*vI R x) (bI R A B*vI C x):=by
 have e1:=T5 hC x;have e2:=T5 hR x;generalize (Ao A B U*Ao A B U*(Ao x B P*Ao A x P)-Ao A B x*Ao A B x*(Ao U B P*Ao A U P))=F at *;refine Ze hp (k:=Ao A B U*Ao A B U*(Ao A B P*Ao A B P)) (Ck hp (Ck hp d2 d2) (Ck hp d1 d1)) ?_;generalize Ao A B U=γ,Ao A B P=D,bI C A B=b,bI R A B=r at *;have f1:Cg p (b*(γ*γ*(D*D*vI R x))) (b*(r*F)):=Cg.rfl.mul e2;have f2:Cg p (r*(γ*γ*(D*D*vI C x))) (r*(b*F)):=Cg.rfl.mul e1;refine(Cg.of (by grind)).trans (f1.trans ((Cg.of (by grind:b*(r*F)=r*(b*F))).trans (f2.symm.trans (Cg.of (by grind)))))
theorem Zf{k:Ad}(h:∀ x,Cg p (k*vI R x) (l*vI C x)):zr p (zf k R) (zf l C):=by
 have a0:=h (1,0,0);have a1:=h (0,1,0);have a2:=h (0,0,1);have b0:=h (1,1,0);have b1:=h (1,0,1);have b2:=h (0,1,1);have v0:∀ E:C6,vI E (1,0,0)=E.c0:=λE=>by unfold vI;simp
 have v1:∀ E:C6,vI E (0,1,0)=E.c1:=λE=>by unfold vI;simp
 have v2:∀ E:C6,vI E (0,0,1)=E.c2:=λE=>by unfold vI;simp
 have w0:∀ E:C6,vI E (1,1,0)=E.c0+E.c1+E.c3:=λE=>by unfold vI;simp
 have w1:∀ E:C6,vI E (1,0,1)=E.c0+E.c2+E.c4:=λE=>by unfold vI;simp
 have w2:∀ E:C6,vI E (0,1,1)=E.c1+E.c2+E.c5:=λE=>by unfold vI;simp
 rw[v0,v0]at a0;rw[v1,v1]at a1;rw[v2,v2]at a2;rw[w0,w0]at b0;rw[w1,w1]at b1;rw[w2,w2]at b2;refine⟨a0,a1,a2,?_,?_,?_⟩
 .have:=(b0.sub a0).sub a1;refine(Cg.of ?_).trans (this.trans (Cg.of ?_))<;>(unfold zf;simp only;grind)
 .have:=(b1.sub a0).sub a2;refine(Cg.of ?_).trans (this.trans (Cg.of ?_))<;>(unfold zf;simp only;grind)
 .have:=(b2.sub a1).sub a2;refine(Cg.of ?_).trans (this.trans (Cg.of ?_))<;>(unfold zf;simp only;grind)
theorem QP(hp:P4 p)(w:yn p C)(d1:Ao A B P%p≠0)(d2:Ao A B U%p≠0)(hC:ç p C A B P U):bI C A B%p≠0:=λz=>by
 refine w ?_;have v0:∀ x,Cg p (1*vI C x) (0*vI C x):=λx=>by
  rw[Da,Jn];refine Ze hp (k:=Ao A B U*Ao A B U*(Ao A B P*Ao A B P)) (Ck hp (Ck hp d2 d2) (Ck hp d1 d1)) ?_;have e1:=T5 hC x;refine(Cg.of (by grind)).trans (e1.trans ?_)
  rw[Fj];show _%p=0%p;rw[Bu,z,Jn]
 have c:=Zf v0;rw[NX]at c;obtain⟨t0,t1,t2⟩:=N7 c;have e:=JB t0 t1 t2;rw[SF]at e;show Ao (J5 C) (J6 C) (J7 C)%p=0;rw[show Ao (J5 C) (J6 C) (J7 C)%p=_ from e]
 simp
theorem rH(hp:P4 p)(wC:yn p C)(wR:yn p R)(d1:Ao A B P%p≠0)(d2:Ao A B U%p≠0)(hC:ç p C A B P U)(hR:ç p R A B P U):Cl p R C:=by
 have b1:=QP hp wC d1 d2 hC;have b2:=QP hp wR d1 d2 hR;obtain⟨u,uz,ue⟩:=PN hp b1;refine⟨u*bI R A B,Ck hp uz b2,?_⟩;have c:=Zf (bg hp d1 d2 hC hR);have e1:zr p (zf u (zf (bI C A B) R)) (zf u (zf (bI R A B) C)):=zr.sc Cg.rfl c;rw[P5,P5]at e1;have e2:zr p (zf (u*bI C A B) R) (zf 1 R):=zr.sc ue zr.rfl;rw[NX]at e2;exact e2.symm.trans e1
end
section
variable{E:C6}
theorem Uw(C:C6)(a b c x y:R3):bI (pb C a b c) x y=bI C (ap a b c x) (ap a b c y):=by
 have e:∀ u:R3,ap a b c u=(u.1*(Bf a b c).1+u.2.1*(Bb a b c).1+u.2.2*(Ba a b c).1,u.1*(Bf a b c).2.1+u.2.1*(Bb a b c).2.1+u.2.2*(Ba a b c).2.1,u.1*(Bf a b c).2.2+u.2.1*(Bb a b c).2.2+u.2.2*(Ba a b c).2.2):=λu=>by
  unfold ap AI Bf Bb Ba;simp only;refine BJ ?_ (BJ ?_ ?_)<;>(simp only;grind)
 rw[e x,e y,UO];rfl
theorem YM(C:C6)(k l:Ad)(x y:R3):bI C (AL k x) (AL l y)=k*l*bI C x y:=by
 unfold bI ap AI AL;simp only;grind
theorem Qr(hp:P4 p)(h:Pr p x x')(g:Pr p y y'):bI C x y%p=0↔bI C x' y'%p=0:=by
 obtain⟨d,dz,e⟩:=h;obtain⟨d',ω,e'⟩:=g;have q:=(Qs (zr.rfl (C:=C)) e e').trans (Cg.of (YM C d d' x' y'));rw[show bI C x y%p=_ from q]
 exact Ho hp (Ck hp dz ω)
theorem pg(hp:P4 p)(h:ç p E A' B' P' U')(hA:Pr p A' (ap a b c A))(hB:Pr p B' (ap a b c B))(hP:Pr p P' (ap a b c P))(hU:Pr p U' (ap a b c U)):ç p (pb E a b c) A B P U:=
 ⟨by rw[N5];exact(Nk hp hA).mp h.vA,by rw[N5];exact(Nk hp hB).mp h.vB,by rw[N5];exact(Nk hp hU).mp h.vU,by rw[Uw];exact(Qr hp hA hP).mp h.bA,by rw[Uw];exact(Qr hp hB hP).mp h.bB⟩
theorem Yv(hp:P4 p)(z:Ao a b c%p≠0)(w:yn p E):yn p (pb E a b c):=by
 show Ao _ _ _%p≠0;rw[ng];exact Ck hp (Ck hp z z) w
theorem oJ(hp:P4 p)(z:Ao a b c%p≠0)(wC:yn p C)(wE:yn p E)(d1:Ao A B P%p≠0)(d2:Ao A B U%p≠0)(hC:ç p C A B P U)(hE:ç p E A' B' P' U')(hA:Pr p A' (ap a b c A))(hB:Pr p B' (ap a b c B))(hP:Pr p P' (ap a b c P))(hU:Pr p U' (ap a b c U)):Cl p (pb E a b c) C:=
 rH hp wC (Yv hp z wE) d1 d2 hC (pg hp hE hA hB hP hU)
theorem Y_0(hp:P4 p)(h:Cl p (pb E a b c) C)(x:R3):vI E (ap a b c x)%p=0↔vI C x%p=0:=by
 rw[<-N5];obtain⟨d,dz,e⟩:=h;have q:=(Mi e (Z5.rfl (a:=x))).trans (Cg.of (PR d C x));rw[show vI (pb E a b c) x%p=_ from q]
 exact Ho hp dz
end
def Pl(J:Y7):Prop:=∀(p:Ad)(b:Ai)(xs:Ac Ad)(l t:Ad),P4 p->Bg p xs=Ab l->ER p l t->J.F 288 [.int p,Ep b xs]=.ok (.H (ds (am p t xs)))
def RA:Df:=⟨6,Ae,{.asg 3 Ae (.B .Sub (.B .Mult (.idx (.var 1) (.int 1)) (.idx (.var 2) (.int 2))) (.B .Mult (.idx (.var 1) (.int 2)) (.idx (.var 2) (.int 1)))),.asg 4 Ae (.B .Sub (.B .Mult (.idx (.var 1) (.int 2)) (.idx (.var 2) (.int 0))) (.B .Mult (.idx (.var 1) (.int 0)) (.idx (.var 2) (.int 2)))),.asg 5 Ae (.B .Sub (.B .Mult (.idx (.var 1) (.int 0)) (.idx (.var 2) (.int 1))) (.B .Mult (.idx (.var 1) (.int 1)) (.idx (.var 2) (.int 0)))),.ret (.H {.B .Mod (.var 3) (.var 0),.B .Mod (.var 4) (.var 0),.B .Mod (.var 5) (.var 0)})}⟩
def rT(J:Y7):Prop:=∀(p:Ad)(q q':Ai)(a x:R3),0<p->B3 a->B3 x->J.F 232 [.int p,Ap q a,Ap q' x]=.ok (Ap Aa (LT p (crs a x)))
theorem rE(J:Y7)(p:Ad)(q q':Ai)(a x:R3)(p0:0<p)(ha:B3 a)(hx:B3 x):RA.run J [.int p,Ap q a,Ap q' x]=.ok (Ap Aa (LT p (crs a x))):=by
 obtain⟨x0,x1,x2⟩:=Fw q a;obtain⟨y0,y1,y2⟩:=Fw q' x;have k:∀ {u v},Bd 300 u->Bd 300 v->GD u v=Aa:=λhu hv=>KM hu hv (by decide) (by decide)
 simp[RA,Df.run,Co,x0,x1,x2,y0,y1,y2,k ha.1 hx.1,k ha.1 hx.2.1,k ha.1 hx.2.2,k ha.2.1 hx.1,k ha.2.1 hx.2.1,k ha.2.1 hx.2.2,k ha.2.2 hx.1,k ha.2.2 hx.2.1,k ha.2.2 hx.2.2,p0];rfl
def Se:Df:=⟨3,Ae,{.ret (.B .Mod (.B .Add (.B .Add (.B .Mult (.idx (.var 1) (.int 0)) (.idx (.var 2) (.int 0))) (.B .Mult (.idx (.var 1) (.int 1)) (.idx (.var 2) (.int 1)))) (.B .Mult (.idx (.var 1) (.int 2)) (.idx (.var 2) (.int 2)))) (.var 0))}⟩
def W3(J:Y7):Prop:=∀(p:Ad)(q q':Ai)(a x:R3),0<p->B3 a->B3 x->J.F 233 [.int p,Ap q a,Ap q' x]=.ok (.int (AI a x%p))
theorem rA(J:Y7)(p:Ad)(q q':Ai)(a x:R3)(p0:0<p)(ha:B3 a)(hx:B3 x):Se.run J [.int p,Ap q a,Ap q' x]=.ok (.int (AI a x%p)):=by
 obtain⟨x0,x1,x2⟩:=Fw q a;obtain⟨y0,y1,y2⟩:=Fw q' x;have k:∀ {u v},Bd 300 u->Bd 300 v->GD u v=Aa:=λhu hv=>KM hu hv (by decide) (by decide)
 simp[Se,Df.run,Co,x0,x1,x2,y0,y1,y2,k ha.1 hx.1,k ha.2.1 hx.2.1,k ha.2.2 hx.2.2,p0];rfl
def OK:E:=(.call 233 {.var 0,.var 3,.var 2})
def Rh:Df:=⟨4,Ae,{.ret (.call 288 {.var 0,.comp OK 3 (.e (.var 1)) Cv})}⟩
def NS(J:Y7):Prop:=∀(p:Ad)(t q q':Ai)(a b c x:R3),Y8 p a b c->B3 x->(∃ l,Bg p (J3 x)=Ab l)->J.F 289 [.int p,BY t q a b c,Ap q' x]=.ok (Ap Aa (J8 p (ap a b c x)))
theorem rC(hs:W3 J)(hf:Pl J)(p:Ad)(t q q':Ai)(a b c x:R3)(G:Y8 p a b c)(hx:B3 x)(lx:∃ l,Bg p (J3 x)=Ab l):Rh.run J [.int p,BY t q a b c,Ap q' x]=.ok (Ap Aa (J8 p (ap a b c x))):=by
 have hp:=G.p4;have p0:=hp.pos;obtain⟨l0,lx⟩:=lx;obtain⟨l,el⟩:=MX hp G.nz lx Z5.rfl;obtain⟨u,iu,j,l1,pr,ef⟩:=O4 hp el;obtain⟨n1,n2⟩:=O9 hp el;have e0:Z0 p u (ap a b c x)=J8 p (ap a b c x):=Lr hp ⟨j,l1⟩ n1 (pr.trans hp (n2.symm hp));have md:(J3 (LT p (ap a b c x))).map (λx=>x%p)=(J3 (ap a b c x)).map (λx=>x%p):=by
  show [_%p%p,_%p%p,_%p%p]=[_%p,_%p,_%p];simp only[A7 _ (BX p)]
 have e:=hf p Ae (J3 (LT p (ap a b c x))) l u hp (by rw[O1 md];exact el) iu
 rw[Wo md,ef,e0]at e;have e':J.F 288 [.int p,.L [.int (AI a x%p),.int (AI b x%p),.int (AI c x%p)]]=.ok (Ap Aa (J8 p (ap a b c x))):=e;have b3:∀ {r},Y9 p r->B3 r:=λh=>(Dy hp h).b3 (by decide)
 have k:∀ r,Y9 p r->cF J [si p,sh (BY t q a b c),sh (Ap q' x),Af] 3 OK (Ap q r)=.ok (.int (AI r x%p)):=λr hr=>by
  have e1:=hs p q q' r x p0 (b3 hr) hx;generalize Ap q r=rr,Ap q' x=xx at *;simp[cF,OK,e1]
 have g:∀ d,cG J [si p,sh (BY t q a b c),sh (Ap q' x),Af] 3 Cv d=.ok Aa:=λ_=>rfl
 have cp:B7 (cG J [si p,sh (BY t q a b c),sh (Ap q' x),Af] 3 Cv) (cF J [si p,sh (BY t q a b c),sh (Ap q' x),Af] 3 OK) [Ap q a,Ap q b,Ap q c]=.ok [.int (AI a x%p),.int (AI b x%p),.int (AI c x%p)]:=by
  simp[B7,g,k a G.ia,k b G.ib,k c G.ic]
 have sq:=UC t q a b c;generalize Ap Aa (J8 p (ap a b c x))=Y_,Ap q' x=xx,BY t q a b c=TT,[Ap q a,Ap q b,Ap q c]=LL at *;simp[Rh,Df.run,Co,sq,cp,e']
def NG:Ss:={.app 2 (.call 289 {.var 0,.var 1,.H {.int 1,.var 3,.B .Mult (.var 3) (.var 3)}})}
def OE:Df:=⟨4,Ae,{.asg 2 Aa (.L {.call 289 {.var 0,.var 1,.H {.int 0,.int 0,.int 1}}}),.fors 3 (.rng (.var 0)) NG,.ret (.var 2)}⟩
def IT(p:Ad):Ac R3:=(0,0,1)::(B5 p.toNat).map fun(t:Ag)=>((1:Ad),(t:Ad),(t:Ad)*(t:Ad))
theorem SR(hp:P4 p)(hx:x∈IT p):B3 x/\∃ l,Bg p (J3 x)=Ab l:=by
 have p1:1<p:=by have:=hp.lo;lia
 have ph:=hp.hi;rcases Ay.mp hx with rfl|hx
 .exact⟨(Dy hp (a:=(0,0,1)) ⟨⟨IC 0,hp.pos⟩,⟨IC 0,hp.pos⟩,⟨(by decide:(0:Ad)<=1),p1⟩⟩).b3 (by decide),1,Y_1 p1⟩
 .obtain⟨t,ht,rfl⟩:=Bp.mp hx;have ht:=Dl.mp ht;have t0:(t:Ad)<11:=by lia
  have tt:(t:Ad)*(t:Ad)<=11*11:=Int.mul_le_mul (by lia) (by lia) (by lia) (by decide)
  have t2:0<=(t:Ad)*(t:Ad):=aC (by lia) (by lia)
  have pw:(2:Ag) ^ 10<=2 ^ 300:=Fa (by decide) (by decide)
  refine⟨⟨?_,?_,?_⟩,1,UX p1 _ _⟩
  .exact AS (by decide:(1:Ad).natAbs<2 ^ 10) pw
  .exact AS (by show ((t:Ad)).natAbs<2 ^ 10;lia) pw
  .exact AS (by show ((t:Ad)*(t:Ad)).natAbs<2 ^ 10;lia) pw
theorem xI(mm:Ew m m=Aa)(en:J.F 289 [.int p,RR,.H [.int 1,.int m,.int (m*m)]]=.ok Y_)(sz:Eo (acc.length+1)=Aa):CI J 3 NG (.int m) [si p,sh RR,Ab (.L acc,Aa),s3]=.next [si p,sh RR,Ab (.L (acc++[Y_]),Aa),si m]:=by
 simp[CI,NG,mm,en,DR,sz]
def qm(J:Y7):Prop:=∀(p:Ad)(a b c:R3),Y8 p a b c->J.F 290 [.int p,CY a b c]=.ok (Bz ((IT p).map λx=>J8 p (ap a b c x)))
theorem fy(hl:NS J)(p:Ad)(a b c:R3)(G:Y8 p a b c):OE.run J [.int p,CY a b c]=.ok (Bz ((IT p).map λx=>J8 p (ap a b c x))):=by
 have hp:=G.p4;have ph:=hp.hi;have pl:=hp.lo;have L:∀ x∈IT p,J.F 289 [.int p,CY a b c,Ap Aa x]=.ok (Ap Aa (J8 p (ap a b c x))):=λx hx=>hl p Ae Ae Aa a b c x G (SR hp hx).1 (SR hp hx).2
 have e0:J.F 289 [.int p,CY a b c,.H [.int 0,.int 0,.int 1]]=.ok (Ap Aa (J8 p (ap a b c (0,0,1)))):=L (0,0,1) (Av ..);have rg:D8 0 p=.ok (FS 0 (p-0).toNat):=mR (by decide) (by decide) (by omega) (by omega)
 rw[K1]at rg;have lp:=Vw (body:=CI J 3 NG) (λn Y=>∃ s3,Y=[si p,sh (CY a b c),Ab (.L (((0,0,1)::(B5 n).map fun(t:Ag)=>((1:Ad),(t:Ad),(t:Ad)*(t:Ad))).map λx=>Ap Aa (J8 p (ap a b c x))),Aa),s3]) (FS 0 p.toNat) 0 [si p,sh (CY a b c),Ab (.L [Ap Aa (J8 p (ap a b c (0,0,1)))],Aa),Af] ⟨Af,rfl⟩ (by
  rintro n x hx Y ⟨s3,rfl⟩;obtain⟨hn,rfl⟩:=Wl hx;rw[FX,GM];have hm:((1:Ad),(n:Ad),(n:Ad)*(n:Ad))∈IT p:=As _ (Bp.mpr ⟨n,Dl.mpr (by omega),rfl⟩)
  have en:J.F 289 [.int p,CY a b c,.H [.int 1,.int (n:Ad),.int ((n:Ad)*(n:Ad))]]=.ok (Ap Aa (J8 p (ap a b c (1,(n:Ad),(n:Ad)*(n:Ad))))):=L _ hm;have lr:(B5 (n+1)).map (fun(t:Ag)=>((1:Ad),(t:Ad),(t:Ad)*(t:Ad)))=(B5 n).map (fun(t:Ag)=>((1:Ad),(t:Ad),(t:Ad)*(t:Ad)))++[((1:Ad),(n:Ad),(n:Ad)*(n:Ad))]:=by
   rw[List.range_succ,Er];rfl
  rw[lr,<-List.cons_append,Er];have len:((((0:Ad),(0:Ad),(1:Ad))::(B5 n).map fun(t:Ag)=>((1:Ad),(t:Ad),(t:Ad)*(t:Ad))).map λx=>Ap Aa (J8 p (ap a b c x))).length=n+1:=by simp
  generalize ((((0:Ad),(0:Ad),(1:Ad))::(B5 n).map fun(t:Ag)=>((1:Ad),(t:Ad),(t:Ad)*(t:Ad))).map λx=>Ap Aa (J8 p (ap a b c x)))=acc at *
  have sz:Eo (acc.length+1)=Aa:=bK (by omega)
  have mm:Ew (n:Ad) (n:Ad)=Aa:=JA (by omega) (by omega)
  refine⟨_,?_,si (n:Ad),rfl⟩;show CI J 3 NG (.int (n:Ad)) [si p,sh (CY a b c),Ab (.L acc,Aa),s3]=.next [si p,sh (CY a b c),Ab (.L (acc++[Ap Aa (J8 p (ap a b c (1,(n:Ad),(n:Ad)*(n:Ad))))]),Aa),si (n:Ad)];exact xI mm en sz)
 obtain⟨Y',e,s3,rfl⟩:=lp;rw[GM,ON]at e;have fin:D.L (((0,0,1)::(B5 p.toNat).map fun(t:Ag)=>((1:Ad),(t:Ad),(t:Ad)*(t:Ad))).map λx=>Ap Aa (J8 p (ap a b c x)))=Bz ((IT p).map λx=>J8 p (ap a b c x)):=by
  unfold Bz IT;rw[CF];rfl
 rw[<-fin]
 clear fin L
 generalize (((0,0,1)::(B5 p.toNat).map fun(t:Ag)=>((1:Ad),(t:Ad),(t:Ad)*(t:Ad))).map λx=>Ap Aa (J8 p (ap a b c x)))=OUT,FS 0 p.toNat=RL,Ap Aa (J8 p (ap a b c (0,0,1)))=Y_,CY a b c=RR at *
 simp[OE,Df.run,Co,e0,rg,e]
noncomputable def Q8:E:=(.B .Mult (.idx (.var 4) (.var 6)) (.idx (.idx (.var 2) (.var 6)) (.var 5)))
def Oz:E:=(.B .Mod (.bi .sum {.comp Q8 6 (.rng (.int 3)) Cv}) (.var 0))
def LV:Ss:={.app 3 (.comp Oz 5 (.rng (.int 3)) Cv)}
def QX:Df:=⟨7,Ae,{.asg 3 Aa (.L .nil),.fors 4 (.e (.var 1)) LV,.ret (.var 3)}⟩
def Sh(J:Y7):Prop:=∀(p:Ad)(t q t' q':Ai)(a b c x y z:R3),0<p->B3 a->B3 b->B3 c->B3 x->B3 y->B3 z->J.F 279 [.int p,BY t q a b c,BY t' q' x y z]=.ok (CY (Ty p a x y z) (Ty p b x y z) (Ty p c x y z))
theorem mV(J:Y7)(p:Ad)(t q t' q':Ai)(a b c x y z:R3)(p0:0<p)(ha:B3 a)(hb:B3 b)(hc:B3 c)(hx:B3 x)(hy:B3 y)(hz:B3 z):QX.run J [.int p,BY t q a b c,BY t' q' x y z]=.ok (CY (Ty p a x y z) (Ty p b x y z) (Ty p c x y z)):=by
 have k:∀ {u v},Bd 300 u->Bd 300 v->GD u v=Aa:=λhu hv=>KM hu hv (by decide) (by decide)
 have rg:D8 0 3=.ok [.int 0,.int 1,.int 2]:=by rfl
 have row:∀(r:R3)(s3 s4:Sl),B3 r->evE J [si p,sh (BY t q a b c),sh (BY t' q' x y z),s3,sh (Ap q r),Af,Af] (.comp Oz 5 (.rng (.int 3)) Cv)=.ok (Dq (Ty p r x y z)):=λr s3 s4 hr=>by
  obtain⟨r0,r1,r2⟩:=Fw q r;obtain⟨X0,X1,X2⟩:=Oi t' q' x y z;obtain⟨x0,x1,x2⟩:=Fw q' x;obtain⟨y0,y1,y2⟩:=Fw q' y;obtain⟨z0,z1,z2⟩:=Fw q' z;have inner:∀(j:Ad)(u v w:Ad),Cw (Ap q' x) (.int j)=.ok (.int u)->Cw (Ap q' y) (.int j)=.ok (.int v)->Cw (Ap q' z) (.int j)=.ok (.int w)->GD r.1 u=Aa->GD r.2.1 v=Aa->GD r.2.2 w=Aa->cF J [si p,sh (BY t q a b c),sh (BY t' q' x y z),s3,sh (Ap q r),Af,Af] 5 Oz (.int j)=.ok (.int ((r.1*u+r.2.1*v+r.2.2*w)%p)):=λj u v w hu hv hw b0 b1 b2=>by
   have ci:B7 (cG J [si p,sh (BY t q a b c),sh (BY t' q' x y z),s3,sh (Ap q r),si j,Af] 6 Cv) (cF J [si p,sh (BY t q a b c),sh (BY t' q' x y z),s3,sh (Ap q r),si j,Af] 6 Q8) [.int 0,.int 1,.int 2]=.ok [.int (r.1*u),.int (r.2.1*v),.int (r.2.2*w)]:=by
    generalize Ap q r=rr,Ap q' x=xx,Ap q' y=yy,Ap q' z=zz,BY t' q' x y z=XX at *;simp[B7,cG,cF,Cv,Q8,r0,r1,r2,X0,X1,X2,hu,hv,hw,b0,b1,b2]
   have sm:zc .sum [.L [.int (r.1*u),.int (r.2.1*v),.int (r.2.2*w)]]=.ok (.int (r.1*u+r.2.1*v+r.2.2*w)):=by
    show (Iw 0 [.int (r.1*u),.int (r.2.1*v),.int (r.2.2*w)]).bind (λi=>R.ok (D.int i))=_
    simp[Iw]
   generalize r.1*u+r.2.1*v+r.2.2*w=S at *;simp[cF,Oz,rg,ci,sm,p0]
  have i0:=inner 0 _ _ _ x0 y0 z0 (k hr.1 hx.1) (k hr.2.1 hy.1) (k hr.2.2 hz.1);have i1:=inner 1 _ _ _ x1 y1 z1 (k hr.1 hx.2.1) (k hr.2.1 hy.2.1) (k hr.2.2 hz.2.1);have i2:=inner 2 _ _ _ x2 y2 z2 (k hr.1 hx.2.2) (k hr.2.1 hy.2.2) (k hr.2.2 hz.2.2);have g:∀ d,cG J [si p,sh (BY t q a b c),sh (BY t' q' x y z),s3,sh (Ap q r),Af,Af] 5 Cv d=.ok Aa:=λ_=>rfl
  have eq:Dq (Ty p r x y z)=.L [.int ((r.1*x.1+r.2.1*y.1+r.2.2*z.1)%p),.int ((r.1*x.2.1+r.2.1*y.2.1+r.2.2*z.2.1)%p),.int ((r.1*x.2.2+r.2.1*y.2.2+r.2.2*z.2.2)%p)]:=by
   unfold Dq Ty AI Bf Bb Ba;simp only[BF]
  rw[eq];simp[rg,B7,g,i0,i1,i2]
 have step:∀(r:R3)(acc:Ac D)(s4:Sl),B3 r->Eo (acc.length+1)=Aa->CI J 4 LV (Ap q r) [si p,sh (BY t q a b c),sh (BY t' q' x y z),Ab (.L acc,Aa),s4,Af,Af]=.next [si p,sh (BY t q a b c),sh (BY t' q' x y z),Ab (.L (acc++[Dq (Ty p r x y z)]),Aa),sh (Ap q r),Af,Af]:=λr acc s4 hr sz=>by
  have e:=row r (Ab (.L acc,Aa)) s4 hr;show Y6 J [si p,sh (BY t q a b c),sh (BY t' q' x y z),Ab (.L acc,Aa),sh (Ap q r),Af,Af] LV=_;unfold LV;generalize Dq (Ty p r x y z)=Y_,Ap q r=rr,BY t q a b c=AA,BY t' q' x y z=XX at *;show (yh J _ (.app 3 _)).seq _=_;have o:DR [si p,sh AA,sh XX,Ab (.L acc,Aa),sh rr,Af,Af] 3=.ok acc:=rfl;rw[ah,o,O.of_ok,e,O.of_ok,AB sz];rfl
 have sq:=UC t q a b c;have s1:=step a [] Af ha rfl;have s2:=step b [Dq (Ty p a x y z)] (sh (Ap q a)) hb rfl;have s3:=step c [Dq (Ty p a x y z),Dq (Ty p b x y z)] (sh (Ap q b)) hc rfl
 clear row step
 unfold CY;generalize Dq (Ty p a x y z)=Ya,Dq (Ty p b x y z)=Yb,Dq (Ty p c x y z)=Yc,BY t q a b c=AA,BY t' q' x y z=XX,Ap q a=ra,Ap q b=rb,Ap q c=rc at *;have s1':CI J 4 LV ra [si p,sh AA,sh XX,Ab (.L [],Aa),Af,Af,Af]=.next [si p,sh AA,sh XX,Ab (.L [Ya],Aa),sh ra,Af,Af]:=s1;have s2':CI J 4 LV rb [si p,sh AA,sh XX,Ab (.L [Ya],Aa),sh ra,Af,Af]=.next [si p,sh AA,sh XX,Ab (.L [Ya,Yb],Aa),sh rb,Af,Af]:=s2;have s3':CI J 4 LV rc [si p,sh AA,sh XX,Ab (.L [Ya,Yb],Aa),sh rb,Af,Af]=.next [si p,sh AA,sh XX,Ab (.L [Ya,Yb,Yc],Aa),sh rc,Af,Af]:=s3;simp[QX,Df.run,Co,sq,DG,s1',s2',s3']
noncomputable def Ro:E:=(.idx (.var 7) (.var 6))
def OF:E:=(.comp Ro 7 (.e (.var 5)) Cv)
def RV:Df:=⟨8,Ae,{.asgT [2,3,4] (.var 1),.asg 5 Ae (.L {.call 232 {.var 0,.var 3,.var 4},.call 232 {.var 0,.var 4,.var 2},.call 232 {.var 0,.var 2,.var 3}}),.ret (.comp OF 6 (.rng (.int 3)) Cv)}⟩
def Si(J:Y7):Prop:=∀(p:Ad)(t q:Ai)(a b c:R3),0<p->B3 a->B3 b->B3 c->J.F 280 [.int p,BY t q a b c]=.ok (CY (LT p (bk0 a b c)) (LT p (bk1 a b c)) (LT p (bk2 a b c)))
theorem mW(hc:rT J)(p:Ad)(t q:Ai)(a b c:R3)(p0:0<p)(ha:B3 a)(hb:B3 b)(ĸ:B3 c):RV.run J [.int p,BY t q a b c]=.ok (CY (LT p (bk0 a b c)) (LT p (bk1 a b c)) (LT p (bk2 a b c))):=by
 have e1:=hc p q q b c p0 hb ĸ;have e2:=hc p q q c a p0 ĸ ha;have e3:=hc p q q a b p0 ha hb;have as:∀ Y:Rho,Mj [2,3,4] (BY t q a b c) Y=.ok (((Y.set 2 (sh (Ap q a))).set 3 (sh (Ap q b))).set 4 (sh (Ap q c))):=λY=>by cases t<;>rfl
 have rg:D8 0 3=.ok [.int 0,.int 1,.int 2]:=by rfl
 obtain⟨x0,x1,x2⟩:=Fw Aa (LT p (crs b c));obtain⟨y0,y1,y2⟩:=Fw Aa (LT p (crs c a));obtain⟨z0,z1,z2⟩:=Fw Aa (LT p (crs a b));have out:CY (LT p (bk0 a b c)) (LT p (bk1 a b c)) (LT p (bk2 a b c))=.L [.L [.int (LT p (crs b c)).1,.int (LT p (crs c a)).1,.int (LT p (crs a b)).1],.L [.int (LT p (crs b c)).2.1,.int (LT p (crs c a)).2.1,.int (LT p (crs a b)).2.1],.L [.int (LT p (crs b c)).2.2,.int (LT p (crs c a)).2.2,.int (LT p (crs a b)).2.2]]:=rfl;rw[out]
 clear out
 generalize (LT p (crs b c)).1=u0,(LT p (crs b c)).2.1=u1,(LT p (crs b c)).2.2=u2,(LT p (crs c a)).1=v0,(LT p (crs c a)).2.1=v1,(LT p (crs c a)).2.2=v2,(LT p (crs a b)).1=w0,(LT p (crs a b)).2.1=w1,(LT p (crs a b)).2.2=w2,Ap Aa (LT p (crs b c))=X,Ap Aa (LT p (crs c a))=Y_,Ap Aa (LT p (crs a b))=Z_,Ap q a=ra,Ap q b=rb,Ap q c=rc,BY t q a b c=RR at *;have inner:∀(j u v w:Ad),Cw X (.int j)=.ok (.int u)->Cw Y_ (.int j)=.ok (.int v)->Cw Z_ (.int j)=.ok (.int w)->cF J [si p,sh RR,sh ra,sh rb,sh rc,sh (.L [X,Y_,Z_]),Af,Af] 6 OF (.int j)=.ok (.L [.int u,.int v,.int w]):=λj u v w hu hv hw=>by
  have ci:B7 (cG J [si p,sh RR,sh ra,sh rb,sh rc,sh (.L [X,Y_,Z_]),si j,Af] 7 Cv) (cF J [si p,sh RR,sh ra,sh rb,sh rc,sh (.L [X,Y_,Z_]),si j,Af] 7 Ro) [X,Y_,Z_]=.ok [.int u,.int v,.int w]:=by
   simp[B7,cG,cF,Cv,Ro,hu,hv,hw]
  simp[cF,OF,ci]
 have g:∀ d,cG J [si p,sh RR,sh ra,sh rb,sh rc,sh (.L [X,Y_,Z_]),Af,Af] 6 Cv d=.ok Aa:=λ_=>rfl
 have cp:B7 (cG J [si p,sh RR,sh ra,sh rb,sh rc,sh (.L [X,Y_,Z_]),Af,Af] 6 Cv) (cF J [si p,sh RR,sh ra,sh rb,sh rc,sh (.L [X,Y_,Z_]),Af,Af] 6 OF) [.int 0,.int 1,.int 2]=.ok [.L [.int u0,.int v0,.int w0],.L [.int u1,.int v1,.int w1],.L [.int u2,.int v2,.int w2]]:=by
  simp[B7,g,inner 0 _ _ _ x0 y0 z0,inner 1 _ _ _ x1 y1 z1,inner 2 _ _ _ x2 y2 z2]
 simp[RV,Df.run,Co,as,e1,e2,e3,rg,cp]
def Q7:Df:=⟨3,Ae,{.asg 2 Ae (.call 288 {.var 0,.B .Add (.B .Add (.bi .list {.idx (.var 1) (.int 0)}) (.bi .list {.idx (.var 1) (.int 1)})) (.bi .list {.idx (.var 1) (.int 2)})}),.ret (.H {.sl (.var 2) .O (.int 3),.sl (.var 2) (.int 3) (.int 6),.sl (.var 2) (.int 6) .O})}⟩
def Yg(J:Y7):Prop:=∀(p:Ad)(t q:Ai)(a b c:R3)(l u:Ad),P4 p->Bg p (nine a b c)=Ab l->ER p l u->J.F 291 [.int p,BY t q a b c]=.ok (B8 (Z0 p u a) (Z0 p u b) (Z0 p u c))
theorem uC(h:Pl J)(p:Ad)(t q:Ai)(a b c:R3)(l u:Ad)(hp:P4 p)(e:Bg p (nine a b c)=Ab l)(it:ER p l u):Q7.run J [.int p,BY t q a b c]=.ok (B8 (Z0 p u a) (Z0 p u b) (Z0 p u c)):=by
 have f:=h p Ae (nine a b c) l u hp e it;rw[Tb]at f;have f':J.F 288 [.int p,.L (ds (nine a b c))]=.ok (.H (ds (nine (Z0 p u a) (Z0 p u b) (Z0 p u c)))):=f;obtain⟨X0,X1,X2⟩:=Oi t q a b c;have ls:∀ r:R3,zc .list [Ap q r]=.ok (Dq r):=λr=>by cases q<;>rfl
 obtain⟨x1,x2⟩:=WY a b c;obtain⟨y1,y2,y3⟩:=U0 (Z0 p u a) (Z0 p u b) (Z0 p u c);have la:=ls a;have lb:=ls b;have lc:=ls c;generalize D.L (ds (nine a b c))=N9,D.H (ds (nine (Z0 p u a) (Z0 p u b) (Z0 p u c)))=T9,Ap q a=ra,Ap q b=rb,Ap q c=rc,BY t q a b c=RR at *;unfold B8;generalize yf (Z0 p u a)=ta,yf (Z0 p u b)=tb,yf (Z0 p u c)=tc,D.L [.int a.1,.int a.2.1,.int a.2.2,.int b.1,.int b.2.1,.int b.2.2]=N6,Dq a=da,Dq b=db,Dq c=dc at *;simp[Q7,Df.run,Co,X0,X1,X2,la,lb,lc,x1,x2,f',y1,y2,y3,slE]
def Rb:E:=(.and {.isi (.var 3) [.int],.no (.isi (.var 3) [.bool]),.cmp2 .LtE .Lt (.int 0) (.var 3) (.var 0)})
def Rx:Df:=⟨4,Ae,{.ife (.or {.no (.isi (.var 1) [.tuple]),.cmp .NotEq (.bi .len {.var 1}) (.var 2)}) {.ret (.bl Ae)} .nil,.ret (.bi .all {.comp Rb 3 (.e (.var 1)) Cv})}⟩
def Tf(J:Y7):Prop:=∀(p:Ad)(xs:Ac Ad),(∀ x∈xs,0<=x/\x<p)->J.F 236 [.int p,.H (ds xs),.int xs.length]=.ok (.bl Aa)
theorem uD(J:Y7)(p:Ad)(xs:Ac Ad)(hx:∀ x∈xs,0<=x/\x<p):Rx.run J [.int p,.H (ds xs),.int xs.length]=.ok (.bl Aa):=by
 have c1:B7 (cG J [si p,sh (.H (ds xs)),si xs.length,Af] 3 Cv) (cF J [si p,sh (.H (ds xs)),si xs.length,Af] 3 Rb) (ds xs)=.ok (xs.map λ_=>D.bl Aa):=by
  refine Xr xs λx hm=>⟨rfl,?_⟩
  obtain⟨h0,h1⟩:=hx x hm;simp[cF,Rb,He,h0,h1]
 have dl:(ds xs).length=xs.length:=A6 ..;simp[Rx,Df.run,Co,He,dl,c1,WX]
noncomputable def QV:E:=(.cmp .Gt (.var 3) (.int 0))
def QW:E:=(.var 3)
def Ri:Df:=⟨4,Ae,{.ife (.or {.no (.call 236 {.var 0,.var 1,.var 2}),.cmp .Eq (.bi .sum {.var 1}) (.int 0)}) {.ret (.bl Ae)} .nil,.ret (.cmp .Eq (.idx (.comp QW 3 (.e (.var 1)) QV) (.int 0)) (.int 1))}⟩
def Yk(J:Y7):Prop:=∀(p:Ad)(xs:Ac Ad),0<p->(∀ x∈xs,0<=x/\x<p)->Bg p xs=Ab 1->J.F 237 [.int p,.H (ds xs),.int xs.length]=.ok (.bl Aa)
theorem WE:∀ xs:Ac Ad,(∀ v∈xs,0<=v/\v<p)->Bg p xs=(xs.filter λv=>decide (0<v)).head?
 |[],_=>rfl
 |v::xs,h=>by
  have hv:=h v (Av ..);have em:=AZ hv.1 hv.2;have ih:=WE xs λw hw=>h w (As _ hw)
  unfold Bg;rw[em,EE,ih];by_cases z:v=0
  .rw[AB z,z];rfl
  .rw[AF z,AB (by simp;lia)]
   rfl
theorem YB:∀(xs:Ac Ad)(a:Ad),Iw a (ds xs)=.ok (a+xs.sum)
 |[],a=>by show R.ok a=_;simp
 |x::xs,a=>by
  show Iw (a+x) (ds xs)=_;rw[YB xs (a+x)];simp[Int.add_assoc]
theorem Xo:∀ xs:Ac Ad,(∀ v∈xs,0<=v/\v<p)->0<=xs.sum/\∀ v∈xs,v<=xs.sum
 |[],_=>⟨by simp,λv h=>nomatch h⟩
 |x::xs,h=>by
  obtain⟨h1,h2⟩:=Xo xs λw hw=>h w (As _ hw)
  have hx:=h x (Av ..);rw[KU];refine⟨by lia,λv hv=>?_⟩
  rcases Ay.mp hv with rfl|hv
  .lia
  .have:=h2 v hv;lia
theorem uM(hr:Tf J)(p:Ad)(xs:Ac Ad)(p0:0<p)(hx:∀ x∈xs,0<=x/\x<p)(l1:Bg p xs=Ab 1):Ri.run J [.int p,.H (ds xs),.int xs.length]=.ok (.bl Aa):=by
 have e1:=hr p xs hx;have hd:(xs.filter λv=>decide (0<v)).head?=Ab 1:=by rw[<-WE xs hx];exact l1
 have m1:(1:Ad)∈xs:=by
  have:(1:Ad)∈xs.filter λv=>decide (0<v):=List.mem_of_mem_head? hd
  exact(AH.mp this).1
 obtain⟨s0,s1⟩:=Xo xs hx;have sz:¬ xs.sum=0:=by have:=s1 1 m1;lia
 have sm:zc .sum [.H (ds xs)]=.ok (.int xs.sum):=by
  show (Iw 0 (ds xs)).bind (λi=>R.ok (D.int i))=_
  rw[YB,FX];rfl
 have sq:Db (.H (ds xs))=.ok (ds xs):=rfl;have c1:∀ n:Ad,B7 (cG J [si p,sh (.H (ds xs)),si n,Af] 3 QV) (cF J [si p,sh (.H (ds xs)),si n,Af] 3 QW) (ds xs)=.ok (ds (xs.filter λv=>decide (0<v))):=λn=>by
  refine OP xs λv _=>⟨?_,?_⟩
  .simp[cG,QV]
  .simp[cF,QW]
 have g:=RM hd;generalize (xs.length:Ad)=N,xs.sum=SS,ds (xs.filter λv=>decide (0<v))=FL,D.H (ds xs)=TT,ds xs=XL at *
 simp[Ri,Df.run,Co,e1,sm,sz,sq,c1,g]
def Ot:E:=(.call 236 {.var 0,.var 2,.int 3})
def Ry:Df:=⟨3,Ae,{.ife (.or {.no (.isi (.var 1) [.tuple]),.cmp .NotEq (.bi .len {.var 1}) (.int 3),.no (.bi .all {.comp Ot 2 (.e (.var 1)) Cv})}) {.ret (.bl Ae)} .nil,.ret (.call 237 {.var 0,.B .Add (.B .Add (.idx (.var 1) (.int 0)) (.idx (.var 1) (.int 1))) (.idx (.var 1) (.int 2)),.int 9})}⟩
def Tg(J:Y7):Prop:=∀(p:Ad)(a b c:R3),0<p->Y9 p a->Y9 p b->Y9 p c->Bg p (nine a b c)=Ab 1->J.F 293 [.int p,B8 a b c]=.ok (.bl Aa)
theorem uI(h:Tf J)(hf:Yk J)(p:Ad)(a b c:R3)(p0:0<p)(ha:Y9 p a)(hb:Y9 p b)(hc:Y9 p c)(l1:Bg p (nine a b c)=Ab 1):Ry.run J [.int p,B8 a b c]=.ok (.bl Aa):=by
 have one:∀ r:R3,Y9 p r->J.F 236 [.int p,yf r,.int 3]=.ok (.bl Aa):=λr hr=>h p [r.1,r.2.1,r.2.2] (by
  intro x hx;simp at hx;rcases hx with rfl|rfl|rfl
  .exact hr.1
  .exact hr.2.1
  .exact hr.2.2)
 have g:∀ x,cG J [si p,sh (B8 a b c),Af] 2 Cv x=.ok Aa:=λ_=>rfl
 have f:∀ r:R3,Y9 p r->cF J [si p,sh (B8 a b c),Af] 2 Ot (yf r)=.ok (.bl Aa):=λr hr=>by
  simp[cF,Ot,one r hr]
 have c1:B7 (cG J [si p,sh (B8 a b c),Af] 2 Cv) (cF J [si p,sh (B8 a b c),Af] 2 Ot) [yf a,yf b,yf c]=.ok [.bl Aa,.bl Aa,.bl Aa]:=by
  simp[B7,g,f a ha,f b hb,f c hc]
 have sq:Db (B8 a b c)=.ok [yf a,yf b,yf c]:=rfl;have ln:zc .len [B8 a b c]=.ok (.int 3):=rfl;have it:IX J.up [.tuple] (B8 a b c)=.ok (.bl Aa):=rfl;have i0:Cw (B8 a b c) (.int 0)=.ok (yf a):=rfl;have i1:Cw (B8 a b c) (.int 1)=.ok (yf b):=rfl;have i2:Cw (B8 a b c) (.int 2)=.ok (yf c):=rfl;have a1:Ey .Add (yf a) (yf b)=.ok (.H [.int a.1,.int a.2.1,.int a.2.2,.int b.1,.int b.2.1,.int b.2.2]):=rfl;have a2:Ey .Add (.H [.int a.1,.int a.2.1,.int a.2.2,.int b.1,.int b.2.1,.int b.2.2]) (yf c)=.ok (.H (ds (nine a b c))):=rfl;have e9:J.F 237 [.int p,.H (ds (nine a b c)),.int 9]=.ok (.bl Aa):=hf p (nine a b c) p0 (by
  intro x hx;unfold nine at hx;simp at hx;rcases hx with rfl|rfl|rfl|rfl|rfl|rfl|rfl|rfl|rfl
  .exact ha.1
  .exact ha.2.1
  .exact ha.2.2
  .exact hb.1
  .exact hb.2.1
  .exact hb.2.2
  .exact hc.1
  .exact hc.2.1
  .exact hc.2.2) l1
 generalize D.H [.int a.1,.int a.2.1,.int a.2.2,.int b.1,.int b.2.1,.int b.2.2]=N6,D.H (ds (nine a b c))=N9,B8 a b c=TT,yf a=ta,yf b=tb,yf c=tc at *;simp[Ry,Df.run,Co,it,ln,sq,c1,i0,i1,i2,a1,a2,e9]
noncomputable def Rc:E:=(.idx (.idx (.var 2) (.var 7)) (.var 6))
def Ou:E:=(.comp Rc 7 (.rng (.int 3)) Cv)
def Rz:Df:=⟨8,Ae,{.asg 2 Ae (.call 280 {.var 0,.var 1}),.asg 3 Ae (.comp Ou 6 (.rng (.int 3)) Cv),.asg 4 Ae (.call 279 {.var 0,.call 279 {.var 0,.var 3,.L {.L {.int 0,.int 0,.un .USub (.int 1)},.L {.int 0,.int 2,.int 0},.L {.un .USub (.int 1),.int 0,.int 0}}},.var 2}),.asg 5 Ae (.B .FloorDiv (.B .Add (.var 0) (.int 1)) (.int 2)),.ret (.call 288 {.var 0,.L {.B .Mult (.idx (.idx (.var 4) (.int 0)) (.int 0)) (.var 5),.B .Mult (.idx (.idx (.var 4) (.int 1)) (.int 1)) (.var 5),.B .Mult (.idx (.idx (.var 4) (.int 2)) (.int 2)) (.var 5),.idx (.idx (.var 4) (.int 0)) (.int 1),.idx (.idx (.var 4) (.int 0)) (.int 2),.idx (.idx (.var 4) (.int 1)) (.int 2)}})}⟩
def C0p:C6:=⟨0,1,0,0,-1,0⟩
def cn(J:Y7):Prop:=∀(p:Ad)(a b c:R3),Y8 p a b c->∃ C:C6,xq p C/\Bg p C.l=Ab 1/\Cl p C (pb C0p (bk0 a b c) (bk1 a b c) (bk2 a b c))/\yn p C/\J.F 292 [.int p,CY a b c]=.ok (C3 C)
theorem TK(p0:0<p)(a:R3):Y9 p (LT p a):=⟨⟨A4 _ (by lia),AY _ p0⟩,⟨A4 _ (by lia),AY _ p0⟩,⟨A4 _ (by lia),AY _ p0⟩⟩
abbrev mj(p:Ad)(s:R3):R3:=Ty p s (0,0,-1) (0,2,0) (-1,0,0)
theorem uO(hb:Si J)(hm:Sh J)(hf:Pl J)(p:Ad)(a b c:R3)(G:Y8 p a b c):∃ C:C6,xq p C/\Bg p C.l=Ab 1/\Cl p C (pb C0p (bk0 a b c) (bk1 a b c) (bk2 a b c))/\yn p C/\Rz.run J [.int p,CY a b c]=.ok (C3 C):=by
 have hp:=G.p4;have p0:=hp.pos;have b3:∀ {r},Y9 p r->B3 r:=λh=>(Dy hp h).b3 (by decide)
 have e1:J.F 280 [.int p,CY a b c]=.ok (CY (LT p (bk0 a b c)) (LT p (bk1 a b c)) (LT p (bk2 a b c))):=hb p Ae Ae a b c p0 (b3 G.ia) (b3 G.ib) (b3 G.ic);have i0   := TK p0 (bk0 a b c);have i1   := TK p0 (bk1 a b c);have i2   := TK p0 (bk2 a b c);have g0:Z5 p (LT p (bk0 a b c)) (bk0 a b c):=Z5.md rfl;have g1:Z5 p (LT p (bk1 a b c)) (bk1 a b c):=Z5.md rfl;have g2:Z5 p (LT p (bk2 a b c)) (bk2 a b c):=Z5.md rfl;have cgB:zr p (pb C0p (LT p (bk0 a b c)) (LT p (bk1 a b c)) (LT p (bk2 a b c))) (pb C0p (bk0 a b c) (bk1 a b c) (bk2 a b c)):=Qn zr.rfl g0 g1 g2;have zB:=HW hp G.nz;have w0:yn p C0p:=by
  show Ao (J5 C0p) (J6 C0p) (J7 C0p)%p≠0;have:Ao (J5 C0p) (J6 C0p) (J7 C0p)=-2:=by decide
  rw[this];rcases hp with rfl|rfl|rfl|rfl<;>decide
 have wP:yn p (pb C0p (bk0 a b c) (bk1 a b c) (bk2 a b c)):=Yv hp zB w0;generalize LT p (bk0 a b c)=x,LT p (bk1 a b c)=y,LT p (bk2 a b c)=z at *;have k0:Y9 p (Bf x y z):=⟨i0.1,i1.1,i2.1⟩;have k1:Y9 p (Bb x y z):=⟨i0.2.1,i1.2.1,i2.2.1⟩;have k2:Y9 p (Ba x y z):=⟨i0.2.2,i1.2.2,i2.2.2⟩;have sm:∀ v:Ad,-3<=v->v<=3->Bd 300 v:=λv h1 h2=>AS (by lia:v.natAbs<2 ^ 10) (Fa (by decide) (by decide))
 have M0:B3 (0,0,-1):=⟨sm _ (by decide) (by decide),sm _ (by decide) (by decide),sm _ (by decide) (by decide)⟩
 have M1:B3 (0,2,0):=⟨sm _ (by decide) (by decide),sm _ (by decide) (by decide),sm _ (by decide) (by decide)⟩
 have M2:B3 (-1,0,0):=⟨sm _ (by decide) (by decide),sm _ (by decide) (by decide),sm _ (by decide) (by decide)⟩
 have e2:J.F 279 [.int p,CY (Bf x y z) (Bb x y z) (Ba x y z),.L [.L [.int 0,.int 0,.int (-1)],.L [.int 0,.int 2,.int 0],.L [.int (-1),.int 0,.int 0]]]=.ok (CY (mj p (Bf x y z)) (mj p (Bb x y z)) (mj p (Ba x y z))):=hm p Ae Ae Ae Ae _ _ _ _ _ _ p0 (b3 k0) (b3 k1) (b3 k2) M0 M1 M2;have u0:=Ng p0 (Bf x y z) (0,0,-1) (0,2,0) (-1,0,0);have u1:=Ng p0 (Bb x y z) (0,0,-1) (0,2,0) (-1,0,0);have u2:=Ng p0 (Ba x y z) (0,0,-1) (0,2,0) (-1,0,0);have e3:J.F 279 [.int p,CY (mj p (Bf x y z)) (mj p (Bb x y z)) (mj p (Ba x y z)),CY x y z]=.ok (CY (Ty p (mj p (Bf x y z)) x y z) (Ty p (mj p (Bb x y z)) x y z) (Ty p (mj p (Ba x y z)) x y z)):=hm p Ae Ae Ae Ae _ _ _ _ _ _ p0 (b3 u0) (b3 u1) (b3 u2) (b3 i0) (b3 i1) (b3 i2);have rj:∀ s c':R3,Cg p (AI c' (mj p s)%p) (bI C0p s c'):=λs c'=>by
  refine(Cg.md rfl).trans ((G9 Z5.rfl (Ug p s (0,0,-1) (0,2,0) (-1,0,0))).trans (Cg.of ?_));unfold rm Bf Bb Ba bI C0p ap J5 J6 J7 AI;simp only;grind
 have h2:2*((p+1)/2)=p+1:=by rcases hp with rfl|rfl|rfl|rfl<;>decide
 have hb1:0<=(p+1)/2/\(p+1)/2<=6:=by rcases hp with rfl|rfl|rfl|rfl<;>decide
 generalize hh:(p+1)/2=h at h2 hb1;have vv:∀ s:R3,Cg p (AI s (mj p s)%p*h) (vI C0p s):=λs=>by
  refine((rj s s).mul Cg.rfl).trans ?_;rw[IQ];have:2*vI C0p s*h=vI C0p s+p*vI C0p s:=by
   have e:2*vI C0p s*h=vI C0p s*(2*h):=by grind
   rw[e,h2];grind
  rw[this];exact Cg.far (vI C0p s) rfl
 have cg6:zr p ⟨AI (Bf x y z) (mj p (Bf x y z))%p*h,AI (Bb x y z) (mj p (Bb x y z))%p*h,AI (Ba x y z) (mj p (Ba x y z))%p*h,AI (Bb x y z) (mj p (Bf x y z))%p,AI (Ba x y z) (mj p (Bf x y z))%p,AI (Ba x y z) (mj p (Bb x y z))%p⟩ (pb C0p (bk0 a b c) (bk1 a b c) (bk2 a b c)):=
  zr.trans (D:=pb C0p x y z) ⟨vv _,vv _,vv _,rj _ _,rj _ _,rj _ _⟩ cgB
 have ę:Cl p ⟨AI (Bf x y z) (mj p (Bf x y z))%p*h,AI (Bb x y z) (mj p (Bb x y z))%p*h,AI (Ba x y z) (mj p (Ba x y z))%p*h,AI (Bb x y z) (mj p (Bf x y z))%p,AI (Ba x y z) (mj p (Bf x y z))%p,AI (Ba x y z) (mj p (Bb x y z))%p⟩ (pb C0p (bk0 a b c) (bk1 a b c) (bk2 a b c)):=⟨1,hp.o1,cg6.trans (zr.of (NX _).symm)⟩;obtain⟨l,el⟩:=lX (WM hp ę wP);obtain⟨t,C,it,eD,iC,lC,pC⟩:=gD hp el;have e4:=hf p Ae _ l t hp el it;rw[eD]at e4;refine⟨C,iC,lC,pC.trans hp ę,WM hp (pC.trans hp ę) wP,?_⟩;have r00:0<=AI (Bf x y z) (mj p (Bf x y z))%p/\AI (Bf x y z) (mj p (Bf x y z))%p<p:=⟨A4 _ (by lia),AY _ p0⟩
 have r11:0<=AI (Bb x y z) (mj p (Bb x y z))%p/\AI (Bb x y z) (mj p (Bb x y z))%p<p:=⟨A4 _ (by lia),AY _ p0⟩
 have r22:0<=AI (Ba x y z) (mj p (Ba x y z))%p/\AI (Ba x y z) (mj p (Ba x y z))%p<p:=⟨A4 _ (by lia),AY _ p0⟩
 have ph:=hp.hi;have q00:Cw (CY (Ty p (mj p (Bf x y z)) x y z) (Ty p (mj p (Bb x y z)) x y z) (Ty p (mj p (Ba x y z)) x y z)) (.int 0)=.ok (.L [.int (AI (Bf x y z) (mj p (Bf x y z))%p),.int (AI (Bb x y z) (mj p (Bf x y z))%p),.int (AI (Ba x y z) (mj p (Bf x y z))%p)]):=rfl;have q11:Cw (CY (Ty p (mj p (Bf x y z)) x y z) (Ty p (mj p (Bb x y z)) x y z) (Ty p (mj p (Ba x y z)) x y z)) (.int 1)=.ok (.L [.int (AI (Bf x y z) (mj p (Bb x y z))%p),.int (AI (Bb x y z) (mj p (Bb x y z))%p),.int (AI (Ba x y z) (mj p (Bb x y z))%p)]):=rfl;have q22:Cw (CY (Ty p (mj p (Bf x y z)) x y z) (Ty p (mj p (Bb x y z)) x y z) (Ty p (mj p (Ba x y z)) x y z)) (.int 2)=.ok (.L [.int (AI (Bf x y z) (mj p (Ba x y z))%p),.int (AI (Bb x y z) (mj p (Ba x y z))%p),.int (AI (Ba x y z) (mj p (Ba x y z))%p)]):=rfl;have e4':J.F 288 [.int p,.L [.int (AI (Bf x y z) (mj p (Bf x y z))%p*h),.int (AI (Bb x y z) (mj p (Bb x y z))%p*h),.int (AI (Ba x y z) (mj p (Ba x y z))%p*h),.int (AI (Bb x y z) (mj p (Bf x y z))%p),.int (AI (Ba x y z) (mj p (Bf x y z))%p),.int (AI (Ba x y z) (mj p (Bb x y z))%p)]]=.ok (C3 C):=e4;have t0:D.L [.L [.int x.1,.int y.1,.int z.1],.L [.int x.2.1,.int y.2.1,.int z.2.1],.L [.int x.2.2,.int y.2.2,.int z.2.2]]=CY (Bf x y z) (Bb x y z) (Ba x y z):=rfl;have b0:Cw (CY x y z) (.int 0)=.ok (Ap Ae x):=rfl;have b1:Cw (CY x y z) (.int 1)=.ok (Ap Ae y):=rfl;have b2:Cw (CY x y z) (.int 2)=.ok (Ap Ae z):=rfl;obtain⟨x0,x1,x2⟩:=Fw Ae x;obtain⟨y0,y1,y2⟩:=Fw Ae y;obtain⟨z0,z1,z2⟩:=Fw Ae z
 clear cg6 ę pC el eD e4 it cgB rj vv wP w0 zB
 generalize CY (Ty p (mj p (Bf x y z)) x y z) (Ty p (mj p (Bb x y z)) x y z) (Ty p (mj p (Ba x y z)) x y z)=MADE,CY (mj p (Bf x y z)) (mj p (Bb x y z)) (mj p (Ba x y z))=MID,AI (Bf x y z) (mj p (Bf x y z))%p=n00,AI (Bb x y z) (mj p (Bf x y z))%p=n01,AI (Ba x y z) (mj p (Bf x y z))%p=n02,AI (Bf x y z) (mj p (Bb x y z))%p=n10,AI (Bb x y z) (mj p (Bb x y z))%p=n11,AI (Ba x y z) (mj p (Bb x y z))%p=n12,AI (Bf x y z) (mj p (Ba x y z))%p=n20,AI (Bb x y z) (mj p (Ba x y z))%p=n21,AI (Ba x y z) (mj p (Ba x y z))%p=n22 at *;have k00:Ew n00 h=Aa:=JA (by lia) (by lia)
 have k11:Ew n11 h=Aa:=JA (by lia) (by lia)
 have k22:Ew n22 h=Aa:=JA (by lia) (by lia)
 rw[<-t0]at e2
 clear t0
 generalize CY x y z=BB,Ap Ae x=xx,Ap Ae y=yy,Ap Ae z=zz,x.1=x00,x.2.1=x01,x.2.2=x02,y.1=y00,y.2.1=y01,y.2.2=y02,z.1=z00,z.2.1=z01,z.2.2=z02,CY a b c=RR,C3 C=cC at *;have rg:D8 0 3=.ok [.int 0,.int 1,.int 2]:=by rfl
 have inner:∀(j u v w:Ad),Cw xx (.int j)=.ok (.int u)->Cw yy (.int j)=.ok (.int v)->Cw zz (.int j)=.ok (.int w)->cF J [si p,sh RR,sh BB,Af,Af,Af,Af,Af] 6 Ou (.int j)=.ok (.L [.int u,.int v,.int w]):=λj u v w hu hv hw=>by
  have ci:B7 (cG J [si p,sh RR,sh BB,Af,Af,Af,si j,Af] 7 Cv) (cF J [si p,sh RR,sh BB,Af,Af,Af,si j,Af] 7 Rc) [.int 0,.int 1,.int 2]=.ok [.int u,.int v,.int w]:=by
   simp[B7,cG,cF,Cv,Rc,b0,b1,b2,hu,hv,hw]
  simp[cF,Ou,rg,ci]
 have g:∀ d,cG J [si p,sh RR,sh BB,Af,Af,Af,Af,Af] 6 Cv d=.ok Aa:=λ_=>rfl
 have cp:B7 (cG J [si p,sh RR,sh BB,Af,Af,Af,Af,Af] 6 Cv) (cF J [si p,sh RR,sh BB,Af,Af,Af,Af,Af] 6 Ou) [.int 0,.int 1,.int 2]=.ok [.L [.int x00,.int y00,.int z00],.L [.int x01,.int y01,.int z01],.L [.int x02,.int y02,.int z02]]:=by
  simp[B7,g,inner 0 _ _ _ x0 y0 z0,inner 1 _ _ _ x1 y1 z1,inner 2 _ _ _ x2 y2 z2]
 simp[Rz,Df.run,Co,e1,rg,cp,e2,e3,hh,q00,q11,q22,g30,g31,g32,k00,k11,k22,e4']
noncomputable def Ra:E:=(.B .Mod (.B .Add (.var 9) (.B .Mult (.var 8) (.var 10))) (.var 0))
def Jy:Ss:={.asg 5 Ae (.call 228 {.var 1,.B .Add (.var 2) (.var 4)}),.asg 6 Ae (.B .Mod (.var 5) (.int 3)),.asg 7 Ae (.B .Mod (.B .Add (.B .Add (.var 6) (.int 1)) (.B .Mod (.B .FloorDiv (.var 5) (.int 3)) (.int 2))) (.int 3)),.asg 8 Ae (.B .Mod (.B .FloorDiv (.var 5) (.int 6)) (.var 0)),.put 3 (.var 6) (.compT Ra [9,10] (.zip (.idx (.var 3) (.var 6)) (.idx (.var 3) (.var 7))) Cv),.ife (.cmp .Eq (.B .Mod (.B .FloorDiv (.var 5) (.int 100)) (.int 3)) (.int 1)) {.asg 3 Aa (.L {.idx (.var 3) (.var 7),.idx (.var 3) (.var 6),.idx (.var 3) (.B .Sub (.B .Sub (.int 3) (.var 6)) (.var 7))})} .nil}
noncomputable def Q9:E:=(.B .Mod (.B .Mult (.var 8) (.var 11)) (.var 0))
theorem tZ{a:R3}(h:Y8 p a b c)(ij:Ij i j):∃(i':Ag)(x y a' b' c':R3),Dz (L3 a b c) i=.ok (Dq x)/\Dz (L3 a b c) j=.ok (Dq y)/\ä 3 i=Ab i'/\Y8 p a' b' c'/\(L3 a b c).set i' (Dq (τ p t x y))=L3 a' b' c':=by
 have p0:=h.p4.pos;rcases ij with ⟨rfl,rfl⟩|⟨rfl,rfl⟩|⟨rfl,rfl⟩|⟨rfl,rfl⟩|⟨rfl,rfl⟩|⟨rfl,rfl⟩
 .exact⟨0,a,b,_,_,_,rfl,rfl,rfl,h.of (k:=1) h.p4.o1 (iA p t a b c) ⟨Ni p0 _ _ _,h.ib,h.ic⟩,rfl⟩
 .exact⟨0,a,c,_,_,_,rfl,rfl,rfl,h.of (k:=1) h.p4.o1 (hZ p t a b c) ⟨Ni p0 _ _ _,h.ib,h.ic⟩,rfl⟩
 .exact⟨1,b,a,_,_,_,rfl,rfl,rfl,h.of (k:=1) h.p4.o1 (hV p t a b c) ⟨h.ia,Ni p0 _ _ _,h.ic⟩,rfl⟩
 .exact⟨1,b,c,_,_,_,rfl,rfl,rfl,h.of (k:=1) h.p4.o1 (iQ p t a b c) ⟨h.ia,Ni p0 _ _ _,h.ic⟩,rfl⟩
 .exact⟨2,c,a,_,_,_,rfl,rfl,rfl,h.of (k:=1) h.p4.o1 (iP p t a b c) ⟨h.ia,h.ib,Ni p0 _ _ _⟩,rfl⟩
 .exact⟨2,c,b,_,_,_,rfl,rfl,rfl,h.of (k:=1) h.p4.o1 (iO p t a b c) ⟨h.ia,h.ib,Ni p0 _ _ _⟩,rfl⟩
theorem tY{a:R3}(h:Y8 p a b c)(ij:Ij i j):∃(x y z:R3),Dz (L3 a b c) j=.ok (Dq x)/\Dz (L3 a b c) i=.ok (Dq y)/\Dz (L3 a b c) (3-i-j)=.ok (Dq z)/\Y8 p x y z:=by
 rcases ij with ⟨rfl,rfl⟩|⟨rfl,rfl⟩|⟨rfl,rfl⟩|⟨rfl,rfl⟩|⟨rfl,rfl⟩|⟨rfl,rfl⟩
 .exact⟨b,a,c,rfl,rfl,rfl,h.of (k:=-1) h.p4.m1 (Cg.of (by unfold Ao zj;grind)) ⟨h.ib,h.ia,h.ic⟩⟩
 .exact⟨c,a,b,rfl,rfl,rfl,h.of (k:=1) h.p4.o1 (Cg.of (by unfold Ao zj;grind)) ⟨h.ic,h.ia,h.ib⟩⟩
 .exact⟨a,b,c,rfl,rfl,rfl,h⟩
 .exact⟨c,b,a,rfl,rfl,rfl,h.of (k:=-1) h.p4.m1 (Cg.of (by unfold Ao zj;grind)) ⟨h.ic,h.ib,h.ia⟩⟩
 .exact⟨a,c,b,rfl,rfl,rfl,h.of (k:=-1) h.p4.m1 (Cg.of (by unfold Ao zj;grind)) ⟨h.ia,h.ic,h.ib⟩⟩
 .exact⟨b,c,a,rfl,rfl,rfl,h.of (k:=1) h.p4.o1 (Cg.of (by unfold Ao zj;grind)) ⟨h.ib,h.ic,h.ia⟩⟩
theorem tM(hm:P8 J 228 ns)(h:Y8 p a b c)(ha:0<=at_)(hk:0<=k):∃ a' b' c' v5 v6 v7 v8,Y8 p a' b' c'/\CI J 4 Jy (.int k) [si p,sh (zh ns),si at_,Ab (.L (L3 a b c),Aa),s4,s5,s6,s7,s8,Af,Af,Af]=.next [si p,sh (zh ns),si at_,Ab (.L (L3 a' b' c'),Aa),si k,v5,v6,v7,v8,Af,Af,Af]:=by
 have p0:=h.p4.pos;have ph:=h.p4.hi;obtain⟨m,m0,e0⟩:=hm (at_+k) (by lia)
 generalize hi:m%3=i;generalize hj:(i+1+m/3%2)%3=j;have ij:=fU hi hj;have t0:=A4 (m/6) (b:=p) (by lia)
 have t1:=AY (m/6) p0;generalize ht:m/6%p=t at t0 t1;have mt:∀ x,Ew t x=Aa:=λx=>JA (by lia) (by lia)
 obtain⟨i',x,y,a',b',c',gi,gj,pi,g',es⟩:=tZ (t:=t) h ij;obtain⟨x2,y2,z2,f1,f2,f3,g2⟩:=tY g' ij;have pi':ä (L3 a b c).length i=Ab i':=pi;have e1:Y6 J [si p,sh (zh ns),si at_,Ab (.L (L3 a b c),Aa),si k,s5,s6,s7,s8,Af,Af,Af] (Jy.take 4)=.next [si p,sh (zh ns),si at_,Ab (.L (L3 a b c),Aa),si k,si m,si i,si j,si t,Af,Af,Af]:=by
  simp[Jy,Ss.take,e0,hi,hj,ht,p0]
 have cp:B7 (cGT J [si p,sh (zh ns),si at_,Ab (.L (L3 a b c),Aa),si k,si m,si i,si j,si t,Af,Af,Af] [9,10] Cv) (cFT J [si p,sh (zh ns),si at_,Ab (.L (L3 a b c),Aa),si k,si m,si i,si j,si t,Af,Af,Af] [9,10] Ra) (Ha [.int x.1,.int x.2.1,.int x.2.2] [.int y.1,.int y.2.1,.int y.2.2])=.ok [.int ((x.1+t*y.1)%p),.int ((x.2.1+t*y.2.1)%p),.int ((x.2.2+t*y.2.2)%p)]:=by
  generalize x.1=x0;generalize x.2.1=x1;generalize x.2.2=x2;generalize y.1=y0;generalize y.2.1=y1;generalize y.2.2=y2;simp[B7,cGT,cFT,Ha,Ra,Cv,p0,mt]
 have gi':Dz (L3 a b c) i=.ok (.L [.int x.1,.int x.2.1,.int x.2.2]):=gi;have gj':Dz (L3 a b c) j=.ok (.L [.int y.1,.int y.2.1,.int y.2.2]):=gj;have rd:D.L [.int ((x.1+t*y.1)%p),.int ((x.2.1+t*y.2.1)%p),.int ((x.2.2+t*y.2.2)%p)]=Dq (τ p t x y):=rfl;have fin:∀ {o},Y6 J [si p,sh (zh ns),si at_,Ab (.L (L3 a b c),Aa),si k,si m,si i,si j,si t,Af,Af,Af] (Jy.drop 4)=o->CI J 4 Jy (.int k) [si p,sh (zh ns),si at_,Ab (.L (L3 a b c),Aa),s4,s5,s6,s7,s8,Af,Af,Af]=o:=λ{o} h=>by
  show Y6 J [si p,sh (zh ns),si at_,Ab (.L (L3 a b c),Aa),si k,s5,s6,s7,s8,Af,Af,Af] Jy=o;rw[NP J 4,e1];exact h
 have sL:L3 x2 y2 z2=[Dq x2,Dq y2,Dq z2]:=rfl;by_cases q:m/100%3=1
 .refine⟨x2,y2,z2,si m,si i,si j,si t,g2,fin ?_⟩;rw[sL]
  clear e1 fin sL
  generalize L3 a b c=LL,L3 a' b' c'=LM,Dq x2=rx,Dq y2=ry,Dq z2=rz,zh ns=S at *;simp[Jy,Ss.drop,Sz,DR,gi',gj',pi',cp,rd,es,q,f1,f2,f3]
 .refine⟨a',b',c',si m,si i,si j,si t,g',fin ?_⟩
  clear e1 fin sL
  generalize L3 a b c=LL,L3 a' b' c'=LM,zh ns=S at *;simp[Jy,Ss.drop,Sz,DR,gi',gj',pi',cp,rd,es,q]
def cm(J:Y7)(ns:Ac Ad):Prop:=∀(p at_:Ad),P4 p->0<=at_->∃ a b c,Y8 p a b c/\J.F 250 [.int p,zh ns,.int at_]=.ok (CY a b c)
def swp(h:AI U m%p=0):AI m U%p=0:=by rw[L0];exact h
theorem Ws(hp:P4 p)(d:Ao A B P%p≠0)(h1:AI A m%p=0)(h2:AI P m%p=0)(h3:Ao A P U%p=0):AI U m%p=0:=by
 have e:Ao A B P*AI U m=AI A m*Ao U B P-AI P m*Ao U B A-AI B m*Ao A P U:=by
  unfold Ao zj AI;grind
 have q:Cg p (Ao A B P*AI U m) 0:=by
  rw[e];have k1:Cg p (AI A m*Ao U B P) 0:=by rw[BF];exact ÿ h1
  have k2:Cg p (AI P m*Ao U B A) 0:=by rw[BF];exact ÿ h2
  have k3:Cg p (AI B m*Ao A P U) 0:=ÿ h3;exact(k1.sub k2).sub k3
 have q':Ao A B P*AI U m%p=0:=by rw[show _%p=0%p from q,BQ]
 exact(Ho hp d).mp q'
theorem Wn(hp:P4 p)(z:Ao a b c%p≠0)(w:yn p C)(h:Cl p C (E4 0 (HY p) a b c))(hA:A∈AX p C)(hB:B∈AX p C)(hU:U∈AX p C)(nAB:A≠B)(nAU:A≠U)(nBU:B≠U)(nl:NF p l)(pl:Pr p l (crs A B)):ç p C A B (xu p C l) U/\NF p (xu p C l)/\Iy p A B (xu p C l) U:=by
 obtain⟨nP,eP⟩:=tV hp w nl;have nA:=(Em hp).mp (AH.mp hA).1;have nB:=(Em hp).mp (AH.mp hB).1;have vA:=BD (AH.mp hA).2;have vB:=BD (AH.mp hB).2;have vU:=BD (AH.mp hU).2;have lA:AI A l%p=0:=(SU hp pl).mpr (by rw[(XI A B).1];exact BQ _)
 have lB:AI B l%p=0:=(SU hp pl).mpr (by rw[(XI A B).2];exact BQ _)
 generalize xu p C l=P at *;have bA:bI C A P%p=0:=by rw[HS];exact(KH hp w nP).mp (by rw[eP];exact lA)
 have bB:bI C B P%p=0:=by rw[HS];exact(KH hp w nP).mp (by rw[eP];exact lB)
 have d1:Ao A B P%p≠0:=λe=>by
  have e1:AI P l%p=0:=(SU hp pl).mpr e;have e2:bI C P P%p=0:=(KH hp w nP).mp (by rw[eP];exact e1)
  rw[IQ]at e2;have z2:(2:Ad)%p≠0:=by rcases hp with rfl|rfl|rfl|rfl<;>decide
  have vP:vI C P%p=0:=(Ho hp z2).mp e2;have hP:P∈AX p C:=AH.mpr ⟨(Em hp).mpr nP,Cm vP⟩;have m1:=S7 hp z w h hP;rw[eP]at m1;have a1:A∈Ml p C l:=(Pu hp).mpr ⟨hA,lA⟩;have b1:B∈Ml p C l:=(Pu hp).mpr ⟨hB,lB⟩;rw[m1]at a1 b1;exact nAB ((Bc.mp a1).trans (Bc.mp b1).symm)
 have d2:=tQ hp z h hA hB hU nAB nAU nBU;have tA:AI A (É p C A)%p=0:=(KH hp w nA).mpr (by rw[IQ,Bu,vA];simp)
 have tB:AI B (É p C B)%p=0:=(KH hp w nB).mpr (by rw[IQ,Bu,vB];simp)
 have pA:AI P (É p C A)%p=0:=(KH hp w nA).mpr bA;have pB:AI P (É p C B)%p=0:=(KH hp w nB).mpr bB;have d3:Ao A P U%p≠0:=λe=>by
  have e1:=Ws hp d1 tA pA e;have u1:U∈Ml p C (É p C A):=(Pu hp).mpr ⟨hU,e1⟩;rw[S7 hp z w h hA]at u1;exact nAU (Bc.mp u1).symm
 have d1':Ao B A P%p≠0:=by
  have:Ao B A P=(-1)*Ao A B P:=by unfold Ao zj;grind
  rw[this];exact Ck hp hp.m1 d1
 have d4:Ao B P U%p≠0:=λe=>by
  have e1:=Ws hp d1' tB pB e;have u1:U∈Ml p C (É p C B):=(Pu hp).mpr ⟨hU,e1⟩;rw[S7 hp z w h hB]at u1;exact nBU (Bc.mp u1).symm
 exact⟨⟨vA,vB,vU,bA,bB⟩,nP,d1,d2,d3,d4⟩
theorem VH(hp:P4 p)(g:Iy p f0 f1 f2 f3):∃ a b c,Y8 p a b c/\Φ p a b c ϡ Ϣ e2R e3R f0 f1 f2 f3:=by
 obtain⟨g0,g1,g2,g3⟩:=g;have k0:Ao f3 f1 f2%p≠0:=by
  have:Ao f3 f1 f2=1*Ao f1 f2 f3:=by unfold Ao zj;grind
  rw[this];exact Ck hp hp.o1 g3
 have k1:Ao f0 f3 f2%p≠0:=by
  have:Ao f0 f3 f2=(-1)*Ao f0 f2 f3:=by unfold Ao zj;grind
  rw[this];exact Ck hp hp.m1 g2
 have k2:=g1;have cr:=P6 f0 f1 f2 f3;generalize Ao f3 f1 f2=x0,Ao f0 f3 f2=x1,Ao f0 f1 f3=x2 at *;have zz:Ao (Bf (AL x0 f0) (AL x1 f1) (AL x2 f2)) (Bb (AL x0 f0) (AL x1 f1) (AL x2 f2)) (Ba (AL x0 f0) (AL x1 f1) (AL x2 f2))%p≠0:=by
  rw[SG,Ma];exact Ck hp (Ck hp (Ck hp k0 k1) k2) g0
 obtain⟨l,t,_,_,tz,gd,_⟩:=NL hp zz;have key:∀(e f:R3)(k:Ad),k%p≠0->ap (Bf (AL x0 f0) (AL x1 f1) (AL x2 f2)) (Bb (AL x0 f0) (AL x1 f1) (AL x2 f2)) (Ba (AL x0 f0) (AL x1 f1) (AL x2 f2)) e=AL k f->Pr p f (ap (Z0 p t (Bf (AL x0 f0) (AL x1 f1) (AL x2 f2))) (Z0 p t (Bb (AL x0 f0) (AL x1 f1) (AL x2 f2))) (Z0 p t (Ba (AL x0 f0) (AL x1 f1) (AL x2 f2))) e):=λe f k kz q=>by
  refine Pr.symm hp ((Pr.tab tz (EQ p t _) (EQ p t _) (EQ p t _)).trans hp ?_);rw[q];exact⟨k,kz,Z5.rfl⟩
 refine⟨_,_,_,gd,key _ _ x0 k0 ?_,key _ _ x1 k1 ?_,key _ _ x2 k2 ?_,key _ _ (Ao f0 f1 f2) g0 ?_⟩
 .unfold ap AI Bf Bb Ba AL ϡ;simp
 .unfold ap AI Bf Bb Ba AL Ϣ;simp
 .unfold ap AI Bf Bb Ba AL e2R;simp
 .rw[cr];unfold ap AI Bf Bb Ba AL e3R;simp
theorem uh(k:Ad)(a b c:R3):pb C0p a b c=zf (-1) (E4 0 k a b c):=by
 unfold pb C0p E4 LD Ê zf vI bI J5 J6 J7 ap AI Bf Bb Ba;simp only[C6.mk.injEq];refine⟨?_,?_,?_,?_,?_,?_⟩<;>grind
theorem Qq{a:R3}(hp:P4 p)(h:Cl p C (pb C0p a b c)):Cl p C (E4 0 (HY p) a b c):=by
 refine h.trans hp ⟨-1,hp.m1,zr.of (uh _ a b c)⟩
def Mf(p:Ad):Ac R3:=(IT p).map (LT p)
theorem rP(hp:P4 p):(Mf p).Nodup:=by
 rcases hp with rfl|rfl|rfl|rfl<;>decide+kernel
theorem mP(hp:P4 p):(Mf p).length<64:=by
 rcases hp with rfl|rfl|rfl|rfl<;>decide+kernel
theorem W7(hp:P4 p):∀ x∈Mf p,x∈Fs p/\vI C0p x%p=0:=by
 rcases hp with rfl|rfl|rfl|rfl<;>decide+kernel
theorem xH(hp:P4 p):∀ x∈Fs p,vI C0p x%p=0->x∈Mf p:=by
 rcases hp with rfl|rfl|rfl|rfl<;>decide+kernel
theorem mO(hp:P4 p)(x:R3):x∈Mf p↔NF p x/\vI C0p x%p=0:=
 ⟨λh=>⟨(Em hp).mp (W7 hp x h).1,(W7 hp x h).2⟩,λh=>xH hp x ((Em hp).mpr h.1) h.2⟩
theorem wO(hp:P4 p)(er:Bg p (J3 r)=Ab l)(es:Bg p (J3 s)=Ab l')(h:Z5 p r s):J8 p r=J8 p s:=by
 obtain⟨h1,h2⟩:=O9 hp er;obtain⟨h3,h4⟩:=O9 hp es;exact Lr hp h1 h3 ((h2.trans hp (Pr.cg hp h)).trans hp (h4.symm hp))
theorem rO{a:R3}(hp:P4 p)(z:Ao a b c%p≠0):((IT p).map λx=>J8 p (ap a b c x))=(Mf p).map λx=>J8 p (ap a b c x):=by
 unfold Mf;rw[CF];refine DY λx hx=>?_
 obtain⟨l,el⟩:=(SR hp hx).2;have g:Z5 p (LT p x) x:=Z5.md rfl;have g':Z5 p (ap a b c x) (ap a b c (LT p x)):=Qu Z5.rfl Z5.rfl Z5.rfl g.symm;obtain⟨l1,e1⟩:=MX hp z el (Z5.rfl (a:=ap a b c x));obtain⟨l2,e2⟩:=MX hp z el g'.symm;exact wO hp e1 e2 g'
theorem nL{a:R3}(hp:P4 p)(z:Ao a b c%p≠0)(h:Cl p C (pb C0p (bk0 a b c) (bk1 a b c) (bk2 a b c))):F3 (((IT p).map λx=>J8 p (ap a b c x)).map (Ap Aa))=.ok ((AX p C).map (Ap Aa)):=by
 rw[rO hp z];exact oS hp z h (rP hp) (mO hp) (mP hp)
structure FcX (p:Ad) (C:C6) (A B P U:R3) (rest:Ac R3):Prop where
 pts:AX p C=A::B::U::rest
 nA:NF p A
 nB:NF p B
 nP:NF p P
 nU:NF p U
 ne:A≠B
 on:ç p C A B P U
 gen:Iy p A B P U
 ln:∃ l,NF p l/\Pr p l (crs A B)/\P=xu p C l
theorem fN(hj:Mc J){a:R3}(hp:P4 p)(z:Ao a b c%p≠0)(w:yn p C)(h:Cl p C (E4 0 (HY p) a b c)):∃ A B P U rest,FcX p C A B P U rest:=by
  have ln:(AX p C).length=Oe p 0:=Xe (.inl rfl) hp z h;have nd:(AX p C).Nodup:=(OT hp).filter _;have w4:4<=Oe p 0:=by rcases hp with rfl|rfl|rfl|rfl<;>decide
  match e:AX p C,ln,nd with
  |[],q,_=>exact absurd q (by simp;lia)
  |[_],q,_=>exact absurd q (by simp;lia)
  |[_,_],q,_=>exact absurd q (by simp;lia)
  |A::B::U::rest,_,nd=>
    have hA:A∈AX p C:=by rw[e];simp
    have hB:B∈AX p C:=by rw[e];simp
    have hU:U∈AX p C:=by rw[e];simp
    have nA:=(Em hp).mp (AH.mp hA).1;have nB:=(Em hp).mp (AH.mp hB).1;have nU:=(Em hp).mp (AH.mp hU).1;simp only[Cs,Ay,ES]at nd;obtain⟨⟨n1,n2,_⟩,⟨n3,_⟩,_⟩:=nd;obtain⟨l,nl,pl,_⟩:=Px hj hp nA nB n1;obtain⟨f,nP,g⟩:=Wn hp z w h hA hB hU n1 n2 n3 nl pl;exact⟨A,B,_,U,rest,e,nA,nB,nP,nU,n1,f,g,l,nl,pl,rfl⟩
def MD:Df:=⟨3,Ae,{.ret (.L {.idx (.var 2) (.int 0),.idx (.var 2) (.int 1),.call 149 {.var 0,.var 1,.call 57 {.var 0,.idx (.var 2) (.int 0),.idx (.var 2) (.int 1)}},.idx (.var 2) (.int 2)})}⟩
def Yj(J:Y7):Prop:=∀{p:Ad}{a b c f0 f1 f2 f3 g0 g1 g2 g3:R3},Y8 p a b c->Bg p (nine a b c)=Ab 1->Frm p f0 f1 f2 f3->Frm p g0 g1 g2 g3->Φ p a b c f0 f1 f2 f3 g0 g1 g2 g3->J.F 112 [.int p,DI f0 f1 f2 f3,DI g0 g1 g2 g3]=.ok (B8 a b c)
theorem sl3(A B U:R3)(rest:Ac R3):Â (Bz (A::B::U::rest)) Af (Ab 3)=.ok (Bz [A,B,U]):=by
 show R.ok (D.L (LJ _ _ _))=_;unfold LJ Kb;simp[Bz]
theorem sN(x:R3)(l:Ac R3):(l.map (Ap Aa)).any (λy=>Y0 y (Ap Aa x))=decide (x∈l):=by
 induction l with
 |nil=>simp
 |cons y l ih=>
  rw[BG,List.any_cons,ih,Lu,ET,DX,AN,AN,AN,Ay];exact or_congr ⟨Os,Os⟩ LN
theorem rW(x:R3)(l:Ac R3):Dr .In (Ap Aa x) (Bz l)=.ok (.bl (decide (x∈l))):=by
 have k1:(l.map (Ap Aa)).all (Tm 5)=Aa:=by
  rw[Cj];intro y hy;obtain⟨z,_,rfl⟩:=Bp.mp hy;exact(Y_8 z).1
 show (if (Tm 5 (Ap Aa x)&&(l.map (Ap Aa)).all (Tm 5))=Aa then R.ok (D.bl ((l.map (Ap Aa)).any λy=>Y0 y (Ap Aa x))) else R.bad)=_
 rw[k1,(Y_8 x).1,AB (show (Aa&&Aa)=Aa from rfl),sN]
structure Fb (p:Ad) (C:C6) (A B P U:R3):Prop where
 nA:NF p A
 nB:NF p B
 nP:NF p P
 nU:NF p U
 ne:A≠B
 ne2:A≠U
 ne3:B≠U
 on:ç p C A B P U
 gen:Iy p A B P U
 ln:∃ l,NF p l/\Pr p l (crs A B)/\P=xu p C l
theorem ZP(hj:Mc J){a:R3}(hp:P4 p)(z:Ao a b c%p≠0)(w:yn p C)(h:Cl p C (E4 0 (HY p) a b c))(hA:A∈AX p C)(hB:B∈AX p C)(hU:U∈AX p C)(n1:A≠B)(n2:A≠U)(n3:B≠U):∃ P,Fb p C A B P U:=by
 have nA:=(Em hp).mp (AH.mp hA).1;have nB:=(Em hp).mp (AH.mp hB).1;have nU:=(Em hp).mp (AH.mp hU).1;obtain⟨l,nl,pl,_⟩:=Px hj hp nA nB n1;obtain⟨f,nP,g⟩:=Wn hp z w h hA hB hU n1 n2 n3 nl pl;exact⟨_,nA,nB,nP,nU,n1,n2,n3,f,g,l,nl,pl,rfl⟩
def Yl(J:Y7):Prop:=∀(p:Ad)(C:C6)(A B P U:R3),P4 p->xq p C->yn p C->Fb p C A B P U->J.F 150 [.int p,C3 C,Bz [A,B,U]]=.ok (DI A B P U)
theorem uN(hj:Mc J)(hl:Pz J)(p:Ad)(C:C6)(A B P U:R3)(hp:P4 p)(iC:xq p C)(w:yn p C)(h:Fb p C A B P U):MD.run J [.int p,C3 C,Bz [A,B,U]]=.ok (DI A B P U):=by
 obtain⟨l,nl,pl,rfl⟩:=h.ln;obtain⟨y,ny,py,e1⟩:=Px hj hp h.nA h.nB h.ne;have q:y=l:=Lr hp ny nl (py.trans hp (pl.symm hp));rw[q]at e1;have e2:=hl p C l hp iC w nl;have i0:Cw (Bz [A,B,U]) (.int 0)=.ok (Ap Aa A):=rfl;have i1:Cw (Bz [A,B,U]) (.int 1)=.ok (Ap Aa B):=rfl;have i2:Cw (Bz [A,B,U]) (.int 2)=.ok (Ap Aa U):=rfl;unfold DI;generalize Bz [A,B,U]=T,Ap Aa A=ta,Ap Aa B=tb,Ap Aa U=tu,Ap Aa l=tl,Ap Aa (xu p C l)=tp,C3 C=cC at *;simp[MD,Df.run,Co,i0,i1,i2,e1,e2]
theorem wB{a:R3}(T:Y8 p a b c)(w:yn p C)(f:Fb p C A B P U)(f':Fb p C A' B' P' U')(L:Φ p a b c A B P U A' B' P' U'):Cl p (pb C a b c) C:=oJ T.p4 T.nz w w f.gen.1 f.gen.2.1 f.on f'.on L.h0 L.h1 L.h2 L.h3
theorem Sq(h:L[n]?=Ab x):Cw (Bz L) (.int (n:Ad))=.ok (Ap Aa x):=by
 show Dz (L.map (Ap Aa)) (n:Ad)=_;exact Sr (by lia) (by rw[Ja,EB,h];rfl)
theorem VP:∀(xs:Ac R3),(∀ x∈xs,g (Ap Aa x)=.ok Aa/\f (Ap Aa x)=.ok (.bl Aa))->∃ Y_,B7 g f (xs.map (Ap Aa))=.ok Y_/\Ir Y_=.ok Aa
 |[],_=>⟨[],rfl,rfl⟩
 |x::xs,h=>by
  obtain⟨h1,h2⟩:=h x (Av ..);obtain⟨Y_,i1,i2⟩:=VP xs λy hy=>h y (As _ hy)
  refine⟨.bl Aa::Y_,?_,?_⟩
  .show (g (Ap Aa x)).bind _=_;rw[h1,R.bind_ok,AB rfl,h2,R.bind_ok,show B7 g f (List.map _ xs)=_ from i1]
   rfl
  .show (Iz (.bl Aa)).bind _=_;rw[show Iz (.bl Aa)=.ok Aa from rfl,R.bind_ok,i2]
   rfl
theorem zV(hp:P4 p)(w:yn p C)(d1:Ao A B P%p≠0)(d2:Ao A B U%p≠0)(f:ç p C A B P U)(hA:bI C A x%p=0)(hB:bI C B x%p=0)(nx:∃ l,Bg p (J3 x)=Ab l):Pr p P x:=by
 have b0:=QP hp w d1 d2 f;have key:∀ y,Cg p (Ao A B P*bI C x y) (Ao x B P*bI C A y+Ao A x P*bI C B y+Ao A B x*bI C P y):=λy=>by
  have e:=TV C A B P y (Ao x B P) (Ao A x P) (Ao A B x);rw[<-P6]at e;refine(Cg.of ?_).trans (Cg.of e);have:=YM C (Ao A B P) 1 x y;rw[L7]at this;rw[this];grind
 have z1:Ao A x P%p=0:=by
  have k:=key A;have q1:Cg p (Ao A B P*bI C x A) 0:=ÿ (by rw[HS];exact hA)
  have q2:Cg p (Ao x B P*bI C A A) 0:=ÿ (by rw[IQ];exact ÿ f.vA)
  have q3:Cg p (Ao A B x*bI C P A) 0:=ÿ (by rw[HS];exact f.bA)
  have q4:Cg p (Ao A x P*bI C B A) 0:=by
   have h:=q1.symm.trans (k.trans ((q2.add Cg.rfl).add q3));refine Cg.trans (Cg.of ?_) h.symm;grind
  rw[HS]at q4;rw[BF]at q4;exact(Ho hp b0).mp (by rw[show _%p=0%p from q4];exact BQ p)
 have z2:Ao x B P%p=0:=by
  have k:=key B;have q1:Cg p (Ao A B P*bI C x B) 0:=ÿ (by rw[HS];exact hB)
  have q2:Cg p (Ao A x P*bI C B B) 0:=ÿ (by rw[IQ];exact ÿ f.vB)
  have q3:Cg p (Ao A B x*bI C P B) 0:=ÿ (by rw[HS];exact f.bB)
  have q4:Cg p (Ao x B P*bI C A B) 0:=by
   have h:=q1.symm.trans (k.trans ((Cg.rfl.add q2).add q3));refine Cg.trans (Cg.of ?_) h.symm;grind
  rw[BF]at q4;exact(Ho hp b0).mp (by rw[show _%p=0%p from q4];exact BQ p)
 have e:Z5 p (AL (Ao A B P) x) (AL (Ao A B x) P):=by
  rw[P6];have m:∀ u v w':Ad,Cg p (Ao x B P*u+Ao A x P*v+w') w':=λu v w'=>by
   have y1:Cg p (Ao x B P*u) 0:=by rw[BF];exact ÿ z2
   have y2:Cg p (Ao A x P*v) 0:=by rw[BF];exact ÿ z1
   exact((y1.add y2).add Cg.rfl).trans (Cg.of (by lia))
  exact⟨m _ _ _,m _ _ _,m _ _ _⟩
 have gz:Ao A B x%p≠0:=λz=>by
  obtain⟨l,hl⟩:=nx;have v:∀ u v:Ad,Cg p (Ao A B P*u) (Ao A B x*v)->u%p=0:=λu v h=>(Ho hp d1).mp (by
   rw[show _%p=_%p from h,BF]
   exact(show _%p=0%p from ÿ z).trans (BQ p))
  have n:Bg p (J3 x)=Af:=MJ.mpr λy hy=>by
   simp only[J3,Ay,Bl,CD]at hy;rcases hy with rfl|rfl|rfl
   .exact v _ _ e.1
   .exact v _ _ e.2.1
   .exact v _ _ e.2.2
  rw[n]at hl;cases hl
 obtain⟨u,uz,ue⟩:=PN hp gz;refine⟨u*Ao A B P,Ck hp uz d1,?_⟩;have q:=Z5.sc (k:=u) (k':=u) Cg.rfl e;rw[Ip,Ip]at q;exact(q.trans ((Z5.sc ue Z5.rfl).trans (Z5.of (L7 P)))).symm
theorem pk(hj:Mc J){a t0 t1 t2:R3}(hp:P4 p)(z:Ao a b c%p≠0)(w:yn p C)(hC:Cl p C (pb C0p (bk0 a b c) (bk1 a b c) (bk2 a b c)))(tz:Ao t0 t1 t2%p≠0)(k:Cl p (pb C t0 t1 t2) C)(f:Fb p C A B P U):∃ P',Fb p C (J8 p (ap t0 t1 t2 A)) (J8 p (ap t0 t1 t2 B)) P' (J8 p (ap t0 t1 t2 U))/\Φ p t0 t1 t2 A B P U (J8 p (ap t0 t1 t2 A)) (J8 p (ap t0 t1 t2 B)) P' (J8 p (ap t0 t1 t2 U)):=by
 have zB:=HW hp z;have on:∀ {x},NF p x->vI C x%p=0->J8 p (ap t0 t1 t2 x)∈AX p C:=λ{x} nx vx=>by
  obtain⟨n',pr⟩:=FR hp tz nx;exact AH.mpr ⟨(Em hp).mpr n',Cm ((Nk hp pr).mpr ((Y_0 hp k x).mpr vx))⟩
 have ne:∀ {x y},NF p x->NF p y->x≠y->J8 p (ap t0 t1 t2 x)≠J8 p (ap t0 t1 t2 y):=λ{x y} nx ny h e=>h (by
  have h1:=KF hp tz nx;have h2:=KF hp tz ny;rw[<-h1,<-h2,e])
 obtain⟨P',f'⟩:=ZP hj hp zB w (Qq hp hC) (on f.nA f.on.vA) (on f.nB f.on.vB) (on f.nU f.on.vU) (ne f.nA f.nB f.ne) (ne f.nA f.nU f.ne2) (ne f.nB f.nU f.ne3);obtain⟨_,pA⟩:=FR hp tz f.nA;obtain⟨_,pB⟩:=FR hp tz f.nB;obtain⟨_,pU⟩:=FR hp tz f.nU;have bt:∀ {x y},bI C x y%p=0->bI C (ap t0 t1 t2 x) (ap t0 t1 t2 y)%p=0:=λ{x y} h=>by
  rw[<-Uw];exact(YN hp k x y).mpr h
 exact⟨P',f',pA,pB,zV hp w f'.gen.1 f'.gen.2.1 f'.on ((Qr hp pA (Pr.rfl hp)).mpr (bt f.on.bA)) ((Qr hp pB (Pr.rfl hp)).mpr (bt f.on.bB)) (MX hp tz f.nP.2 Z5.rfl),pU⟩
end OvC
namespace OvC
open Ov
variable{ks:Ac (Ac Ad)}
abbrev T3:=R3×R3×R3
structure Kt (p:Ad) (C:C6) (t:T3):Prop where
 g:Y8 p t.1 t.2.1 t.2.2
 l:Bg p (nine t.1 t.2.1 t.2.2)=Ab 1
 k:Cl p (pb C t.1 t.2.1 t.2.2) C
def DW(t:T3):Ac Ad:=nine t.1 t.2.1 t.2.2
theorem Sm(h:DW s=DW t):s=t:=by
 obtain⟨⟨a,b,c⟩,⟨d,e,f⟩,g,i,j⟩:=s;obtain⟨⟨a',b',c'⟩,⟨d',e',f'⟩,g',i',j'⟩:=t;simp only[DW,nine,GE]at h;obtain⟨rfl,rfl,rfl,rfl,rfl,rfl,rfl,rfl,rfl,_⟩:=h;rfl
def img(p:Ad)(t:T3)(x:R3):R3:=J8 p (ap t.1 t.2.1 t.2.2 x)
theorem X4(hp:P4 p)(zR:Ao x y z%p≠0)(k:Cl p (pb C x y z) C):∃ l u,Bg p (nine x y z)=Ab l/\ER p l u/\Kt p C (Z0 p u x,Z0 p u y,Z0 p u z):=by
 obtain⟨l,u,el,it,uz,gd,l1⟩:=NL hp zR;exact⟨l,u,el,it,gd,l1,(Cl.tab hp uz (EQ p u x) (EQ p u y) (EQ p u z)).trans hp k⟩
theorem YL(hp:P4 p)(hx:Z5 p x x')(hy:Z5 p y y')(hz:Z5 p z z'):Cl p (pb C x y z) (pb C x' y' z'):=⟨1,hp.o1,(Qn zr.rfl hx hy hz).trans (zr.of (NX _).symm)⟩
theorem k8(hp:P4 p)(hs:Kt p C s)(ht:Kt p C t):Ao (Ty p s.1 t.1 t.2.1 t.2.2) (Ty p s.2.1 t.1 t.2.1 t.2.2) (Ty p s.2.2 t.1 t.2.1 t.2.2)%p≠0/\Cl p (pb C (Ty p s.1 t.1 t.2.1 t.2.2) (Ty p s.2.1 t.1 t.2.1 t.2.2) (Ty p s.2.2 t.1 t.2.1 t.2.2)) C:=by
 have cg:∀ r,Z5 p (Ty p r t.1 t.2.1 t.2.2) (rm r t.1 t.2.1 t.2.2):=λr=>Ug p r _ _ _
 refine⟨JH ((JB (cg _) (cg _) (cg _)).trans (Cg.of (Zc _ _ _ _ _ _))) (Ck hp hs.g.nz ht.g.nz),?_⟩;refine(YL hp (cg _) (cg _) (cg _)).trans hp ?_;rw[<-ZD];exact(Cl.pb hs.k).trans hp ht.k
theorem wA(hp:P4 p)(hs:Kt p C s):Ao (LT p (bk0 s.1 s.2.1 s.2.2)) (LT p (bk1 s.1 s.2.1 s.2.2)) (LT p (bk2 s.1 s.2.1 s.2.2))%p≠0/\Cl p (pb C (LT p (bk0 s.1 s.2.1 s.2.2)) (LT p (bk1 s.1 s.2.1 s.2.2)) (LT p (bk2 s.1 s.2.1 s.2.2))) C:=by
 have cg:∀ r,Z5 p (LT p r) r:=λr=>Z5.md rfl
 refine⟨JH ((JB (cg _) (cg _) (cg _)).trans (Cg.of (Zg _ _ _))) (Ck hp hs.g.nz hs.g.nz),?_⟩;refine(YL hp (cg _) (cg _) (cg _)).trans hp ?_;have h:=Cl.pb (a:=bk0 s.1 s.2.1 s.2.2) (b:=bk1 s.1 s.2.1 s.2.2) (c:=bk2 s.1 s.2.1 s.2.2) hs.k;rw[ZD,(Tl _ _ _).1,(Tl _ _ _).2.1,(Tl _ _ _).2.2,ZE]at h;have h0:Cl p (zf (Ao s.1 s.2.1 s.2.2*Ao s.1 s.2.1 s.2.2) C) C:=⟨_,Ck hp hs.g.nz hs.g.nz,zr.rfl⟩;exact(Cl.trans hp (Cl.symm hp h0) h).symm hp
theorem fP(hp:P4 p):Kt p C ((1,0,0),(0,1,0),(0,0,1)):=by
 have p2:2<=p:=by rcases hp with rfl|rfl|rfl|rfl<;>decide
 have i1:∀{x:Ad},x=0\/x=1->0<=x/\x<p:=λh=>by lia
 refine⟨⟨hp,⟨i1 (.inr rfl),i1 (.inl rfl),i1 (.inl rfl)⟩,⟨i1 (.inl rfl),i1 (.inr rfl),i1 (.inl rfl)⟩,⟨i1 (.inl rfl),i1 (.inl rfl),i1 (.inr rfl)⟩,?_⟩,?_,?_⟩
 .rcases hp with rfl|rfl|rfl|rfl<;>decide
 .rcases hp with rfl|rfl|rfl|rfl<;>decide
 .rw[ZE];exact⟨1,hp.o1,zr.rfl⟩
structure ϱ (J:Y7) (p:Ad) (C:C6) (A B P U:R3):Prop where
 hp:P4 p
 iC:xq p C
 w:yn p C
 f:Fb p C A B P U
 kt:∀ {t},Kt p C t->∃ P',Fb p C (img p t A) (img p t B) P' (img p t U)/\Φ p t.1 t.2.1 t.2.2 A B P U (img p t A) (img p t B) P' (img p t U)
 ex:∀ {A' B' U'},A'∈AX p C->B'∈AX p C->U'∈AX p C->A'≠B'->A'≠U'->B'≠U'->∃ P',Fb p C A' B' P' U'
 fo:Yl J
 mv:Yj J
theorem Y_9(hf:Fb p C A B P U):Frm p A B P U:=⟨hf.nA.1,hf.nB.1,hf.nP.1,hf.nU.1,hf.gen⟩
theorem oM{s:T3}(h:B8 s.1 s.2.1 s.2.2=B8 t.1 t.2.1 t.2.2):s=t:=by
 have e:Y0 (tN (DW s)) (tN (DW t))=Aa:=by
  have h':tN (DW s)=tN (DW t):=h;rw[h',L9 rfl rfl];exact Cm rfl
 rw[L9 rfl rfl]at e;exact Sm (BD e)
theorem Ui(h:ϱ J p C A B P U)(ht:Kt p C t):∃ P',Fb p C (img p t A) (img p t B) P' (img p t U)/\J.F 112 [.int p,DI A B P U,DI (img p t A) (img p t B) P' (img p t U)]=.ok (B8 t.1 t.2.1 t.2.2):=by
 obtain⟨P',f',L⟩:=h.kt ht;exact⟨P',f',h.mv ht.g ht.l (Y_9 h.f) (Y_9 f') L⟩
theorem X3(h:ϱ J p C A B P U)(hs:Kt p C s)(ht:Kt p C t)(e1:img p s A=img p t A)(e2:img p s B=img p t B)(e3:img p s U=img p t U):s=t:=by
 obtain⟨P1,f1,m1⟩:=Ui h hs;obtain⟨P2,f2,m2⟩:=Ui h ht;have o1:=h.fo p C _ _ _ _ h.hp h.iC h.w f1;have o2:=h.fo p C _ _ _ _ h.hp h.iC h.w f2;rw[e1,e2,e3]at o1 m1;rw[o1]at o2;have o3:DI (img p t A) (img p t B) P1 (img p t U)=DI (img p t A) (img p t B) P2 (img p t U):=by injection o2
 rw[o3,m2]at m1;exact(oM (by injection m1)).symm
theorem fQ(h:ϱ J p C A B P U)(hA:A'∈AX p C)(hB:B'∈AX p C)(hU:U'∈AX p C)(n1:A'≠B')(n2:A'≠U')(n3:B'≠U'):∃ t,Kt p C t/\img p t A=A'/\img p t B=B'/\img p t U=U':=by
 obtain⟨P',f'⟩:=h.ex hA hB hU n1 n2 n3;obtain⟨x0,x1,x2,Gx,Lx⟩:=VH h.hp h.f.gen;obtain⟨y0,y1,y2,Gy,Ly⟩:=VH h.hp f'.gen;obtain⟨m0,m1,m2,Gm,lm,Lm⟩:=gQ h.hp Gx Gy Lx Ly;have im:∀{x y:R3},NF p x->NF p y->Pr p y (ap m0 m1 m2 x)->img p (m0,m1,m2) x=y:=λ{x y} nx ny pr=>by
  obtain⟨n',pr'⟩:=FR h.hp Gm.nz nx;exact Lr h.hp n' ny (pr'.trans h.hp (pr.symm h.hp))
 exact⟨(m0,m1,m2),⟨Gm,lm,wB Gm h.w h.f f' Lm⟩,im h.f.nA f'.nA Lm.h0,im h.f.nB f'.nB Lm.h1,im h.f.nU f'.nU Lm.h3⟩
noncomputable def IA(L:Ac R3)(x y:R3):Ac T3:=(L.filter λz=>decide (z≠x)&&decide (z≠y)).map λz=>(x,y,z)
def GS(L M:Ac R3)(x:R3):Ac T3:=M.flatMap λy=>if y=x then [] else IA L x y
def En(L M:Ac R3):Ac T3:=M.flatMap (GS L L)
theorem XY:g∈En L L↔g.1∈L/\g.2.1∈L/\g.2.2∈L/\g.1≠g.2.1/\g.1≠g.2.2/\g.2.1≠g.2.2:=by
 obtain⟨x,y,z⟩:=g;unfold En GS IA;simp only[List.mem_flatMap];constructor
 .rintro⟨x',hx,y',hy,h⟩;split at h
  .cases h
  .next ne=>
   obtain⟨z',hz,e⟩:=Bp.mp h;cases e;obtain⟨h1,h2⟩:=AH.mp hz;simp only[An,AN]at h2;exact⟨hx,hy,h1,Cy ne,Cy h2.1,Cy h2.2⟩
 .rintro⟨hx,hy,hz,n1,n2,n3⟩;refine⟨x,hx,y,hy,?_⟩;rw[AF (Cy n1)];exact Bp.mpr ⟨z,AH.mpr ⟨hz,by simp[Cy n2,Cy n3]⟩,rfl⟩
theorem oD(nd:L.Nodup):(En L L).Nodup:=by
 unfold aH En;rw[bE];refine⟨λx _=>?_,nd.imp λ{a b} Ñ u hu v hv e=>?_⟩
 .unfold GS;rw[bE];refine⟨λy _=>?_,nd.imp λ{a b} Ñ u hu v hv e=>?_⟩
  .split
   .exact aJ
   .unfold IA;rw[Jd];exact(nd.filter _).imp λ{a b} Ñ e=>Ñ (by injection e with _ e;injection e)
  .have k:∀{w:T3}{c:R3},w∈(if c=x then [] else IA L x c)->w.2.1=c:=λ{w c} h=>by
    split at h
    .cases h
    .obtain⟨z,_,rfl⟩:=Bp.mp h;rfl
   exact Ñ ((k hu).symm.trans ((congrArg (·.2.1) e).trans (k hv)))
 .have k:∀{w:T3}{c:R3},w∈GS L L c->w.1=c:=λ{w c} h=>by
   obtain⟨y,_,h⟩:=List.mem_flatMap.mp h;split at h
   .cases h
   .obtain⟨z,_,rfl⟩:=Bp.mp h;rfl
  exact Ñ ((k hu).symm.trans ((congrArg (·.1) e).trans (k hv)))
theorem Td{L:Ac R3}(nd:L.Nodup)(hx:x∈L):(L.filter λz=>decide (z≠x)).length=L.length-1:=by
 have e:(L.filter λz=>decide (z≠x))=L.erase x:=by
  rw[nd.erase_eq_filter]
  apply G4
  intro z _;by_cases h:z=x<;>simp[h]
 rw[e,GK hx]
theorem pL(nd:L.Nodup)(hx:x∈L)(hy:y∈L)(ne:y≠x):(IA L x y).length=L.length-2:=by
 unfold IA;have e:(L.filter λz=>decide (z≠x)&&decide (z≠y))=(L.filter λz=>decide (z≠x)).filter λz=>decide (z≠y):=by
  rw[List.filter_filter]
  apply G4
  intro z _;rw[Bool.and_comm]
 rw[A6,e,Td (nd.filter _) (AH.mpr ⟨hy,by simp[ne]⟩),Td nd hx]
 lia
theorem YA:∀(M:Ac R3)(f:R3->Ag),(∀ y∈M,f y=if y=x then 0 else c)->(M.map f).sum=c*(M.filter λz=>decide (z≠x)).length
 |[],_,_=>by simp
 |y::M,f,h=>by
  rw[BG,KU,YA M f λz hz=>h z (As _ hz),h y (Av ..),EE]
  by_cases e:y=x
  .simp[e]
  .simp[e,Nat.mul_add]
   lia
theorem pM(nd:L.Nodup)(hx:x∈L):(GS L L x).length=(L.length-2)*(L.length-1):=by
 unfold GS;rw[aT,YA (x:=x) (c:=L.length-2) L _ λy hy=>?_,Td nd hx]
 split
 .rfl
 .next ne=>exact pL nd hx hy ne
theorem oK(nd:L.Nodup):(En L L).length=L.length*((L.length-2)*(L.length-1)):=by
 unfold En;rw[aT];have e:∀ M:Ac R3,(∀ x∈M,x∈L)->(M.map λa=>(GS L L a).length).sum=M.length*((L.length-2)*(L.length-1)):=λM=>by
  induction M with
  |nil=>intro _;simp
  |cons x M ih=>
   intro h;rw[BG,KU,ih λy hy=>h y (As _ hy),pM nd (h x (Av ..)),BV,Nat.succ_mul]
   lia
 exact e L λ_ h=>h
def D9(g:T3):D:=.H [Ap Aa g.1,Ap Aa g.2.1,Ap Aa g.2.2]
def Oy:E:=(.and {.cmp .NotEq (.var 4) (.var 2),.cmp .NotEq (.var 4) (.var 3)})
def Vg:E:=(.H {.var 2,.var 3,.var 4})
def MB:Ss:={.ife (.cmp .NotEq (.var 3) (.var 2)) {.ext 1 (.comp Vg 4 (.e (.var 0)) Oy)} .nil}
def ND:Ss:={.fors 3 (.e (.var 0)) MB}
def Ow:Df:=⟨5,Ae,{.asg 1 Aa (.L .nil),.fors 2 (.e (.var 0)) ND,.ret (.var 1)}⟩
def OJ:E:=(.call 112 {.var 0,.var 3,.call 150 {.var 0,.var 1,.var 4}})
def OG:Df:=⟨5,Aa,{.expr (.call 147 {.var 0,.var 1}),.asg 2 Ae (.call 128 {.var 0,.var 1}),.asg 3 Ae (.call 150 {.var 0,.var 1,.sl (.var 2) .O (.int 3)}),.ret (.bi .sorted {.comp OJ 4 (.e (.call 296 {.var 2})) Cv})}⟩
theorem V9:∀(xs:Ac R3),(∀ x∈xs,g (Ap Aa x)=.ok (q x)/\f (Ap Aa x)=.ok (φ x))->B7 g f (xs.map (Ap Aa))=.ok ((xs.filter q).map φ)
 |[],_=>rfl
 |x::xs,h=>by
  obtain⟨h1,h2⟩:=h x (Av ..);have ih:=V9 xs λy hy=>h y (As _ hy)
  show (g (Ap Aa x)).bind _=_;rw[h1,R.bind_ok,EE];cases q x with
  |false=>
   rw[AF A3,AF A3];exact ih
  |true=>
   rw[AB rfl,AB rfl,h2,R.bind_ok,ih];rfl
section
variable{J:Y7}{L:Ac R3}
theorem xJ(x y:R3)(X:Sl):B7 (cG J [sh (Bz L),X,sh (Ap Aa x),sh (Ap Aa y),Af] 4 Oy) (cF J [sh (Bz L),X,sh (Ap Aa x),sh (Ap Aa y),Af] 4 Vg) (L.map (Ap Aa))=.ok ((IA L x y).map D9):=by
 unfold IA;rw[CF];refine V9 L λz _=>⟨?_,?_⟩
 .have n1:=Lu z x;have n2:=Lu z y;have f1:∀ x,Tm 5 (Ap Aa x)=Aa:=λ_=>rfl
  have f2:=f1 z;have f3:=f1 x;have f4:=f1 y
  clear f1
  generalize Ap Aa z=Z_,Ap Aa x=X',Ap Aa y=Y_',Bz L=LL at *;by_cases h:z=x
  .simp[cG,Oy,n1,n2,f2,f3,f4,h]
  .simp[cG,Oy,n1,n2,f2,f3,f4,h]
 .rfl
theorem gH(x y:R3)(sz:acc.length+(if y=x then [] else IA L x y).length<=1000):CI J 3 MB (Ap Aa y) [sh (Bz L),Ab (.L acc,Aa),sh (Ap Aa x),s3,Af]=.next [sh (Bz L),Ab (.L (acc++(if y=x then [] else IA L x y).map D9),Aa),sh (Ap Aa x),sh (Ap Aa y),Af]:=by
 have n1:=Lu y x;have f1:∀ x,Tm 5 (Ap Aa x)=Aa:=λ_=>rfl
 have f3:=f1 x;have f4:=f1 y
 clear f1
 have cp:=xJ (J:=J) (L:=L) x y (Ab (.L acc,Aa));have hL:Db (Bz L)=.ok (L.map (Ap Aa)):=rfl;generalize hX:Ap Aa x=X',hY:Ap Aa y=Y_',Bz L=LL at *;by_cases h:y=x
 .simp[CI,MB,n1,f3,f4,h]
 .rw[AF h]at sz ⊢;have s2:Eo (acc.length+(IA L x y).length)=Aa:=by unfold Eo;simp;lia
  have s1:∀ a b c d:Sl,DR [a,Ab (.L acc,Aa),b,c,d] 1=.ok acc:=λ_ _ _ _=>rfl
  simp[CI,MB,n1,f3,f4,h,cp,hL,s1,s2]
theorem W8(x:R3):∀(M:Ac R3){acc:Ac D}{s3:Sl},acc.length+(GS L M x).length<=1000->∃ v3,DG (CI J 3 MB) (M.map (Ap Aa)) [sh (Bz L),Ab (.L acc,Aa),sh (Ap Aa x),s3,Af]=.next [sh (Bz L),Ab (.L (acc++(GS L M x).map D9),Aa),sh (Ap Aa x),v3,Af]
 |[],acc,s3,_=>⟨s3,by show O.next _=_;simp[GS]⟩
 |y::M,acc,s3,h=>by
  have e:GS L (y::M) x=(if y=x then [] else IA L x y)++GS L M x:=rfl
  rw[e,BL]at h;have st:=gH (J:=J) (L:=L) x y (acc:=acc) (s3:=s3) (by omega)
  obtain⟨v3,ih⟩:=W8 x M (acc:=acc++(if y=x then [] else IA L x y).map D9) (s3:=sh (Ap Aa y)) (by rw[BL,A6];omega)
  refine⟨v3,?_⟩;rw[BG,e,Er,<-C0];show (CI J 3 MB (Ap Aa y) _).turn _=_;rw[st];exact ih
theorem ll(x:R3)(h:acc.length+(GS L L x).length<=1000):∃ v3,CI J 2 ND (Ap Aa x) [sh (Bz L),Ab (.L acc,Aa),s2,s3,Af]=.next [sh (Bz L),Ab (.L (acc++(GS L L x).map D9),Aa),sh (Ap Aa x),v3,Af]:=by
 obtain⟨v3,e⟩:=W8 (J:=J) (L:=L) x L (acc:=acc) (s3:=s3) h;refine⟨v3,?_⟩;have hL:Db (Bz L)=.ok (L.map (Ap Aa)):=rfl;generalize Bz L=LL,Ap Aa x=X',(GS L L x).map D9=Y_ at *;simp[CI,ND,hL]at e ⊢;exact e
theorem Yp:∀(M:Ac R3){acc:Ac D}{s2 s3:Sl},acc.length+(En L M).length<=1000->∃ v2 v3,DG (CI J 2 ND) (M.map (Ap Aa)) [sh (Bz L),Ab (.L acc,Aa),s2,s3,Af]=.next [sh (Bz L),Ab (.L (acc++(En L M).map D9),Aa),v2,v3,Af]
 |[],acc,s2,s3,_=>⟨s2,s3,by show O.next _=_;simp[En]⟩
 |x::M,acc,s2,s3,h=>by
  have e:En L (x::M)=GS L L x++En L M:=rfl;rw[e,BL]at h;obtain⟨u3,st⟩:=ll (J:=J) (L:=L) x (acc:=acc) (s2:=s2) (s3:=s3) (by lia)
  obtain⟨v2,v3,ih⟩:=Yp M (acc:=acc++(GS L L x).map D9) (s2:=sh (Ap Aa x)) (s3:=u3) (by rw[BL,A6];lia)
  refine⟨v2,v3,?_⟩;rw[BG,e,Er,<-C0];show (CI J 2 ND (Ap Aa x) _).turn _=_;rw[st];exact ih
end
def Yi(J:Y7):Prop:=∀(L:Ac R3),(En L L).length<=1000->J.F 296 [Bz L]=.ok (.L ((En L L).map D9))
theorem uF(J:Y7)(L:Ac R3)(h:(En L L).length<=1000):Ow.run J [Bz L]=.ok (.L ((En L L).map D9)):=by
 obtain⟨v2,v3,e⟩:=Yp (J:=J) (L:=L) L (acc:=[]) (s2:=Af) (s3:=Af) (by simpa using h)
 have hL:Db (Bz L)=.ok (L.map (Ap Aa)):=rfl;generalize Bz L=LL at *;rw[List.nil_append]at e;generalize (En L L).map D9=Y_ at *;simp[Ow,Df.run,Co,hL,e]
section
def ZW(J:Y7):Prop:=∀(p:Ad)(C:C6)(A B P U:R3),P4 p->xq p C->yn p C->Fb p C A B P U->J.F 150 [.int p,C3 C,D9 (A,B,U)]=.ok (DI A B P U)
theorem vh(hj:Mc J)(hl:Pz J)(p:Ad)(C:C6)(A B P U:R3)(hp:P4 p)(iC:xq p C)(w:yn p C)(h:Fb p C A B P U):MD.run J [.int p,C3 C,D9 (A,B,U)]=.ok (DI A B P U):=by
 obtain⟨l,nl,pl,rfl⟩:=h.ln;obtain⟨y,ny,py,e1⟩:=Px hj hp h.nA h.nB h.ne;have q:y=l:=Lr hp ny nl (py.trans hp (pl.symm hp));rw[q]at e1;have e2:=hl p C l hp iC w nl;have i0:Cw (D9 (A,B,U)) (.int 0)=.ok (Ap Aa A):=rfl;have i1:Cw (D9 (A,B,U)) (.int 1)=.ok (Ap Aa B):=rfl;have i2:Cw (D9 (A,B,U)) (.int 2)=.ok (Ap Aa U):=rfl;unfold DI;generalize D9 (A,B,U)=T,Ap Aa A=ta,Ap Aa B=tb,Ap Aa U=tu,Ap Aa l=tl,Ap Aa (xu p C l)=tp,C3 C=cC at *;simp[MD,Df.run,Co,i0,i1,i2,e1,e2]
open Classical in
def Õ(p:Ad)(C:C6)(A B U:R3)(g:T3):T3:=if h:∃ t,Kt p C t/\img p t A=g.1/\img p t B=g.2.1/\img p t U=g.2.2 then h.choose else g
def ϩ(p:Ad)(C:C6)(A B U:R3):Ac (Ac Ad):=(En (AX p C) (AX p C)).map λg=>DW (Õ p C A B U g)
theorem NU(h:ϱ J p C A B P U)(hg:g∈En (AX p C) (AX p C)):Kt p C (Õ p C A B U g)/\img p (Õ p C A B U g) A=g.1/\img p (Õ p C A B U g) B=g.2.1/\img p (Õ p C A B U g) U=g.2.2:=by
 obtain⟨h1,h2,h3,n1,n2,n3⟩:=XY.mp hg;have ex:=fQ h h1 h2 h3 n1 n2 n3;unfold Õ;rw[dif_pos ex];exact ex.choose_spec
theorem sW(h:ϱ J p C A B P U)(ht:Kt p C t):(img p t A,img p t B,img p t U)∈En (AX p C) (AX p C)/\Õ p C A B U (img p t A,img p t B,img p t U)=t:=by
 obtain⟨P',f',_⟩:=h.kt ht;have on:∀ {x},NF p x->vI C x%p=0->x∈AX p C:=λ{x} nx vx=>AH.mpr ⟨(Em h.hp).mpr nx,Cm vx⟩
 have hg:(img p t A,img p t B,img p t U)∈En (AX p C) (AX p C):=XY.mpr ⟨on f'.nA f'.on.vA,on f'.nB f'.on.vB,on f'.nU f'.on.vU,f'.ne,f'.ne2,f'.ne3⟩;obtain⟨k,e1,e2,e3⟩:=NU h hg;exact⟨hg,X3 h k ht e1 e2 e3⟩
theorem dw(h:ϱ J p C A B P U):r∈ϩ p C A B U↔∃ t,Kt p C t/\r=DW t:=by
 constructor
 .intro m;obtain⟨g,hg,rfl⟩:=Bp.mp m;exact⟨_,(NU h hg).1,rfl⟩
 .rintro⟨t,ht,rfl⟩;obtain⟨hg,e⟩:=sW h ht;exact Bp.mpr ⟨_,hg,by rw[e]⟩
def To(hp:P4 p):(AX p C).Nodup:=(OT hp).filter _
theorem Ua(h:ϱ J p C A B P U):(ϩ p C A B U).Nodup:=by
 unfold aH ϩ;rw[Jd];refine aI (λ{a b} ha hb ne e=>ne ?_) (oD (To h.hp))
 obtain⟨_,a1,a2,a3⟩:=NU h ha;obtain⟨_,b1,b2,b3⟩:=NU h hb;have e':=Sm e;rw[e']at a1 a2 a3;exact BJ (a1.symm.trans b1) (BJ (a2.symm.trans b2) (a3.symm.trans b3))
theorem U6(r:Ac Ad)(h:r∈ϩ p C A B U):r.length=9:=by
 obtain⟨g,_,rfl⟩:=Bp.mp h;rfl
theorem YG:(ϩ p C A B U).length=(En (AX p C) (AX p C)).length:=A6 ..
def akL(p:Ad)(C:C6)(A B U:R3):Ac (Ac Ad):=HU (ϩ p C A B U)
theorem qj(h:ϱ J p C A B P U):r∈akL p C A B U↔∃ t,Kt p C t/\r=DW t:=(Ln _).mem_iff.trans (dw h)
theorem YR:(akL p C A B U).length=(En (AX p C) (AX p C)).length:=(Ln _).length_eq.trans YG
theorem UQ(r:Ac Ad)(h:r∈akL p C A B U):r.length=9:=U6 r ((Ln _).mem_iff.mp h)
theorem Yd(h:ϱ J p C A B P U)(hz:(En (AX p C) (AX p C)).length<=1000):F3 ((ϩ p C A B U).map tN)=.ok ((akL p C A B U).map tN)/\F3 ((akL p C A B U).map tN)=.ok ((akL p C A B U).map tN):=by
 have pw:=Pf (Ua h);exact⟨VU U6 (Ua h) (by rw[YG];exact hz) pw λr=>(Ln _).mem_iff,VU UQ (NK pw) (by rw[YR];exact hz) pw λr=>LN⟩
theorem Sw{α:Type}{κ φ:α->D}:∀(xs:Ac α),(∀ x∈xs,g (κ x)=.ok Aa/\f (κ x)=.ok (φ x))->B7 g f (xs.map κ)=.ok (xs.map φ)
 |[],_=>rfl
 |x::xs,h=>by
  obtain⟨h1,h2⟩:=h x (Av ..);have ih:=Sw xs λy hy=>h y (As _ hy)
  show (g (κ x)).bind _=_;rw[h1,R.bind_ok,AB rfl,h2,R.bind_ok,ih];rfl
def cq(J:Y7)(p:Ad)(C:C6)(A B U:R3):Prop:=J.F 297 [.int p,C3 C]=.ok (.L ((akL p C A B U).map tN))
theorem uR(h:ϱ J p C A B P U)(hw:TM J)(ho:Yh J)(hT:ZW J)(h3:Yi J)(pt:AX p C=A::B::U::rest)(hz:(En (AX p C) (AX p C)).length<=1000):OG.run J [.int p,C3 C]=.ok (.L ((akL p C A B U).map tN)):=by
 have e1:=hw p C h.hp h.iC h.w;have e2:=ho p C h.hp h.iC;have e3:Â (Bz (AX p C)) Af (Ab 3)=.ok (Bz [A,B,U]):=by rw[pt];exact sl3 A B U rest
 have e4:=h.fo p C A B P U h.hp h.iC h.w h.f;have e5:=h3 (AX p C) hz;have cp:∀ X:D,B7 (cG J [si p,sh (C3 C),sh X,sh (DI A B P U),Af] 4 Cv) (cF J [si p,sh (C3 C),sh X,sh (DI A B P U),Af] 4 OJ) ((En (AX p C) (AX p C)).map D9)=.ok ((ϩ p C A B U).map tN):=λX=>by
  unfold ϩ;rw[CF];refine Sw _ λg hg=>⟨rfl,?_⟩
  obtain⟨k,i1,i2,i3⟩:=NU h hg;obtain⟨P',f',m⟩:=Ui h k;rw[i1,i2,i3]at f' m;have o:=hT p C _ _ _ _ h.hp h.iC h.w f';have eg:D9 (g.1,g.2.1,g.2.2)=D9 g:=rfl;rw[eg]at o;have et:B8 (Õ p C A B U g).1 (Õ p C A B U g).2.1 (Õ p C A B U g).2.2=tN (DW (Õ p C A B U g)):=rfl;rw[et]at m;show cF J _ 4 OJ (D9 g)=.ok (tN (DW (Õ p C A B U g)));generalize D9 g=G,DI A B P U=F1,DI g.1 g.2.1 P' g.2.2=F2,C3 C=cC,tN (DW (Õ p C A B U g))=T at *;simp[cF,OJ,o,m]
 have so:=(Yd h hz).1;generalize (ϩ p C A B U).map tN=Z_,(akL p C A B U).map tN=Y_,(En (AX p C) (AX p C)).map D9=G,Bz (AX p C)=R1,Bz [A,B,U]=R2,DI A B P U=F1,C3 C=cC at *;simp[OG,Df.run,Co,e1,e2,e3,e4,e5,cp,so];rfl
end
theorem Xs{I:Rho->Prop}{κ:Ac Ad->D}:∀(xs:Ac (Ac Ad))(ks:Ac D),(∀ r∈xs,∀ Y,I Y->∃ Y',f (tN r) Y=.next Y'/\I Y'/\g Y'=.ok (κ r))->(∀ r∈xs,JL (κ r)=Aa)->xs.Pairwise (λr q=>Y0 (κ q) (κ r)=Ae)->(∀ r∈xs,∀ k∈ks,Y0 (κ r) k=Ae)->∀ Y,I Y->∃ Y',Kf f g (xs.map tN) ks Y=.next Y'/\I Y'
 |[],_,_,_,_,_,Y,h=>⟨Y,rfl,h⟩
 |r::xs,ks,hf,hn,pw,hk,Y,h=>by
  obtain⟨Y1,e1,i1,e2⟩:=hf r (Av ..) Y h;obtain⟨p1,p2⟩:=Ee.mp pw;have al:(ks.all λy=>!Y0 (κ r) y)=Aa:=List.all_eq_true.mpr λy hy=>by rw[hk r (Av ..) y hy];rfl
  obtain⟨Y2,e3,i2⟩:=Xs xs (κ r::ks) (λq hq=>hf q (As _ hq)) (λq hq=>hn q (As _ hq)) p2 (λq hq k Ϻ=>by
   rcases Ay.mp Ϻ with rfl|Ϻ
   .exact p1 q hq
   .exact hk q (As _ hq) k Ϻ) Y1 i1
  refine⟨Y2,?_,i2⟩;show Ol (f (tN r) Y) g _=_;rw[e1];show (match g Y1 with | .ok k=>_|_=>_)=_
  rw[e2];dsimp only;rw[AB (by rw[hn r (Av ..),al];rfl)]
  exact e3
def OC:E:=(.call 289 {.var 1,.var 7,.var 12})
noncomputable def OB:E:=(.cmp .In (.var 13) (.var 4))
def ME:Ss:={.ife (.no (.call 293 {.var 1,.var 7})) {.ret (.bl Ae)} .nil,.asg 8 Ae (.comp OC 12 (.e (.var 4)) Cv),.ife (.no (.bi .all {.comp OB 13 (.e (.var 8)) Cv})) {.ret (.bl Ae)} .nil}
def IN:Df:=⟨14,Ae,{.asg 1 Ae (.idx (.L {.int 3,.int 5}) (.B .Mod (.call 228 {.var 0,.int 0}) (.int 2))),.ife (.cmp .Eq (.B .Mod (.B .FloorDiv (.call 228 {.var 0,.int 0}) (.int 2)) (.int 16)) (.int 1)) {.asg 1 Ae (.int 7)} .nil,.asg 2 Ae (.call 250 {.var 1,.var 0,.int 120}),.asg 3 Ae (.call 292 {.var 1,.var 2}),.asg 4 Ae (.bi .sorted {.call 290 {.var 1,.var 2}}),.asg 5 Aa (.call 297 {.var 1,.var 3}),.ife (.or {.no (.isi (.var 5) [.list]),.cmp .NotEq (.bi .len {.var 5}) (.B .Mult (.var 1) (.B .Sub (.B .Mult (.var 1) (.var 1)) (.int 1))),.cmp .NotEq (.var 5) (.bi .sorted {.var 5})}) {.ret (.bl Ae)} .nil,.cnt 6 5 7 ME (.H {.idx (.var 8) (.int 0),.idx (.var 8) (.int 1),.idx (.var 8) (.int 2)}),.asg 9 Ae (.idx (.var 5) (.B .Mod (.call 228 {.var 0,.int 10}) (.bi .len {.var 5}))),.asg 10 Ae (.idx (.var 5) (.B .Mod (.call 228 {.var 0,.int 11}) (.bi .len {.var 5}))),.ife (.cmp .NotIn (.call 291 {.var 1,.call 279 {.var 1,.var 9,.var 10}}) (.var 5)) {.ret (.bl Ae)} .nil,.ife (.or {.cmp .NotIn (.call 291 {.var 1,.call 280 {.var 1,.var 9}}) (.var 5),.cmp .NotIn (.H {.H {.int 1,.int 0,.int 0},.H {.int 0,.int 1,.int 0},.H {.int 0,.int 0,.int 1}}) (.var 5)}) {.ret (.bl Ae)} .nil,.asg 11 Ae (.bi .list {.var 5}),.app 5 (.idx (.var 11) (.int 0)),.ret (.cmp .Eq (.call 297 {.var 1,.var 3}) (.var 11))}⟩
def GU:Sl:=Ab (.O,Aa)
noncomputable def Ψ(S RR cC LL:D)(p:Ad)(s7 s8:Sl):Rho:=[sh S,si p,sh RR,sh cC,sh LL,GU,GU,s7,s8,Af,Af,Af,Af,Af]
theorem sP(g q:T3):Y0 (D9 g) (D9 q)=decide (g=q):=by
 have e:Y0 (D9 g) (D9 q)=(Y0 (Ap Aa g.1) (Ap Aa q.1)&&(Y0 (Ap Aa g.2.1) (Ap Aa q.2.1)&&(Y0 (Ap Aa g.2.2) (Ap Aa q.2.2)&&Aa))):=rfl;rw[e,Lu,Lu,Lu,II,<-Hw,<-Hw];exact Gj.mpr ⟨λ⟨a,b,c⟩=>BJ a (BJ b c),λh=>by rw[h];exact⟨rfl,rfl,rfl⟩⟩
section
variable{S:D}
theorem qe(hi:Tg J)(hl:NS J)(hp:P4 p)(ht:Kt p C t)(hL:∀ x∈AX p C,NF p x/\img p t x∈AX p C)(s7 s8:Sl):On J 5 6 7 ME (tN (DW t)) (Ψ S RR cC (Bz (AX p C)) p s7 s8)=.next (Ψ S RR cC (Bz (AX p C)) p (sh (tN (DW t))) (sh (Bz ((AX p C).map (img p t))))):=by
 have e1:J.F 293 [.int p,tN (DW t)]=.ok (.bl Aa):=hi p t.1 t.2.1 t.2.2 hp.pos ht.g.ia ht.g.ib ht.g.ic ht.l;have c1:B7 (cG J [sh S,si p,sh RR,sh cC,sh (Bz (AX p C)),GU,GU,sh (tN (DW t)),s8,Af,Af,Af,Af,Af] 12 Cv) (cF J [sh S,si p,sh RR,sh cC,sh (Bz (AX p C)),GU,GU,sh (tN (DW t)),s8,Af,Af,Af,Af,Af] 12 OC) ((AX p C).map (Ap Aa))=.ok (((AX p C).map (img p t)).map (Ap Aa)):=by
  rw[CF];refine Sw _ λx hx=>⟨rfl,?_⟩
  have nx:=(hL x hx).1;have e:J.F 289 [.int p,tN (DW t),Ap Aa x]=.ok (Ap Aa (img p t x)):=hl p Aa Aa Aa t.1 t.2.1 t.2.2 x ht.g ((Dy hp nx.1).b3 (by decide)) ⟨1,nx.2⟩
  show cF J _ 12 OC (Ap Aa x)=.ok (Ap Aa (img p t x));generalize Ap Aa x=X,Ap Aa (img p t x)=Y_,tN (DW t)=T,Bz (AX p C)=LL at *;simp[cF,OC,e,GU]
 obtain⟨Y_,c2,al⟩:=VP (g:=cG J [sh S,si p,sh RR,sh cC,sh (Bz (AX p C)),GU,GU,sh (tN (DW t)),sh (Bz ((AX p C).map (img p t))),Af,Af,Af,Af,Af] 13 Cv) (f:=cF J [sh S,si p,sh RR,sh cC,sh (Bz (AX p C)),GU,GU,sh (tN (DW t)),sh (Bz ((AX p C).map (img p t))),Af,Af,Af,Af,Af] 13 OB) ((AX p C).map (img p t)) λx hx=>⟨rfl,by
  obtain⟨y,hy,rfl⟩:=Bp.mp hx;have e:=rW (img p t y) (AX p C);rw[Cm (hL y hy).2]at e;show cF J _ 13 OB (Ap Aa (img p t y))=.ok (.bl Aa);have e':cF J [sh S,si p,sh RR,sh cC,sh (Bz (AX p C)),GU,GU,sh (tN (DW t)),sh (Bz ((AX p C).map (img p t))),Af,Af,Af,Af,Af] 13 OB (Ap Aa (img p t y))=Dr .In (Ap Aa (img p t y)) (Bz (AX p C)):=rfl;rw[e',e]⟩
 have h1:Db (Bz (AX p C))=.ok ((AX p C).map (Ap Aa)):=rfl;have h2:Db (Bz ((AX p C).map (img p t)))=.ok (((AX p C).map (img p t)).map (Ap Aa)):=rfl;have h3:D.L (((AX p C).map (img p t)).map (Ap Aa))=Bz ((AX p C).map (img p t)):=rfl;have pn:∀ a b c d e f g h i j k l:Sl,Gh [a,b,c,d,e,GU,GU,f,g,h,i,j,k,l] 5 6=Aa:=λ_ _ _ _ _ _ _ _ _ _ _ _=>rfl
 unfold Ψ;generalize ((AX p C).map (img p t)).map (Ap Aa)=Z_,Bz ((AX p C).map (img p t))=ZZ,(AX p C).map (Ap Aa)=L1,Bz (AX p C)=LL,tN (DW t)=T at *;unfold On;rw[AB (pn ..)];simp[ME,e1,h1,c1,h3,h2,c2,al]
theorem fR(pt:AX p C=A::B::U::rest)(LL:D)(s7:Sl):Om J 5 6 (.H (.cons (.idx (.var 8) (.int 0)) (.cons (.idx (.var 8) (.int 1)) (.cons (.idx (.var 8) (.int 2)) .nil)))) (Ψ S RR cC LL p s7 (sh (Bz ((AX p C).map (img p t)))))=.ok (D9 (img p t A,img p t B,img p t U)):=by
 have i0:Cw (Bz ((AX p C).map (img p t))) (.int 0)=.ok (Ap Aa (img p t A)):=Sq (n:=0) (by rw[pt];rfl)
 have i1:Cw (Bz ((AX p C).map (img p t))) (.int 1)=.ok (Ap Aa (img p t B)):=Sq (n:=1) (by rw[pt];rfl)
 have i2:Cw (Bz ((AX p C).map (img p t))) (.int 2)=.ok (Ap Aa (img p t U)):=Sq (n:=2) (by rw[pt];rfl)
 have pn:∀ a b c d e f g h i j k l:Sl,Gh [a,b,c,d,e,GU,GU,f,g,h,i,j,k,l] 5 6=Aa:=λ_ _ _ _ _ _ _ _ _ _ _ _=>rfl
 have et:D9 (img p t A,img p t B,img p t U)=.H [Ap Aa (img p t A),Ap Aa (img p t B),Ap Aa (img p t U)]:=rfl;rw[et];unfold Ψ Om;rw[AB (pn ..)];generalize Bz ((AX p C).map (img p t))=ZZ at *;simp[i0,i1,i2]
open Classical in
def ē(p:Ad)(C:C6)(A B U:R3)(r:Ac Ad):D:=if h:∃ t,Kt p C t/\r=DW t then D9 (img p h.choose A,img p h.choose B,img p h.choose U) else .O
theorem jh(ht:Kt p C t):ē p C A B U (DW t)=D9 (img p t A,img p t B,img p t U):=by
 have h:∃ u,Kt p C u/\DW t=DW u:=⟨t,ht,rfl⟩;unfold ē;rw[dif_pos h,<-Sm h.choose_spec.2]
theorem k7(hi:Tg J)(hl:NS J)(hp:P4 p)(pt:AX p C=A::B::U::rest)(hk:∀ r∈ks,∃ t,Kt p C t/\r=DW t)(hu:∀ {s t},Kt p C s->Kt p C t->img p s A=img p t A->img p s B=img p t B->img p s U=img p t U->s=t)(ho:∀ {t x},Kt p C t->x∈AX p C->NF p x/\img p t x∈AX p C)(nd:ks.Nodup)(hz:ks.length<=1000):∃ s7 s8,yh J [sh S,si p,sh RR,sh cC,sh (Bz (AX p C)),Ab (.L (ks.map tN),Aa),Af,Af,Af,Af,Af,Af,Af,Af] (.cnt 6 5 7 ME (.H (.cons (.idx (.var 8) (.int 0)) (.cons (.idx (.var 8) (.int 1)) (.cons (.idx (.var 8) (.int 2)) .nil)))))=.next [sh S,si p,sh RR,sh cC,sh (Bz (AX p C)),Ab (.L (ks.map tN),Aa),Af,s7,s8,Af,Af,Af,Af,Af]:=by
 have kv:∀ {t},Kt p C t->ē p C A B U (DW t)=D9 (img p t A,img p t B,img p t U):=λht=>jh ht
 obtain⟨Y',e,s7,s8,rfl⟩:=Xs (f:=On J 5 6 7 ME) (g:=Om J 5 6 (.H (.cons (.idx (.var 8) (.int 0)) (.cons (.idx (.var 8) (.int 1)) (.cons (.idx (.var 8) (.int 2)) .nil))))) (I:=λY=>∃ s7 s8,Y=Ψ S RR cC (Bz (AX p C)) p s7 s8) (κ:=ē p C A B U) ks [] (λr hr Y ⟨s7,s8,hρ⟩=>by
  obtain⟨t,ht,rfl⟩:=hk r hr;subst hρ;refine⟨_,qe hi hl hp ht (λx hx=>ho ht hx) s7 s8,⟨_,_,rfl⟩,?_⟩
  rw[kv ht];exact fR pt _ _) (λr hr=>by
  obtain⟨t,ht,rfl⟩:=hk r hr;rw[kv ht];rfl) (aI (λ{a b} ha hb ne=>by
  obtain⟨s,hs,rfl⟩:=hk a ha;obtain⟨t,ht,rfl⟩:=hk b hb;rw[kv hs,kv ht,sP];refine CK λz=>ne ?_
  injection z with z1 z
  injection z with z2 z3
  rw[hu ht hs z1 z2 z3]) nd) (λr _ k hk=>by cases hk) (Ψ S RR cC (Bz (AX p C)) p Af Af) ⟨Af,Af,rfl⟩
 refine⟨s7,s8,?_⟩;rw[ag];have o1:∀ a b c d e f g h i j k l m:Sl,DR [a,b,c,d,e,Ab (.L (ks.map tN),Aa),f,g,h,i,j,k,l,m] 5=.ok (ks.map tN):=λ_ _ _ _ _ _ _ _ _ _ _ _ _=>rfl
 rw[o1,O.of_ok,AB (by rw[A6,Cm hz];rfl)]
 have e':Kf (On J 5 6 7 ME) (Om J 5 6 (.H (.cons (.idx (.var 8) (.int 0)) (.cons (.idx (.var 8) (.int 1)) (.cons (.idx (.var 8) (.int 2)) .nil))))) (ks.map tN) [] ((([sh S,si p,sh RR,sh cC,sh (Bz (AX p C)),Ab (.L (ks.map tN),Aa),Af,Af,Af,Af,Af,Af,Af,Af]:Rho).set 5 (Ab (.O,Aa))).set 6 (Ab (.O,Aa)))=.next (Ψ S RR cC (Bz (AX p C)) p s7 s8):=e;rw[e'];generalize Bz (AX p C)=LL;generalize ks.map tN=KK;rfl
end
theorem XC(n:Ag):∀ r:Ac Ad,(r.map D.int).all (Tm n)=Aa
 |[]=>rfl
 |x::r=>by
  rw[BG,Ea,XC n r];cases n<;>rfl
theorem ZO(n:Ag)(r:Ac Ad):Tm (n+2) (tN r)=Aa:=by
 have e:∀ q,Tm (n+1) (tI q)=Aa:=λq=>XC n q
 show (Tm (n+1) (tI (r.take 3))&&(Tm (n+1) (tI ((r.drop 3).take 3))&&(Tm (n+1) (tI (r.drop 6))&&Aa)))=Aa;rw[e,e,e];rfl
theorem zZ(n:Ag)(ks:Ac (Ac Ad)):(ks.map tN).all (Tm (n+2))=Aa:=by
 rw[Hx,Cj];exact λr _=>ZO n r
theorem XH:∀{ks:Ac (Ac Ad)},(∀ r∈ks,r.length=9)->Y0 (.L (ks.map tN)) (.L (ks.map tN))=Aa
 |[],_=>rfl
 |r::ks,h=>by
  have ih:=XH (ks:=ks) λq hq=>h q (As _ hq)
  show (Y0 (tN r) (tN r)&&OV (ks.map tN) (ks.map tN))=Aa;have ih':OV (ks.map tN) (ks.map tN)=Aa:=ih;have l:=h r (Av ..);rw[ih',L9 l l,Cm rfl];rfl
theorem S9(h:∀ r∈ks,r.length=9)(m:r∈ks):¬ ∀ x,x∈ks.map tN->Y0 x (tN r)=Ae:=λk=>by
 have:=k (tN r) (aZ m);rw[L9 (h r m) (h r m),Cm rfl]at this;cases this
theorem So{i:Ad}(h0:0<=i)(h1:i<ks.length):∃ r∈ks,Dz (ks.map tN) i=.ok (tN r):=by
 obtain⟨n,rfl⟩:=Int.eq_ofNat_of_zero_le h0;have hn:n<ks.length:=by omega
 refine⟨ks[n],Eb hn,?_⟩;rw[rZ _ n (by rw[A6];exact hn)]
 exact congrArg R.ok (Jq ..)
theorem jG{S:D}(h:∃ m,0<=m/\J.F 228 [S,.int 0]=.ok (.int m)):∃ p,P4 p/\p<=7/\Y6 J [sh S,Af,Af,Af,Af,Af,Af,Af,Af,Af,Af,Af,Af,Af] (IN.body.take 2)=.next [sh S,si p,Af,Af,Af,Af,Af,Af,Af,Af,Af,Af,Af,Af]:=by
 obtain⟨m,m0,e⟩:=h;have g:∃ q,(q=3\/q=5)/\Dz [.int 3,.int 5] (m%2)=.ok (.int q):=by
  have q:m%2=0\/m%2=1:=by lia
  rcases q with z|z<;>rw[z]
  .exact⟨3,.inl rfl,rfl⟩
  .exact⟨5,.inr rfl,rfl⟩
 obtain⟨q,hq,g⟩:=g;by_cases c:m/2%16=1
 .refine⟨7,.inr (.inr (.inl rfl)),by decide,?_⟩
  simp[IN,Ss.take,e,g,c]
 .refine⟨q,?_,?_,?_⟩
  .rcases hq with rfl|rfl
   .exact .inl rfl
   .exact .inr (.inl rfl)
  .lia
  .simp[IN,Ss.take,e,g,c]
theorem gR{S:D}{n:Ag}(e2:J.F 250 [.int p,S,.int 120]=.ok RR)(e3:J.F 292 [.int p,RR]=.ok cC)(e4:J.F 290 [.int p,RR]=.ok OO)(e5:zc .sorted [OO]=.ok (.L LL))(e6:J.F 297 [.int p,cC]=.ok (.L KK))(fr:J.fr 297=Aa)(ln:KK.length=n)(en:(n:Ad)=p*(p*p-1))(m1:Ew p p=Aa)(m2:Ew p (p*p-1)=Aa)(so:F3 KK=.ok KK)(fl:Tm 5 (.L KK)=Aa)(eq:Y0 (.L KK) (.L KK)=Aa):Y6 J [sh S,si p,Af,Af,Af,Af,Af,Af,Af,Af,Af,Af,Af,Af] ((IN.body.drop 2).take 5)=.next [sh S,si p,sh RR,sh cC,sh (.L LL),Ab (.L KK,Aa),Af,Af,Af,Af,Af,Af,Af,Af]:=by
 have nw:E0 J (.call 297 (.cons (.var 1) (.cons (.var 3) .nil)))=Aa:=fr;have le:((KK.length:Ag):Ad)=p*(p*p-1):=by rw[ln];exact en
 simp[IN,Ss.take,Ss.drop,e2,e3,e4,e5,e6,nw,m1,m2,so,fl,eq,le]
theorem iL{S:D}(l0:KK≠[])(lz:KK.length<=1000)(e10:J.F 228 [S,.int 10]=.ok (.int m))(e11:J.F 228 [S,.int 11]=.ok (.int n))(į:Dz KK (m%(KK.length:Ad))=.ok T1)(İ:Dz KK (n%(KK.length:Ad))=.ok T2)(g0:Dz KK 0=.ok T0)(q1:J.F 279 [.int p,T1,T2]=.ok W1)(q2:J.F 291 [.int p,W1]=.ok X1)(n1:¬ ∀ x,x∈KK->Y0 x X1=Ae)(f1:Tm 5 X1=Aa)(q3:J.F 280 [.int p,T1]=.ok W2)(q4:J.F 291 [.int p,W2]=.ok X2)(n2:¬ ∀ x,x∈KK->Y0 x X2=Ae)(f2:Tm 5 X2=Aa)(n3:¬ ∀ x,x∈KK->Y0 x (.H [.H [.int 1,.int 0,.int 0],.H [.int 0,.int 1,.int 0],.H [.int 0,.int 0,.int 1]])=Ae)(fa:∀ x,x∈KK->Tm 5 x=Aa)(e6:J.F 297 [.int p,cC]=.ok (.L KK))(fl:Tm 5 (.L KK)=Aa)(eq:Y0 (.L KK) (.L KK)=Aa):Y6 J [sh S,si p,sh RR,sh cC,sh LL,Ab (.L KK,Aa),Af,s7,s8,Af,Af,Af,Af,Af] (IN.body.drop 8)=.ret (.bl Aa) Ae:=by
 have lp:0<KK.length:=List.length_pos_iff.mpr l0;have ln:¬ ((KK.length:Ag):Ad)=0:=by lia
 have sz:Eo (KK.length+1)=Aa:=by unfold Eo;simp;lia
 have o1:∀ a b c d e f g h i j k l m:Sl,DR [a,b,c,d,e,Ab (.L KK,Aa),f,g,h,i,j,k,l,m] 5=.ok KK:=λ_ _ _ _ _ _ _ _ _ _ _ _ _=>rfl
 have c1:(Tm 5 X1=Aa/\∀ x,x∈KK->Tm 5 x=Aa):=⟨f1,fa⟩;have c2:(Tm 5 X2=Aa/\∀ x,x∈KK->Tm 5 x=Aa):=⟨f2,fa⟩;simp[IN,Ss.drop,e10,e11,ln,į,İ,q1,q2,q3,q4,l0];rw[AB lp,AB lp,AB c1,AF n1,AB c2,AF n2,AB fa,AF n3,o1,O.of_ok,g0,O.of_ok,AB sz];simp[e6,fl,eq];rfl
def Rw:Df:=⟨12,Ae,{.asg 3 Aa (.L {.L {.int 1,.int 0,.int 0},.L {.int 0,.int 1,.int 0},.L {.int 0,.int 0,.int 1}}),.fors 4 (.rng (.int 14)) Jy,.asg 8 Ae (.B .Add (.int 1) (.B .Mod (.call 228 {.var 1,.B .Add (.var 2) (.int 14)}) (.B .Sub (.var 0) (.int 1)))),.put 3 (.int 0) (.comp Q9 11 (.e (.idx (.var 3) (.int 0))) Cv),.ret (.var 3)}⟩
theorem fj(hm:P8 J 228 ns)(p at_:Ad)(hp:P4 p)(ha:0<=at_):∃ a b c,Y8 p a b c/\Rw.run J [.int p,zh ns,.int at_]=.ok (CY a b c):=by
 have p0:=hp.pos;have g0:Y8 p ϡ Ϣ e2R:=(wH hp).1;have rg:D8 0 14=.ok (FS 0 14):=rfl;obtain⟨Y',e,a,b,c,s4,s5,s6,s7,s8,g,rfl⟩:=Su (body:=CI J 4 Jy) (λY=>∃ a b c s4 s5 s6 s7 s8,Y8 p a b c/\Y=[si p,sh (zh ns),si at_,Ab (.L (L3 a b c),Aa),s4,s5,s6,s7,s8,Af,Af,Af]) (FS 0 14) [si p,sh (zh ns),si at_,Ab (.L (L3 ϡ Ϣ e2R),Aa),Af,Af,Af,Af,Af,Af,Af,Af] ⟨_,_,_,_,_,_,_,_,g0,rfl⟩ (by
  rintro x hx Y ⟨a,b,c,s4,s5,s6,s7,s8,g,rfl⟩;obtain⟨k,_,rfl⟩:=WD hx;obtain⟨a',b',c',v5,v6,v7,v8,g',e⟩:=tM (s4:=s4) (s5:=s5) (s6:=s6) (s7:=s7) (s8:=s8) hm g ha (k:=0+(k:Ad)) (by omega)
  exact⟨_,e,a',b',c',_,_,_,_,_,g',rfl⟩)
 obtain⟨m,m0,e2⟩:=hm (at_+14) (by omega)
 have q1:0<p-1:=by have:=hp.lo;omega
 have q2:1<p:=by have:=hp.lo;omega
 have t0:0<1+m%(p-1):=by have:=A4 m (b:=p-1) (by omega);omega
 have t1:1+m%(p-1)<p:=by have:=AY m q1;omega
 generalize ht:1+m%(p-1)=t at t0 t1;have tz:t%p≠0:=by rw[AZ (by omega) t1];omega
 have mt:∀ x,Ew t x=Aa:=λx=>JA (by omega) (by have:=hp.hi;omega)
 refine⟨Ĝ p t a,b,c,g.of (k:=t) tz (jI p t a b c) ⟨w5 p0 _ _,g.ib,g.ic⟩,?_⟩;have cp:B7 (cG J [si p,sh (zh ns),si at_,Ab (.L (L3 a b c),Aa),s4,s5,s6,s7,si t,Af,Af,Af] 11 Cv) (cF J [si p,sh (zh ns),si at_,Ab (.L (L3 a b c),Aa),s4,s5,s6,s7,si t,Af,Af,Af] 11 Q9) [.int a.1,.int a.2.1,.int a.2.2]=.ok [.int (a.1*t%p),.int (a.2.1*t%p),.int (a.2.2*t%p)]:=by
  refine ML (φ:=λx=>x*t%p) [a.1,a.2.1,a.2.2] λx _=>⟨rfl,?_⟩
  simp[cF,Q9,mt,p0,BF]
 have e':DG (CI J 4 Jy) (FS 0 14) [si p,sh (zh ns),si at_,Ab (.L [.L [.int 1,.int 0,.int 0],.L [.int 0,.int 1,.int 0],.L [.int 0,.int 0,.int 1]],Aa),Af,Af,Af,Af,Af,Af,Af,Af]=_:=e;have g0':Dz (L3 a b c) 0=.ok (.L [.int a.1,.int a.2.1,.int a.2.2]):=rfl;have pl:ä (L3 a b c).length 0=Ab 0:=rfl;have out:D.L ((L3 a b c).set 0 (.L [.int (a.1*t%p),.int (a.2.1*t%p),.int (a.2.2*t%p)]))=CY (Ĝ p t a) b c:=rfl
 clear e
 rw[<-out]
 clear out
 generalize L3 a b c=LL,FS 0 14=RL,zh ns=S at *;simp[Rw,Df.run,Co,rg,e',e2,q1,q2,ht,Sz,DR,g0',pl,cp]
def RH:Df:=⟨2,Ae,{.ife (.cmp .Eq (.var 0) (.var 1)) {.rais 107 {.var 0}} .nil,.ret (.H {.B .Sub (.B .Mult (.idx (.var 0) (.int 1)) (.idx (.var 1) (.int 2))) (.B .Mult (.idx (.var 0) (.int 2)) (.idx (.var 1) (.int 1))),.B .Sub (.B .Mult (.idx (.var 0) (.int 2)) (.idx (.var 1) (.int 0))) (.B .Mult (.idx (.var 0) (.int 0)) (.idx (.var 1) (.int 2))),.B .Sub (.B .Mult (.idx (.var 0) (.int 0)) (.idx (.var 1) (.int 1))) (.B .Mult (.idx (.var 0) (.int 1)) (.idx (.var 1) (.int 0)))})}⟩
theorem V1(J:Y7)(a b:R3)(ha:B3 a)(hb:B3 b)(ne:a≠b):RH.run J [Ap Aa a,Ap Aa b]=.ok (Ap Aa (crs a b)):=by
 obtain⟨x0,x1,x2⟩:=Fw Aa a;obtain⟨y0,y1,y2⟩:=Fw Aa b;have k:∀ {u v},Bd 300 u->Bd 300 v->GD u v=Aa:=λhu hv=>KM hu hv (by decide) (by decide)
 have f:∀ r:R3,Tm 5 (Ap Aa r)=Aa:=λ_=>rfl
 have e:Y0 (Ap Aa a) (Ap Aa b)=Ae:=by rw[Lu];exact CK ne
 simp[RH,Df.run,Co,f,e,x0,x1,x2,y0,y1,y2,k ha.2.1 hb.2.2,k ha.2.2 hb.2.1,k ha.2.2 hb.1,k ha.1 hb.2.2,k ha.1 hb.2.1,k ha.2.1 hb.1];rfl
structure H84 (J:Y7) (ns:Ac Ad):Prop where
 mix:P8 J 228 ns
 tb:cm J ns
 cv:cn J
 ov:qm J
 ak:∀(p:Ad)(C:C6)(a b c:R3),p<=7->Y8 p a b c->xq p C->yn p C->Cl p C (pb C0p (bk0 a b c) (bk1 a b c) (bk2 a b c))->∃ A B U rest,AX p C=A::B::U::rest/\(∀ r,r∈akL p C A B U↔∃ t,Kt p C t/\r=DW t)/\F3 ((akL p C A B U).map tN)=.ok ((akL p C A B U).map tN)/\(akL p C A B U).Nodup/\(∀ {s t},Kt p C s->Kt p C t->img p s A=img p t A->img p s B=img p t B->img p s U=img p t U->s=t)/\cq J p C A B U
 fr:J.fr 297=Aa
 it:Tg J
 led:NS J
 pr:Sh J
 bk:Si J
 tf:Yg J
theorem mX(hp:P4 p)(z:Ao a b c%p≠0)(h:Cl p C (pb C0p (bk0 a b c) (bk1 a b c) (bk2 a b c))):(AX p C).length=Oe p 0:=by
 have zB:=HW hp z;exact Xe (.inl rfl) hp zB (Qq hp h)
theorem VS(hp:P4 p)(h7:p<=7)(z:Ao a b c%p≠0)(h:Cl p C (pb C0p (bk0 a b c) (bk1 a b c) (bk2 a b c))):(((En (AX p C) (AX p C)).length:Ag):Ad)=p*(p*p-1)/\(En (AX p C) (AX p C)).length<=1000/\0<(En (AX p C) (AX p C)).length:=by
 rw[oK (To hp),mX hp z h];rcases hp with rfl|rfl|rfl|rfl
 .decide
 .decide
 .decide
 .lia
theorem pq(h:H84 J ns):IN.run J [zh ns]=.ok (.bl Aa):=by
 obtain⟨p,hp,h7,hd⟩:=jG (h.mix 0 (by decide))
 have p0:=hp.pos;obtain⟨a,b,c,G,e2⟩:=h.tb p 120 hp (by decide)
 obtain⟨C,iC,lC,pC,wC,e3⟩:=h.cv p a b c G;have e4:=h.ov p a b c G;have so:=nL hp G.nz pC;obtain⟨A,B,U,rest,pt,km,ks,nd,uq,e6⟩:=h.ak p C a b c h7 G iC wC pC;obtain⟨tc,tz,t0⟩:=VS hp h7 G.nz pC;have e6:J.F 297 [.int p,C3 C]=.ok (.L ((akL p C A B U).map tN)):=e6;have ln:(akL p C A B U).length=(En (AX p C) (AX p C)).length:=YR;have l9:∀ r∈akL p C A B U,r.length=9:=UQ;obtain⟨m,_,e10⟩:=h.mix 10 (by decide)
 obtain⟨n,_,e11⟩:=h.mix 11 (by decide)
 generalize akL p C A B U=K at *;have lK:(K.map tN).length=K.length:=A6 ..;have e5:zc .sorted [Bz ((IT p).map λx=>J8 p (ap a b c x))]=.ok (.L ((AX p C).map (Ap Aa))):=by
  show (F3 (((IT p).map λx=>J8 p (ap a b c x)).map (Ap Aa))).bind _=_
  rw[so];rfl
 have fl:Tm 5 (.L (K.map tN))=Aa:=zZ 2 K;have eq:=XH l9;have mm:Ew p p=Aa/\Ew p (p*p-1)=Aa:=by rcases hp with rfl|rfl|rfl|rfl<;>exact⟨rfl,rfl⟩
 have md:=gR (J:=J) (p:=p) (n:=K.length) e2 e3 e4 e5 e6 h.fr lK (by rw[ln];exact tc) mm.1 mm.2 ks fl eq
 have ho:∀ {t x},Kt p C t->x∈AX p C->NF p x/\img p t x∈AX p C:=λ{t x} ht hx=>by
  obtain⟨h1,h2⟩:=AH.mp hx;have nx:=(Em hp).mp h1;obtain⟨n',pr⟩:=FR hp ht.g.nz nx;exact⟨nx,AH.mpr ⟨(Em hp).mpr n',Cm ((Nk hp pr).mpr ((Y_0 hp ht.k x).mpr (BD h2)))⟩⟩
 obtain⟨s7,s8,lo⟩:=k7 (J:=J) (p:=p) (C:=C) (A:=A) (B:=B) (U:=U) (rest:=rest) (S:=zh ns) (RR:=CY a b c) (cC:=C3 C) (ks:=K) h.it h.led hp pt (λr hr=>(km r).mp hr) uq ho nd (by lia)
 have kl:0<K.length:=by lia
 have r0:=λk:Ad=>A4 k (b:=(K.length:Ad)) (by lia)
 have r1:=λk:Ad=>AY k (b:=(K.length:Ad)) (by lia)
 obtain⟨u1,đ,į⟩:=So (r0 m) (r1 m);obtain⟨u2,hu2,İ⟩:=So (r0 n) (r1 n);obtain⟨u0,sn,g0⟩:=So (ks:=K) (i:=0) (by decide) (by lia)
 obtain⟨s,hs,rfl⟩:=(km u1).mp đ;obtain⟨t,ht,rfl⟩:=(km u2).mp hu2;have b3:∀ {r},Y9 p r->B3 r:=λh=>(Dy hp h).b3 (by decide)
 have q1:J.F 279 [.int p,tN (DW s),tN (DW t)]=.ok (CY (Ty p s.1 t.1 t.2.1 t.2.2) (Ty p s.2.1 t.1 t.2.1 t.2.2) (Ty p s.2.2 t.1 t.2.1 t.2.2)):=h.pr p Aa Aa Aa Aa s.1 s.2.1 s.2.2 t.1 t.2.1 t.2.2 p0 (b3 hs.g.ia) (b3 hs.g.ib) (b3 hs.g.ic) (b3 ht.g.ia) (b3 ht.g.ib) (b3 ht.g.ic);obtain⟨z1,k1⟩:=k8 hp hs ht;obtain⟨l,v,el,iv,kt1⟩:=X4 hp z1 k1;have q2:=h.tf p Ae Ae _ _ _ l v hp el iv;have q3:J.F 280 [.int p,tN (DW s)]=.ok (CY (LT p (bk0 s.1 s.2.1 s.2.2)) (LT p (bk1 s.1 s.2.1 s.2.2)) (LT p (bk2 s.1 s.2.1 s.2.2))):=h.bk p Aa Aa s.1 s.2.1 s.2.2 p0 (b3 hs.g.ia) (b3 hs.g.ib) (b3 hs.g.ic);obtain⟨z2,k2⟩:=wA hp hs;obtain⟨l',v',el',iv',kt2⟩:=X4 hp z2 k2;have q4:=h.tf p Ae Ae _ _ _ l' v' hp el' iv';have en:=iL (J:=J) (p:=p) (S:=zh ns) (RR:=CY a b c) (LL:=Bz (AX p C)) (s7:=s7) (s8:=s8) (KK:=K.map tN) (λz=>by rw[z]at lK;simp at lK;lia) (by lia) e10 e11 (by rw[lK];exact į) (by rw[lK];exact İ) g0 q1 q2 (S9 l9 ((km _).mpr ⟨_,kt1,rfl⟩)) (Y_7 _ _ _).1 q3 q4 (S9 l9 ((km _).mpr ⟨_,kt2,rfl⟩)) (Y_7 _ _ _).1 (S9 (r:=[1,0,0,0,1,0,0,0,1]) l9 ((km _).mpr ⟨_,fP hp,rfl⟩)) (λx hx=>by
  obtain⟨r,_,rfl⟩:=Bp.mp hx;exact ZO 3 r) e6 fl eq
 show (Y6 J (Co 14 [zh ns]) IN.body).ans Ae=_;have lo':Y6 J [sh (zh ns),si p,sh (CY a b c),sh (C3 C),sh (Bz (AX p C)),Ab (.L (K.map tN),Aa),Af,Af,Af,Af,Af,Af,Af,Af] (((IN.body.drop 2).drop 5).take 1)=.next [sh (zh ns),si p,sh (CY a b c),sh (C3 C),sh (Bz (AX p C)),Ab (.L (K.map tN),Aa),Af,s7,s8,Af,Af,Af,Af,Af]:=by
  show HX J .nil (yh J _ _)=_;rw[oo];exact lo
 have st:Co 14 [zh ns]=[sh (zh ns),Af,Af,Af,Af,Af,Af,Af,Af,Af,Af,Af,Af,Af]:=rfl;rw[st,NP J 2,hd,Ta,NP J 5,md,Ta,NP J 1];have e7:D.L ((AX p C).map (Ap Aa))=Bz (AX p C):=rfl;rw[e7,lo',Ta];have en':Y6 J [sh (zh ns),si p,sh (CY a b c),sh (C3 C),sh (Bz (AX p C)),Ab (.L (K.map tN),Aa),Af,s7,s8,Af,Af,Af,Af,Af] (((IN.body.drop 2).drop 5).drop 1)=.ret (.bl Aa) Ae:=en;rw[en'];rfl
def Py:Df:=⟨3,Ae,{.asg 2 Ae (.call 65 {.var 0,.var 1}),.ife (.cmp .IsNot (.var 2) .O) {.rais 118 {.var 2}} .nil}⟩
theorem uQ(e:J.F 65 [.int p,PP]=.ok .O):Py.run J [.int p,PP]=.ok .O:=by
 simp[Py,Df.run,Co,e]
def jQ:Ag->Ac Ag:=λ_=>[]
noncomputable def iR:Ag->Ac D->R Ex:=λ_ _=>.bad
def IO:Prg:=⟨Aa,fun
 |1=>TN
 |9=>OD
 |17=>O2
 |23=>RH
 |57=>TR
 |61=>Sd
 |65=>NI
 |109=>Py
 |69=>Wc
 |104=>Sf
 |91=>Sc
 |78=>RU
 |98=>RB
 |92=>Uv
 |105=>SJ
 |106=>Rg
 |126=>SH
 |128=>OL
 |131=>Rj
 |136=>RW
 |110=>Sy
 |111=>Rr
 |112=>NH
 |147=>RG
 |148=>Rk
 |149=>TQ
 |150=>MD
 |296=>Ow
 |297=>OG
 |228=>NC
 |288=>Rn
 |232=>RA
 |233=>Se
 |250=>Rw
 |289=>Rh
 |290=>OE
 |236=>Rx
 |237=>Ri
 |279=>QX
 |280=>RV
 |291=>Q7
 |292=>Rz
 |293=>Ry
 |304=>IN
 | _=>⟨0,Ae,.nil⟩,λ_=>.O,jQ,iR⟩
theorem gZ(ns:Ac Ad)(hl:ns.length<=63):(LE IO 9).F 304 [zh ns]=.ok (.bl Aa):=by
 have gF:∀ n i ds,(LE IO (n+1)).F i ds=(IO.defs i).run (LE IO n) ds:=λ_ _ _=>rfl
 have d65:IO.defs 65=NI:=rfl;have d109:IO.defs 109=Py:=rfl;have d112:IO.defs 112=NH:=rfl;have d128:IO.defs 128=OL:=rfl;have Ĭ:IO.defs 150=MD:=rfl;have d290:IO.defs 290=OE:=rfl;have d296:IO.defs 296=Ow:=rfl;have d297:IO.defs 297=OG:=rfl;have rs:∀ n,Lw (LE IO (n+1)):=λn p m hp=>fu (LE IO n) p m hp
 have mi:∀ n,P8 (LE IO (n+1)) 228 ns:=λn k hk=>gc (LE IO n) ns hl k hk
 have tu:∀ n,Sg (LE IO (n+2)):=λn p m hp z=>mU (rs n) p m hp z
 have fo:∀ n,Pk (LE IO (n+3)):=λn p b xs l t hp e it=>uJ (rs (n+1)) (tu n) hp e it
 have me:∀ n,NZ (LE IO (n+2)):=λn=>uH (rs n)
 have tf:∀ n,N4 (LE IO (n+4)):=λn p t q a b c hp ha hb hc z l u e it=>fg (me (n+1)) (fo n) p t q a b c hp ha hb hc z l u e it
 have co:∀ n,P9 (LE IO (n+1)):=λn=>gh _
 have su:∀ n,TY (LE IO (n+2)):=λn=>fq (rs n)
 have cr:∀ n,Ym (LE IO (n+2)):=λn=>uP (V1 _)
 have ba:∀ n,TL (LE IO (n+5)):=λn=>cu (cr (n+2)) (co (n+3)) (tf n)
 have af:∀ n,X6 (LE IO (n+5)):=λn=>uS (co (n+3)) (su (n+2)) (tf n)
 have ft:∀ n,US (LE IO (n+5)):=λn=>kI (me (n+2)) (rB _) (co (n+3)) (tf n)
 have f4:∀ n,rS (LE IO (n+3)):=λn p a b c d hp ha hb hc hd h=>by rw[gF,d65,uL (me n) p a b c d hp ha hb hc hd h]
 have ask:∀ n,ZX (LE IO (n+4)):=λn p a b c d hp ha hb hc hd h=>by rw[gF,d109,uQ (f4 n p a b c d hp ha hb hc hd h)]
 have mv:∀ n,Yj (LE IO (n+6)):=λn {p a b c f0 f1 f2 f3 g0 g1 g2 g3} gT l1 fr ϊ L=>by
  obtain⟨⟨d0,n0,h0⟩,⟨d1,n1,h1⟩,⟨d2,n2,h2⟩,⟨d3,n3,h3⟩⟩:=L;rw[gF,d112,uG (ask (n+1)) (ft n) (ba n) (af n) gT.p4 gT.ia gT.ib gT.ic gT.nz l1 fr.i0 fr.i1 fr.i2 fr.i3 fr.gen ϊ.i0 ϊ.i1 ϊ.i2 ϊ.i3 n0 n1 n2 n3 h0 h1 h2 h3]
 have tw:∀ n,Te (LE IO (n+2)):=λn=>uB (rs n)
 have wh:∀ n,WZ (LE IO (n+3)):=λn p C hp iC z=>qZ (tw n) (me n) p C hp iC z
 have aw:∀ n,TM (LE IO (n+4)):=λn p C hp iC z=>cw (wh n) p C hp iC z
 have pt:∀ n,YV (LE IO (n+5)):=λn p C hp iC z=>fw (aw n) (tw (n+2)) (tf n) p C hp iC z
 have ld:∀ n,YW (LE IO (n+4)):=λn p a b c f g i l=>gf (su (n+1)) (fo n) p a b c f g i l
 have pl:∀ n,Pz (LE IO (n+6)):=λn=>u8 λp C x hp iC z ix lx=>fx (pt n) (ba n) (ld (n+1)) p C x hp iC z ix lx
 have jo:∀ n,Mc (LE IO (n+4)):=λn p a b hp ia ib la lb ne=>gg (λa b ha hb ne=>V1 (LE IO (n+2)) a b ha hb ne) (fo n) p a b hp ia ib la lb ne
 have va:∀ n,Ye (LE IO (n+2)):=λn=>uA (rs n)
 have fb:∀ n,Yl (LE IO (n+7)):=λn p C A B P U hp iC w h=>by rw[gF,Ĭ,uN (jo (n+2)) (pl n) p C A B P U hp iC w h]
 have fT:∀ n,ZW (LE IO (n+7)):=λn p C A B P U hp iC w h=>by rw[gF,Ĭ,vh (jo (n+2)) (pl n) p C A B P U hp iC w h]
 have po:∀ n,Yh (LE IO (n+3)):=λn p C hp iC=>by rw[gF,d128,uE (λp hp=>vg (LE IO (n+1)) p hp) (va n) p C hp iC]
 have ot:∀ n,Yi (LE IO (n+1)):=λn L h=>by rw[gF,d296,uF (LE IO n) L h]
 have fm:∀ n,Pl (LE IO (n+1)):=λn p b xs l t hp e it=>uK _ hp e it
 have sm:∀ n,W3 (LE IO (n+1)):=λn=>rA _
 have le:∀ n,NS (LE IO (n+2)):=λn=>rC (sm n) (fm n)
 have bk:∀ n,Si (LE IO (n+2)):=λn=>mW (rE _)
 have pr:∀ n,Sh (LE IO (n+1)):=λn=>mV _
 have tff:∀ n,Yg (LE IO (n+2)):=λn=>uC (fm n)
 have rr:∀ n,Tf (LE IO (n+1)):=λn=>uD _
 have fd:∀ n,Yk (LE IO (n+2)):=λn=>uM (rr n)
 have h:H84 (LE IO 8) ns:=by
  refine⟨mi 7,λp at_ hp ha=>fj (mi 6) p at_ hp ha,λp a b c G=>uO (bk 5) (pr 6) (fm 6) p a b c G,λp a b c G=>by rw[gF,d290,fy (le 5) p a b c G],λp C a b c h7 G iC wC pC=>?_,rfl,uI (rr 6) (fd 5),le 6,pr 7,bk 6,tff 6⟩
  have hp:=G.p4;have zB:=HW hp G.nz;obtain⟨A,B,P,U,rest,fc⟩:=fN (jo 3) hp zB wC (Qq hp pC);have nd:=To (C:=C) hp;rw[fc.pts]at nd;simp only[Cs,Ay,ES]at nd;obtain⟨⟨n1,n2,_⟩,⟨n3,_⟩,_⟩:=nd;have f:Fb p C A B P U:=⟨fc.nA,fc.nB,fc.nP,fc.nU,n1,n2,n3,fc.on,fc.gen,fc.ln⟩;have F:ϱ (LE IO 7) p C A B P U:=⟨hp,iC,wC,f,λ{t} ht=>pk (jo 3) hp G.nz wC pC ht.g.nz ht.k f,λ{A' B' U'} hA hB hU m1 m2 m3=>ZP (jo 3) hp zB wC (Qq hp pC) hA hB hU m1 m2 m3,fb 0,mv 1⟩
  have tz:=(VS hp h7 G.nz pC).2.1;refine⟨A,B,U,rest,fc.pts,λr=>qj F,(Yd F tz).2,NK (Pf (Ua F)),λhs ht e1 e2 e3=>X3 F hs ht e1 e2 e3,?_⟩
  show (LE IO 8).F 297 [.int p,C3 C]=_;rw[gF,d297,uR F (aw 3) (po 4) (fT 0) (ot 6) fc.pts tz]
 exact pq h
end OvC
namespace OvC
open PySem PySem.Spec PyProof.Rows Ov L2
variable{l:Hh}
def ZN:Ac (Al×Ag×Ag):=([("rest",1,2),("turned_over",9,2),("one_form",17,2),("crossed",23,2),("join",57,3),("measure",61,4),("first_three",65,2),("ask_no_three",109,2),("triples",69,1),("columns",104,1),("sums_by",91,3),("table_of",78,2),("crossed_rows",98,1),("led",92,3),("after",105,3),("table_back",106,2),("value",126,3),("points_of",128,2),("twice_table",131,2),("is_whole",136,2),("scaled",110,2),("frame_table",111,2),("frame_move",112,3),("ask_whole",147,2),("polar_table",148,2),("pole",149,3),("frame_on",150,3),("ordered_threes",296,1),("all_keeping",297,2),("_law_mixed",228,2)]:Ac (Al×Ag×Ag))++([("_law_form",288,2),("_law_cross",232,3),("_law_sum",233,3),("_law_table",250,3),("_law_led",289,3),("_law_oval",290,2),("_law_rests",236,3),("_law_formed",237,3),("_law_product",279,3),("_law_back",280,2),("_law_table_form",291,2),("_law_curve",292,2),("_law_is_table",293,2),("law",304,1)]:Ac (Al×Ag×Ag))
noncomputable def U2:Ac Al:=["all", "bool", "enumerate", "int", "isinstance", "len", "list", "max", "min", "range", "sorted", "sum", "tuple", "zip"]
def Zp:Ac (Al×Ag):=[]
def ZQ:Ac (Al×Ag):=[]
def ZJ:Ac (Al×Ag):=[]
abbrev zm(n:Ag)(N:Ac Al)(i d:Ag):Prop:=JJ 80 Ae ZN U2 Zp ZQ ZJ (N.take n) N (tp84 i) (IO.defs d)=Aa
def ms:zm 2 ["p", "n"] 10 1:=by decide+kernel
def mq:zm 2 ["p", "n", "turned"] 11 9:=by decide+kernel
theorem mo:zm 2 ["p", "numbers", "rests", "first", "factor", "#5", "#6"] 13 17:=by decide+kernel
def ml:zm 2 ["one", "other"] 14 23:=by decide+kernel
def mh:zm 3 ["p", "one", "other"] 16 57:=by decide+kernel
theorem mf:zm 4 ["p", "one", "other", "third"] 17 61:=by decide+kernel
theorem ma:zm 2 ["p", "points", "i", "one", "j", "k"] 18 65:=by decide+kernel
theorem oh:zm 2 ["p", "points", "three"] 19 109:=by decide+kernel
theorem og:zm 1 ["p", "told", "z", "y", "#4"] 20 69:=by decide+kernel
def o9:zm 1 ["rows"] 22 104:=by decide+kernel
theorem ca:zm 3 ["p", "rows", "numbers", "#3"] 23 91:=by decide+kernel
def bz:zm 2 ["p", "rows", "nine"] 24 78:=by decide+kernel
def bw:zm 1 ["table"] 25 98:=by decide+kernel
def yI:zm 3 ["p", "table", "point"] 26 92:=by decide+kernel
theorem yH:zm 3 ["p", "one", "other", "sides", "#4"] 27 105:=by decide+kernel
def yG:zm 2 ["p", "table"] 28 106:=by decide+kernel
theorem yF:zm 3 ["p", "curve", "point", "squares", "products"] 30 126:=by decide+kernel
def yE:zm 2 ["p", "curve", "#2"] 31 128:=by decide+kernel
def yD:zm 2 ["p", "curve"] 32 131:=by decide+kernel
def yC:zm 2 ["p", "curve", "rows"] 33 136:=by decide+kernel
theorem yB:zm 2 ["factor", "point", "#2"] 35 110:=by decide+kernel
def yA:zm 2 ["p", "four", "sides"] 36 111:=by decide+kernel
theorem xZ:zm 3 ["p", "four", "goals"] 37 112:=by decide+kernel
def zK:zm 2 ["p", "curve"] 39 147:=by decide+kernel
def zJ:zm 2 ["p", "curve"] 40 148:=by decide+kernel
theorem zH:zm 3 ["p", "curve", "line"] 41 149:=by decide+kernel
theorem zG:zm 3 ["p", "curve", "three"] 43 150:=by decide+kernel
theorem zF:zm 1 ["points", "rows", "one", "other", "#4"] 44 296:=by decide+kernel
theorem zE:zm 2 ["p", "curve", "points", "frame", "#4"] 45 297:=by decide+kernel
theorem zD:zm 2 ["_law_script", "_law_k", "_law_cell", "_law_step"] 47 228:=by decide+kernel
theorem zC:zm 2 ["_law_p", "_law_numbers", "_law_rests_here", "_law_first", "_law_back_here", "#5", "#6", "#7", "#8"] 49 288:=by decide+kernel
theorem zA:zm 3 ["_law_p", "_law_one", "_law_other", "_law_x", "_law_y", "_law_z"] 51 232:=by decide+kernel
theorem yZ:zm 3 ["_law_p", "_law_one", "_law_other"] 52 233:=by decide+kernel
theorem yY:zm 3 ["_law_p", "_law_script", "_law_at", "_law_rows", "_law_k", "_law_number", "_law_i", "_law_j", "_law_many", "#9", "#10", "#11"] 55 250:=by decide+kernel
theorem yX:zm 3 ["_law_p", "_law_rows", "_law_point_here", "#3"] 56 289:=by decide+kernel
theorem yW:zm 2 ["_law_p", "_law_rows", "_law_points", "_law_t"] 57 290:=by decide+kernel
theorem yV:zm 3 ["_law_p", "_law_found", "_law_many", "#3"] 59 236:=by decide+kernel
theorem yU:zm 3 ["_law_p", "_law_found", "_law_many", "#3"] 60 237:=by decide+kernel
theorem yT:zm 3 ["_law_p", "_law_one", "_law_other", "_law_rows", "_law_row", "#5", "#6"] 61 279:=by decide+kernel
theorem yS:zm 2 ["_law_p", "_law_rows", "_law_a", "_law_b", "_law_c", "_law_columns", "#6", "#7"] 62 280:=by decide+kernel
theorem yR:zm 2 ["_law_p", "_law_rows", "_law_nine"] 63 291:=by decide+kernel
theorem yQ:zm 2 ["_law_p", "_law_rows", "_law_back_here", "_law_turned", "_law_made", "_law_half", "#6", "#7"] 64 292:=by decide+kernel
theorem yP:zm 2 ["_law_p", "_law_found", "#2"] 65 293:=by decide+kernel
theorem Xx:zm 1 ["_law_script", "_law_p", "_law_rows", "_law_curve_here", "_law_points", "_law_found", "_law_goals", "_law_table_here", "_law_led_points", "_law_one", "_law_other", "_law_due", "#12", "#13"] 66 304:=by decide+kernel
set_option maxHeartbeats 0 in
theorem all84{w:AJ}{K:Fg}{h:AO}{mg:Al->Ar Aj}(X:K.In h)(G:h.Ns By mg)(hfa:mg "law" = Ab (.ref fa))(a0:zy K f0 "rest" (tp84 10))(a1:zy K f1 "turned_over" (tp84 11))(a2:zy K f2 "one_form" (tp84 13))(a3:zy K f3 "crossed" (tp84 14))(a4:zy K f4 "join" (tp84 16))(a5:zy K f5 "measure" (tp84 17))(a6:zy K f6 "first_three" (tp84 18))(a7:zy K f7 "ask_no_three" (tp84 19))(a8:zy K f8 "triples" (tp84 20))(a9:zy K f9 "columns" (tp84 22))(a10:zy K f10 "sums_by" (tp84 23))(a11:zy K f11 "table_of" (tp84 24))(a12:zy K f12 "crossed_rows" (tp84 25))(a13:zy K f13 "led" (tp84 26))(a14:zy K f14 "after" (tp84 27))(a15:zy K f15 "table_back" (tp84 28))(a16:zy K f16 "value" (tp84 30))(a17:zy K f17 "points_of" (tp84 31))(a18:zy K f18 "twice_table" (tp84 32))(a19:zy K f19 "is_whole" (tp84 33))(a20:zy K f20 "scaled" (tp84 35))(a21:zy K f21 "frame_table" (tp84 36))(a22:zy K f22 "frame_move" (tp84 37))(a23:zy K f23 "ask_whole" (tp84 39))(a24:zy K f24 "polar_table" (tp84 40))(a25:zy K f25 "pole" (tp84 41))(a26:zy K f26 "frame_on" (tp84 43))(a27:zy K f27 "ordered_threes" (tp84 44))(a28:zy K f28 "all_keeping" (tp84 45))(a29:zy K f29 "_law_mixed" (tp84 47))(a30:zy K f30 "_law_form" (tp84 49))(a31:zy K f31 "_law_cross" (tp84 51))(a32:zy K f32 "_law_sum" (tp84 52))(a33:zy K f33 "_law_table" (tp84 55))(a34:zy K f34 "_law_led" (tp84 56))(a35:zy K f35 "_law_oval" (tp84 57))(a36:zy K f36 "_law_rests" (tp84 59))(a37:zy K f37 "_law_formed" (tp84 60))(a38:zy K f38 "_law_product" (tp84 61))(a39:zy K f39 "_law_back" (tp84 62))(a40:zy K f40 "_law_table_form" (tp84 63))(a41:zy K f41 "_law_curve" (tp84 64))(a42:zy K f42 "_law_is_table" (tp84 65))(a43:zy K f43 "law" (tp84 66))(z0:CG K By "all" = Ab Af)(z1:CG K By "bool" = Ab Af)(z2:CG K By "enumerate" = Ab Af)(z3:CG K By "int" = Ab Af)(z4:CG K By "isinstance" = Ab Af)(z5:CG K By "len" = Ab Af)(z6:CG K By "list" = Ab Af)(z7:CG K By "max" = Ab Af)(z8:CG K By "min" = Ab Af)(z9:CG K By "range" = Ab Af)(z10:CG K By "sorted" = Ab Af)(z11:CG K By "sum" = Ab Af)(z12:CG K By "tuple" = Ab Af)(z13:CG K By "zip" = Ab Af):
    ∃ fd:Dm,(∀(s:Aq)(v:Aj),Ji s fd ⟨[v],[]⟩ [("_law_script",v)])/\∀ base:AO,K.In base->base.Ns By mg->y7 l.prog w K mg base (CXR l.prog w) 9 fa fd ["_law_script"] (Qa K):=by
  obtain⟨_,F,e⟩:=a43;obtain⟨_,_,_,_,_,_,_,_,_,rfl,_,_⟩:=F.ex;cases hfa.symm.trans (KY X G e);have T:Ĉ K mg (λ_=>Af) ZN U2 Zp ZQ ZJ IO 80:=⟨tH λ_ _=>rfl,J1 (Ca X G z0) (J1 (Ca X G z1) (J1 (Ca X G z2) (J1 (Ca X G z3) (J1 (Ca X G z4) (J1 (Ca X G z5) (J1 (Ca X G z6) (J1 (Ca X G z7) (J1 (Ca X G z8) (J1 (Ca X G z9) (J1 (Ca X G z10) (J1 (Ca X G z11) (J1 (Ca X G z12) (J1 (Ca X G z13) (aNl)))))))))))))),aNl,J1 (Fq 2 1 X G a0 ms) (J1 (Fq 2 9 X G a1 mq) (J1 (Fq 2 17 X G a2 mo) (J1 (Fq 2 23 X G a3 ml) (J1 (Hr 3 57 X G a4 mh) (J1 (kH 4 61 X G a5 mf) (J1 (Fq 2 65 X G a6 ma) (J1 (Fq 2 109 X G a7 oh) (J1 (Og 1 69 X G a8 og) (J1 (Og 1 104 X G a9 o9) (J1 (Hr 3 91 X G a10 ca) (J1 (Fq 2 78 X G a11 bz) (J1 (Og 1 98 X G a12 bw) (J1 (Hr 3 92 X G a13 yI) (J1 (Hr 3 105 X G a14 yH) (J1 (Fq 2 106 X G a15 yG) (J1 (Hr 3 126 X G a16 yF) (J1 (Fq 2 128 X G a17 yE) (J1 (Fq 2 131 X G a18 yD) (J1 (Fq 2 136 X G a19 yC) (J1 (Fq 2 110 X G a20 yB) (J1 (Fq 2 111 X G a21 yA) (J1 (Hr 3 112 X G a22 xZ) (J1 (Fq 2 147 X G a23 zK) (J1 (Fq 2 148 X G a24 zJ) (J1 (Hr 3 149 X G a25 zH) (J1 (Hr 3 150 X G a26 zG) (J1 (Og 1 296 X G a27 zF) (J1 (Fq 2 297 X G a28 zE) (J1 (Fq 2 228 X G a29 zD) (J1 (Fq 2 288 X G a30 zC) (J1 (Hr 3 232 X G a31 zA) (J1 (Hr 3 233 X G a32 yZ) (J1 (Hr 3 250 X G a33 yY) (J1 (Hr 3 289 X G a34 yX) (J1 (Fq 2 290 X G a35 yW) (J1 (Hr 3 236 X G a36 yV) (J1 (Hr 3 237 X G a37 yU) (J1 (Hr 3 279 X G a38 yT) (J1 (Fq 2 280 X G a39 yS) (J1 (Fq 2 291 X G a40 yR) (J1 (Fq 2 292 X G a41 yQ) (J1 (Fq 2 293 X G a42 yP) (J1 (Og 1 304 X G ⟨_,F,e⟩ Xx) (aNl))))))))))))))))))))))))))))))))))))))))))))⟩
  exact⟨_,λs v=>.of_eq rfl,λbase _ _=>xB (Zd T (Tw T 8) (ZK F) rfl Xx) gZ⟩
theorem walk84{q:AW}{loose:Ac Al}{XP:(Al->Ar Aj)->AO->Prop}{YP:AJ->AO->Prop}{d:DefRec}{K:Ny->Fg}(hn:l.most=Ab 63)(Ĺ:d.params.defaults=[])(hY:∀(w:AJ)(h:AO),YP w h->(K w.params).In h)(F:∀(w:AJ)(mg:Al->Ar Aj)(fa:Ak)(h:AO),(K w.params).In h->h.Ns By mg->mg d.name=Ab (.ref fa) ->
   ∃ fd:Dm,(∀(s:Aq)(u:Aj),Ji s fd ⟨[u],[]⟩ [("_law_script",u)])/\∀ base:AO,(K w.params).In base->base.Ns By mg->y7 l.prog w (K w.params) mg base (CXR l.prog w) 9 fa fd ["_law_script"] (Qa (K w.params))):eL q loose XP YP l.row.toRowW d [] (λf vs=>Mr f vs):=
 L2.walk_of (n:=63) (k:=9) (x := "_law_script") (CX:=λw=>CXR l.prog w) (sp:=λw=>Qa (K w.params)) hn (by decide) Ĺ ⟨rfl,by decide,by decide,rfl⟩ hY F (λ_ H a ns hl _ hS=>⟨a,ns,rfl,hl,hS,λ_ _ z=>z⟩) λ_ _ _ _ _ z=>ni z
end OvC
open PySem PySem.W PyProof.Rows
set_option hygiene false
set_option maxRecDepth 100000 in
set_option maxHeartbeats 0 in
theorem PySem.Challenge.cw_ovalfield_k84_whole_all_keeping_holds : PySem.Challenge.rw_ovalfield_k84_whole_all_keeping.Holds := by
 refine OvC.hold84.go OvC.reck84_1 OvC.reck84_2 OvC.reck84_3 OvC.reck84_4 OvC.reck84_5 OvC.reck84_6 OvC.reck84_7 OvC.reck84_8 OvC.reck84_9 OvC.reck84_10 OvC.reck84_11 ?_;intro ř;refine OvC.walk84 (l:=PySem.Challenge.rw_ovalfield_k84_whole_all_keeping) rfl rfl (λw h Y_=>eQ Y_) ?F
 case F=>
  intro w mg fa h KX G ł
  refine' OvC.all84 KX G ł ?a0 ?a1 ?a2 ?a3 ?a4 ?a5 ?a6 ?a7 ?a8 ?a9 ?a10 ?a11 ?a12 ?a13 ?a14 ?a15 ?a16 ?a17 ?a18 ?a19 ?a20 ?a21 ?a22 ?a23 ?a24 ?a25 ?a26 ?a27 ?a28 ?a29 ?a30 ?a31 ?a32 ?a33 ?a34 ?a35 ?a36 ?a37 ?a38 ?a39 ?a40 ?a41 ?a42 ?a43 ?z0 ?z1 ?z2 ?z3 ?z4 ?z5 ?z6 ?z7 ?z8 ?z9 ?z10 ?z11 ?z12 ?z13
  case a0|a1|a2|a3|a4|a5|a6|a7|a8|a9|a10|a11|a12|a13|a14|a15|a16|a17|a18|a19|a20|a21|a22|a23|a24|a25|a26|a27|a28|a29|a30|a31|a32|a33|a34|a35|a36|a37|a38|a39|a40|a41|a42|a43=>(refine' Ov.fni ?a ?l ?c ?k;(case a=>k_is);(case l=>k_is);(case c=>k_is);(case k=>k_is))
  case z0|z1|z2|z3|z4|z5|z6|z7|z8|z9|z10|z11|z12|z13=>k_is
import PyProof.Rows.All
import Wide.All
import OpenK.AllK
import Wide.FinOn
import PyProof.EqAt
import KE.KSortTup
import PyProof.EqKinds
import PyProof.TupleCall
import Lean
import PySem.Challenge.RW_ovalfield_k77_sets_refused
set_option Elab.async false
set_option linter.all false
set_option maxRecDepth 100000
set_option maxHeartbeats 4000000
open Option renaming some→Aa,none→Ad,bind_eq_some_iff→Ay,isSome_iff_exists→En,map→FS,map_some→Iq,bind_some→Wx,getD_none→Wy
open Bool renaming true→Ab,false→Ae,and_eq_true→Aj,false_ne_true→Aq,not_eq_true'→Bp,or_eq_true→B9,eq_iff_iff→Dy,and_false→FR,or_false→Hn,or_true→HH,and_true→VW,false_eq_true→VY,true_and→VZ
open _root_ renaming List→Ac,Int→Af,Nat→Ag,Option→An,Bool→Ao,if_pos→AG,if_neg→AI,beq_iff_eq→AR,decide_eq_true_eq→AT,False→AW,Array→Bj,decide_eq_false→BY,beq_self_eq_true→Cy,beq_eq_false_iff_ne→CI,String→CY,or_false→C4,decide_eq_true→DR,if_true→E7,Decidable→FE,not_or→FQ,Unit→FZ,of_decide_eq_true→Ga,bne_iff_ne→HB,True→HS,if_false→Jl,ne_eq→LP,decide_eq_false_iff_not→uZ
open PySem renaming Addr→Ah,Str→Ai,Value→Ak,wpAny_bind→Al,Expr→Ap,Shared→Ar,starEach→As,wpAny→Ax,World→AB,wpAny_pure→AC,Heap→AF,Pos→AO,Program→AS,Around→AY,mainGlobals→A8,Stmt→Be,wpAny_mono→Bl,backTo→Bz,cLine→BD,wpAny_field→BP,FuncData→BV,wpAny_holding→BX,assignEach→B5,wpAny_loadPart_at→B6,binaryOp→B7,Env→Cd,excClassObj→Ce,compareOp→Cm,swapsWith→Cn,Scope→Co,mem_of_lookup→CF,Tok→CN,cellsFrom→CQ,wpAny_callSpecial?_slot→CW,foldedSetIterable→CZ,wpAny_newObj_type→C1,wpAny_truthy_bool→C2,Keyword→C9,bootBuiltins→Dd,attributeBase→Dk,Obj→Dl,wpAny_seqItems→DN,sizeLine_eq→DT,tupleKind_room_in1→DV,wpAny_setField_rec→DW,wpAny_passesOwn→D4,wpAny_standAt→D8,codeAny_call_builtin→Ee,sysModules→Ef,keywordEach→Ei,OwnTail→Ej,NameKind→Ep,rawInt→Er,CmpOp→EF,PassesOwn→EG,wpAny_Call_Name_kw→EH,wpAny_execs_nil→EI,IsPair→EZ,wpAny_call_entry→Fc,ExceptHandler→Ff,swappedStores→Fj,wpAny_newFunctionEnv_cells→Fk,sliceBounds→Fn,wpAny_isSubtype_exc→Fq,GenState→FI,backToKw→FJ,codeAny_mono→FK,codeAny→FU,wpAny_setField→FV,swapsWithSole→Gm,wpAny_onRaise→Gn,Operator→Go,checkBuiltinCall→Gp,BindsTo→Gz,codeAny_call_function→GA,IsZip→GM,letOwnedTupleGo→GP,wpAny_call→GQ,wpAny_updateSeq_pair→GR,recursionLimit→G2,Model→He,atKey→Hf,noteFrame→Hl,pushCells→Hm,behindInMarks→Ho,wpAny_pyIter_list→Hz,wpAny_rule→HA,OsState→HC,callerA→HE,ExcBaseFacts→HM,IsPart→HN,Paired→HP,callSpecial?→HQ,wpAny_execs_cons→HR,Drawn→Ir,pushCells_keeps→Iw,setFlight→Ix,wpAny_letGo→IA,dictSetDefault→IK,isTrue→IL,newFunctionEnv→IM,notedBy→IN,pyNext→IP,standAt→IQ,bindC→IR,bindL→IS,builtinsNs→IT,call_meets→IU,entryOfKey→IV,isInstance→IW,Result→Js,call_meetsIn→Jv,codeAny_func→Jw,concat_meets→Jx,lastMarks→Jy,onTheHeap→Jz,seqIndex_neg→JA,getItem→JQ,setItem→JR,seqIndex_of→JU,wpAny_of_eq→JV,bindArgs→JW,handleBy→JX,PyData→Kv,StoreFacts→Kx,call→KA,wpAny_Name→KB,Arguments→LI,IntMulOk→LS,Params→LU,pyIter→LV,firstArgMember→Xm,noFill_tuple_add→Xn,refuseLoop_ref→Xo,slot_list_getitem→Xp,wpAny_Call_method_late→Xq,wpAny_assign_Name→Xr,wpAny_comprehension_free→Xs,wpAny_dictEntries→Xu,wpAny_pyIter_enum→Xv,wpAny_pyIter_tuple→Xx,wpAny_pyIter_zip→Xy,wpAny_pyNext_list_end→Xz,wpAny_pyNext_list_item→XA
open PySem.Heap renaming get?_push_of_some→Au,lt_size→AQ,get?_push_size→AV,get?_update_self→Cp,get?_update_other→CC,size_push→CU,get?_none_of_le→DB,SameBut→DU,ExtBut→Iz,MadeExcOf→II,get?_push_at→WZ,get?_push_cases→W1,get?_update_ne→W2
open PySem.W renaming findIn→Aw,subIn→Az,nsIn→BB,mg_of→BM,mroIn→BR,keepIn→B8,looks_findIn→Cw,fnOf→CO,mg_none_of→CP,fencedOpening→CS,kitOne→Ds,typeIn→Dt,clsIn→DG,openEnds→EJ,specialIn→ET,codeIn→E2,excIn→Fi,topFrom→Fm,findCls→FC,readsIn→FD,OpenLaw→Gf,cellsFrom_some→Gg,callWith_K→Hj,codeRec_of→Hk,methodObj→Hy,kitAny→IJ,WalkO→Xf,isNs_of_in→Xg,kIn_of→Xh,kitMeta→Xi,looks_subIn→Xj,nsOkIn→Xk,tail_of_in→Xl
open List renaming mem_cons_of_mem→AA,mem_cons→AD,mem_cons_self→AE,size_toArray→AM,range→A5,mem_range→Ba,length_set→Bb,getElem?_eq_some_iff→Bg,length_map→Bm,mem_append_right→Br,length_cons→Bs,not_mem_nil→Bt,length_append→Bu,mem_singleton→Bv,map_cons→BE,getElem?_eq_getElem→B0,getElem_mem→B1,mem_map→B4,append_nil→Ca,lookup_cons→Cc,mem_filter→Ct,nodup_cons→Cu,findSome?_eq_none_iff→CA,isEmpty_eq_false_iff→CJ,all_eq_true→CM,mem_append→C5,getElem?_set_self→Dc,length_singleton→Do,take_append_drop→Dp,getElem_of_mem→DL,any_eq_true→DM,take_of_length_le→DS,getD_eq_getElem?_getD→D5,getElem?_map→Eb,exists_of_findSome?_eq_some→El,length_take→Em,nodup_append→ER,map_map→EU,filter_cons→E8,length_drop→E9,drop_eq_getElem_cons→Fw,getElem?_append_left→Fx,map_append→FA,toArray→FF,getElem?_set_self'→FW,lookup→Gb,range_succ_eq_map→Gc,all_cons→Gi,any_cons→Gj,length_filter_le→Gy,find?_cons→GC,getElem?_set_ne→GE,mem_append_left→GF,mem_of_mem_take→GH,of_mem_zip→GI,filterMap_cons→GV,findSome?_cons→GW,map_congr_left→GX,forIn_nil→GY,nodup_nil→GZ,replicate→G0,contains_cons→Hg,getElem?_set→Hx,getElem_inj→HK,forIn_cons→Io,map_nil→Jp,map→LQ,all_map→V7,any_map→V8,contains_eq_mem→Wa,drop_eq_nil_of_le→Wb,drop_zero→Wc,ext_getElem?→Wd,getElem?_append_right→We,getElem?_cons_succ→Wf,getElem?_cons_zero→Wg,getElem?_replicate→Wh,isEmpty_iff→Wi,length_replicate→Wj,map_drop→Wk,map_take→Wl,mem_of_getElem?→Wm,mem_of_mem_drop→Wn,reverse_cons→Wo,set_set→Wp,take_sublist→Wq,zipIdx_cons→Wr,zipIdx_nil→Ws
open Nat renaming lt_of_lt_of_le→AN,le_refl→AU,ne_of_lt→Bo,lt_irrefl→BF,le_trans→BU,ble→C8,ble_eq_true_of_le→Dq,lt_succ_of_lt→ES,le_of_ble_eq_true→EV,ne_of_gt→EW,pow_le_pow_right→Fa,lt_of_le_of_lt→FG,zero_add→FH,le_of_lt→GJ,zero_le→Hd,lt_or_gt_of_ne→Hh,mod_eq_of_lt→HL,min_eq_left→Ip,le_succ→Wt,lt_succ_self→Wu,min_self→Wv,not_lt→Ww
open Int renaming emod_lt_of_pos→AX,emod_nonneg→AZ,emod_eq_of_lt→A6,emod_emod_of_dvd→BN,mul_emod→BS,mul_comm→BZ,zero_emod→Cz,dvd_refl→Da,one_mul→Db,zero_add→Ek,toNat_natCast→EQ,mul_one→Fl,toNat_of_nonneg→Fp,mul_assoc→Gh,mul_zero→GB,sub_emod→HI,sub_zero→HJ,le_refl→Iy,add_comm→Jn,zero_mul→Jo,mul_pos→JS,add_emod→V2,mul_nonneg→V3,mul_sub→V4,ne_of_gt→V5,sub_add_cancel→V6
open PySem.W.Fast renaming te10274390034422433532→A1,te14082659384304107361→A2,te14289696077712309145→A3,te14364793385576792824→A4,te1435165496053646825→A7
open PySem.Str renaming ofString→Bh,empty→Ju
open False renaming elim→Bi
open Option.some renaming inj→Bw,injEq→CD
open PySem.Builtin.SmallTypes renaming nextOf→BK,ownedTupleIsFree→CT,ownedTupleHandOut→WH
open PySem.NameKind renaming cell→BQ,free→D7
open PySem.Value renaming ref→Ck,builtin→Dj,none→DC,bool→Ky,type→Kz,int→LK,str→LO,bytes→Xb,float→Xc
open PyProof.Rows renaming callWith_type1→C7,envOfC→EX,AllBare→FT,subscriptTail_builtinR→Gd,boot_isinstance→GK,IntsAre→IH,IsTup→Ku,boot_list→Wz,boot_tuple→WA,slicePart_none→WB,slot_tuple_getitem→WC
open PySem.Obj renaming data_mapFields→Dr,isFreed_of_fields→E1,mapFields→Gk,mapSeq→GN,cls_mapFields→W3,data_mapDictKeys→W4
open Prod renaming ext→Dz
open PySem.Builtin.List renaming listTooLong→DA
open Classical renaming choose_spec→DY,byContradiction→V0,choose→V1
open Ne renaming symm→DZ
open PySem.PyData renaming shownAll→D0,depthAll→Iu,hasDictAll→W7,showableAll→W8
open PySem.F renaming slot_tuple_iterator_next→D6,plainAttrs_list→EA,slot_list_extend→EY,excBase_ValueError→Fh,attr_ValueError→FY,slot_zip_next→GL,args_list_extend_2→WL,args_tuple_add_2→WM,args_tuple_iterator_next_1→WN,args_zip_next_1→WO,entry_bexc_ga→WP,entry_list_extend→WQ,entry_tuple_add→WR,entry_tuple_iterator_next→WS,entry_zip_next→WT,slot_dict_len→WU,slot_tuple_add→WV,typeOf_object_class→WW,type_list_extend→WX
open PySem.Builtin.Slice renaming slicePlaces→Ec,sliceAdjust→FB,sliceApplied→WG
open PySem.Calls renaming evalArgs_plain→Ed,callWith_builtin→Ge,Name_function_global→WI
open PySem.Builtin.Tuple renaming tupleExact→Eo
open PySem.Heap.SameBut renaming update→Ez,refl→WY
open ForInStep renaming yield→EE
open Array renaming length_toList→Fo,toList→VV
open Function renaming comp_def→FX
open PySem.SeqAt renaming EqAt→GO,RcNeAt→Jt,RcAt→Kw
open PySem.Code renaming quiet_builtin→Hi,isFrame→Jr,frames→WJ
open Sum renaming inl→HF,inr→HG
open PySem.Value.ref renaming inj→Jm
open PySem.Around renaming under→Jq
open PySem.Shared renaming heap→JT
open NeZero renaming ne→LG
open PyProof.Rows.IsTup renaming new→LH
open PySem.Data renaming cell→LJ,seq→LR
open Eq renaming symm→MP
open List.cons renaming injEq→V9
open PySem.AutoSeq1 renaming wpAny_loadPart'→WD
open PySem.Builtin.Int renaming intBits→WE
open PySem.Builtin.ObjectAttr renaming storeInDict→WF
open PySem.EntryCells renaming newEntry→WK
open PySem.Paired renaming length→W5
open PySem.PassesOwn renaming leaving→W6
open PySem.SeqAt.EqAt renaming of_refs→W9,same→Xa
open PySem.W.WData renaming int→Xd
open PySem.W.WShape renaming has→Xe
abbrev Fg:=PySem.W.Frag
abbrev Pn:=Ac (PySem.Addr×PySem.Obj)
abbrev Vq:=PySem.Value->PySem.Shared->Prop
set_option genSizeOfSpec false
section
open PySem PySem.W PyProof.Rows
namespace OvC
set_option genInjectivity false in
structure Eleven (P:Prop) where
 (α1 α2 α3 α4 α5 α6 α7 α8 α9 α10 α11:Type)
 (l1 r1:AB->α1)
 (l2 r2:AB->α2)
 (l3 r3:AB->α3)
 (l4 r4:AB->α4)
 (l5 r5:AB->α5)
 (l6 r6:AB->α6)
 (l7 r7:AB->α7)
 (l8 r8:AB->α8)
 (l9 r9:AB->α9)
 (l10 r10:AB->α10)
 (l11 r11:AB->α11)
 X : Prop
 go : (∀ w,l1 w=r1 w)->(∀ w,l2 w=r2 w)->(∀ w,l3 w=r3 w)->(∀ w,l4 w=r4 w)->(∀ w,l5 w=r5 w)->(∀ w,l6 w=r6 w)->(∀ w,l7 w=r7 w)->(∀ w,l8 w=r8 w)->(∀ w,l9 w=r9 w)->(∀ w,l10 w=r10 w)->(∀ w,l11 w=r11 w)->X -> P
theorem map_pair{σ α β:Type}{A:σ->α}{B:σ->β}{r:An σ}{a:α}{b:β}(h1:FS A r=Aa a)(h2:FS B r=Aa b):FS (fun s=>(A s,B s)) r=Aa (a,b):=by
 cases r with
 |none=>cases h1
 |some s=>cases h1;cases h2;rfl
theorem map_take{σ α:Type}{B:σ->Ac α}{r:An σ}{v:Ac α}(n:Ag)(h1:FS (fun s=>(B s).take n) r=Aa (v.take n))(h2:FS (fun s=>(B s).drop n) r=Aa (v.drop n)):FS B r=Aa v:=by
 cases r with
 |none=>cases h1
 |some s=>
  have e1:(B s).take n=v.take n:=by injection h1
  have e2:(B s).drop n=v.drop n:=by injection h2
  show Aa (B s)=Aa v;rw[<-Dp n (B s),<-Dp n v,e1,e2]
end OvC
namespace OvC
noncomputable def tp77(i:Ag):Be:=PySem.Challenge.pw_ovalfield_k77_sets_refused.main.body.getD i (.Pass ⟨0,0,0,0⟩)
end OvC
noncomputable def OvC.view77:PySem.Program:={ PySem.Challenge.pw_ovalfield_k77_sets_refused with main:={PySem.Challenge.pw_ovalfield_k77_sets_refused.main with body:=[OvC.tp77 1,OvC.tp77 2,OvC.tp77 3,OvC.tp77 4,OvC.tp77 5,OvC.tp77 6,OvC.tp77 7,OvC.tp77 8,OvC.tp77 9,OvC.tp77 11,OvC.tp77 12,OvC.tp77 14,OvC.tp77 15,OvC.tp77 16,OvC.tp77 18,OvC.tp77 19,OvC.tp77 20,OvC.tp77 21,OvC.tp77 22,OvC.tp77 23,OvC.tp77 24,OvC.tp77 26,OvC.tp77 27,OvC.tp77 28,OvC.tp77 29,OvC.tp77 30,OvC.tp77 31,OvC.tp77 33,OvC.tp77 34,OvC.tp77 35,OvC.tp77 36,OvC.tp77 37,OvC.tp77 38,OvC.tp77 39,OvC.tp77 41,OvC.tp77 42,OvC.tp77 43,OvC.tp77 45,OvC.tp77 46,OvC.tp77 47,OvC.tp77 48,OvC.tp77 50,OvC.tp77 51,OvC.tp77 52,OvC.tp77 53,OvC.tp77 54,OvC.tp77 55,OvC.tp77 56,OvC.tp77 57,OvC.tp77 58,OvC.tp77 59,OvC.tp77 60,OvC.tp77 63,OvC.tp77 64,OvC.tp77 65,OvC.tp77 66,OvC.tp77 67,OvC.tp77 68,OvC.tp77 69,OvC.tp77 70,OvC.tp77 71,OvC.tp77 72,OvC.tp77 73,OvC.tp77 74,OvC.tp77 75,OvC.tp77 76,OvC.tp77 77,OvC.tp77 78,OvC.tp77 79,OvC.tp77 80]} }
set_option hygiene false
local macro_rules | `(tactic| o_head $H)=>`(tactic| refine holds_open (q:=OvC.view77) (loose:=["further"]) (Xt:=fun s=>xlAt OvC.view77 [] s&&recOk (RowW.records (OpenRow.toRowW (PySem.Challenge.rw_ovalfield_k77_sets_refused.row))) s) (XP:=XL OvC.view77 []) (Yf:=Hook.obs $H) (Ya:=Hook.val $H) (YP:=Hook.says $H) (N:=7880) ?hl (Hook.of $H) (Hook.keeps $H) (fun s e=>xl_of s (Bool.and_eq_true_iff.mp e).1) XL.keeps (by rfl) (by rfl) (by rfl) (fun s e=>recFacts_of (Bool.and_eq_true_iff.mp e).2) (by rfl) (by first|assumption|decide +kernel) (by decide +kernel) ⟨rfl,rfl,rfl,rfl,rfl,by decide +kernel⟩ ?hw ?hc)
set_option maxRecDepth 100000 in
set_option maxHeartbeats 0 in
noncomputable def OvC.hold77:OvC.Eleven PySem.Challenge.rw_ovalfield_k77_sets_refused.Holds:=by
 refine' ⟨_, _, _,_,_,_,_,_,_,_,_,_,_,_,_,_,_,_,_,_,_,_,_,_,_,_,_,_,_,_,_,_,_,_,fun g1 g2 g3 g4 g5 g6 g7 g8 g9 g10 g11 x => _⟩
 rotate_right
 w_on;refine holds_law (by decide +kernel) fun said=>?_;k_head
 (case hl=>intro w;refine OvC.map_pair ?p1 (OvC.map_take 100 ?p2 ?p3);(case p1=>rw[PySem.W.Fast.te4187177175401517315];unfold PySem.W.Fast.tw4187177175401517315 openGood;refine OvC.map_pair ?q1 (OvC.map_pair ?q2 (OvC.map_pair ?q3 (OvC.map_pair ?q4 (OvC.map_pair ?q5 (OvC.map_pair ?q6 (OvC.map_pair ?q7 (OvC.map_pair ?q8 ?q9)))))));(case q1=>unfold EJ CS Fm;rw[A1,A4,A7,A3,A2];exact g1 w);(case q2=>unfold EJ CS Fm;rw[A1,A4,A7,A3,A2];exact g2 w);(case q3=>unfold EJ CS Fm;rw[A1,A4,A7,A3,A2];exact g3 w);(case q4=>unfold EJ CS Fm;rw[A1,A4,A7,A3,A2];exact g4 w);(case q5=>unfold EJ CS Fm;rw[A1,A4,A7,A3,A2];exact g5 w);(case q6=>unfold EJ CS Fm;rw[A1,A4,A7,A3,A2];exact g6 w);(case q7=>unfold EJ CS Fm;rw[A1,A4,A7,A3,A2];exact g7 w);(case q8=>unfold EJ CS Fm;rw[A1,A4,A7,A3,A2];exact g8 w);(case q9=>unfold EJ CS Fm;rw[A1,A4,A7,A3,A2];exact g9 w);skip);(case p2=>unfold EJ CS Fm;rw[A1,A4,A7,A3,A2];exact g10 w);(case p3=>unfold EJ CS Fm;rw[A1,A4,A7,A3,A2];exact g11 w))
 (case hw=>w_witness2)
 k_fill
 revert said
 exact x
theorem OvC.reck77_1(w:AB):OvC.hold77.l1 w=OvC.hold77.r1 w:=by kernel_rfl
theorem OvC.reck77_2(w:AB):OvC.hold77.l2 w=OvC.hold77.r2 w:=by kernel_rfl
theorem OvC.reck77_3(w:AB):OvC.hold77.l3 w=OvC.hold77.r3 w:=by kernel_rfl
theorem OvC.reck77_4(w:AB):OvC.hold77.l4 w=OvC.hold77.r4 w:=by kernel_rfl
theorem OvC.reck77_5(w:AB):OvC.hold77.l5 w=OvC.hold77.r5 w:=by kernel_rfl
theorem OvC.reck77_6(w:AB):OvC.hold77.l6 w=OvC.hold77.r6 w:=by kernel_rfl
theorem OvC.reck77_7(w:AB):OvC.hold77.l7 w=OvC.hold77.r7 w:=by kernel_rfl
theorem OvC.reck77_8(w:AB):OvC.hold77.l8 w=OvC.hold77.r8 w:=by kernel_rfl
theorem OvC.reck77_9(w:AB):OvC.hold77.l9 w=OvC.hold77.r9 w:=by kernel_rfl
theorem OvC.reck77_10(w:AB):OvC.hold77.l10 w=OvC.hold77.r10 w:=by kernel_rfl
theorem OvC.reck77_11(w:AB):OvC.hold77.l11 w=OvC.hold77.r11 w:=by kernel_rfl
end
-- CHANGE: your row's module here,as the last of these rows
namespace L2
open PySem PySem.Spec PyProof.Rows
abbrev Key:=Sum Af Ai
noncomputable def UW:Key->Ak->Ao
 |.inl k,v=>Value.isInt k v
 |.inr x,v=>Value.isStrOf x v
noncomputable def Yj(w:AB):Key->Af
 |.inl k=>hashInt k
 |.inr x=>hashStr w x
theorem IX:∀{k:Key}{v:Ak},UW k v=Ab->(∃ i t,k=HF i/\v=LK i t)\/(∃ x t,k=HG x/\v=LO x t)
 |.inl i,v,h=>by
  obtain⟨t,e⟩:=Value.isInt_shape (k:=i) (v:=v) h;exact .inl ⟨i,t,rfl,e⟩
 |.inr x,v,h=>by
  obtain⟨t,e⟩:=Value.isStrOf_shape (x:=x) (v:=v) h;exact .inr ⟨x,t,rfl,e⟩
theorem oZ(a b:Af):decide ((HF a:Key)=HF b)=(a==b):=by
 by_cases e:a=b
 ·subst e;simp
 ·have h:¬ (HF a:Key)=HF b:=fun q=>e (Sum.inl.inj q)
  rw[BY h];exact(CI.mpr e).symm
theorem oW(a b:Ai):decide ((HG a:Key)=HG b)=decide (a=b):=by
 by_cases e:a=b
 ·subst e;simp
 ·have h:¬ (HG a:Key)=HG b:=fun q=>e (Sum.inr.inj q)
  rw[BY h,BY e]
theorem oY(a:Af)(b:Ai):decide ((HF a:Key)=HG b)=Ae:=BY (fun q=>nomatch q)
theorem oX(a:Ai)(b:Af):decide ((HG a:Key)=HF b)=Ae:=BY (fun q=>nomatch q)
noncomputable def Ps(prog:AS)(w:AB):PySem.KeyKind prog w Key where
 is:=UW
 hash:=Yj w
 inj:=fun v a b ha hb=>by
  rcases IX ha with ⟨i,t,rfl,rfl⟩|⟨x,t,rfl,rfl⟩
  ·rcases IX hb with ⟨j,u,rfl,e⟩|⟨y,u,rfl,e⟩
   ·injection e with e1 _;rw[e1]
   ·exact nomatch e
  ·rcases IX hb with ⟨j,u,rfl,e⟩|⟨y,u,rfl,e⟩
   ·exact nomatch e
   ·injection e with e1 _;rw[e1]
 byValue:=fun k v h=>by
  rcases IX h with ⟨i,t,rfl,rfl⟩|⟨x,t,rfl,rfl⟩<;>rfl
 pyHash:=fun hv h=>by
  rcases IX hv with ⟨i,t,rfl,rfl⟩|⟨x,t,rfl,rfl⟩
  ·exact wpAny_pyHash_int h
  ·exact wpAny_pyHash_str h
 eqBool:=fun hu hv h=>by
  rcases IX hu with ⟨i,t,rfl,rfl⟩|⟨x,t,rfl,rfl⟩
  ·rcases IX hv with ⟨j,u,rfl,rfl⟩|⟨y,u,rfl,rfl⟩
   ·rw[oZ]at h;exact wpAny_eqBool_int h
   ·rw[oY]at h;exact SeqAt.EqAt.int_str i t y u _ _ _ _ h
  ·rcases IX hv with ⟨j,u,rfl,rfl⟩|⟨y,u,rfl,rfl⟩
   ·rw[oX]at h;exact SeqAt.EqAt.str_int x t j u _ _ _ _ h
   ·rw[oW]at h;exact wpAny_eqBool_str h
 «strs»:=fun k x t v h=>by
  rcases IX h with ⟨i,u,rfl,e⟩|⟨y,u,rfl,e⟩
  ·exact nomatch e
  ·injection e with e1 _
   subst e1;cases v<;>rfl
end L2
namespace L2
open PySem PySem.Spec PyProof.Rows
variable{us:Ac Ak}{a b it:Ah}{P:AS}{h:AF}{o:Dl}{g':Bj FI}{t' i k n:Ag}{d':Ir}{ch fp:Ac Ah}{x qual:Ai}{M:He}{u:Ak}{Q:FZ->Ar->Prop}{e c tg:Ap}{s:Ar}{pos p:AO}{pI:Pn}{es:Ac Ap}{body:Ac Be}{f:Ak->Ak->Sem Ak}{g:Af->Af->Af}{op:EF}{kw:Ac (Ai×Ak)}{fd:BV}{ps:Ac Ai}{scope:Co}
inductive V where
 |non|bl (b:Ao)|int (i:Af)|str (x:Ai)|byt (b:Bj UInt8)|flt (b:UInt64)|ref (a:Ah)|ty (n:CY)
 deriving DecidableEq
variable{xs vs:Ac V}{v:V}
def Bx:V->Ak->Prop
 |.non,u=>u=DC
 |.bl b,u=>u=Ky b
 |.int i,u=>∃ t,u=LK i t
 |.str x,u=>∃ t,u=LO x t
 |.byt b,u=>∃ t,u=Xb b t
 |.flt b,u=>∃ t,u=Xc b t
 |.ref a,u=>u=Ck a
 |.ty n,u=>u=Kz n
noncomputable abbrev Bc:Ac V->Ac Ak->Prop:=HP Bx
theorem Bc.length(r:Bc xs us):xs.length=us.length:=W5 r
theorem Bc.get:∀{xs:Ac V}{us:Ac Ak}{i:Ag}{x:V},Bc xs us->xs[i]?=Aa x->∃ u,us[i]?=Aa u/\Bx x u
 |_,_,_,_,.nil,e=>by simp at e
 |_,_,0,_,.cons r _,e=>by simp at e;subst e;exact⟨_,rfl,r⟩
 |_,_,i+1,x,.cons _ t,e=>by
  obtain⟨u,h1,h2⟩:=Bc.get (i:=i) (x:=x) t (by simpa using e)
  exact⟨u,by simpa using h1,h2⟩
theorem Bc.set{x:V}{u:Ak}(r:Bx x u):∀{xs:Ac V}{us:Ac Ak}(i:Ag),Bc xs us->Bc (xs.set i x) (us.set i u)
 |_,_,_,.nil=>.nil
 |_,_,0,.cons _ t=>.cons r t
 |_,_,i+1,.cons q t=>.cons q (Bc.set r i t)
theorem Bc.append:∀{xs ys:Ac V}{us ws:Ac Ak},Bc xs us->Bc ys ws->Bc (xs++ys) (us++ws)
 |_,_,_,_,.nil,s=>s
 |_,_,_,_,.cons r t,s=>.cons r (Bc.append t s)
theorem Bc.take:∀{xs:Ac V}{us:Ac Ak}(n:Ag),Bc xs us->Bc (xs.take n) (us.take n)
 |_,_,0,_=>.nil
 |_,_,_+1,.nil=>.nil
 |_,_,n+1,.cons r t=>.cons r (Bc.take n t)
theorem Bc.drop:∀{xs:Ac V}{us:Ac Ak}(n:Ag),Bc xs us->Bc (xs.drop n) (us.drop n)
 |_,_,0,r=>r
 |_,_,_+1,.nil=>.nil
 |_,_,n+1,.cons _ t=>Bc.drop n t
def MN:An V->An Ak->Prop
 |some v,Aa u=>Bx v u
 |none,Ad=>HS
 |_,_=>AW
def KV{κ:Type}:Ac (κ×V)->Ac (κ×Ak)->Prop:=HP fun(p:κ×V)(q:κ×Ak)=>p.1=q.1/\Bx p.2 q.2
noncomputable def kV:Key->V
 |.inl i=>.int i
 |.inr x=>.str x
inductive HO where
 /-- a list -/
 |lst (xs:Ac V)
 /-- a tuple (never changes) -/
 |tup (xs:Ac V)
 /-- a dict whose keys are ints and texts;one whose keys are tuples of ints and texts (the empty one is both) -/
 |dK (kvs:Ac (Key×V))|dT (kvs:Ac (Ac Key×V))
 /-- a set of ints: its members,its size -/
 |set (S:Af->Ao) (n:Ag)
 /-- an instance of the class at C,its dict at dx,its attributes -/
 |ins (C dx:Ah) (fs:Ac (Ai×V))
 /-- the dict of the instance at x -/
 |own (x:Ah)
 /-- the dict of an exception -/
 |xd (fs:Ac (Ai×V))
 /-- a bound method,f of x -/
 |met (f x:Ah)
 /-- a range object lo,lo+1,.. below hi -/
 |rng (lo hi:Af)
 /-- a thing that is known to the object (the script;a dict while a loop walks it): read,never written while it is so -/
 |frz (o:Dl) (u:HO)
 /-- a code object's table -/
 |tbl (ps:Bj Ak)
 /-- any other thing,by what is Ab of its one object (a def of one's own: SetO a S n:=HO.ext fun h=>..) -/
 |ext (φ:AF->Prop)
abbrev Hp:=Ah->An HO
variable{H:Hp}
noncomputable def upd(H:Hp)(a:Ah)(o:HO):Hp:=fun b=>if b=a then Aa o else H b
theorem FL{o:HO}:upd H a o a=Aa o:=by unfold upd;rw[AG rfl]
theorem BG{o:HO}(h:b≠a):upd H a o b=H b:=by unfold upd;rw[AI h]
theorem SG{o u:HO}:upd (upd H a o) a u=upd H a u:=by
 funext b;unfold upd;split<;>rfl
theorem F3{o:HO}(h:H a=Aa o)(h':H b=Ad):a≠b:=by
 intro e;subst e;rw[h]at h';cases h'
section
variable(P:AS)(w:AB)
def ObjOk(H:Hp)(h:AF)(a:Ah):HO->Prop
  |.lst xs=>xs.length<=sizeLine/\∃(its:Ac Ak)(n:Ag),Bc xs its/\h.get? a=Aa { cls:=.type "list", data:=.seq its.toArray n }
  |.tup xs=>xs.length<=sizeLine/\∃ its:Ac Ak,Bc xs its/\Ku h a its.toArray
  |.dK kvs=>kvs.length<=sizeLine/\(a==Ef)=Ae/\∃ vs,KV kvs vs/\h.DictOf (Ps P w) a vs
  |.dT kvs=>kvs.length<=sizeLine/\(a==Ef)=Ae/\∃ xs:Ac (Ac Key×Ah×Ak),
      HP (fun(p:Ac Key×V)(q:Ac Key×Ah×Ak)=>p.1=q.1/\H q.2.1=Aa (.tup (p.1.map kV))/\Bx p.2 q.2.2) kvs xs /\
      ∃ o es ep,h.get? a=Aa o/\o.ExactDict/\o.data=.dict es ep/\es.toList=xs.map (IV (tupleKind (Ps P w)))/\(xs.map (·.1)).Nodup
  |.set S n=>h.SetOf (intKind P w) a S n
  |.ins C dx fs=>H dx=Aa (.own a)/\fs.length<=1000/\dx≠a/\h.get? a=Aa (PySem.W.instObj C dx) /\
      ∃ mA,h.Ns1 dx mA/\(∀ f,MN (fs.lookup f) (mA f))/\PySem.Within mA (fs.map (·.1))
  |.own _=>∃ o,h.get? a=Aa o
  |.xd fs=>∃ mA,h.Ns1 a mA/\∀ f,MN (fs.lookup f) (mA f)
  |.rng lo hi=>∃ t u v,h.get? a=Aa { cls:=.type "range", data:=.fields #[.int lo t,.int hi u,.int 1 v] }
  |.frz o u=>h.get? a=Aa o/\ObjOk H h a u
  |.tbl ps=>h.get? a=Aa {cls:=.none,data:=.fields ps}
  |.met f x=>h.get? a=Aa (Hy (.ref f) (.ref x))
  |.ext φ=>φ h/\(∃ o,h.get? a=Aa o)/\∀ h1 h2:AF,φ h1->(∀ o,h1.get? a=Aa o->h2.get? a=Aa o)->φ h2
def HOk(H:Hp)(h:AF):Prop:=∀ a o,H a=Aa o->ObjOk P w H h a o
end
section
variable{P:AS}{w:AB}{H H':Hp}{h h':AF}{a:Ah}{o:HO}
theorem ObjOk.lt(x:ObjOk P w H h a o):a<h.objs.size:=by
 cases o with
 |lst xs=>obtain⟨_,_,_,_,e⟩:=x;exact AQ e
 |tup xs=>obtain⟨_,_,_,p⟩:=x;exact p.lt
 |dK kvs=>obtain⟨_,_,_,_,o,_,_,e,_⟩:=x;exact AQ e
 |dT kvs=>obtain⟨_,_,_,_,o,_,_,e,_⟩:=x;exact AQ e
 |set S n=>obtain⟨o,_,_,_,e,_⟩:=x;exact AQ e
 |ins C dx fs=>obtain⟨_,_,_,e,_⟩:=x;exact AQ e
 |own y=>obtain⟨_,e⟩:=x;exact AQ e
 |xd fs=>obtain⟨_,⟨_,_,_,e,_⟩,_⟩:=x;exact AQ e
 |rng lo hi=>obtain⟨_,_,_,e⟩:=x;exact AQ e
 |frz ob u=>obtain⟨e,_⟩:=x;exact AQ e
 |tbl ps=>exact AQ (show h.get? a=Aa _ from x)
 |met f y=>exact AQ (show h.get? a=Aa _ from x)
 |ext φ=>obtain⟨_,⟨_,e⟩,_⟩:=x;exact AQ e
theorem HP.mapP{α β:Type}{F G:α->β->Prop}:∀{l₁:Ac α}{l₂:Ac β},HP F l₁ l₂->(∀ a b,F a b->G a b)->HP G l₁ l₂
 |_,_,.nil,_=>.nil
 |_,_,.cons r t,f=>.cons (f _ _ r) (HP.mapP t f)
theorem ObjOk.stay(x:ObjOk P w H h a o)(k:∀ b u,(b=a\/H b=Aa (.own a))->h.get? b=Aa u->h'.get? b=Aa u)(ho:∀ b,H b=Aa (.own a)->H' b=Aa (.own a))(ht:∀ b xs,H b=Aa (.tup xs)->H' b=Aa (.tup xs)):ObjOk P w H' h' a o:=by
 induction o with
 |lst xs=>obtain⟨z,its,n,r,e⟩:=x;exact⟨z,its,n,r,k _ _ (.inl rfl) e⟩
 |tup xs=>obtain⟨z,its,r,ob,e,c⟩:=x;exact⟨z,its,r,ob,k _ _ (.inl rfl) e,c⟩
 |dK kvs=>obtain⟨z,y,vs,r,ob,es,ep,e,c⟩:=x;exact⟨z,y,vs,r,ob,es,ep,k _ _ (.inl rfl) e,c⟩
 |dT kvs=>
  obtain⟨z,y,xs,r,ob,es,ep,e,c⟩:=x;exact⟨z,y,xs,HP.mapP r fun p q z=>⟨z.1,ht _ _ z.2.1,z.2.2⟩,ob,es,ep,k _ _ (.inl rfl) e,c⟩
 |set S n=>obtain⟨ob,es,ep,t,e,c⟩:=x;exact⟨ob,es,ep,t,k _ _ (.inl rfl) e,c⟩
 |ins C dx fs=>
  obtain⟨d,z,ne,e,mA,⟨od,es,ep,e2,c⟩,r⟩:=x;exact⟨ho _ d,z,ne,k _ _ (.inl rfl) e,mA,⟨od,es,ep,k _ _ (.inr d) e2,c⟩,r⟩
 |own y=>obtain⟨ob,e⟩:=x;exact⟨ob,k _ _ (.inl rfl) e⟩
 |xd fs=>obtain⟨mA,⟨od,es,ep,e,c⟩,r⟩:=x;exact⟨mA,⟨od,es,ep,k _ _ (.inl rfl) e,c⟩,r⟩
 |rng lo hi=>obtain⟨t,u,v,e⟩:=x;exact⟨t,u,v,k _ _ (.inl rfl) e⟩
 |frz ob u ih=>obtain⟨e,q⟩:=x;exact⟨k _ _ (.inl rfl) e,ih q⟩
 |tbl ps=>
  have e:h.get? a=Aa {cls:=.none,data:=.fields ps}:=x;show h'.get? a=Aa {cls:=.none,data:=.fields ps};exact k a _ (.inl rfl) e
 |met f y=>
  have e:h.get? a=Aa (Hy (.ref f) (.ref y)):=x;show h'.get? a=Aa (Hy (.ref f) (.ref y));exact k a _ (.inl rfl) e
 |ext φ=>obtain⟨p,⟨o,e⟩,st⟩:=x;exact⟨st _ _ p fun o q=>k _ _ (.inl rfl) q,⟨o,k _ _ (.inl rfl) e⟩,st⟩
theorem HOk.lt(x:HOk P w H h)(e:H a=Aa o):a<h.objs.size:=(x a o e).lt
theorem HOk.fresh(x:HOk P w H h)(e:h.objs.size<=a):H a=Ad:=by
 cases q:H a with
 |none=>rfl
 |some u=>exact absurd (AN (x.lt q) e) (BF _)
theorem HOk.kept(x:HOk P w H h)(k:∀ b u,h.get? b=Aa u->h'.get? b=Aa u):HOk P w H h':=fun a o e=>
 (x a o e).stay (fun b u _ q=>k b u q) (fun _ q=>q) fun _ _ q=>q
theorem HOk.laid(x:HOk P w H h)(k:∀ b u,h.get? b=Aa u->h'.get? b=Aa u)(hp:h.objs.size<=a)(new:ObjOk P w (upd H a o) h' a o):HOk P w (upd H a o) h':=fun b u e=>by
 have hn:=x.fresh hp;by_cases hb:b=a
 ·subst hb;rw[FL]at e;cases e;exact new
 ·rw[BG hb]at e;exact(x b u e).stay (fun c v _ q=>k c v q) (fun c q=>by rw[BG (F3 q hn)];exact q) fun c xs q=>by rw[BG (F3 q hn)];exact q
end
def Rd(H:Hp)(a:Ah)(u:HO):Prop:=H a=Aa u\/∃ o,H a=Aa (.frz o u)
theorem Rd.ok{w:AB}{u:HO}(r:Rd H a u)(x:HOk P w H h):ObjOk P w H h a u:=by
 rcases r with r|⟨o,r⟩
 ·exact x a u r
 ·obtain⟨_,q⟩:=x a _ r;exact q
def Mut:An HO->Prop
 |some (.lst _)=>HS
 |some (.dK _)=>HS
 |some (.dT _)=>HS
 |some (.set _ _)=>HS
 |some (.ins _ _ _)=>HS
 |some (.ext _)=>HS
 |_=>AW
section
variable{P:AS}{w:AB}{H:Hp}{h h':AF}{x e:Ah}{o':HO}
theorem HOk.write(ok:HOk P w H h)(mu:Mut (H x))(he:e=x\/H e=Aa (.own x))(k:∀ b u,b≠e->h.get? b=Aa u->h'.get? b=Aa u)(heo:∃ u,h'.get? e=Aa u)(new:ObjOk P w (upd H x o') h' x o'):HOk P w (upd H x o') h':=fun b u q=>by
 have nown:∀ c y,H c=Aa (.own y)->c≠x:=fun c y r z=>by subst z;rw[r]at mu;exact mu
 have ntup:∀ c xs,H c=Aa (.tup xs)->c≠x:=fun c xs r z=>by subst z;rw[r]at mu;exact mu
 by_cases hb:b=x
 ·subst hb;rw[FL]at q;cases q;exact new
 ·rw[BG hb]at q;by_cases hbe:b=e
  ·have q':H b=Aa (.own x):=by
    rcases he with z|z
    ·exact absurd (hbe.trans z) hb
    ·rw[hbe];exact z
   rw[q]at q';cases q';obtain⟨v,hv⟩:=heo;exact⟨v,by rw[hbe];exact hv⟩
  ·refine(ok b u q).stay (fun c v hc r=>k c v ?_ r) (fun c r=>by rw[BG (nown c b r)];exact r) fun c xs r=>by rw[BG (ntup c xs r)];exact r
   rcases hc with rfl|hc
   ·exact hbe
   ·rintro rfl;rcases he with z|z
    ·exact nown c b hc z
    ·rw[hc]at z;cases z;exact hb rfl
end
structure Un (fs ex:Ac Ah) (H H':Hp) (h h':AF):Prop where
 keep:∀ b o,h.get? b=Aa o->H b=Ad->b∉fs->b∉ex->h'.get? b=Aa o
 slot:∀ b o,h.get? b=Aa o->H b=Ad->b∈fs->b∉ex->∃ sl,h'.get? b=Aa {o with slots:=sl}
 free:∀ b o,h.get? b=Aa o->H b=Ad->b∉ex->H' b=Ad
 there:∀ b o,h.get? b=Aa o->b∉ex->∃ o',h'.get? b=Aa o'
 tups:∀ b xs,H b=Aa (.tup xs)->H' b=Aa (.tup xs)
 frzs:∀ b o u,H b=Aa (.frz o u)->H' b=Aa (.frz o u)
 tbls:∀ b ps,H b=Aa (.tbl ps)->∃ more,H' b=Aa (.tbl (ps++more))
section
variable{fs fs' ex ex':Ac Ah}{H H1 H2:Hp}{h h1 h2 h':AF}{a x e:Ah}{o:HO}
theorem Un.any(u:Un fs ex H H1 h h1){ob:Dl}(q:h.get? b=Aa ob)(n:H b=Ad)(hx:b∉ex):∃ sl,h1.get? b=Aa {ob with slots:=sl}:=by
 by_cases hb:b∈fs
 ·exact u.slot b ob q n hb hx
 ·exact⟨ob.slots,u.keep b ob q n hb hx⟩
theorem Un.kept(k:∀ b u,h.get? b=Aa u->h'.get? b=Aa u):Un fs ex H H h h':=
 ⟨fun b ob q _ _ _=>k b ob q,fun b ob q _ _ _=>⟨ob.slots,k b ob q⟩,fun _ _ _ n _=>n,fun b ob q _=>⟨ob,k b ob q⟩,fun _ _ q=>q,fun _ _ _ q=>q,fun _ ps q=>⟨#[],by rw[q];simp⟩⟩
theorem Un.refl:Un fs ex H H h h:=Un.kept fun _ _ q=>q
theorem Un.laid(k:∀ b u,h.get? b=Aa u->h'.get? b=Aa u)(hp:h.objs.size<=a)(hn:H a=Ad):Un fs ex H (upd H a o) h h' where
 keep:=fun b u q _ _ _=>k b u q
 slot:=fun b u q _ _ _=>⟨u.slots,k b u q⟩
 free:=fun b u q n _=>by rw[BG (Bo (AN (AQ q) hp))];exact n
 there:=fun b u q _=>⟨u,k b u q⟩
 tups:=fun b xs q=>by rw[BG (F3 q hn)];exact q
 frzs:=fun b u xs q=>by rw[BG (F3 q hn)];exact q
 tbls:=fun b ps q=>⟨#[],by rw[BG (F3 q hn),q];simp⟩
theorem Un.write(mu:Mut (H x))(he:e=x\/H e=Aa (.own x))(k:∀ b u,b≠e->h.get? b=Aa u->h'.get? b=Aa u)(heo:∃ u,h'.get? e=Aa u):Un fs ex H (upd H x o) h h':=by
 have hx:∀ b,H b=Ad->b≠x:=fun b n z=>by subst z;rw[n]at mu;exact mu
 have hb:∀ b,H b=Ad->b≠e:=fun b n z=>by
  subst z;rcases he with r|r
  ·exact hx b n r
  ·rw[n]at r;cases r
 have hm:∀ b u,H b=Aa u->¬ Mut (Aa u)->b≠x:=fun b u q nm z=>by subst z;rw[q]at mu;exact nm mu
 refine⟨fun b u q n _ _=>k b u (hb b n) q,fun b u q n _ _=>⟨u.slots,k b u (hb b n) q⟩,fun b u q n _=>by rw[BG (hx b n)];exact n,fun b u q _=>?_,
  fun b xs q=>by rw[BG (hm b _ q fun z=>z)];exact q,fun b u xs q=>by rw[BG (hm b _ q fun z=>z)];exact q,fun b ps q=>⟨#[],by rw[BG (hm b _ q fun z=>z),q];simp⟩⟩
 by_cases hbe:b=e
 ·subst hbe;exact heo
 ·exact⟨u,k b u hbe q⟩
end
noncomputable def trk(h:AF)(H:Hp):Ac Ah:=(A5 h.objs.size).filter fun a=>(H a).isSome
noncomputable def Jk(h:AF)(H:Hp):AF:=PySem.W.hideAll h (trk h H)
theorem Zc(h:AF)(H:Hp):(Jk h H).objs.size=h.objs.size:=PySem.W.hideAll_size _ _
theorem aR(e:h.get? b=Aa o)(n:H b=Ad):(Jk h H).get? b=Aa o:=
 PySem.W.hideAll_get _ e fun hm=>by
  have q:(H b).isSome=Ab:=(Ct.mp hm).2;rw[n]at q;simp at q
theorem gX(e:(Jk h H).get? b=Aa o):h.get? b=Aa o/\H b=Ad:=by
 have e':h.get? b=Aa o:=PySem.W.of_hideAll (trk h H) e;refine⟨e',?_⟩;cases q:H b with
 |none=>rfl
 |some x=>
  have hm:b∈trk h H:=Ct.mpr ⟨Ba.mpr (AQ e'),by simp[q]⟩
  have z:(Jk h H).get? b=Ad:=PySem.W.hideAll_none (trk h H) hm;rw[z]at e;cases e
noncomputable def iP(g h:AF)(L:Ah):Pn:=(A5 h.objs.size).filterMap fun a=>if a=L\/(g.get? a).isSome=Ab then Ad else (h.get? a).map fun o=>(a,o)
noncomputable def rest(g h:AF)(L d:Ah):Pn:=(iP g h L).filter fun p=>decide (p.1≠d)
structure Mod (K:Fg) (mg:Ai->An Ak) (base:AF):Prop where
 kin:K.In base
 glob:base.Ns A8 mg
 blt:∃ mb,base.Ns IT mb/\∀ x:Ai,x≠"__name__"->mb x=Dd x
 nolimit:base.NoLimit
structure Cx where
 prog:AS
 w:AB
 K:Fg
 mg:Ai->An Ak
 base:AF
 A:AY
 N:Ac Ai
 s₀:Ar
 H₀:Hp
 env:Cd
 outer:Ac Cd
 stack:Ac Cd
 ex:Ac Ah
 fn:Ai->Ao
 calm:Ao
 pn:Pn
 xe:Ak->Ar->Prop
variable{X:Cx}
noncomputable def frs(l:Ac Cd):Ac Ah:=l.filterMap (·.frame)
noncomputable abbrev Cx.fs(X:Cx):Ac Ah:=frs X.outer
def Vis(sc:Co)(x:Ai):Prop:=sc.names.lookup x=Aa .local\/sc.names.lookup x=Aa .cell\/sc.names.lookup x=Aa .free
def Loc(sc:Co)(x:Ai):Prop:=sc.names.lookup x=Aa .local\/sc.names.lookup x=Aa .cell
noncomputable def XD(env:Cd)(h:AF)(m:Ai->An Ak)(x:Ai)(u:Ak):Prop:=
 (env.kindOf x=Aa .local/\m x=Aa u)\/((env.kindOf x=Aa .cell\/env.kindOf x=Aa .free)/\∃ c,env.cells.lookup x=Aa c/\h.IsCell c (Aa u))
structure Cx.Ok (X:Cx):Prop where
 mod:Mod X.K X.mg X.base
 kind:X.env.scope.kind=.function
 glob:X.env.globals=A8
 blt:X.env.builtins=IT
 above:X.s₀.heap.objs.size<=X.env.locals
 inj:∀ x y c,X.env.cells.lookup x=Aa c->X.env.cells.lookup y=Aa c->x=y
 has:∀ x,(X.env.kindOf x=Aa .cell\/X.env.kindOf x=Aa .free)->∃ c,X.env.cells.lookup x=Aa c
 cab:∀ x c,X.fn x=Ab->X.env.cells.lookup x=Aa c->X.s₀.heap.objs.size<=c
 hd:X.calm=Ab->X.A.handled=Ad
 frames:X.A.frames=Aa X.stack
 stk:X.stack=X.outer\/(X.stack=X.env::X.outer/\X.env.frame=Aa X.env.locals)
 exf:∀ b∈X.ex,b≠X.env.locals/\∀ x c,X.env.cells.lookup x=Aa c->c≠b
 bs:∀ b o,X.base.get? b=Aa o->X.s₀.heap.get? b=Aa o/\X.H₀ b=Ad
 bsz:X.base.objs.size<=X.s₀.heap.objs.size
 noex:∀ b o,X.base.get? b=Aa o->b∉X.ex
 exfs:∀ b∈X.ex,b∉X.fs
 funs:X.s₀.heap.FunFrames X.base X.outer
 frf:∀ b∈X.fs,X.H₀ b=Ad
structure Inv (X:Cx) (pI:Pn) (σ:Ac (An V)) (H:Hp) (s:Ar):Prop where
 ok:X.Ok
 os:s.os=X.s₀.os
 bare:FT s.gens
 base:Un X.fs X.ex X.H₀ H X.s₀.heap s.heap
 loc:∃ m,s.heap.Ns X.env.locals m/\∀(i:Ag)(x:Ai)(v:V),X.N[i]?=Aa x->σ[i]?=Aa (Aa v)->Vis X.env.scope x->∃ u,Bx v u/\XD X.env s.heap m x u
 cell:∀ x c,X.env.cells.lookup x=Aa c->∃ v,s.heap.IsCell c v
 free:H X.env.locals=Ad
 freeC:∀ x c,X.env.cells.lookup x=Aa c->H c=Ad
 pin:∀ p∈X.pn++pI,s.heap.get? p.1=Aa p.2/\H p.1=Ad/\p.1≠X.env.locals/\p.1∉X.fs/\∀ v,p.2.data≠.cell v
 hok:HOk X.prog X.w H s.heap
 len:σ.length=X.N.length
section
variable{X:Cx}{pI:Pn}{σ:Ac (An V)}{H H':Hp}{s:Ar}{h':AF}
theorem Cx.Ok.nofr(ok:X.Ok)(e:X.base.get? b=Aa o):b∉X.fs:=fun hb=>by
 have:=(ok.funs.mem hb).1;rw[e]at this;cases this
theorem Inv.bs(I:Inv X pI σ H s):∀ b o,X.base.get? b=Aa o->s.heap.get? b=Aa o/\H b=Ad:=fun b o e=>
 ⟨I.base.keep b o (I.ok.bs b o e).1 (I.ok.bs b o e).2 (I.ok.nofr e) (I.ok.noex b o e),I.base.free b o (I.ok.bs b o e).1 (I.ok.bs b o e).2 (I.ok.noex b o e)⟩
theorem Inv.bk(I:Inv X pI σ H s):∀ b o,X.base.get? b=Aa o->s.heap.get? b=Aa o:=fun b o e=>(I.bs b o e).1
theorem Inv.mod(I:Inv X pI σ H s):Mod X.K X.mg X.base:=I.ok.mod
theorem Inv.kIn(I:Inv X pI σ H s):X.K.In s.heap:=I.ok.mod.kin.keeps I.bk
theorem Inv.lt(I:Inv X pI σ H s):X.env.locals<s.heap.objs.size:=let ⟨_,hn,_⟩:=I.loc;hn.lt
theorem Inv.sz(I:Inv X pI σ H s):X.s₀.heap.objs.size<=s.heap.objs.size:=BU I.ok.above (GJ I.lt)
theorem Inv.nofs(I:Inv X pI σ H s)(h:s.heap.objs.size<=a):a∉X.fs:=fun hb=>by
 obtain⟨_,o,ho,_⟩:=I.ok.funs.mem hb;exact absurd (AN (AQ ho) (BU I.sz h)) (BF _)
theorem Inv.cne(I:Inv X pI σ H s):∀ x c,X.env.cells.lookup x=Aa c->c≠X.env.locals:=fun x c e z=>by
 obtain⟨v,o,ho,hd⟩:=I.cell x c e;obtain⟨m,⟨o',es,ep,ho',hd',_⟩,_⟩:=I.loc;rw[z,ho']at ho;cases ho;rw[hd']at hd;cases hd
theorem Inv.funs(I:Inv X pI σ H s):s.heap.FunFrames X.base X.outer:=by
 have all:∀(l:Ac Cd),(∀ b∈frs l,b∈X.fs)->X.s₀.heap.FunFrames X.base l->s.heap.FunFrames X.base l:=by
  intro l
  induction l with
  |nil=>intro _ _;trivial
  |cons env r ih=>
   intro hs hl;obtain⟨hk,⟨L,o,hf,hn,ho,hd⟩,hr⟩:=hl;have hL:L∈X.fs:=hs L (by unfold frs;rw[GV,hf];exact AE)
   obtain⟨sl,e⟩:=I.base.slot L o ho (I.ok.frf L hL) hL fun z=>I.ok.exfs L z hL
   exact⟨hk,⟨L,_,hf,hn,e,hd⟩,ih (fun b hb=>hs b (by unfold frs;rw[GV,hf];exact AA _ hb)) hr⟩
 exact all X.outer (fun _ hb=>hb) I.ok.funs
theorem Inv.stack(I:Inv X pI σ H s):s.heap.FunFrames X.base X.stack:=by
 rcases I.ok.stk with e|⟨e,hf⟩
 ·rw[e];exact I.funs
 ·rw[e];obtain⟨m,hn,_⟩:=I.loc;refine .cons (by rw[I.ok.kind];decide) hf hn ?_ I.funs
  exact DB (BU I.ok.bsz I.ok.above)
theorem Inv.stkSub(I:Inv X pI σ H s):∀ b∈frs X.stack,b∈X.env.locals::X.fs:=fun b hb=>by
 rcases I.ok.stk with e|⟨e,hf⟩
 ·rw[e]at hb;exact AA _ hb
 ·rw[e]at hb;unfold frs at hb;rw[GV,hf]at hb;exact hb
theorem Inv.stkFree(I:Inv X pI σ H s):∀ b∈frs X.stack,H b=Ad:=fun b hb=>by
 rcases AD.mp (I.stkSub b hb) with e|hb
 ·rw[e];exact I.free
 ·obtain⟨_,o,ho,_⟩:=I.ok.funs.mem hb;exact I.base.free b o ho (I.ok.frf b hb) fun z=>I.ok.exfs b z hb
theorem Inv.step(I:Inv X pI σ H s)(hch:∀ b∈ch,(b∈X.ex\/X.s₀.heap.objs.size<=b)/\b≠X.env.locals/\(∀ x c,X.env.cells.lookup x=Aa c->c≠b)/\∀ p∈X.pn++pI,p.1≠b)(keep:∀ b o,b≠X.env.locals->b∉X.fs->b∉ch->s.heap.get? b=Aa o->H b=Ad->h'.get? b=Aa o)(slot:∀ b o,b≠X.env.locals->b∈X.fs->b∉ch->s.heap.get? b=Aa o->H b=Ad->∃ sl,h'.get? b=Aa {o with slots:=sl})(free:∀ b o,b∉ch->s.heap.get? b=Aa o->H b=Ad->H' b=Ad)(there:∀ b o,b∉ch->s.heap.get? b=Aa o->∃ o',h'.get? b=Aa o')(tups:∀ b xs,H b=Aa (.tup xs)->H' b=Aa (.tup xs))(frzs:∀ b o u,H b=Aa (.frz o u)->H' b=Aa (.frz o u))(tbls:∀ b ps,H b=Aa (.tbl ps)->∃ more,H' b=Aa (.tbl (ps++more)))(ns:∀ m,s.heap.Ns X.env.locals m->h'.Ns X.env.locals m)(hok:HOk X.prog X.w H' h')(hg:FT g'):Inv X pI σ H' {s with heap:=h',gens:=g',drawn:=d',toks:=t'}:=by
 have neL:∀ b o,X.s₀.heap.get? b=Aa o->b≠X.env.locals:=fun b o e=>Bo (AN (AQ e) I.ok.above)
 have neC:∀ b o,X.s₀.heap.get? b=Aa o->b∉X.ex->b∉ch:=fun b o e hx hb=>by
  rcases (hch b hb).1 with z|z
  ·exact hx z
  ·exact absurd (AN (AQ e) z) (BF _)
 have cellK:∀ x c,X.env.cells.lookup x=Aa c->∀ v,s.heap.IsCell c v->h'.IsCell c v:=fun x c e v ⟨o,ho,hd⟩=>by
  have nch:c∉ch:=fun z=>(hch c z).2.2.1 x c e rfl
  by_cases hc:c∈X.fs
  ·obtain⟨sl,q⟩:=slot c o (I.cne x c e) hc nch ho (I.freeC x c e);exact⟨_,q,hd⟩
  ·exact⟨o,keep c o (I.cne x c e) hc nch ho (I.freeC x c e),hd⟩
 refine⟨I.ok,I.os,hg,⟨fun b o e n hb hx=>?_,fun b o e n hb hx=>?_,fun b o e n hx=>?_,fun b o e hx=>?_,fun b xs e=>tups b xs (I.base.tups b xs e),fun b o xs e=>frzs b o xs (I.base.frzs b o xs e),fun b ps e=>?_⟩,?_,fun x c e=>?_,?_,fun x c e=>?_,fun p hp=>?_,hok,I.len⟩
 ·exact keep b o (neL b o e) hb (neC b o e hx) (I.base.keep b o e n hb hx) (I.base.free b o e n hx)
 ·obtain⟨sl,e1⟩:=I.base.slot b o e n hb hx;obtain⟨sl',e2⟩:=slot b _ (neL b o e) hb (neC b o e hx) e1 (I.base.free b o e n hx);exact⟨sl',e2⟩
 ·obtain⟨o',e1⟩:=I.base.there b o e hx;exact free b o' (neC b o e hx) e1 (I.base.free b o e n hx)
 ·obtain⟨o',e1⟩:=I.base.there b o e hx;exact there b o' (neC b o e hx) e1
 ·obtain⟨m1,e1⟩:=I.base.tbls b ps e;obtain⟨m2,e2⟩:=tbls b _ e1;exact⟨m1++m2,by rw[e2,Array.append_assoc]⟩
 ·obtain⟨m,hn,hl⟩:=I.loc;refine⟨m,ns m hn,fun i x v e1 e2 e3=>?_⟩
  obtain⟨u,r,l⟩:=hl i x v e1 e2 e3;refine⟨u,r,?_⟩;rcases l with l|⟨k,c,e,z⟩
  ·exact .inl l
  ·exact .inr ⟨k,c,e,cellK x c e _ z⟩
 ·obtain⟨v,z⟩:=I.cell x c e;exact⟨v,cellK x c e v z⟩
 ·obtain⟨m,⟨o,_,_,ho,_⟩,_⟩:=I.loc;exact free _ o (fun z=>(hch _ z).2.1 rfl) ho I.free
 ·obtain⟨v,o,ho,hd⟩:=I.cell x c e;exact free c o (fun z=>(hch c z).2.2.1 x c e rfl) ho (I.freeC x c e)
 ·obtain⟨e,n,ne,nf,d⟩:=I.pin p hp;have nch:p.1∉ch:=fun z=>(hch p.1 z).2.2.2 p hp rfl
  exact⟨keep p.1 p.2 ne nf nch e n,free p.1 p.2 nch e n,ne,nf,d⟩
theorem Inv.un(I:Inv X pI σ H s)(u:Un X.fs [] H H' s.heap h')(hok:HOk X.prog X.w H' h'):Inv X pI σ H' {s with heap:=h',toks:=t'}:=by
 obtain⟨m,⟨o,es,ep,ho,r⟩,_⟩:=id I.loc;obtain⟨sl,hL⟩:=u.any ho I.free (by simp)
 exact I.step (g':=s.gens) (d':=s.drawn) (ch:=[]) (fun _ z=>nomatch z) (fun b o _ hb _ e n=>u.keep b o e n hb (by simp)) (fun b o _ hb _ e n=>u.slot b o e n hb (by simp)) (fun b o _ e n=>u.free b o e n (by simp)) (fun b o _ e=>u.there b o e (by simp)) u.tups u.frzs u.tbls (fun m' hm=>by
  obtain⟨o',es',ep',ho',r'⟩:=hm;rw[ho]at ho';cases ho';exact⟨_,es',ep',hL,r'⟩) hok I.bare
theorem Inv.call(I:Inv X pI σ H s)(u:Un (frs X.stack) ch H H' s.heap h')(hok:HOk X.prog X.w H' h')(hg:FT g')(hch:∀ b∈ch,(b∈X.ex\/X.s₀.heap.objs.size<=b)/\b≠X.env.locals/\(∀ x c,X.env.cells.lookup x=Aa c->c≠b)/\∀ p∈X.pn++pI,p.1≠b):Inv X pI σ H' {s with heap:=h',gens:=g',drawn:=d',toks:=t'}:=by
 obtain⟨m,⟨o,es,ep,ho,r⟩,_⟩:=id I.loc;obtain⟨sl,hL⟩:=u.any ho I.free fun z=>(hch _ z).2.1 rfl
 exact I.step (ch:=ch) hch (fun b o hL hb hc e n=>u.keep b o e n (fun z=>(AD.mp (I.stkSub b z)).elim hL hb) hc) (fun b o _ _ hc e n=>u.any e n hc) (fun b o hc e n=>u.free b o e n hc) (fun b o hc e=>u.there b o e hc) u.tups u.frzs u.tbls (fun m' hm=>by
  obtain⟨o',es',ep',ho',r'⟩:=hm;rw[ho]at ho';cases ho';exact⟨_,es',ep',hL,r'⟩) hok hg
theorem Inv.turned(I:Inv X pI σ H s)(k:∀ b o,b≠it->s.heap.get? b=Aa o->h'.get? b=Aa o)(hn:H it=Ad)(hL:it≠X.env.locals)(h1:it∈X.ex\/X.s₀.heap.objs.size<=it)(h2:∀ x c,X.env.cells.lookup x=Aa c->c≠it)(h3:∀ p∈X.pn++pI,p.1≠it):Inv X pI σ H {s with heap:=h',toks:=t'}:=by
 have nit:∀ b u,H b=Aa u->b≠it:=fun b u e z=>by rw[z,hn]at e;cases e
 refine I.step (g':=s.gens) (d':=s.drawn) (ch:=[it]) (fun b hb=>?_) (fun b o _ _ hc e _=>k b o (fun z=>hc (by simp[z])) e) (fun b o _ _ hc e _=>⟨o.slots,k b o (fun z=>hc (by simp[z])) e⟩) (fun _ _ _ _ n=>n)
  (fun b o hc e=>⟨o,k b o (fun z=>hc (by simp[z])) e⟩) (fun _ _ e=>e) (fun _ _ _ e=>e) (fun b ps e=>⟨#[],by rw[e];simp⟩) (fun m hm=>?_) (fun b u e=>?_) I.bare
 ·have e:b=it:=by simpa using hb
  subst e;exact⟨h1,hL,h2,h3⟩
 ·obtain⟨o,es,ep,ho,r⟩:=hm;exact⟨o,es,ep,k _ o (DZ hL) ho,r⟩
 ·refine(I.hok b u e).stay (fun c v hc q=>k c v ?_ q) (fun _ q=>q) fun _ _ q=>q
  rcases hc with z|z
  ·rw[z];exact nit b u e
  ·exact nit c _ z
theorem Inv.tok(I:Inv X pI σ H s)(t:Ag):Inv X pI σ H {s with toks:=t}:=I.un (h':=s.heap) (t':=t) Un.refl I.hok
theorem Inv.kept{t':Ag}(I:Inv X pI σ H s)(k:∀ b u,s.heap.get? b=Aa u->h'.get? b=Aa u):Inv X pI σ H {s with heap:=h',toks:=t'}:=I.un (Un.kept k) (I.hok.kept k)
theorem Inv.laid{a:Ah}{o:HO}{t':Ag}(I:Inv X pI σ H s)(k:∀ b u,s.heap.get? b=Aa u->h'.get? b=Aa u)(hp:s.heap.objs.size<=a)(new:ObjOk X.prog X.w (upd H a o) h' a o):Inv X pI σ (upd H a o) {s with heap:=h',toks:=t'}:=I.un (Un.laid k hp (I.hok.fresh hp)) (I.hok.laid k hp new)
theorem Inv.write{x e:Ah}{o:HO}{t':Ag}(I:Inv X pI σ H s)(mu:Mut (H x))(he:e=x\/H e=Aa (.own x))(k:∀ b u,b≠e->s.heap.get? b=Aa u->h'.get? b=Aa u)(heo:∃ u,h'.get? e=Aa u)(new:ObjOk X.prog X.w (upd H x o) h' x o):Inv X pI σ (upd H x o) {s with heap:=h',toks:=t'}:=I.un (Un.write mu he k heo) (I.hok.write mu he k heo new)
theorem Inv.pins_of{pins':Pn}(I:Inv X pI σ H s)(h:∀ p∈pins',s.heap.get? p.1=Aa p.2/\H p.1=Ad/\p.1≠X.env.locals/\p.1∉X.fs/\∀ v,p.2.data≠.cell v):Inv X pins' σ H s:=
 ⟨I.ok,I.os,I.bare,I.base,I.loc,I.cell,I.free,I.freeC,fun p hp=>(C5.mp hp).elim (fun z=>I.pin p (GF _ z)) (h p),I.hok,I.len⟩
theorem Pa{N:Ac Ai}(hN:N.Nodup){j:Ag}(a:N[i]?=Aa x)(b:N[j]?=Aa x):i=j:=by
 obtain⟨h1,e1⟩:=Bg.mp a;obtain⟨h2,e2⟩:=Bg.mp b;exact(HK hN).mp (e1.trans e2.symm)
theorem Ro{A:AY}{E:Vq}(I:Inv X pI σ H s)(hN:X.N.Nodup)(hi:X.N[i]?=Aa x)(hx:Loc X.env.scope x)(r:Bx v u)(h:∀ s',Inv X pI (σ.set i (Aa v)) H s'->(∃ a,DU a s.heap s'.heap/\(a=X.env.locals\/X.env.cells.lookup x=Aa a))->Q () s')(hf:X.fn x=Ab\/X.env.scope.names.lookup x=Aa .local:=by first|exact .inl rfl|exact .inr rfl|assumption):Ax M A (storeName X.env x u) Q E s:=by
 obtain⟨m,hn,hl⟩:=id I.loc;have hcls:(X.env.scope.kind==.class||(X.env.scope.kind==.module&&X.env.locals != X.env.globals))=Ae:=by rw[I.ok.kind];rfl
 have hiσ:i<σ.length:=by rw[I.len];exact(Bg.mp hi).1
 have cne:=I.cne;have tracked:∀{a:Ah}{h':AF},(∃ o,s.heap.get? a=Aa o/\H a=Ad)->DU a s.heap h'->HOk X.prog X.w H h':=fun {a h'} ha hs b ob e=>by
  obtain⟨_,_,hfree⟩:=ha;refine(I.hok b ob e).stay (fun c w' hc q=>(hs.2 c ?_).trans q) (fun _ q=>q) fun _ _ q=>q
  rintro rfl;rcases hc with rfl|hc
  ·rw[hfree]at e;cases e
  ·rw[hfree]at hc;cases hc
 rcases hx with hk|hk
 ·refine wpAny_storeName_local hk hn (fun h' hn' hs=>?_) hcls
  obtain⟨oL,_,_,hoL,_⟩:=id hn;refine h _ ⟨I.ok,I.os,I.bare,⟨fun b o e n hb hx=>?_,fun b o e n hb hx=>?_,I.base.free,fun b o e hx=>?_,I.base.tups,I.base.frzs,I.base.tbls⟩,⟨_,hn',fun j y v' e1 e2 e3=>?_⟩,fun y c e=>?_,I.free,I.freeC,fun p hp=>?_,tracked ⟨oL,hoL,I.free⟩ hs,by simpa using I.len⟩ ⟨_,hs,.inl rfl⟩
  ·exact(hs.2 b (Bo (AN (AQ e) I.ok.above))).trans (I.base.keep b o e n hb hx)
  ·obtain⟨sl,e1⟩:=I.base.slot b o e n hb hx;exact⟨sl,(hs.2 b (Bo (AN (AQ e) I.ok.above))).trans e1⟩
  ·obtain⟨o',e1⟩:=I.base.there b o e hx;exact⟨o',(hs.2 b (Bo (AN (AQ e) I.ok.above))).trans e1⟩
  ·by_cases hj:j=i
   ·subst hj;rw[hi]at e1;cases e1;rw[Dc hiσ]at e2;cases e2;exact⟨u,r,.inl ⟨hk,by simp⟩⟩
   ·rw[GE (DZ hj)]at e2;obtain⟨u',r',q⟩:=hl j y v' e1 e2 e3;refine⟨u',r',?_⟩;rcases q with ⟨k,e⟩|⟨k,c,e,z⟩
    ·refine .inl ⟨k,?_⟩;have:y≠x:=fun e=>hj (Pa hN e1 (e ▸ hi))
     simp[this,e]
    ·exact .inr ⟨k,c,e,z.sameBut hs (cne y c e)⟩
  ·obtain⟨w',z⟩:=I.cell y c e;exact⟨w',z.sameBut hs (cne y c e)⟩
  ·obtain⟨e,n,ne,nf,d⟩:=I.pin p hp;exact⟨(hs.2 p.1 ne).trans e,n,ne,nf,d⟩
 ·have hfn:X.fn x=Ab:=by
   rcases hf with z|z
   ·exact z
   ·rw[z]at hk;cases hk
  obtain⟨c,hc⟩:=I.ok.has x (.inl hk);obtain⟨w',z⟩:=I.cell x c hc;refine wpAny_storeName_cell I.ok.kind hk hc z (fun h' hc' hs=>?_)
  obtain⟨oc,hoc,hocd⟩:=id z;refine h {s with heap:=h'} ⟨I.ok,I.os,I.bare,⟨fun b o e n hb hx=>?_,fun b o e n hb hx=>?_,I.base.free,fun b o e hx=>?_,I.base.tups,I.base.frzs,I.base.tbls⟩,⟨m,hn.sameBut hs (DZ (cne x c hc)),fun j y v' e1 e2 e3=>?_⟩,fun y c' e=>?_,I.free,I.freeC,fun p hp=>?_,tracked ⟨oc,hoc,I.freeC x c hc⟩ hs,by simpa using I.len⟩ ⟨c,hs,.inr hc⟩
  ·exact(hs.2 b (Bo (AN (AQ e) (I.ok.cab x c hfn hc)))).trans (I.base.keep b o e n hb hx)
  ·obtain⟨sl,e1⟩:=I.base.slot b o e n hb hx;exact⟨sl,(hs.2 b (Bo (AN (AQ e) (I.ok.cab x c hfn hc)))).trans e1⟩
  ·obtain⟨o',e1⟩:=I.base.there b o e hx;exact⟨o',(hs.2 b (Bo (AN (AQ e) (I.ok.cab x c hfn hc)))).trans e1⟩
  ·by_cases hj:j=i
   ·subst hj;rw[hi]at e1;cases e1;rw[Dc hiσ]at e2;cases e2;exact⟨u,r,.inr ⟨.inl hk,c,hc,hc'⟩⟩
   ·rw[GE (DZ hj)]at e2;obtain⟨u',r',q⟩:=hl j y v' e1 e2 e3;refine⟨u',r',?_⟩;rcases q with q|⟨k,c',e,z'⟩
    ·exact .inl q
    ·refine .inr ⟨k,c',e,z'.sameBut hs ?_⟩;rintro rfl;exact hj (Pa hN e1 (I.ok.inj _ _ _ e hc ▸ hi))
  ·by_cases hcc:c'=c
   ·subst hcc;exact⟨_,hc'⟩
   ·obtain⟨w2,z2⟩:=I.cell y c' e;exact⟨w2,z2.sameBut hs hcc⟩
  ·obtain⟨e,n,ne,nf,d⟩:=I.pin p hp;refine⟨(hs.2 p.1 ?_).trans e,n,ne,nf,d⟩;intro q;rw[q,hoc]at e;have q':oc=p.2:=Bw e;exact d w' (by rw[<-q'];exact hocd)
theorem O8{A:AY}{E:Vq}(I:Inv X pI σ H s)(hN:X.N.Nodup)(hi:X.N[i]?=Aa x)(hx:Loc X.env.scope x)(r:Bx v u)(h:∀ s',Inv X pI (σ.set i (Aa v)) H s'->Q () s')(hf:X.fn x=Ab\/X.env.scope.names.lookup x=Aa .local:=by first|exact .inl rfl|exact .inr rfl|assumption):Ax M A (storeName X.env x u) Q E s:=
 Ro I hN hi hx r (fun s' I' _=>h s' I') hf
theorem Inv.call'{s':Ar}(I:Inv X pI σ H s)(ho:s'.os=s.os)(u:Un (frs X.stack) ch H H' s.heap s'.heap)(hok:HOk X.prog X.w H' s'.heap)(hg:FT s'.gens)(hch:∀ b∈ch,(b∈X.ex\/X.s₀.heap.objs.size<=b)/\b≠X.env.locals/\(∀ x c,X.env.cells.lookup x=Aa c->c≠b)/\∀ p∈X.pn++pI,p.1≠b):Inv X pI σ H' s':=by
 obtain⟨h',g',d',t',o'⟩:=s';have e:o'=s.os:=ho;subst e;exact I.call (g':=g') (t':=t') (d':=d') u hok hg hch
end
abbrev XK:=Ak->An Ah->Hp->Prop
abbrev St:=Ac (An V)
variable{σ:St}
abbrev VK:=V->Hp->Prop
abbrev TE:=St->Hp->VK->Prop
variable{te:TE}
abbrev TT:=St->Hp->(Ao->Hp->Prop)->Prop
variable{tc:TT}
abbrev TA:=St->Hp->(Ac V->Hp->Prop)->Prop
variable{ta:TA}
structure Ends where
 nx:St->Hp->Prop
 rt:VK
 bk:St->Hp->Prop:=fun _ _=>AW
 ct:St->Hp->Prop:=fun _ _=>AW
abbrev TS:=Ends->St->Hp->Prop
variable{tb:TS}
def EP(X:Cx)(pI:Pn)(σ:St)(Q:VK)(u:Ak)(s':Ar):Prop:=∃ v H',Inv X pI σ H' s'/\Bx v u/\Q v H'
def TP(X:Cx)(pI:Pn)(σ:St)(Q:Ao->Hp->Prop)(b:Ao)(s':Ar):Prop:=∃ H',Inv X pI σ H' s'/\Q b H'
def AP(X:Cx)(pI:Pn)(σ:St)(Q:Ac V->Hp->Prop)(us:Ac Ak)(s':Ar):Prop:=∃ vs H',Inv X pI σ H' s'/\Bc vs us/\Q vs H'
noncomputable def SP(X:Cx)(pI:Pn)(D:Ends)(f:Flow)(s':Ar):Prop:=
  match f with
  |.next=>∃ σ' H',Inv X pI σ' H' s'/\D.nx σ' H'
  |.brk=>∃ σ' H',Inv X pI σ' H' s'/\D.bk σ' H'
  |.cont=>∃ σ' H',Inv X pI σ' H' s'/\D.ct σ' H'
  |.ret u=>∃ v σ' H',Inv X pI σ' H' s'/\Bx v u/\D.rt v H'
noncomputable def PE(X:Cx)(e:Ap)(t:TE):Prop:=
 ∀(pI:Pn)(s:Ar)(σ:St)(H:Hp)(Q:VK),Inv X pI σ H s->t σ H Q->Ax (model X.prog X.w) X.A (eval e X.env) (EP X pI σ Q) X.xe s
noncomputable def PT(X:Cx)(e:Ap)(t:TT):Prop:=
 ∀(pI:Pn)(s:Ar)(σ:St)(H:Hp)(Q:Ao->Hp->Prop),Inv X pI σ H s->t σ H Q->Ax (model X.prog X.w) X.A (IL e X.env (eval e X.env)) (TP X pI σ Q) X.xe s
noncomputable def PW(X:Cx)(e:Ap)(t:TT):Prop:=
 ∀(whole:Sem Ak)(pI:Pn)(s:Ar)(σ:St)(H:Hp)(Q:Ao->Hp->Prop),Inv X pI σ H s->t σ H Q->Ax (model X.prog X.w) X.A (IL e X.env whole) (TP X pI σ Q) X.xe s
theorem PW.pt{t:TT}(h:PW X e t):PT X e t:=h _
noncomputable def PA(X:Cx)(es:Ac Ap)(t:TA):Prop:=
 ∀(pos:AO)(pI:Pn)(s:Ar)(σ:St)(H:Hp)(Q:Ac V->Hp->Prop),Inv X pI σ H s->t σ H Q->Ax (model X.prog X.w) X.A (spliced (Bz pos (As es X.env))) (AP X pI σ Q) X.xe s
noncomputable def PS(X:Cx)(st:Be)(t:TS):Prop:=
 ∀(pI:Pn)(s:Ar)(σ:St)(H:Hp)(D:Ends),Inv X pI σ H s->t D σ H->Ax (model X.prog X.w) X.A (exec st X.env) (SP X pI D) X.xe s
noncomputable def PSs(X:Cx)(st:Ac Be)(t:TS):Prop:=
 ∀(pI:Pn)(s:Ar)(σ:St)(H:Hp)(D:Ends),Inv X pI σ H s->t D σ H->Ax (model X.prog X.w) X.A (execs st X.env) (SP X pI D) X.xe s
theorem thn{α:Type}{t:Sem α}{Q Q':α->Ar->Prop}{A:AY}{E:Vq}(h:Ax M A t Q E s)(hQ:∀ a s,Q a s->Q' a s):Ax M A t Q' E s:=Bl h hQ fun _ _ x=>x
section
variable{X:Cx}
def E5(i:Ag):TE:=fun σ H Q=>∃ v,σ[i]?=Aa (Aa v)/\Q v H
def tC(v:V):TE:=fun _ H Q=>Q v H
theorem NB(hN:X.N[i]?=Aa x)(hv:Vis X.env.scope x)(hd:(x==("__debug__" : Ai))=Ae:=by decide)(hcd:(x==("__classdict__" : Ai))=Ae:=by decide):PE X (.Name x pos) (E5 i):=by
 intro pI s σ H Q I h;obtain⟨v,e,h⟩:=h;obtain⟨m,hn,hl⟩:=I.loc;obtain⟨u,r,l⟩:=hl i x v hN e hv;have fin:EP X pI σ Q u s:=⟨v,H,I,r,h⟩;rcases l with ⟨hk,hm⟩|⟨hk,c,hc,hcell⟩
 ·exact KB (wpAny_loadName_local I.ok.kind hk hn hm fin) hd
 ·rcases hk with hk|hk
  ·exact KB (wpAny_loadName_cell I.ok.kind hk hc hcell fin) hd
  ·exact KB (wpAny_loadName_free I.ok.kind hk hc hcell fin hcd) hd
theorem lY{i j pos}:PE X (.Constant (.int i) j pos) (tC (.int i)):=fun _ _ _ H _ I h=>wpAny_Constant_int ⟨.int i,H,I.tok _,⟨_,rfl⟩,h⟩
theorem rY{b j pos}:PE X (.Constant (.bool b) j pos) (tC (.bl b)):=fun _ _ _ H _ I h=>Constant_bool ⟨.bl b,H,I,rfl,h⟩
theorem lW{j pos}:PE X (.Constant .none j pos) (tC .non):=fun _ _ _ H _ I h=>Constant_none ⟨.non,H,I,rfl,h⟩
theorem Uk{x j pos}:PE X (.Constant (.str x) j pos) (tC (.str x)):=fun _ _ _ H _ I h=>Calls.Constant_str ⟨.str x,H,I.tok _,⟨_,rfl⟩,h⟩
def Gl(X:Cx)(x:Ai):Prop:=X.env.kindOf x=Aa .globalImplicit
theorem JC{E:Vq}{Q:Vq}(I:Inv X pI σ H s)(hg:Gl X x)(hm:X.mg x=Aa u)(h:Q u s)(hd:(x==("__debug__" : Ai))=Ae:=by decide):Ax (model X.prog X.w) X.A (eval (.Name x pos) X.env) Q E s:=
 WI I.ok.kind hg (Calls.loadGlobal_global (by rw[I.ok.glob];exact I.mod.glob.keeps I.bk) hm h) hd
theorem Kn{E:Vq}{Q:Vq}(I:Inv X pI σ H s)(hg:Gl X x)(hm:X.mg x=Ad)(hv:Dd x=Aa u)(h:Q u s)(hn:x≠"__name__" := by decide)(hd:(x==("__debug__" : Ai))=Ae:=by decide):Ax (model X.prog X.w) X.A (eval (.Name x pos) X.env) Q E s:=by
 obtain⟨mb,h1,h2⟩:=I.mod.blt;exact WI I.ok.kind hg (Calls.loadGlobal_builtin (by rw[I.ok.glob];exact I.mod.glob.keeps I.bk) hm (by rw[I.ok.blt];exact h1.keeps I.bk) ((h2 x hn).trans hv) h) hd
theorem Po(hg:Gl X x)(hm:X.mg x=Aa u)(r:Bx v u)(hd:(x==("__debug__" : Ai))=Ae:=by decide):PE X (.Name x pos) (tC v):=
 fun _ _ _ H _ I h=>JC I hg hm ⟨v,H,I,r,h⟩ hd
theorem To(hg:Gl X x)(hm:X.mg x=Ad)(hv:Dd x=Aa u)(r:Bx v u)(hn:x≠"__name__" := by decide)(hd:(x==("__debug__" : Ai))=Ae:=by decide):PE X (.Name x pos) (tC v):=
 fun _ _ _ H _ I h=>Kn I hg hm hv ⟨v,H,I,r,h⟩ hn hd
variable{a b:Ap}{ta tb:TE}{pos:AO}
variable{tA tB':TT}{rest:Ac Ap}
def X7(t u:TT):TT:=fun σ H Q=>t σ H fun c H1=>if c=Ab then u σ H1 Q else Q Ae H1
def tOr(t u:TT):TT:=fun σ H Q=>t σ H fun c H1=>if c=Ab then Q Ab H1 else u σ H1 Q
def uY(t:TT):TT:=fun σ H Q=>t σ H fun c H1=>Q (!c) H1
theorem cN(ha:PT X a tA):PW X (.BoolOp .And [a] pos) tA:=by
 intro wh pI s σ H Q I h;refine isTrue_and (thn (ha pI s σ H Q I h) fun c s1 e=>?_)
 cases c with
 |true=>exact isTrue_and_nil e
 |false=>exact e
theorem lK(ha:PT X a tA):PW X (.BoolOp .Or [a] pos) tA:=by
 intro wh pI s σ H Q I h;refine isTrue_or (thn (ha pI s σ H Q I h) fun c s1 e=>?_)
 cases c with
 |false=>exact isTrue_or_nil e
 |true=>exact e
theorem lL(ha:PT X a tA)(hb:PW X (.BoolOp .And (b::rest) pos) tB'):PW X (.BoolOp .And (a::b::rest) pos) (X7 tA tB'):=by
 intro wh pI s σ H Q I h;refine isTrue_and (thn (ha pI s σ H _ I h) fun c s1 ⟨H1,I1,q1⟩=>?_)
 cases c with
 |true=>exact hb wh pI s1 σ H1 Q I1 q1
 |false=>exact⟨H1,I1,q1⟩
theorem rS(ha:PT X a tA)(hb:PW X (.BoolOp .Or (b::rest) pos) tB'):PW X (.BoolOp .Or (a::b::rest) pos) (tOr tA tB'):=by
 intro wh pI s σ H Q I h;refine isTrue_or (thn (ha pI s σ H _ I h) fun c s1 ⟨H1,I1,q1⟩=>?_)
 cases c with
 |true=>exact⟨H1,I1,q1⟩
 |false=>exact hb wh pI s1 σ H1 Q I1 q1
theorem lN(ha:PT X a tA):PT X (.UnaryOp .Not a pos) (uY tA):=by
 intro pI s σ H Q I h;exact isTrue_not (ha pI s σ H (fun c H1=>Q (!c) H1) I h)
def rC(ta tb:TE):TE:=fun σ H Q=>ta σ H fun x H1=>∃ c,x=.bl c/\if c=Ab then tb σ H1 Q else Q (.bl Ae) H1
def uX(ta tb:TE):TE:=fun σ H Q=>ta σ H fun x H1=>∃ c,x=.bl c/\if c=Ab then Q (.bl Ab) H1 else tb σ H1 Q
def qX(ta:TE):TE:=fun σ H Q=>ta σ H fun x H1=>∃ c,x=.bl c/\Q (.bl (!c)) H1
theorem lU{op}{t:TE}(h:PE X a t):PE X (.BoolOp op [a] pos) t:=fun pI s σ H Q I hw=>BoolOp_one (h pI s σ H Q I hw)
theorem lZ(ha:PE X a ta)(hb:PE X (.BoolOp .And (b::rest) pos) tb):PE X (.BoolOp .And (a::b::rest) pos) (rC ta tb):=by
 intro pI s σ H Q I h;refine BoolOp_and (thn (ha pI s σ H _ I h) fun v s1 ⟨x,H1,I1,r1,q1⟩=>?_)
 obtain⟨c,rfl,q1⟩:=q1;cases r1;refine C2 ?_;cases c with
 |true=>exact hb pI s1 σ H1 Q I1 q1
 |false=>exact⟨.bl Ae,H1,I1,rfl,q1⟩
theorem rW(ha:PE X a ta)(hb:PE X (.BoolOp .Or (b::rest) pos) tb):PE X (.BoolOp .Or (a::b::rest) pos) (uX ta tb):=by
 intro pI s σ H Q I h;refine BoolOp_or (thn (ha pI s σ H _ I h) fun v s1 ⟨x,H1,I1,r1,q1⟩=>?_)
 obtain⟨c,rfl,q1⟩:=q1;cases r1;refine C2 ?_;cases c with
 |false=>exact hb pI s1 σ H1 Q I1 q1
 |true=>exact⟨.bl Ab,H1,I1,rfl,q1⟩
theorem lV(ha:PE X a ta):PE X (.UnaryOp .Not a pos) (qX ta):=by
 intro pI s σ H Q I h;refine UnaryOp_ (thn (ha pI s σ H _ I h) fun v s1 ⟨x,H1,I1,r1,q1⟩=>?_)
 obtain⟨c,rfl,q1⟩:=q1;cases r1;exact not_of (C2 ⟨.bl (!c),H1,I1,rfl,q1⟩)
end
noncomputable def SqL(K:Fg)(H:Hp)(a:Ah)(xs:Ac V):Prop:=
 Rd H a (.lst xs) \/
  ∃(o:Dl)(its:Bj Ak)(n:Ag),K.lookup a=Aa o/\o.cls=.type "list"/\o.dict=Ad/\o.data=.seq its n/\its.size<=sizeLine/\Bc xs its.toList
noncomputable def SqT(K:Fg)(H:Hp)(a:Ah)(xs:Ac V):Prop:=
 Rd H a (.tup xs) \/
  ∃(o:Dl)(its:Bj Ak)(n:Ag),K.lookup a=Aa o/\o.cls=.type "tuple"/\o.data=.seq its n/\its.size<=sizeLine/\Bc xs its.toList
noncomputable def X1:Ak->An V
 |.none=>Aa .non
 |.bool b=>Aa (.bl b)
 |.int i _=>Aa (.int i)
 |.str x _=>Aa (.str x)
 |.bytes b _=>Aa (.byt b)
 |.float b _=>Aa (.flt b)
 |.ref a=>Aa (.ref a)
 |.type n=>Aa (.ty n)
 |_=>Ad
theorem Bx.abs{x:V}(r:Bx x u):X1 u=Aa x:=by
 cases x with
 |non=>cases r;rfl
 |bl _=>cases r;rfl
 |int _=>obtain⟨t,rfl⟩:=r;rfl
 |str _=>obtain⟨t,rfl⟩:=r;rfl
 |byt _=>obtain⟨t,rfl⟩:=r;rfl
 |flt _=>obtain⟨t,rfl⟩:=r;rfl
 |ref _=>cases r;rfl
 |ty _=>cases r;rfl
theorem Bx.inj{x y:V}(r:Bx x u)(q:Bx y u):x=y:=Bw (r.abs.symm.trans q.abs)
theorem Bc.inj:∀{xs ys:Ac V}{us:Ac Ak},Bc xs us->Bc ys us->xs=ys
 |_,_,_,.nil,.nil=>rfl
 |_,_,_,.cons r t,.cons r' t'=>by rw[r.inj r',Bc.inj t t']
section
variable{X:Cx}{pI:Pn}{σ:St}{H:Hp}{s:Ar}{a:Ah}{xs ys:Ac V}
theorem SqL.of{K:Fg}(h:H a=Aa (.lst xs)):SqL K H a xs:=.inl (.inl h)
theorem SqT.of{K:Fg}(h:H a=Aa (.tup xs)):SqT K H a xs:=.inl (.inl h)
theorem Inv.list(I:Inv X pI σ H s)(h:SqL X.K H a xs):∃ its:Ac Ak,Bc xs its/\PlainL s.heap a its.toArray/\xs.length<=sizeLine:=by
 rcases h with h|⟨o,its,n,hk,hc,hd,hs,hz,r⟩
 ·obtain⟨z,its,n,r,e⟩:=h.ok I.hok;exact⟨its,r,⟨_,n,e,rfl,rfl,rfl⟩,z⟩
 ·refine⟨its.toList,r,⟨o,n,I.kIn a o hk,hc,hd,by simpa using hs⟩,?_⟩
  have e:=r.length;simp only[Fo]at e;omega
theorem Inv.tuple(I:Inv X pI σ H s)(h:SqT X.K H a xs):∃ its:Ac Ak,Bc xs its/\Ku s.heap a its.toArray/\xs.length<=sizeLine:=by
 rcases h with h|⟨o,its,n,hk,hc,hs,hz,r⟩
 ·obtain⟨z,its,r,p⟩:=h.ok I.hok;exact⟨its,r,p,z⟩
 ·refine⟨its.toList,r,⟨o,I.kIn a o hk,hc,n,by simpa using hs⟩,?_⟩
  have e:=r.length;simp only[Fo]at e;omega
theorem Inv.list_inj(I:Inv X pI σ H s)(h:SqL X.K H a xs)(h':SqL X.K H a ys):xs=ys:=by
 obtain⟨its,r,⟨o,n,e,_,_,d⟩,_⟩:=I.list h;obtain⟨its',r',⟨o',n',e',_,_,d'⟩,_⟩:=I.list h';rw[e]at e';cases e';rw[d]at d'
 injection d' with d1 _
 have:its=its':=by simpa using congrArg VV d1
 subst this;exact r.inj r'
theorem Inv.tuple_inj(I:Inv X pI σ H s)(h:SqT X.K H a xs)(h':SqT X.K H a ys):xs=ys:=by
 obtain⟨its,r,⟨o,e,_,n,d⟩,_⟩:=I.tuple h;obtain⟨its',r',⟨o',e',_,n',d'⟩,_⟩:=I.tuple h';rw[e]at e';cases e';rw[d]at d'
 injection d' with d1 _
 have:its=its':=by simpa using congrArg VV d1
 subst this;exact r.inj r'
end
noncomputable abbrev Cx.wish(X:Cx)(E:Vq):Cx:={X with xe:=E}
noncomputable abbrev Cx.nox(X:Cx):Cx:=X.wish fun _ _=>AW
theorem Cx.Ok.wish(ok:X.Ok)(E:Vq):(X.wish E).Ok:=
 ⟨ok.mod,ok.kind,ok.glob,ok.blt,ok.above,ok.inj,ok.has,ok.cab,ok.hd,ok.frames,ok.stk,ok.exf,ok.bs,ok.bsz,ok.noex,ok.exfs,ok.funs,ok.frf⟩
theorem Cx.Ok.unwish{E:Vq}(ok:(X.wish E).Ok):X.Ok:=
 ⟨ok.mod,ok.kind,ok.glob,ok.blt,ok.above,ok.inj,ok.has,ok.cab,ok.hd,ok.frames,ok.stk,ok.exf,ok.bs,ok.bsz,ok.noex,ok.exfs,ok.funs,ok.frf⟩
section
variable{X:Cx}{pI:Pn}{σ:St}{H:Hp}{s:Ar}{E:Vq}
theorem Inv.wish(I:Inv X pI σ H s)(E:Vq):Inv (X.wish E) pI σ H s:=⟨I.ok.wish E,I.os,I.bare,I.base,I.loc,I.cell,I.free,I.freeC,I.pin,I.hok,I.len⟩
theorem Inv.unwish(I:Inv (X.wish E) pI σ H s):Inv X pI σ H s:=⟨I.ok.unwish,I.os,I.bare,I.base,I.loc,I.cell,I.free,I.freeC,I.pin,I.hok,I.len⟩
theorem SP.unwish{D:Ends}{f:Flow}{s':Ar}(h:SP (X.wish E) pI D f s'):SP X pI D f s':=by
 cases f with
 |next=>obtain⟨σ',H',I,q⟩:=h;exact⟨σ',H',I.unwish,q⟩
 |brk=>obtain⟨σ',H',I,q⟩:=h;exact⟨σ',H',I.unwish,q⟩
 |cont=>obtain⟨σ',H',I,q⟩:=h;exact⟨σ',H',I.unwish,q⟩
 |ret u=>obtain⟨v,σ',H',I,r,q⟩:=h;exact⟨v,σ',H',I.unwish,r,q⟩
theorem PSs.nox{st:Ac Be}{t:TS}(h:PSs X.nox st t):PSs X st t:=fun pI s σ H D I hw=>
 Bl (h pI s σ H D (I.wish _) hw) (fun _ _ q=>q.unwish) fun _ _ z=>Bi z
end
section
variable{X:Cx}{st:Be}{rest:Ac Be}{t u:TS}{e:Ap}{te:TE}{pos:AO}
def qY:TS:=fun D σ H=>D.nx σ H
def uV(t u:TS):TS:=fun D σ H=>t {D with nx:=u D} σ H
theorem cR:PSs X [] qY:=fun _ _ σ H _ I h=>EI ⟨σ,H,I,h⟩
theorem Sd(h1:PS X st t)(h2:PSs X rest u):PSs X (st::rest) (uV t u):=by
 intro pI s σ H D I h;refine HR (thn (h1 pI s σ H {D with nx:=u D} I h) fun f s1 q=>?_)
 cases f with
 |next=>
  obtain⟨σ',H',I',q⟩:=q;exact h2 pI s1 σ' H' D I' q
 |ret v=>exact q
 |brk=>exact q
 |cont=>exact q
theorem Mn(h1:PS X st t):PSs X [st] t:=by
 intro pI s σ H D I h;refine HR (thn (h1 pI s σ H D I h) fun f s1 q=>?_)
 cases f with
 |next=>exact EI q
 |ret v=>exact q
 |brk=>exact q
 |cont=>exact q
theorem Inv.quiet(I:Inv X pI σ H s):interactive X.env=Ae:=by simp[interactive,I.ok.kind]
def qZ(te:TE):TS:=fun D σ H=>te σ H fun _ H1=>D.nx σ H1
theorem IZ(he:PE X e te)(hs:Cn e Ad pos.line X.env=pure Ae:=by rfl):PS X (.Expr e pos) (qZ te):=by
 intro pI s σ H D I h;exact wpAny_Expr_any (thn (he pI s σ H _ I h) fun v s1 ⟨x,H1,I1,r1,q1⟩=>⟨σ,H1,I1,q1⟩) I.quiet hs
def uW(te:TE):TS:=fun D σ H=>te σ H D.rt
theorem PD(he:PE X e te):PS X (.Return (Aa e) pos) (uW te):=by
 intro pI s σ H D I h;exact wpAny_Return_some (thn (he pI s σ H _ I h) fun v s1 ⟨x,H1,I1,r1,q1⟩=>⟨x,σ,H1,I1,r1,q1⟩)
def X5(c:TT)(t u:TS):TS:=fun D σ H=>c σ H fun b H1=>if b=Ab then t D σ H1 else u D σ H1
theorem rU{a b:Ac Be}(hc:PT X c tc)(ha:PSs X a t)(hb:PSs X b u):PS X (.If c a b pos) (X5 tc t u):=by
 intro pI s σ H D I h;refine wpAny_If (thn (hc pI s σ H _ I h) fun d s1 ⟨H1,I1,q1⟩=>?_)
 cases d with
 |true=>exact ha pI s1 σ H1 D I1 q1
 |false=>exact hb pI s1 σ H1 D I1 q1
end
abbrev TG:=V->St->Hp->(St->Hp->Prop)->Prop
abbrev TGs:=Ac V->St->Hp->(St->Hp->Prop)->Prop
noncomputable def PG(X:Cx)(target:Ap)(t:TG):Prop:=
 ∀(pI:Pn)(s:Ar)(σ:St)(H:Hp)(v:V)(u:Ak)(Q:St->Hp->Prop),Inv X pI σ H s->Bx v u->t v σ H Q ->
  Ax (model X.prog X.w) X.A (assign target X.env u) (fun _ s'=>∃ σ' H',Inv X pI σ' H' s'/\Q σ' H') X.xe s
noncomputable def PGs(X:Cx)(ts:Ac Ap)(t:TGs):Prop:=
 ∀(pI:Pn)(s:Ar)(σ:St)(H:Hp)(vs:Ac V)(us:Ac Ak)(Q:St->Hp->Prop),Inv X pI σ H s->Bc vs us->t vs σ H Q ->
  Ax (model X.prog X.w) X.A (assignInOrder ((B5 ts X.env).map (·.2)) us) (fun _ s'=>∃ σ' H',Inv X pI σ' H' s'/\Q σ' H') X.xe s
abbrev N5:=V->V->V->Hp->(Hp->Prop)->Prop
noncomputable def QW(X:Cx)(t:N5):Prop:=
 ∀(pI:Pn)(s:Ar)(σ:St)(H:Hp)(o i v:V)(ov iv u:Ak)(Q:Hp->Prop),Inv X pI σ H s->Bx o ov->Bx i iv->Bx v u->t o i v H Q ->
  Ax (model X.prog X.w) X.A (JR ov iv u) (fun _ s'=>∃ H',Inv X pI σ H' s'/\Q H') X.xe s
section
variable{X:Cx}{pos:AO}
def Fv(i:Ag):TG:=fun v σ H Q=>Q (σ.set i (Aa v)) H
theorem Mo(hN:X.N.Nodup)(hi:X.N[i]?=Aa x)(hx:Loc X.env.scope x)(hf:X.fn x=Ab\/X.env.scope.names.lookup x=Aa .local:=by first|exact .inl rfl|exact .inr rfl|assumption):PG X (.Name x pos) (Fv i):=by
 intro pI s σ H v u Q I r h;exact Xr (O8 I hN hi hx r (fun s' I'=>⟨_,H,I',h⟩) hf)
def Ii:TGs:=fun vs σ H Q=>vs=[]/\Q σ H
def Ib(t:TG)(u:TGs):TGs:=fun vs σ H Q=>∃ v r,vs=v::r/\t v σ H fun σ' H'=>u r σ' H' Q
theorem Tl:PGs X [] Ii:=by
 intro pI s σ H vs us Q I r h;obtain⟨e,h⟩:=h;subst e;cases r;exact assignInOrder_nil ⟨σ,H,I,h⟩
theorem Se{t:TG}{u:TGs}(h1:PG X e t)(h2:PGs X es u)(hs:(B5 (e::es) X.env).map (·.2)=assign e X.env::(B5 es X.env).map (·.2):=by rfl):PGs X (e::es) (Ib t u):=by
 intro pI s σ H vs us Q I r h;obtain⟨v,vr,e1,h⟩:=h;subst e1;cases r with
 |cons r rr=>
  rw[hs];refine assignInOrder_cons (thn (h1 pI s σ H _ _ _ I r h) fun _ s1 ⟨σ1,H1,I1,q1⟩=>?_)
  exact h2 pI s1 σ1 H1 _ _ Q I1 rr q1
def LB(K:Fg)(n:Ag)(t:TGs):TG:=fun v σ H Q=>∃ a xs,v=.ref a/\SqT K H a xs/\xs.length=n/\t xs σ H Q
theorem P8{t:TGs}(hc:X.calm=Ab)(h:PGs X es t)(hn:(B5 es X.env).length=n:=by rfl)(hst:(B5 es X.env).findIdx? (·.1)=Ad:=by rfl):PG X (.Tuple es k pos) (LB X.K n t):=by
 intro pI s σ H v u Q I r hw;obtain⟨a,xs,e1,hq,hl,hw⟩:=hw;subst e1;cases r;obtain⟨its,rv,ht,hz⟩:=I.tuple hq;refine assign_Tuple_tuple (I.ok.hd hc) ht (by simp[hn,<-hl,rv.length]) hst fun h' hx=>?_
 have I1:Inv X pI σ H {s with heap:=h'}:=I.kept (t':=s.toks) fun b o e=>hx b o (Bo (AQ e)) e
 exact h pI _ σ H xs _ Q I1 (by simpa using rv) hw
def XM(to ti:TE)(t:N5):TG:=fun v σ H Q=>to σ H fun o H1=>ti σ H1 fun i H2=>t o i v H2 fun H3=>Q σ H3
theorem Ui{o i:Ap}{to ti:TE}{t:N5}(ho:PE X o to)(hi:PE X i ti)(hs:QW X t)(ha:∀ v,assign (.Subscript o i pos) X.env v=(do
   let ov <-holding [v] (eval o X.env)
   let iv <-holding [v,ov] (eval i X.env)
   IQ pos
   holding [v,ov,iv] (JR ov iv v)
   release [v,ov,iv] []):=by intro _;rfl):PG X (.Subscript o i pos) (XM to ti t):=by
 intro pI s σ H v u Q I r h;rw[ha];refine Al (BX (thn (ho pI s σ H _ I h) fun ov s1 ⟨x,H1,I1,r1,q1⟩=>?_))
 refine Al (BX (thn (hi pI s1 σ H1 _ I1 q1) fun iv s2 ⟨y,H2,I2,r2,q2⟩=>?_))
 refine Al (D8 (Al (BX (thn (hs pI s2 σ H2 x y v ov iv u _ I2 r1 r2 r q2) fun _ s3 ⟨H3,I3,q3⟩=>?_))))
 exact wpAny_release ⟨σ,H3,I3,q3⟩
def NY(te:TE)(g:TG):TS:=fun D σ H=>te σ H fun x H1=>g x σ H1 D.nx
theorem P6{g:TG}(he:PE X e te)(hg:PG X tg g)(hs:Gm [tg] e pos.line X.env=pure Ae:=by rfl)(hw:Fj [tg] e X.env=pure Ad:=by rfl)(h1:(B5 [tg] X.env).map (·.2)=[assign tg X.env]:=by rfl):PS X (.Assign [tg] e pos) (NY te g):=by
 intro pI s σ H D I h;refine wpAny_Assign_stores (thn (he pI s σ H _ I h) fun v s1 ⟨x,H1,I1,r1,q1⟩=>?_) hs hw
 rw[h1];exact thn (hg pI s1 σ H1 x v _ I1 r1 q1) fun _ s2 q=>q
theorem Mx{pos':AO}(hN:X.N.Nodup)(hi:X.N[i]?=Aa x)(hx:Loc X.env.scope x)(he:PE X e te)(hs:Cn e (Aa (.Name x pos')) pos.line X.env=pure Ae:=by rfl)(hf:X.fn x=Ab\/X.env.scope.names.lookup x=Aa .local:=by first|exact .inl rfl|exact .inr rfl|assumption):PS X (.Assign [.Name x pos'] e pos) (NY te (Fv i)):=by
 intro pI s σ H D I h;refine wpAny_Assign_Name (thn (he pI s σ H _ I h) fun v s1 ⟨y,H1,I1,r1,q1⟩=>?_) hs
 exact O8 I1 hN hi hx r1 (fun s2 I2=>⟨_,H1,I2,q1⟩) hf
end
section
variable{X:Cx}{pos:AO}
def kE(c:TT)(tb:TS):TS:=fun D σ H=>∃ W:Ag->St->Hp->Prop,(∃ m,W m σ H)/\∀ m σ H,W m σ H ->
 c σ H fun b H1=>if b=Ab then ∃ N:St->Hp->Prop,(∀ σ' H',N σ' H'->∃ m',m'<m/\W m' σ' H')/\tb {D with nx:=N,ct:=N,bk:=D.nx} σ H1 else D.nx σ H1
theorem Zu(hp:EG (model X.prog X.w) X.A X.env X.xe)(hc:PT X c tc)(hb:PSs X body tb):PS X (.While c body [] pos) (kE tc tb):=by
 intro pI s σ H D I h;obtain⟨W,⟨m0,w0⟩,turn⟩:=h;refine wpAny_While (codeAny_whileLoop (fun n s'=>∃ σ' H',Inv X pI σ' H' s'/\W n σ' H') ?_ m0 ⟨σ,H,I,w0⟩)
 rintro n s1 ⟨σ1,H1,I1,w1⟩;refine D4 hp (thn (hc pI s1 σ1 H1 _ I1 (turn n σ1 H1 w1)) fun b s2 ⟨H2,I2,q2⟩=>?_)
 cases b with
 |true=>
  obtain⟨N,hN,q2⟩:=q2;rw[AG rfl];refine D4 hp (thn (hb pI s2 σ1 H2 _ I2 q2) fun f s3 q3=>?_)
  cases f with
  |next=>
   obtain⟨σ3,H3,I3,n3⟩:=q3;obtain⟨m',hm,w3⟩:=hN σ3 H3 n3;exact⟨m',hm,σ3,H3,I3,w3⟩
  |cont=>
   obtain⟨σ3,H3,I3,n3⟩:=q3;obtain⟨m',hm,w3⟩:=hN σ3 H3 n3;exact⟨m',hm,σ3,H3,I3,w3⟩
  |brk=>exact q3
  |ret v=>exact q3
 |false=>
  rw[AI Aq];exact EI ⟨σ1,H2,I2,q2⟩
end
structure It where
 go:Ag->Hp->Prop
 yld:Ag->Hp->V->Hp->Prop
 stop:Ag->Hp->Prop
noncomputable def Hc(X:Cx)(pI:Pn)(H:Hp)(b:Ah):Prop:=
 H b=Ad/\b≠X.env.locals/\b∉X.fs/\(b∈X.ex\/X.s₀.heap.objs.size<=b)/\(∀ x c,X.env.cells.lookup x=Aa c->c≠b)/\∀ p∈X.pn++pI,p.1≠b
theorem Inv.fpOk{H':Hp}(I:Inv X pI σ H s)(hb:s.heap.objs.size<=b)(hn:H' b=Ad):Hc X pI H' b:=by
 refine⟨hn,EW (AN I.lt hb),I.nofs hb,.inr (BU I.sz hb),fun x c e z=>?_,fun p hp z=>?_⟩
 ·obtain⟨v,q⟩:=I.cell x c e;exact absurd (AN q.lt (by rw[z];exact hb)) (BF _)
 ·exact absurd (AN (AQ (I.pin p hp).1) (by rw[z];exact hb)) (BF _)
structure Turn (P:AS) (w:AB) (K:Fg) (tg:Ap) (J:It) (fp:Ac Ah) (it:Ah) (tn:Ag->AF->Prop):Prop where
 mem:it∈fp
 obj:∀ i h,tn i h->∀ b∈fp,∃ o,h.get? b=Aa o/\∀ v,o.data≠.cell v
 keep:∀ i h h',tn i h->(∀ b∈fp,∀ o,h.get? b=Aa o->h'.get? b=Aa o)->tn i h'
 item:∀(X:Cx),X.prog=P->X.w=w->X.K=K->X.calm=Ab->∀(i:Ag)(pI:Pn)(s:Ar)(σ:St)(H:Hp)(E:Vq),Inv X pI σ H s->(∀ b∈fp,Hc X pI H b)->tn i s.heap->J.go i H ->
  Ax (model P w) X.A (IP (.ref it)) (fun r s1=>∃ u,r=Aa u /\
   Ax (model P w) X.A (GP tg (.ref it) u) (fun _ s2=>∃ x H',Inv X pI σ H' s2/\Bx x u/\J.yld i H x H'/\tn (i+1) s2.heap/\∀ b∈fp,H' b=Ad) E s1) E s
 done:∀(X:Cx),X.prog=P->X.w=w->X.K=K->X.calm=Ab->∀(i:Ag)(pI:Pn)(s:Ar)(σ:St)(H:Hp)(E:Vq),Inv X pI σ H s->(∀ b∈fp,Hc X pI H b)->tn i s.heap->J.stop i H ->
  Ax (model P w) X.A (IP (.ref it)) (fun r s1=>r=Ad/\Inv X pI σ H s1) E s
 self:∀(A:AY)(i:Ag)(s:Ar)(Q:Vq)(E:Vq),tn i s.heap->Q (.ref it) s->Ax (model P w) A (LV (.ref it)) Q E s
abbrev TI:=St->Hp->(It->Hp->Prop)->Prop
noncomputable def PIE(X:Cx)(pI:Pn)(σ:St)(tg:Ap)(R:It->Hp->Prop)(itv:Ak)(s2:Ar):Prop:=
 ∃(it:Ah)(fp:Ac Ah)(tn:Ag->AF->Prop)(J:It)(H':Hp),itv=.ref it/\Inv X pI σ H' s2/\Turn X.prog X.w X.K tg J fp it tn/\tn 0 s2.heap/\(∀ b∈fp,Hc X pI H' b)/\R J H'
noncomputable def PI(X:Cx)(tg iter:Ap)(wi:TI):Prop:=
 ∀(pI:Pn)(s:Ar)(σ:St)(H:Hp)(R:It->Hp->Prop),Inv X pI σ H s->wi σ H R ->
  Ax (model X.prog X.w) X.A (eval iter X.env) (fun v s1=>Ax (model X.prog X.w) X.A (LV v) (PIE X pI σ tg R) X.xe s1) X.xe s
theorem Qs{A:AY}{E:Vq}{n:CY}{vs:Bj Ak}(ho:s.heap.get? it=Aa o)(hc:o.cls=.type n)(hd:o.data=.fields vs)(hn:["enumerate", "zip", "dict_itemiterator", "dict_reverseitemiterator", "odict_iterator", "itertools.zip_longest", "itertools.pairwise"].contains n=Ae)(hQ:Q () s):Ax M A (GP tg (.ref it) u) Q E s:=by
  unfold GP;cases tg<;>first
    |exact AC hQ
    | (cases u<;>first
        |exact AC hQ
        | (refine Al (wpAny_load ho ?_)
           rw[hc,hd];show Ax M A (if (["enumerate", "zip", "dict_itemiterator", "dict_reverseitemiterator", "odict_iterator", "itertools.zip_longest", "itertools.pairwise"].contains n&&vs[0]? == Aa (Er _))=Ab then _ else _) Q E s
           rw[AI (by intro h;rw[hn,Bool.false_and]at h;cases h)]
           exact AC hQ))
noncomputable def Itl(K:Fg)(a:Ah):It:=
 ⟨fun i H=>∃ xs x,SqL K H a xs/\xs[i]?=Aa x,fun i H x H'=>H'=H/\∀ xs,SqL K H a xs->xs[i]?=Aa x,fun i H=>∃ xs,SqL K H a xs/\xs.length<=i⟩
noncomputable def Itt(K:Fg)(a:Ah):It:=
 ⟨fun i H=>∃ xs x,SqT K H a xs/\xs[i]?=Aa x,fun i H x H'=>H'=H/\∀ xs,SqT K H a xs->xs[i]?=Aa x,fun i H=>∃ xs,SqT K H a xs/\xs.length<=i⟩
noncomputable def Itr(lo:Af)(n:Ag):It:=⟨fun i _=>i<n,fun i H x H'=>H'=H/\x=.int (lo+i),fun i _=>n<=i⟩
theorem YU{w:AB}{K:Fg}(a it:Ah):Turn P w K tg (Itl K a) [it] it (fun i h=>h.IsListIter it a i) where
  mem:=by simp
  obj:=fun i h st b hb=>by
    have e:b=it:=by simpa using hb
    subst e;obtain⟨o,e,c,d⟩:=st;exact⟨o,e,fun v z=>by rw[d]at z;cases z⟩
  keep:=fun i h h' st k=>st.at fun o e=>k it (by simp) o e
  item:=by
    intro X hP hw hK hc i pI s σ H E I hf st hg;subst hP hw hK;obtain⟨xs,x,hq,hx⟩:=hg;obtain⟨its,rv,p,hz⟩:=I.list hq;obtain⟨u,hu,ru⟩:=rv.get hx;obtain⟨f0,f1,f2,f3,f4,f5⟩:=hf it (by simp)
    refine XA st p.isList (x:=u) (by simpa using hu) fun h' st' sb=>?_
    have I1:Inv X pI σ H {s with heap:=h'}:=I.turned (t':=s.toks) (fun b o hb e=>(sb.2 b hb).trans e) f0 f1 f3 f4 f5
    obtain⟨o,e,c,d⟩:=id st';exact⟨u,rfl,Qs (s:={s with heap:=h'}) e c d (by decide) ⟨x,H,I1,ru,⟨rfl,fun ys hy=>by rw[I.list_inj hy hq];exact hx⟩,st',fun b hb=>(hf b hb).1⟩⟩
  done:=by
    intro X hP hw hK hc i pI s σ H E I hf st hg;subst hP hw hK;obtain⟨xs,hq,hx⟩:=hg;obtain⟨its,rv,p,hz⟩:=I.list hq;obtain⟨f0,f1,f2,f3,f4,f5⟩:=hf it (by simp)
    have hl:=rv.length;exact Xz (I.ok.hd hc) st p.isList (by simp;omega) fun h' eb=>⟨rfl,I.turned (t':=s.toks) (fun b o hb e=>eb b o hb e) f0 f1 f3 f4 f5⟩
  self:=fun _ _ _ _ _ st h=>wpAny_pyIter_listiter st h
theorem YL{w:AB}{K:Fg}(a it:Ah):Turn P w K tg (Itt K a) [it] it (fun i h=>h.IsTupleIter it a i) where
  mem:=by simp
  obj:=fun i h st b hb=>by
    have e:b=it:=by simpa using hb
    subst e;obtain⟨o,e,c,d⟩:=st;exact⟨o,e,fun v z=>by rw[d]at z;cases z⟩
  keep:=fun i h h' st k=>st.at fun o e=>k it (by simp) o e
  item:=by
    intro X hP hw hK hc i pI s σ H E I hf st hg;subst hP hw hK;obtain⟨xs,x,hq,hx⟩:=hg;obtain⟨its,rv,p,hz⟩:=I.tuple hq;obtain⟨u,hu,ru⟩:=rv.get hx;obtain⟨f0,f1,f2,f3,f4,f5⟩:=hf it (by simp)
    refine wpAny_pyNext_tuple_item st (show s.heap.IsTuple a its.toArray from p) (x:=u) (by simpa using hu) fun h' st' sb=>?_
    have I1:Inv X pI σ H {s with heap:=h'}:=I.turned (t':=s.toks) (fun b o hb e=>(sb.2 b hb).trans e) f0 f1 f3 f4 f5
    obtain⟨o,e,c,d⟩:=id st';exact⟨u,rfl,Qs (s:={s with heap:=h'}) e c d (by decide) ⟨x,H,I1,ru,⟨rfl,fun ys hy=>by rw[I.tuple_inj hy hq];exact hx⟩,st',fun b hb=>(hf b hb).1⟩⟩
  done:=by
    intro X hP hw hK hc i pI s σ H E I hf st hg;subst hP hw hK;obtain⟨xs,hq,hx⟩:=hg;obtain⟨its,rv,p,hz⟩:=I.tuple hq;obtain⟨f0,f1,f2,f3,f4,f5⟩:=hf it (by simp)
    have hl:=rv.length;exact wpAny_pyNext_tuple_end (I.ok.hd hc) st (show s.heap.IsTuple a its.toArray from p) (by simp;omega) fun h' eb=>⟨rfl,I.turned (t':=s.toks) (fun b o hb e=>eb b o hb e) f0 f1 f3 f4 f5⟩
  self:=fun _ _ _ _ _ st h=>wpAny_pyIter_tupleiter st h
theorem YM{w:AB}{K:Fg}(it:Ah)(lo:Af)(n:Ag):Turn P w K tg (Itr lo n) [it] it (fun i h=>IsRangeIter h it (lo+(i:Ag)*1) ((n:Af)-(i:Ag)) 1) where
  mem:=by simp
  obj:=fun i h st b hb=>by
    have e:b=it:=by simpa using hb
    subst e;exact⟨_,st,fun v z=>by
      have z':Data.fields _=LJ v:=z;cases z'⟩
  keep:=fun i h h' st k=>k it (by simp) _ st
  item:=by
    intro X hP hw hK hc i pI s σ H E I hf st hg;subst hP hw hK;obtain⟨f0,f1,f2,f3,f4,f5⟩:=hf it (by simp)
    have W:=Walks.range (prog:=X.prog) (w:=X.w) (I.ok.hd hc) it lo 1 n;refine W.item i s _ _ hg st fun v h' tk hv st' kk=>?_
    obtain⟨t,rfl⟩:=hv;have I1:Inv X pI σ H {s with heap:=h',toks:=tk}:=I.turned (fun b o hb e=>kk b o (by simpa using hb) e) f0 f1 f3 f4 f5
    refine⟨_,rfl,Qs (s:={s with heap:=h',toks:=tk}) (n := "range_iterator") st' rfl rfl (by decide) ⟨.int (lo+i),H,I1,⟨t,?_⟩,⟨rfl,rfl⟩,st',fun b hb=>(hf b hb).1⟩⟩
    rw[Fl]
  done:=by
    intro X hP hw hK hc i pI s σ H E I hf st hg;subst hP hw hK;obtain⟨f0,f1,f2,f3,f4,f5⟩:=hf it (by simp)
    exact wpAny_pyNext_range_end (I.ok.hd hc) st (by have:n<=i:=hg;omega) fun h' eb=>⟨rfl,I.turned (t':=s.toks) (fun b o hb e=>eb b o hb e) f0 f1 f3 f4 f5⟩
  self:=fun _ _ _ _ _ st h=>wpAny_pyIter_rangeiter st h
section
variable{X:Cx}{tg:Ap}
theorem Sc{R:It->Hp->Prop}{E:Vq}{lo hi:Af}{t u v:CN}{tk:Ag}(I:Inv X pI σ H s)(h1:-(2 ^ 62)<=lo)(h2:lo<2 ^ 62)(h3:-(2 ^ 62)<=hi)(h4:hi<2 ^ 62)(q:R (Itr lo (hi-lo).toNat) H):Ax (model X.prog X.w) X.A (LV (.ref s.heap.objs.size)) (PIE X pI σ tg R) E { s with heap:=s.heap.push { cls:=.type "range", data:=.fields #[.int lo t,.int hi u,.int 1 v] },toks:=tk }:=by
 refine wpAny_pyIter_range (IsRange.new ..) (small_one h1 h2 h3 h4) ?_;have I1:Inv X pI σ H { s with heap:=s.heap.push { cls:=.type "range", data:=.fields #[.int lo t,.int hi u,.int 1 v] },toks:=tk }:=I.kept fun b o e=>Au _ e
 refine⟨(s.heap.push { cls:=.type "range", data:=.fields #[.int lo t,.int hi u,.int 1 v] }).objs.size,[(s.heap.push { cls:=.type "range", data:=.fields #[.int lo t,.int hi u,.int 1 v] }).objs.size],_,_,H,rfl,
  I1.kept (t':=tk) fun b o e=>Au _ e,YM _ lo (hi-lo).toNat,?_,fun b hb=>?_,q⟩
 ·have e1:lo+((0:Ag):Af)*1=lo:=by simp
  have e2:(((hi-lo).toNat:Ag):Af)-((0:Ag):Af)=Builtin.Range.rangeSize lo hi 1:=by rw[rangeSize_one];split<;>omega
  show IsRangeIter _ _ (lo+((0:Ag):Af)*1) ((((hi-lo).toNat:Ag):Af)-((0:Ag):Af)) 1;rw[e1,e2];exact AV _ rfl
 ·have e:b=(s.heap.push { cls:=.type "range", data:=.fields #[.int lo t,.int hi u,.int 1 v] }).objs.size:=by simpa using hb
  subst e;exact I1.fpOk (AU _) (I1.hok.fresh (AU _))
def tY(ta:TA):TI:=fun σ H R=>ta σ H fun vs H1=>∃ j:Af,vs=[.int j]/\-(2 ^ 62)<=j/\j<2 ^ 62/\R (Itr 0 j.toNat) H1
def tX(ta:TA):TI:=fun σ H R=>ta σ H fun vs H1=>∃ i j:Af,vs=[.int i,.int j]/\(-(2 ^ 62)<=i/\i<2 ^ 62/\-(2 ^ 62)<=j/\j<2 ^ 62)/\R (Itr i (j-i).toNat) H1
theorem Zk{a:Ap}(hg:Gl X "range")(hm:X.mg "range" = Ad)(ha:PA X [a] ta)(hs:As [a] X.env=[(Ae,eval a X.env)]:=by rfl):PI X tg (.Call (.Name "range" p) [a] [] pos) (tY ta):=by
 intro pI s σ H R I h;refine Call_ (Kn I hg hm boot_range (C7 (thn (ha pos pI s σ H _ I h) fun us s1 ⟨vs,H1,I1,r1,q1⟩=>?_) hs rfl))
 obtain⟨j,e,q1,q2,q⟩:=q1;subst e;cases r1 with
 |cons r rr=>
  cases rr;obtain⟨t,rfl⟩:=r;exact call_range_1 (Sc I1 (by omega) (by omega) q1 q2 (by simpa using q))
theorem Zj{a b:Ap}(hg:Gl X "range")(hm:X.mg "range" = Ad)(ha:PA X [a,b] ta)(hs:As [a,b] X.env=[(Ae,eval a X.env),(Ae,eval b X.env)]:=by rfl)(hs2:As [b] X.env=[(Ae,eval b X.env)]:=by rfl):
  PI X tg (.Call (.Name "range" p) [a,b] [] pos) (tX ta):=by
 intro pI s σ H R I h;refine Call_ (Kn I hg hm boot_range (C7 (thn (ha pos pI s σ H _ I h) fun us s1 ⟨vs,H1,I1,r1,q1⟩=>?_) (by rw[hs,hs2]) (by rw[hs2];rfl)))
 obtain⟨i,j,e,⟨q1,q2,q3,q4⟩,q⟩:=q1;subst e;cases r1 with
 |cons r rr=>
  cases rr with
  |cons r' rr=>
   cases rr;obtain⟨t,rfl⟩:=r;obtain⟨t',rfl⟩:=r';exact call_range_2 (Sc I1 q1 q2 q3 q4 q)
def X6(wi:TI)(g:TG)(tb:TS):TS:=fun D σ H=>wi σ H fun J H1=>∃ W:Ag->Ag->St->Hp->Prop,(∃ m,W 0 m σ H1)/\∀ i m σ H,W i m σ H ->
 (J.stop i H/\D.nx σ H)\/(J.go i H/\∃ N:St->Hp->Prop,(∀ σ' H',N σ' H'->∃ m',m'<m/\W (i+1) m' σ' H')/\∀ x H',J.yld i H x H'->g x σ H' fun σ2 H2=>tb {D with nx:=N,ct:=N,bk:=D.nx} σ2 H2)
noncomputable def Kl(fp:Ac Ah)(h:AF):Pn:=fp.filterMap fun b=>(h.get? b).map fun o=>(b,o)
theorem M3(hb:b∈fp)(e:h.get? b=Aa o):(b,o)∈Kl fp h:=List.mem_filterMap.mpr ⟨b,hb,by rw[e];rfl⟩
theorem Re{p:Ah×Dl}(hp:p∈Kl fp h):p.1∈fp/\h.get? p.1=Aa p.2:=by
 obtain⟨b,hb,e⟩:=List.mem_filterMap.mp hp;cases q:h.get? b with
 |none=>rw[q]at e;cases e
 |some o=>
  rw[q]at e;have e':(b,o)=p:=Bw e;subst e';exact⟨hb,q⟩
theorem Inv.pinned(I:Inv X pI σ H s)(hf:∀ b∈fp,Hc X pI H b)(ho:∀ b∈fp,∃ o,s.heap.get? b=Aa o/\∀ v,o.data≠.cell v):Inv X (pI++Kl fp s.heap) σ H s:=
 I.pins_of fun p hp=>(C5.mp hp).elim (fun z=>I.pin p (Br _ z)) fun z=>by
  obtain⟨hb,e⟩:=Re z;obtain⟨f0,f1,f2,_⟩:=hf p.1 hb;obtain⟨o,e',d⟩:=ho p.1 hb;rw[e]at e';cases e';exact⟨e,f0,f1,f2,d⟩
theorem Inv.unpinned{pl:Pn}(I:Inv X (pI++pl) σ H s):Inv X pI σ H s:=I.pins_of fun p hp=>I.pin p (Br _ (GF _ hp))
theorem lQ{iter:Ap}{wi:TI}{g:TG}(hp:EG (model X.prog X.w) X.A X.env X.xe)(hc:X.calm=Ab)(hi:PI X tg iter wi)(hg:PG X tg g)(hb:PSs X body tb)(hs:∀ x,CZ iter X.env x=pure x:=by intro _;rfl):PS X (.For tg iter body [] pos) (X6 wi g tb):=by
 intro pI s σ H D I h;refine wpAny_For (thn (hi pI s σ H _ I h) fun v s1 h1=>thn h1 fun itv s2 h2=>?_) hs
 obtain⟨it,fp,tn,J,H2,e,I2,T,st2,f2,W,⟨m0,w0⟩,turn⟩:=h2;subst e
 -- what stays Ab of the iterator's objects through the loop
 have stat:∀{H':Hp},(∀ b∈fp,H' b=Ad)->∀ b∈fp,Hc X pI H' b:=fun hn b hb=>⟨hn b hb,(f2 b hb).2⟩
 refine codeAny_forLoop_any (fun n s'=>∃ i σ' H',Inv X pI σ' H' s'/\tn i s'.heap/\(∀ b∈fp,H' b=Ad)/\W i n σ' H') ?_ m0 ⟨0,σ,H2,I2,st2,fun b hb=>(f2 b hb).1,w0⟩
 rintro n s3 ⟨i,σ3,H3,I3,st3,fr3,w3⟩;rcases turn i n σ3 H3 w3 with ⟨stop,qn⟩|⟨go,N,hN,step⟩
 ·refine D4 hp (thn (T.done X rfl rfl rfl hc i pI s3 σ3 H3 X.xe I3 (stat fr3) st3 stop) fun r s4 ⟨hr,I4⟩=>?_)
  subst hr;exact EI ⟨σ3,H3,I4,qn⟩
 ·refine D4 hp (thn (T.item X rfl rfl rfl hc i pI s3 σ3 H3 X.xe I3 (stat fr3) st3 go) fun r s4 ⟨u,hr,h4⟩=>?_)
  subst hr;refine D4 hp (thn h4 fun _ s5 ⟨x,H5,I5,r5,y5,st5,fr5⟩=>?_)
  have I5':=I5.pinned (stat fr5) (T.obj _ _ st5);refine D4 hp (thn (hg _ s5 σ3 H5 x u _ I5' r5 (step x H5 y5)) fun _ s6 ⟨σ6,H6,I6,q6⟩=>?_)
  refine D4 hp (thn (hb _ s6 σ6 H6 _ I6 q6) fun f s7 q7=>?_)
  have again:∀{σ7:St}{H7:Hp},Inv X (pI++Kl fp s5.heap) σ7 H7 s7->N σ7 H7->∃ m,m<n/\∃ i σ' H',Inv X pI σ' H' s7/\tn i s7.heap/\(∀ b∈fp,H' b=Ad)/\W i m σ' H':=fun {σ7 H7} I7 n7=>by
   obtain⟨m',hm,w7⟩:=hN σ7 H7 n7;refine⟨m',hm,i+1,σ7,H7,I7.unpinned,T.keep _ _ _ st5 fun b hb o e=>(I7.pin (b,o) (Br _ (Br _ (M3 hb e)))).1,fun b hb=>?_,w7⟩
   obtain⟨o,e,d⟩:=T.obj _ _ st5 b hb;exact(I7.pin (b,o) (Br _ (Br _ (M3 hb e)))).2.1
  cases f with
  |next=>obtain⟨σ7,H7,I7,n7⟩:=q7;exact again I7 n7
  |cont=>obtain⟨σ7,H7,I7,n7⟩:=q7;exact again I7 n7
  |brk=>obtain⟨σ7,H7,I7,q7⟩:=q7;exact⟨σ7,H7,I7.unpinned,q7⟩
  |ret v=>obtain⟨x7,σ7,H7,I7,r7,q7⟩:=q7;exact⟨x7,σ7,H7,I7.unpinned,r7,q7⟩
end
abbrev R2:=V->V->Hp->VK->Prop
variable{r:R2}
noncomputable def OpR(X:Cx)(f:Ak->Ak->Sem Ak)(r:R2):Prop:=
 ∀(pI:Pn)(s:Ar)(σ:St)(H:Hp)(x y:V)(v u:Ak)(Q:VK),Inv X pI σ H s->Bx x v->Bx y u->r x y H Q ->
  Ax (model X.prog X.w) X.A (f v u) (EP X pI σ Q) X.xe s
noncomputable def JN(X:Cx)(f:Ak)(r:Ac V->Hp->VK->Prop):Prop:=
 ∀(pI:Pn)(s:Ar)(σ:St)(H:Hp)(xs:Ac V)(us:Ac Ak)(Q:VK),Inv X pI σ H s->Bc xs us->r xs H Q ->
  Ax (model X.prog X.w) X.A (call f us) (EP X pI σ Q) X.xe s
noncomputable def XB(X:Cx)(r:V->Hp->(Ao->Hp->Prop)->Prop):Prop:=
 ∀(pI:Pn)(s:Ar)(σ:St)(H:Hp)(x:V)(v:Ak)(Q:Ao->Hp->Prop),Inv X pI σ H s->Bx x v->r x H Q ->
  Ax (model X.prog X.w) X.A (truthy v) (TP X pI σ Q) X.xe s
def tOp(r:R2)(ta tb:TE):TE:=fun σ H Q=>ta σ H fun x H1=>tb σ H1 fun y H2=>r x y H2 Q
def rI(C:Af->Af->Prop)(g:Af->Af->V):R2:=fun x y H Q=>∃ i j,x=.int i/\y=.int j/\C i j/\Q (g i j) H
def rI0(g:Af->Af->V):R2:=fun x y H Q=>∃ i j,x=.int i/\y=.int j/\Q (g i j) H
section
variable{X:Cx}{a b c:Ap}{ta tb tc:TE}{pos:AO}
theorem QT(ha:PE X a ta)(hb:PE X b tb){R:V->V->Hp->Prop}(I:Inv X pI σ H s)(h:ta σ H fun x H1=>tb σ H1 fun y H2=>R x y H2){Q:Vq}(hf:∀ v u s2 x y H2,Inv X pI σ H2 s2->Bx x v->Bx y u->R x y H2->Ax (model X.prog X.w) X.A (f v u) Q X.xe s2):Ax (model X.prog X.w) X.A (eval a X.env) (fun v s₁=>Ax (model X.prog X.w) X.A (eval b X.env) (fun u s₂=>Ax (model X.prog X.w) X.A (f v u) Q X.xe s₂) X.xe s₁) X.xe s:=by
 refine thn (ha pI s σ H _ I h) fun v s1 ⟨x,H1,I1,r1,q1⟩=>?_
 refine thn (hb pI s1 σ H1 _ I1 q1) fun u s2 ⟨y,H2,I2,r2,q2⟩=>?_
 exact hf v u s2 x y H2 I2 r1 r2 q2
theorem UM{op:Go}(ho:OpR X (B7 op) r)(ha:PE X a ta)(hb:PE X b tb):PE X (.BinOp a op b pos) (tOp r ta tb):=by
 intro pI s σ H Q I h;exact wpAny_BinOp (QT ha hb I h fun v u s2 x y H2 I2 rx ry q=>ho pI s2 σ H2 x y v u Q I2 rx ry q)
theorem opI{C:Af->Af->Prop}(rule:∀(i j:Af)(t u:CN)(s:Ar)(Q:Vq)(E:Vq),C i j->Q (.int (g i j) s.toks) {s with toks:=s.toks+1}->Ax (model X.prog X.w) X.A (f (.int i t) (.int j u)) Q E s):OpR X f (rI C fun i j=>.int (g i j)):=by
 intro pI s σ H x y v u Q I rx ry h;obtain⟨i,j,rfl,rfl,hc,q⟩:=h;obtain⟨t,rfl⟩:=rx;obtain⟨t',rfl⟩:=ry;exact rule i j t t' s _ _ hc ⟨.int (g i j),H,I.tok _,⟨_,rfl⟩,q⟩
theorem VI(rule:∀(i j:Af)(t u:CN)(s:Ar)(Q:Vq)(E:Vq),Q (.int (g i j) s.toks) {s with toks:=s.toks+1}->Ax (model X.prog X.w) X.A (f (.int i t) (.int j u)) Q E s):OpR X f (rI0 fun i j=>.int (g i j)):=by
 intro pI s σ H x y v u Q I rx ry h;obtain⟨i,j,rfl,rfl,q⟩:=h;obtain⟨t,rfl⟩:=rx;obtain⟨t',rfl⟩:=ry;exact rule i j t t' s _ _ ⟨.int (g i j),H,I.tok _,⟨_,rfl⟩,q⟩
theorem N2{g:Af->Af->Ao}(rule:∀(i j:Af)(t u:CN)(s:Ar)(Q:Vq)(E:Vq),Q (.bool (g i j)) s->Ax (model X.prog X.w) X.A (f (.int i t) (.int j u)) Q E s):OpR X f (rI0 fun i j=>.bl (g i j)):=by
 intro pI s σ H x y v u Q I rx ry h;obtain⟨i,j,rfl,rfl,q⟩:=h;obtain⟨t,rfl⟩:=rx;obtain⟨t',rfl⟩:=ry;exact rule i j t t' s _ _ ⟨.bl (g i j),H,I,rfl,q⟩
def XF(i j:Af):Prop:=0<j/\j<1073741824
def XE(i j:Af):Prop:=0<=j/\j<=1000000/\i.natAbs<2 ^ 64
def N7(i j:Af):Prop:=(-(2 ^ 64)<i/\i<2 ^ 64)\/(-(2 ^ 64)<j/\j<2 ^ 64)
theorem N7.ok{i j:Af}(h:N7 i j):LS i j:=by
 rcases h with ⟨h1,h2⟩|⟨h1,h2⟩
 ·exact .of_left (intBits_le_64 h1 h2)
 ·exact .of_right (intBits_le_64 h1 h2)
theorem mH:OpR X (B7 .Add) (rI0 fun i j=>.int (i+j)):=VI fun _ _ _ _ _ _ _ q=>add_int q
theorem mD:OpR X (B7 .Sub) (rI0 fun i j=>.int (i-j)):=VI fun _ _ _ _ _ _ _ q=>sub_int q
theorem gU:OpR X (B7 .FloorDiv) (rI XF fun i j=>.int (i / j)):=opI fun i j _ _ _ _ _ hc q=>by
 have h1:(0:Af)<j:=hc.1;have h2:j<1073741824:=hc.2;exact floordiv_int (by omega) (by rw[Int.fdiv_eq_ediv_of_nonneg i (by omega)];exact q) (.inl (PyProof.noPylong_small (by omega)))
theorem mF:OpR X (B7 .Mod) (rI (fun _ j=>0<j) fun i j=>.int (i%j)):=opI fun i j _ _ _ _ _ hc q=>by
 have h1:(0:Af)<j:=hc;exact mod_int' (by omega) (by rw[Int.fmod_eq_emod_of_nonneg i (by omega)];exact q)
theorem mE:OpR X (B7 .Pow) (rI XE fun i j=>.int (i ^ j.toNat)):=opI fun _ _ _ _ _ _ _ hc q=>pow_int_small hc.1 hc.2.1 hc.2.2 q
end
section
variable{X:Cx}{a b c:Ap}{ta tb tc:TE}{pos:AO}
theorem Uu{Q:VK}{k k':Ao}(I:Inv X pI σ H s)(q:Q (.bl k) H)(e:k=k'):EP X pI σ Q (.bool k') s:=by
 subst e;exact⟨.bl k,H,I,rfl,q⟩
theorem sE:OpR X (Cm .Lt) (rI0 fun i j=>.bl (decide (i<j))):=N2 fun _ _ _ _ _ _ _ q=>lt_int q
theorem sF:OpR X (Cm .LtE) (rI0 fun i j=>.bl (decide (i<=j))):=N2 fun _ _ _ _ _ _ _ q=>le_int q
theorem sG:OpR X (Cm .Gt) (rI0 fun i j=>.bl (decide (j<i))):=N2 fun _ _ _ _ _ _ _ q=>gt_int q
theorem sH:OpR X (Cm .GtE) (rI0 fun i j=>.bl (decide (j<=i))):=N2 fun _ _ _ _ _ _ _ q=>ge_int q
theorem mG:OpR X (Cm .Is) (fun x y H Q=>y=.non/\Q (.bl (decide (x=.non))) H):=by
 intro pI s σ H x y v u Q I rx ry h;obtain⟨rfl,q⟩:=h;cases ry;refine is_none_gen (Uu I q ?_);cases x<;>first
  |(cases rx;rfl)
  |(obtain⟨t,rfl⟩:=rx;rfl)
theorem gR:OpR X (Cm .IsNot) (fun x y H Q=>y=.non/\Q (.bl (!decide (x=.non))) H):=by
 intro pI s σ H x y v u Q I rx ry h;obtain⟨rfl,q⟩:=h;cases ry;refine isnot_none_gen (Uu I q ?_);cases x<;>first
  |(cases rx;rfl)
  |(obtain⟨t,rfl⟩:=rx;rfl)
theorem gB(ho:OpR X (Cm op) r)(ha:PE X a ta)(hb:PE X b tb)(hm:Ho op b=Ae):PE X (.Compare a [op] [b] pos) (tOp r ta tb):=by
 intro pI s σ H Q I h;exact wpAny_Compare1 (QT ha hb I h fun v u s2 x y H2 I2 rx ry q=>ho pI s2 σ H2 x y v u Q I2 rx ry q) hm
def UF(t:TE):TT:=fun σ H Q=>t σ H fun x H'=>∃ k,x=.bl k/\Q k H'
theorem cQ(ho:OpR X (Cm op) r)(ha:PE X a ta)(hb:PE X b tb)(hm:Ho op b=Ae):PT X (.Compare a [op] [b] pos) (UF (tOp r ta tb)):=by
 intro pI s σ H Q I h;refine wpAny_isTrue_Compare1 (thn (ha pI s σ H _ I h) fun v s1 ⟨x,H1,I1,r1,q1⟩=>thn (hb pI s1 σ H1 _ I1 q1) fun u s2 ⟨y,H2,I2,r2,q2⟩=>
  thn (ho pI s2 σ H2 x y v u _ I2 r1 r2 q2) fun c s3 ⟨z,H3,I3,r3,k,e,q3⟩=>?_) hm
 subst e;cases r3;exact C2 ⟨H3,I3,q3⟩
def T9(r r':R2)(ta tb tc:TE):TE:=fun σ H Q=>ta σ H fun x H1=>tb σ H1 fun y H2=>r x y H2 fun z H3=>∃ k,z=.bl k /\
 (if k=Ab then tc σ H3 fun w' H4=>r' y w' H4 Q else Q (.bl Ae) H3)
theorem Zz{op':EF}{r':R2}(ho:OpR X (Cm op) r)(ho':OpR X (Cm op') r')(ha:PE X a ta)(hb:PE X b tb)(hc:PE X c tc)(hm:Jy [op,op'] [b,c]=Ae:=by with_unfolding_all rfl):PE X (.Compare a [op,op'] [b,c] pos) (T9 r r' ta tb tc):=by
 intro pI s σ H Q I h;refine Compare_chain (thn (ha pI s σ H _ I h) fun v s1 ⟨x,H1,I1,r1,q1⟩=>chain_link (thn (hb pI s1 σ H1 _ I1 q1) fun u s2 ⟨y,H2,I2,r2,q2⟩=>
  thn (ho pI s2 σ H2 x y v u _ I2 r1 r2 q2) fun d s3 ⟨z,H3,I3,r3,k,e,q3⟩=>?_)) hm
 subst e;cases r3;refine C2 ?_;cases k with
 |false=>exact ite_ff ⟨.bl Ae,H3,I3,rfl,q3⟩
 |true=>exact ite_tt (chain_last (thn (hc pI s3 σ H3 _ I3 q3) fun w' s4 ⟨z',H4,I4,r4,q4⟩=>ho' pI s4 σ H4 y z' u w' Q I4 r2 r4 q4))
theorem Zt{op':EF}{r':R2}(ho:OpR X (Cm op) r)(ho':OpR X (Cm op') r')(ha:PE X a ta)(hb:PE X b tb)(hc:PE X c tc)(hm:Jy [op,op'] [b,c]=Ae:=by with_unfolding_all rfl):PT X (.Compare a [op,op'] [b,c] pos) (UF (T9 r r' ta tb tc)):=by
 intro pI s σ H Q I h;refine isTrue_chain (thn (ha pI s σ H _ I h) fun v s1 ⟨x,H1,I1,r1,q1⟩=>test_link (thn (hb pI s1 σ H1 _ I1 q1) fun u s2 ⟨y,H2,I2,r2,q2⟩=>
  thn (ho pI s2 σ H2 x y v u _ I2 r1 r2 q2) fun d s3 ⟨z,H3,I3,r3,k,e,q3⟩=>?_)) hm
 subst e;cases r3;refine C2 ?_;cases k with
 |false=>
  obtain⟨k',e',q'⟩:=q3;cases e';exact ite_ff ⟨H3,I3,q'⟩
 |true=>
  refine ite_tt (test_last (thn (hc pI s3 σ H3 _ I3 q3) fun w' s4 ⟨z',H4,I4,r4,q4⟩=>thn (ho' pI s4 σ H4 y z' u w' _ I4 r2 r4 q4) fun d' s5 ⟨z2,H5,I5,r5,k2,e2,q5⟩=>?_))
  subst e2;cases r5;exact C2 ⟨H5,I5,q5⟩
noncomputable def VC(K:Fg)(x:V)(H:Hp)(k:Ao):Prop:=
  match x with
  |.non=>k=Ae
  |.bl b=>k=b
  |.int i=>k=(i != 0)
  |.str y=>y.length<=sizeLine/\k=((y.length:Af) != 0)
  |.byt y=>y.size<=sizeLine/\k=((y.size:Af) != 0)
  |.ref p=>(∃ xs,SqL K H p xs/\k=!xs.isEmpty)\/(∃ xs,SqT K H p xs/\k=!xs.isEmpty)\/∃ kvs,H p=Aa (.dK kvs)/\k=!kvs.isEmpty
  |_=>AW
theorem YH{κ:Type}{kvs:Ac (κ×V)}{vs:Ac (κ×Ak)}(r:KV kvs vs):(!vs.isEmpty)=!kvs.isEmpty:=by
 cases r<;>rfl
theorem Q6{its:Ac Ak}(r:Bc xs its):(!its.toArray.isEmpty)=!xs.isEmpty:=by
 cases r<;>simp
theorem JI:(sizeLine:Ag)<2 ^ 63:=by rw[DT];decide
theorem kA:XB X (fun x H Q=>∃ k,VC X.K x H k/\Q k H):=by
 intro pI s σ H x v Q I rx h;obtain⟨k,e,q⟩:=h;have hl:=JI;have hs:sizeLine=16777216:=DT;cases x with
 |non=>
  cases rx;have e':k=Ae:=e;subst e';exact truthy_none ⟨H,I,q⟩
 |bl b=>
  cases rx;have e':k=b:=e;subst e';exact C2 ⟨H,I,q⟩
 |int i=>
  obtain⟨t,rfl⟩:=rx;have e':k=(i != 0):=e;subst e';exact PySem.P.truthy_int ⟨H,I,q⟩
 |str y=>
  obtain⟨t,rfl⟩:=rx;obtain⟨hy,e'⟩:y.length<=sizeLine/\k=((y.length:Af) != 0):=e;subst e';exact PySem.P.truthy_str (by omega) ⟨H,I.tok _,q⟩
 |byt y=>
  obtain⟨t,rfl⟩:=rx;obtain⟨hy,e'⟩:y.size<=sizeLine/\k=((y.size:Af) != 0):=e;subst e';exact PySem.W.truthy_bytes (by omega) ⟨H,I.tok _,q⟩
 |ref p=>
  cases rx;have e':(∃ xs,SqL X.K H p xs/\k=!xs.isEmpty)\/(∃ xs,SqT X.K H p xs/\k=!xs.isEmpty)\/∃ kvs,H p=Aa (.dK kvs)/\k=!kvs.isEmpty:=e;rcases e' with ⟨xs,hx,e'⟩|⟨xs,hx,e'⟩|⟨kvs,hx,e'⟩
  ·subst e';obtain⟨its,r,pl,hz⟩:=I.list hx;have hlen:=r.length;exact wpAny_truthy_list pl.isList (by simp only[AM];omega) ⟨H,I.tok _,by rw[Q6 r];exact q⟩
  ·subst e';obtain⟨its,r,pl,hz⟩:=I.tuple hx;have hlen:=r.length;exact truthy_tuple pl (by simp only[AM];omega) ⟨H,I.tok _,by rw[Q6 r];exact q⟩
  ·subst e';obtain⟨hz,hS,vs,r,m⟩:kvs.length<=sizeLine/\(p==Ef)=Ae/\∃ vs,KV kvs vs/\s.heap.DictOf (Ps X.prog X.w) p vs:=I.hok p _ hx;have hlen:kvs.length=vs.length:=W5 r;exact wpAny_truthy_dict hS m (by omega) ⟨H,I.tok _,by rw[YH r];exact q⟩
 |_=>exact(show AW from e).elim
theorem Zs(ha:PE X a ta)(he:∀ whole,IL a X.env whole=(do let v <-whole;IQ a.pos;holding [v] (truthy v))):PT X a (fun σ H Q=>ta σ H fun x H'=>∃ k,VC X.K x H' k/\Q k H'):=by
 intro pI s σ H Q I h;exact isTrue_plain (thn (ha pI s σ H _ I h) fun v s1 ⟨x,H1,I1,r1,q1⟩=>kA pI s1 σ H1 x v Q I1 r1 q1) (he _)
theorem YC:OpR X (B7 .Add) (fun x y H Q=>∃ i j,x=.str i/\y=.str j/\i.length+j.length<=sizeLine/\Q (.str (i++j)) H):=by
 intro pI s σ H x y v u Q I rx ry h;obtain⟨i,j,rfl,rfl,hz,q⟩:=h;obtain⟨t,rfl⟩:=rx;obtain⟨t',rfl⟩:=ry;exact add_str (fun t' tk=>⟨.str (i++j),H,I.tok _,⟨_,rfl⟩,q⟩) hz
theorem ME{x:V}(r:Bc [x] us):∃ u,us=[u]/\Bx x u:=by
 cases r with
 |cons r1 r2=>cases r2;exact⟨_,rfl,r1⟩
theorem MD{x y:V}(r:Bc [x,y] us):∃ u w',us=[u,w']/\Bx x u/\Bx y w':=by
 cases r with
 |cons r1 r2=>
  cases r2 with
  |cons r3 r4=>cases r4;exact⟨_,_,rfl,r1,r3⟩
end
section
variable{prog:AS}{w:AB}{A:AY}{E:Vq}{s:Ar}{K:Fg}{x dx C f:Ah}{mA:Ai->An Ak}{name:Ai}{v:Ak}
end
theorem MN.some_of{o:An Ak}(r:MN (Aa v) o):∃ u,o=Aa u/\Bx v u:=by
 cases o with
 |none=>exact(show AW from r).elim
 |some u=>exact⟨u,rfl,r⟩
theorem Zd(r:Bx v u):PySem.W.handedIn u=Ab:=by
 cases v with
 |non=>cases (show u=DC from r);rfl
 |bl b=>cases (show u=Ky b from r);rfl
 |int i=>obtain⟨t,e⟩:=(show ∃ t,u=LK i t from r);cases e;rfl
 |str x=>obtain⟨t,e⟩:=(show ∃ t,u=LO x t from r);cases e;rfl
 |byt b=>obtain⟨t,e⟩:=(show ∃ t,u=Xb b t from r);cases e;rfl
 |flt b=>obtain⟨t,e⟩:=(show ∃ t,u=Xc b t from r);cases e;rfl
 |ref a=>cases (show u=Ck a from r);rfl
 |ty n=>cases (show u=Kz n from r);rfl
section
variable{P:AS}{w:AB}{H H':Hp}{h h':AF}{a C dx:Ah}{fs fs':Ac (Ai×V)}
end
section
variable{X:Cx}{pI:Pn}{σ:St}{H:Hp}{s:Ar}{a C dx:Ah}{fs:Ac (Ai×V)}{f:Ai}{v:V}{A:AY}{E:Vq}
theorem iO{prog:AS}{w:AB}{env:Cd}{f:Ai}{Q:Vq}(hb:Dk e f env (eval e env)=eval e env)(h:Ax (model prog w) A (eval e env) (fun o s₁=>Ax (model prog w) A (getAttr o f Ab) Q E s₁) E s):Ax (model prog w) A (eval (.Attribute e f pos) env) Q E s:=
 Attribute_any_ h (by rw[arm_eval_Attribute,hb])
end
section
variable{X:Cx}{o e value:Ap}{f:Ai}{pos pos' tpos:AO}{ta tv:TE}
end
section
variable{X:Cx}{pI:Pn}{σ:St}{H:Hp}{s:Ar}{A:AY}{E:Vq}{Q:Vq}{c:Ak}{b:Ao}
end
structure Room (k:Ag) (A:AY):Prop where
 hd:A.handled=Ad
 dp:A.depth+3*k+5<G2
 un:A.units+16*k+200<BD
 gd:A.guards=Aa []
theorem Room.mono{j:Ag}{A:AY}(r:Room k A)(h:j<=k):Room j A:=⟨r.hd,by have:=r.dp;omega,by have:=r.un;omega,r.gd⟩
theorem Room.deeper{A:AY}(r:Room (k+1) A)(env:Cd):Room k (A.deeper env):=
 ⟨r.hd,by have:=r.dp;show A.depth+1+3*k+5<_;omega,by have:=r.un;show A.units+3+16*k+200<_;omega,r.gd⟩
theorem YF{A:AY}{C:Ah}:(A.under (.builtin "type.__call__" ⟨.ref C::us,kw⟩)).depth=A.depth+1:=by
 first|rfl|simp[Jq,Code.weight,Code.isCreation,Code.isGuard,Code.isCaller,WJ,Jr,guardIds]
theorem YE{A:AY}{C:Ah}:(A.under (.builtin "type.__call__" ⟨.ref C::us,kw⟩)).units=A.units+1:=by
 first|rfl|simp[Jq,Code.cUnits,WJ,Jr]
theorem Room.depth{A:AY}(r:Room k A):A.depth<G2:=by have:=r.dp;omega
theorem Room.units{A:AY}(r:Room k A):A.units+64<BD:=by have:=r.un;omega
def X3:TA:=fun _ H Q=>Q [] H
def rA(ta:TE)(tr:TA):TA:=fun σ H Q=>ta σ H fun x H1=>tr σ H1 fun xs H2=>Q (x::xs) H2
section
variable{X:Cx}{e:Ap}{es:Ac Ap}{te:TE}{t:TA}{pos:AO}
theorem Ft:PA X [] X3:=fun _ _ _ _ H Q I h=>Calls.spliced_nil ⟨[],H,I,.nil,h⟩
theorem DH(ha:PE X e te)(hr:PA X es t)(hs:As (e::es) X.env=(Ae,eval e X.env)::As es X.env:=by rfl):PA X (e::es) (rA te t):=by
 intro pos pI s σ H Q I h;rw[hs];show Ax _ _ (spliced ((Ae,eval e X.env)::Bz pos (As es X.env))) _ _ s;refine Calls.spliced_cons (thn (ha pI s σ H _ I h) fun u s1 ⟨x,H1,I1,r1,q1⟩=>?_)
 exact thn (hr pos pI s1 σ H1 _ I1 q1) fun us s2 ⟨xs,H2,I2,r2,q2⟩=>⟨x::xs,H2,I2,.cons r1 r2,q2⟩
def uU(t:TA):TE:=fun σ H Q=>t σ H fun xs H1=>xs.length<=sizeLine/\∀ p,H1 p=Ad->Q (.ref p) (upd H1 p (.tup xs))
def X4(t:TA):TE:=fun σ H Q=>t σ H fun xs H1=>xs.length<=sizeLine/\∀ p,H1 p=Ad->Q (.ref p) (upd H1 p (.lst xs))
theorem Uj{x1}(h:PA X es t):PE X (.Tuple es x1 pos) (uU t):=by
 intro pI s σ H Q I hq;refine wpAny_Tuple_spliced (thn (h pos pI s σ H _ I hq) fun us s1 ⟨xs,H1,I1,r,z,q⟩=>⟨by rw[<-r.length];exact z,?_⟩)
 have hf:H1 s1.heap.objs.size=Ad:=I1.hok.fresh (AU _);refine⟨.ref s1.heap.objs.size,upd H1 s1.heap.objs.size (.tup xs),I1.laid (t':=s1.toks) (fun b u e=>Au _ e) (AU _) ?_,rfl,q _ hf⟩
 exact⟨z,us,r,⟨_,AV _ rfl,rfl,_,rfl⟩⟩
theorem lX(h:PA X es t):PE X (.List es pos) (X4 t):=by
 intro pI s σ H Q I hq;refine wpAny_List_spliced (thn (h pos pI s σ H _ I hq) fun us s1 ⟨xs,H1,I1,r,z,q⟩=>⟨by rw[<-r.length];exact z,?_⟩)
 have hf:H1 s1.heap.objs.size=Ad:=I1.hok.fresh (AU _);refine⟨.ref s1.heap.objs.size,upd H1 s1.heap.objs.size (.lst xs),I1.laid (t':=s1.toks) (fun b u e=>Au _ e) (AU _) ?_,rfl,q _ hf⟩
 exact⟨z,us,0,r,AV _ rfl⟩
end
abbrev Sp:=Ac V->Hp->VK->XK->Prop
variable{sp:Sp}
abbrev CXT:=Ac Cd->Hp->Ar->XK->Ak->Ar->Prop
variable{CX:CXT}
structure Env0 (P:AS) (w:AB) (K:Fg) (mg:Ai->An Ak) (base:AF) (A:AY) (outer:Ac Cd) (s:Ar) (H:Hp):Prop where
 frames:A.frames=Aa outer
 mod:Mod K mg base
 bs:∀ b o,base.get? b=Aa o->s.heap.get? b=Aa o/\H b=Ad
 bsz:base.objs.size<=s.heap.objs.size
 funs:s.heap.FunFrames base outer
 frf:∀ b∈frs outer,H b=Ad
 hok:HOk P w H s.heap
 bare:FT s.gens
noncomputable def CE(outer:Ac Cd)(P:AS)(w:AB)(H:Hp)(s:Ar)(Q:VK)(u:Ak)(s':Ar):Prop:=
 ∃ v H',s'.os=s.os/\FT s'.gens/\Un (frs outer) [] H H' s.heap s'.heap/\HOk P w H' s'.heap/\Bx v u/\Q v H'
noncomputable def CR(CX:CXT)(outer:Ac Cd)(P:AS)(w:AB)(H:Hp)(s:Ar)(Q:VK)(E:XK)(r:Js)(s':Ar):Prop:=
  match r with
  |.ok (.ret u)=>CE outer P w H s Q u s'
  |.ok _=>AW
  |.error e=>CX outer H s E e s'
structure FnOk (P:AS) (w:AB) (K:Fg) (mg:Ai->An Ak) (base:AF) (CX:CXT) (k:Ag) (f:Ah) (fd:BV) (ps:Ac Ai) (sp:Sp):Prop where
 len:∀ vs H Q E,sp vs H Q E->vs.length=ps.length
 run:∀(A:AY)(outer:Ac Cd)(s:Ar)(H:Hp)(args:Args)(us:Ac Ak)(vs:Ac V)(Q:VK)(E:XK),Room k A->Env0 P w K mg base A outer s H->Gz s fd args (ps.zip us)->Bc vs us->sp vs H Q E ->
  FU (model P w) A (.call (.ref f) args) (CR CX outer P w H s Q E) s
theorem FnOk.imp{w:AB}{K:Fg}{mg:Ai->An Ak}{base:AF}{f:Ah}{sp':Sp}(F:FnOk P w K mg base CX k f fd ps sp)(h:∀ vs H Q E,sp' vs H Q E->sp vs H Q E):FnOk P w K mg base CX k f fd ps sp':=
 ⟨fun vs H Q E q=>F.len vs H Q E (h _ _ _ _ q),fun A outer s H args us vs Q E hr he hb hv hs=>F.run A outer s H args us vs Q E hr he hb hv (h _ _ _ _ hs)⟩
theorem Env0.make{w:AB}{K:Fg}{mg:Ai->An Ak}{base:AF}{A:AY}{outer:Ac Cd}(e:Env0 P w K mg base A outer s H)(C:Ah)(us:Ac Ak)(kw:Ac (Ai×Ak)):
    Env0 P w K mg base (A.under (.builtin "type.__call__" ⟨.ref C::us,kw⟩)) outer s H:=⟨by first|exact e.frames|(simpa [Jq,Code.envs,Jr,pushEnvs] using e.frames),e.mod,e.bs,e.bsz,e.funs,e.frf,e.hok,e.bare⟩
section
variable{X:Cx}{pI:Pn}{σ:St}{H:Hp}{s s':Ar}
theorem Inv.env0(I:Inv X pI σ H s):Env0 X.prog X.w X.K X.mg X.base X.A X.stack s H:=
 ⟨I.ok.frames,I.ok.mod,I.bs,BU I.ok.bsz I.sz,I.stack,I.stkFree,I.hok,I.bare⟩
theorem Inv.after{Q:VK}(I:Inv X pI σ H s)(h:CE X.stack X.prog X.w H s Q u s'):EP X pI σ Q u s':=by
 obtain⟨v,H',os,bare,un,hok,r,q⟩:=h;obtain⟨hh,g,d,t,os'⟩:=s';obtain rfl:os'=s.os:=os;exact⟨v,H',I.call (h':=hh) (g':=g) (d':=d) (t':=t) (ch:=[]) un hok bare (fun b z=>absurd z (by simp)),r,q⟩
end
def rB(sp:Sp)(dvs:Ac V)(E:XK)(t:TA):TE:=fun σ H Q=>t σ H fun vs H1=>sp (vs++dvs) H1 Q E
noncomputable def F6(K:Fg)(fd:BV)(ps:Ac Ai)(ds:Ac Ak):Prop:=
 ∀(s:Ar)(us:Ac Ak),K.In s.heap->(us++ds).length=ps.length->Gz s fd ⟨us,[]⟩ (ps.zip (us++ds))
theorem F6.all{K:Fg}(h:∀ us:Ac Ak,us.length=ps.length->JW fd ⟨us,[]⟩=pure (ps.zip us)):F6 K fd ps []:=fun s us _ hl=>by
 rw[Ca]at hl ⊢;exact .of_eq (h us hl)
def Lm(CX:CXT)(X:Cx)(E:XK):Prop:=∀(pI:Pn)(σ:St)(H:Hp)(s:Ar)(e:Ak)(s':Ar),Inv X pI σ H s->CX X.stack H s E e s'->X.xe e s'
section
variable{X:Cx}{CX:CXT}{k:Ag}{f C:Ah}{fd:BV}{ps:Ac Ai}{sp:Sp}{dvs:Ac V}{ds:Ac Ak}{E:XK}{x m:Ai}{p pos apos:AO}{e o:Ap}{es:Ac Ap}{ta:TE}{t:TA}
theorem mX{Q:VK}(F:FnOk X.prog X.w X.K X.mg X.base CX k f fd ps sp)(hr:Room k X.A)(hb:F6 X.K fd ps ds)(hd:Bc dvs ds)(hx:Lm CX X E)(I:Inv X pI σ H s)(r:Bc vs us)(h:sp (vs++dvs) H Q E):Ax (model X.prog X.w) X.A (call (.ref f) us) (EP X pI σ Q) X.xe s:=by
 have r2:Bc (vs++dvs) (us++ds):=r.append hd;have hl:(us++ds).length=ps.length:=by rw[<-r2.length];exact F.len _ _ _ _ h
 refine GQ (FK (F.run X.A X.stack s H ⟨us,[]⟩ (us++ds) (vs++dvs) Q E hr I.env0 (hb s us I.kIn hl) r2 h) fun r s' hq=>?_)
 cases r with
 |error e=>exact hx pI σ H s e s' I hq
 |ok fl=>
  cases fl with
  |ret u=>exact I.after hq
  |next=>exact Bi hq
  |brk=>exact Bi hq
  |cont=>exact Bi hq
theorem Tn(F:FnOk X.prog X.w X.K X.mg X.base CX k f fd ps sp)(hr:Room k X.A)(hg:Gl X x)(hm:X.mg x=Aa (.ref f))(hk:B8 X.K (.ref f)=Ab)(hb:F6 X.K fd ps ds)(hd:Bc dvs ds)(hx:Lm CX X E)(ha:PA X (e::es) t)(hdb:(x==("__debug__" : Ai))=Ae:=by decide)(he:As (e::es) X.env=(Ae,eval e X.env)::As es X.env:=by rfl)(hpl:(Bz pos (As es X.env)).any (·.1)=Ae:=by rfl):PE X (.Call (.Name x p) (e::es) [] pos) (rB sp dvs E t):=by
 intro pI s σ H Q I h;refine EH (JC I hg hm ?_ hdb);refine Hj (h₀:=X.base) I.ok.mod.kin hk (thn (ha pos pI s σ H _ I h) fun us s1 ⟨vs,H1,I1,r,q⟩=>⟨I1.kIn,?_⟩) he hpl
 exact mX F hr hb hd hx I1 r q
end
section
variable{X:Cx}{CX:CXT}{k:Ag}{f C:Ah}{fd:BV}{ps ks:Ac Ai}{sp:Sp}{E:XK}{x m:Ai}{p pos apos kpos:AO}{e o:Ap}{es:Ac Ap}{kws:Ac C9}{te ta:TE}{t tk:TA}{nm:An Ai}
variable{g:Ac Ak->Ac Ak->Ac Ak}{gV:Ac V->Ac V->Ac V}
end
structure FnScope (N P:Ac Ai) (sc:Co):Prop where
 kind:sc.kind=.function
 co:sc.isCoroutine=Ae
 gen:sc.isGenerator=Ae
 nd:N.Nodup
 pre:N.take P.length=P
 par:∀ x∈P,sc.names.lookup x=Aa .local\/sc.names.lookup x=Aa .cell
 nofree:∀ y∈sc.names,y.2≠.free
theorem RO{kindOf:Ai->An Ep}{x:Ai}:∀{binds:Ac (Ai×Ak)}{m:Ai->An Ak},(∀ v,(x,v)∉binds)->IS kindOf binds m x=m x
 |[],_,_=>rfl
 |(n,v)::r,m,h=>by
  unfold IS;rw[RO fun w hw=>h w (AA _ hw)]
  split
  ·have:x≠n:=by rintro rfl;exact h v AE
   simp[this]
  ·rfl
theorem RQ{kindOf:Ai->An Ep}{x:Ai}:∀{binds:Ac (Ai×Ak)}{m:Ai->An Ak},(∀ v,(x,v)∉binds)->IR kindOf binds m x=m x
 |[],_,_=>rfl
 |(n,v)::r,m,h=>by
  unfold IR;rw[RQ fun w hw=>h w (AA _ hw)]
  split
  ·rfl
  ·have:x≠n:=by rintro rfl;exact h v AE
   simp[this]
theorem RP{kindOf:Ai->An Ep}{x:Ai}{v:Ak}:∀{P:Ac Ai}{vs:Ac Ak}{i:Ag}{m:Ai->An Ak},P.Nodup->P[i]?=Aa x->vs[i]?=Aa v->kindOf x=Aa .local->IS kindOf (P.zip vs) m x=Aa v
 |[],_,_,_,_,h,_,_=>by simp at h
 |_::_,[],_,_,_,_,h,_=>by simp at h
 |p::P,w::vs,0,m,nd,h1,h2,hk=>by
  simp at h1 h2;subst h1;subst h2;show IS kindOf ((p,w)::P.zip vs) m p=_;unfold IS;rw[RO fun v hv=>(Cu.mp nd).1 (GI hv).1,AG hk]
  simp
 |p::P,w::vs,i+1,m,nd,h1,h2,hk=>by
  show IS kindOf ((p,w)::P.zip vs) m x=_;unfold IS;exact RP (i:=i) (Cu.mp nd).2 (by simpa using h1) (by simpa using h2) hk
theorem RS{kindOf:Ai->An Ep}{x:Ai}{v:Ak}:∀{P:Ac Ai}{vs:Ac Ak}{i:Ag}{m:Ai->An Ak},P.Nodup->P[i]?=Aa x->vs[i]?=Aa v->kindOf x≠Aa .local->IR kindOf (P.zip vs) m x=Aa v
 |[],_,_,_,_,h,_,_=>by simp at h
 |_::_,[],_,_,_,_,h,_=>by simp at h
 |p::P,w::vs,0,m,nd,h1,h2,hk=>by
  simp at h1 h2;subst h1;subst h2;show IR kindOf ((p,w)::P.zip vs) m p=_;unfold IR;rw[RQ fun v hv=>(Cu.mp nd).1 (GI hv).1,AI hk]
  simp
 |p::P,w::vs,i+1,m,nd,h1,h2,hk=>by
  show IR kindOf ((p,w)::P.zip vs) m x=_;unfold IR;exact RS (i:=i) (Cu.mp nd).2 (by simpa using h1) (by simpa using h2) hk
noncomputable def start(N:Ac Ai)(vs:Ac V):St:=vs.map Aa++G0 (N.length-vs.length) Ad
noncomputable def E6(CX:CXT)(P:AS)(w:AB)(K:Fg)(mg:Ai->An Ak)(base:AF)(N:Ac Ai)(qual:Ai)(scope:Co)(f:Ah)(cd:Ak)(A:AY)(outer:Ac Cd)(s:Ar)(H:Hp)(E:XK):Cx where
 prog:=P
 w:=w
 K:=K
 mg:=mg
 base:=base
 A:=A.deeper (EX qual scope s.heap.objs.size f cd)
 N:=N
 s₀:=s
 H₀:=H
 env:=EX qual scope s.heap.objs.size f cd
 outer:=outer
 stack:=EX qual scope s.heap.objs.size f cd::outer
 ex:=[]
 calm:=Ab
 fn:=fun _=>Ab
 pn:=[]
 xe:=fun e s'=>Ax (model P w) (A.deeper (EX qual scope s.heap.objs.size f cd)) (leaving (EX qual scope s.heap.objs.size f cd) e) (fun _ s''=>CX outer H s E e s'') (fun e' s''=>CX outer H s E e' s'') s'
theorem R5{sc:Co}(h:sc.names.lookup x=Aa .cell):∃ c,(CQ n sc.names []).lookup x=Aa c:=by
 have q:=Gg sc.names n [] (.inl h);exact En.mp q
theorem OU{w:AB}{K:Fg}{mg:Ai->An Ak}{base:AF}{N ps:Ac Ai}{f:Ah}{cd:Ak}{A:AY}{outer:Ac Cd}{s1:Ar}{E:XK}(S:FnScope N ps scope)(hd:A.handled=Ad)(e0:Env0 P w K mg base A outer s H)(hl:vs.length=ps.length)(r:Bc vs us)(x:InCallC s s.heap.objs.size (IS (EX qual scope s.heap.objs.size f cd).kindOf (ps.zip us) fun _=>Ad) (CQ (s.heap.objs.size+1) scope.names []) (IR (EX qual scope s.heap.objs.size f cd).kindOf (ps.zip us) fun _=>Ad) s1):Inv (E6 CX P w K mg base N qual scope f cd A outer s H E) [] (start N vs) H s1:=by
 have hpl:ps.length<=N.length:=by have:=congrArg List.length S.pre;rw[Em]at this;omega
 obtain⟨h1,tk,rfl,hk⟩:=x.done;have noA:∀ b:Ah,b∉(E6 CX P w K mg base N qual scope f cd A outer s H E).ex:=fun b z=>absurd (show b∈([]:Ac Ah) from z) (by simp)
 refine⟨⟨e0.mod,S.kind,rfl,rfl,AU _,fun y z c h1 h2=>?_,fun y hy=>?_,fun y c _ h=>?_,fun _=>hd,Around.frames_deeper e0.frames,.inr ⟨rfl,rfl⟩,fun b z=>absurd z (noA b),e0.bs,e0.bsz,fun b _ _=>noA b,fun b z=>absurd z (noA b),e0.funs,e0.frf⟩,
  rfl,e0.bare,Un.kept hk,⟨_,x.toInCall.ns,fun i y v h1 h2 h3=>?_⟩,fun y c h=>⟨_,x.cell y c h⟩,e0.hok.fresh (AU _),fun y c h=>?_,fun p hp=>absurd (show p∈([]:Pn) from hp) (by simp),e0.hok.kept hk,?_⟩
 ·exact name_of_addr x.apart (CF h1) (CF h2)
 ·have hy:scope.names.lookup y=Aa .cell\/scope.names.lookup y=Aa .free:=hy;rcases hy with hy|hy
  ·exact R5 hy
  ·exact absurd rfl (S.nofree _ (CF hy))
 ·exact GJ (x.above y c (CF h))
 ·have hi:i<vs.length:=by
   unfold start at h2;by_cases hi:i<vs.length
   ·exact hi
   ·rw[We (by simpa using hi)]at h2
    rw[Wh]at h2;split at h2<;>cases h2
  have ha:vs[i]?=Aa v:=by
   unfold start at h2;rw[Fx (by simpa using hi),Eb]at h2
   cases e:vs[i]? with
   |none=>rw[e]at h2;cases h2
   |some a=>rw[e]at h2;cases h2;rfl
  obtain⟨u,hu,rv⟩:=r.get ha;have hp:ps[i]?=Aa y:=by
   rw[<-S.pre,List.getElem?_take_of_lt (by omega)];exact h1
  have ndP:ps.Nodup:=by rw[<-S.pre];exact S.nd.sublist (Wq _ _)
  refine⟨u,rv,?_⟩;rcases S.par y (Wm hp) with k|k
  ·exact .inl ⟨k,RP ndP hp hu k⟩
  ·obtain⟨c,e⟩:=R5 (n:=s.heap.objs.size+1) k;refine .inr ⟨.inl k,c,e,?_⟩;have q:=x.cell y c e;rw[RS ndP hp hu (by show scope.names.lookup y≠_;rw[k];decide)]at q
   exact q
 ·exact e0.hok.fresh (GJ (x.above y c (CF h)))
 ·unfold start;show _=N.length;rw[Bu,Bm,Wj];omega
theorem US{w:AB}{K:Fg}{mg:Ai->An Ak}{base:AF}{f:Ah}{name:Ai}{params:LI}{dV kV doc pm cdv ct oc:Ak}{an od:An Ah}{osl:Bj (An Ak)}{N ps:Ac Ai}(lk:K.lookup f=Aa ⟨oc,od,.func (CO name qual params body scope dV kV doc pm an cdv ct),osl⟩)(hcd:E2 K cdv qual=Ab)(S:FnScope N ps scope)(len:∀ vs H Q E,sp vs H Q E->vs.length=ps.length)(hbody:∀(A:AY)(outer:Ac Cd)(s:Ar)(H:Hp)(vs:Ac V)(Q:VK)(E:XK),Room k (A.deeper (EX qual scope s.heap.objs.size f cdv))->sp vs H Q E ->
   ∃ t,PSs (E6 CX P w K mg base N qual scope f cdv A outer s H E) body t/\t {nx:=fun _ H'=>Q .non H',rt:=Q} (start N vs) H):FnOk P w K mg base CX (k+1) f (CO name qual params body scope dV kV doc pm an cdv ct) ps sp:=by
 refine⟨len,fun A outer s H args us vs Q E hr e0 hb r hsp=>?_⟩
 have hl:=len _ _ _ _ hsp;have KX:K.In s.heap:=e0.mod.kin.keeps fun b o e=>(e0.bs b o e).1
 have lim:s.heap.NoLimit:=e0.mod.nolimit.keeps fun b o e=>(e0.bs b o e).1
 have hkind:∀ y∈ps.zip us,scope.names.lookup y.1=Aa .local\/(scope.names.lookup y.1=Aa .cell/\((CQ (s.heap.objs.size+1) scope.names []).lookup y.1).isSome=Ab):=fun ⟨n,v⟩ hy=>by
  rcases S.par n (GI hy).1 with q|q
  ·exact .inl q
  ·exact .inr ⟨q,Gg _ _ _ (.inl q)⟩
 refine GA hr.depth (KX _ _ lk) rfl S.co S.gen rfl (Hk KX hcd) (hb _ _ _ _ ?_);refine Fk S.kind hkind fun env he s1 x=>?_
 subst he;refine⟨lim.keeps x.toInCall.keep,Jw ?_⟩;obtain⟨t,ht,hq⟩:=hbody A outer s H vs Q E (hr.deeper _) hsp;have I:Inv (E6 CX P w K mg base N qual scope f cdv A outer s H E) [] (start N vs) H s1:=OU S hr.hd e0 hl r x;refine Bl (ht [] s1 (start N vs) H _ I hq) (fun fl s' hs=>?_) fun e s' hs=>hs
 have fin:∀{σ':St}{H':Hp}{v:V}{u:Ak},Inv (E6 CX P w K mg base N qual scope f cdv A outer s H E) [] σ' H' s'->Bx v u->Q v H'->CE outer P w H s Q u s':=
  fun {σ' H' v u} J rv q=>⟨v,H',J.os,J.bare,J.base,J.hok,rv,q⟩
 cases fl with
 |ret u=>
  obtain⟨v,σ',H',J,rv,q⟩:=hs;exact fin J rv q
 |next=>
  obtain⟨σ',H',J,q⟩:=hs;exact fin (v:=V.non) (u:=DC) J rfl q
 |brk=>
  obtain⟨_,_,_,q⟩:=hs;exact Bi q
 |cont=>
  obtain⟨_,_,_,q⟩:=hs;exact Bi q
section
variable{X:Cx}{x:Ai}{p pos:AO}{e:Ap}{es:Ac Ap}{t:TA}{id T:CY}{r:Ac V->Hp->VK->Prop}
def tCB(r:Ac V->Hp->VK->Prop)(t:TA):TE:=fun σ H Q=>t σ H fun vs H1=>r vs H1 Q
theorem Mc(hc:JN X (.builtin id) r)(hg:Gl X x)(hm:X.mg x=Ad)(hv:Dd x=Aa (.builtin id))(ha:PA X (e::es) t)(hn:x≠"__name__" := by decide)(hdb:(x==("__debug__" : Ai))=Ae:=by decide)(he:As (e::es) X.env=(Ae,eval e X.env)::As es X.env:=by rfl)(hpl:(Bz pos (As es X.env)).any (·.1)=Ae:=by rfl):PE X (.Call (.Name x p) (e::es) [] pos) (tCB r t):=by
 intro pI s σ H Q I h;refine EH (Kn I hg hm hv ?_ hn hdb);exact PyProof.Rows.callWith_builtin1 (thn (ha pos pI s σ H _ I h) fun us s1 ⟨vs,H1,I1,r1,q1⟩=>hc pI s1 σ H1 vs us Q I1 r1 q1) he hpl
theorem Ru(hc:JN X (.type T) r)(hg:Gl X x)(hm:X.mg x=Ad)(hv:Dd x=Aa (.type T))(ha:PA X (e::es) t)(hn:x≠"__name__" := by decide)(hdb:(x==("__debug__" : Ai))=Ae:=by decide)(he:As (e::es) X.env=(Ae,eval e X.env)::As es X.env:=by rfl)(hpl:(Bz pos (As es X.env)).any (·.1)=Ae:=by rfl):PE X (.Call (.Name x p) (e::es) [] pos) (tCB r t):=by
 intro pI s σ H Q I h;refine EH (Kn I hg hm hv ?_ hn hdb);exact C7 (thn (ha pos pI s σ H _ I h) fun us s1 ⟨vs,H1,I1,r1,q1⟩=>hc pI s1 σ H1 vs us Q I1 r1 q1) he hpl
end
end L2
namespace HT
open PySem PyProof.Rows
variable{sl:Ah}
section
open PySem.SeqAt
open PySem.AutoSeq1 (wpAny_loadPart')
open PySem.MeetsSeq PySem.MeetsSeq2 PySem.MeetsSeq3
end
section
variable{prog:AS}{w:AB}{A:AY}{E:Vq}{s:Ar}
theorem cat_tup{t b:Ah}{vs ws:Ac Ak}{Q:Vq}(ht:Ku s.heap t vs.toArray)(hb:Ku s.heap b ws.toArray)(hv:vs≠[])(h1:ws=[]->Q (.ref t) s)(h2:ws≠[]->Q (.ref s.heap.objs.size) { s with heap:=s.heap.push { cls:=.type "tuple", data:=.seq (vs++ws).toArray } })(hsz:vs.length+ws.length<=sizeLine):Ax (model prog w) A (B7 .Add (.ref t) (.ref b)) Q E s:=by
 obtain⟨⟨cls,dd,data,sl⟩,ho,hc,n,hd⟩:=id ht;obtain⟨⟨cls2,dd2,data2,sl2⟩,ho2,hc2,n2,hd2⟩:=id hb;simp only at hc hd hc2 hd2;subst hc hd hc2 hd2;have e:vs.toArray++ws.toArray=(vs++ws).toArray:=by simp
 by_cases hw:ws=[]
 ·exact Jx ⟨_,ho,rfl⟩ ⟨_,ho2,rfl⟩ Xn seq_tuple_add WV WR (WM _ _)
   (tuple_addW1 t b vs.toArray ws.toArray n n2 dd dd2 sl sl2 (by simpa using hv) (by simp[hw])) ⟨ho,ho2,h1 hw⟩
 ·refine Jx ⟨_,ho,rfl⟩ ⟨_,ho2,rfl⟩ Xn seq_tuple_add WV WR (WM _ _)
   (tuple_addW2 t b vs.toArray ws.toArray n n2 dd dd2 sl sl2 (by simpa using hv) (by simpa using hw) (by rw[AM,AM];exact hsz)) ⟨ho,ho2,?_⟩
  rw[e];exact h2 hw
noncomputable def sIx(n d:Ag):An Af->Ag
 |none=>d
 |some v=>if v<0 then (v+(n:Af)).toNat else min v.toNat n
theorem mV(n d:Ag)(hd:d<=n)(o:An Af):sIx n d o<=n:=by
 cases o with
 |none=>exact hd
 |some v=>
  show (if v<0 then (v+(n:Af)).toNat else min v.toNat n)<=n
  by_cases hv:v<0
  ·rw[AG hv];omega
  ·rw[AI hv];exact Nat.min_le_right _ _
theorem Tb(v:Af)(n d:Ag):(if v<0 then max (v+(n:Af)) 0 else min v (n:Af))=((sIx n d (Aa v):Ag):Af):=by
 show (if v<0 then max (v+(n:Af)) 0 else min v (n:Af))=(((if v<0 then (v+(n:Af)).toNat else min v.toNat n):Ag):Af)
 by_cases hv:v<0
 ·simp only[AG hv];omega
 ·simp only[AI hv];omega
theorem Y0(lo hi:An Af)(n:Ag):FB lo hi 1 (n:Af)=(((sIx n 0 lo:Ag):Af),((sIx n n hi:Ag):Af)):=by
 have h1:¬ ((1:Af)<0):=by omega
 unfold FB;simp only[h1,Jl];refine Dz ?_ ?_
 ·cases lo with
  |none=>rfl
  |some v=>exact Tb v n 0
 ·cases hi with
  |none=>rfl
  |some v=>exact Tb v n n
theorem YQ(i j:Ag):Ec (i:Af) (j:Af) 1=j-i:=by
 unfold Ec;have h1:(1:Af) > 0:=by omega
 simp only[h1,E7,Int.ediv_one];split<;>omega
theorem Q4{v:Ak}{o:An Af}{Q:An Af->Ar->Prop}(p:HN v o)(h:Q o s):Ax (model prog w) A (Builtin.Slice.slicePartIndex v) Q E s:=by
 cases p with
 |none=>exact WB h
 |int i t=>exact slicePart_int h
theorem Yn{vl vu:Ak}{lo hi:An Af}{n:Ag}{Q:Af×Af×Ag->Ar->Prop}(hs:s.heap.IsSliceOf sl vl vu .none)(pl:HN vl lo)(pu:HN vu hi)(h:Q (((sIx n 0 lo:Ag):Af),1,sIx n n hi-sIx n 0 lo) s):Ax (model prog w) A (WG (.ref sl) (pure (n:Af))) Q E s:=by
 obtain⟨os,hos,hcs,hds⟩:=id hs;unfold WG Builtin.Slice.sliceFields;refine Al (Al (BP hos hds (x:=vl) rfl (Al (BP hos hds (x:=vu) rfl (Al (BP hos hds (x:=.none) rfl (AC ?_)))))));refine Al (WB ?_);show Ax _ _ (if ((1:Af)==0)=Ab then _ else _) _ _ s
 rw[AI (by decide)]
 refine Al (Q4 pl (Al (Q4 pu (Al (AC ?_)))));show Ax _ _ (match FB lo hi 1 (n:Af) with|(lo,hi)=>pure (lo,(1:Af),Ec lo hi 1)) _ _ s
 rw[Y0 lo hi n];show Ax _ _ (pure (((sIx n 0 lo:Ag):Af),(1:Af),Ec ((sIx n 0 lo:Ag):Af) ((sIx n n hi:Ag):Af) 1)) _ _ s;rw[YQ];exact AC h
theorem Zw(xs:Bj Ak)(i k:Ag):((A5 k).filterMap fun(m:Ag)=>xs[((i:Af)+(m:Af)*1).toNat]?).toArray=((xs.toList.drop i).take k).toArray:=by
 have e:(fun(m:Ag)=>xs[((i:Af)+(m:Af)*1).toNat]?)=fun m=>xs[i+m]?:=by
  funext m
  have:((i:Af)+(m:Af)*1).toNat=i+m:=by omega
  rw[this]
 rw[e];have:=pick_run xs i k;rw[List.filterMap_map]at this;have e2:((fun x=>xs[x]?) ∘ fun x=>i+x)=fun m=>xs[i+m]?:=rfl
 rw[e2]at this;rw[this]
theorem getItem_tuple_cut{t:Ah}{items:Bj Ak}{vl vu:Ak}{lo hi:An Af}{Q:Vq}(ht:Ku s.heap t items)(hs:s.heap.IsSliceOf sl vl vu .none)(pl:HN vl lo)(pu:HN vu hi)(hw:¬ (sIx items.size 0 lo=0/\sIx items.size items.size hi=items.size))(h:Q (.ref s.heap.objs.size) { s with heap:=s.heap.push { cls:=.type "tuple", data:=.seq ((items.toList.drop (sIx items.size 0 lo)).take (sIx items.size items.size hi-sIx items.size 0 lo)).toArray } })(hsz:items.size<=sizeLine):Ax (model prog w) A (JQ (.ref t) (.ref sl)) Q E s:=by
 have htake:sizeOk (.seq ((items.toList.drop (sIx items.size 0 lo)).take (sIx items.size items.size hi-sIx items.size 0 lo)).toArray):=by
  show ((items.toList.drop (sIx items.size 0 lo)).take (sIx items.size items.size hi-sIx items.size 0 lo)).toArray.size<=sizeLine;rw[AM,Em,E9,Fo];omega
 have hj:sIx items.size items.size hi<=items.size:=mV _ _ (AU _) hi;obtain⟨os,hos,hcs,hds⟩:=id hs;have hTs:s.TypeIs (.ref sl) "slice" := ⟨os,hos,hcs⟩;unfold JQ
 try with_reducible refine BX ?_
 first|refine Al (AC ?_)|skip
 refine Al (wpAny_sequenceKey ht.typeIs (by decide) ?_)
 refine Al (CW (name:=Bh "__getitem__") ht.typeIs WC
  (Fc WC ht.typeIs entry_tuple_getitem ?_ (args_tuple_getitem _ _)))
 show Ax _ _ (Builtin.Tuple.tupleItemsOf (.ref t) >>= _) _ _ s;refine Al (tupleItemsOf_ ht ?_);refine Al (wpAny_typeOf hTs ?_);rw[AG (by decide)]
 refine Al (Yn hs pl pu ?_);have hno:¬ ((((sIx items.size 0 lo:Ag):Af)==0&&(1:Af)==1&&(sIx items.size items.size hi-sIx items.size 0 lo)==items.size)=Ab):=by
  intro q;rw[Aj,Aj]at q;have q1:((sIx items.size 0 lo:Ag):Af)=0:=eq_of_beq q.1.1;have q2:sIx items.size items.size hi-sIx items.size 0 lo=items.size:=eq_of_beq q.2;exact hw ⟨by omega,by omega⟩
 show Ax _ _ (if (((sIx items.size 0 lo:Ag):Af)==0&&(1:Af)==1&&(sIx items.size items.size hi-sIx items.size 0 lo)==items.size)=Ab then _ else _) _ _ s
 rw[AI hno,Zw]
 first
  |exact Al (m:=Eo _) (C1 (AC ⟨_,rfl,AC h⟩) htake)
  |exact Al (m:=Eo _) (C1 (Al (AC (AC ⟨_,rfl,AC h⟩))) htake)
  |exact Al (Al (m:=Eo _) (C1 (AC (AC ⟨_,rfl,AC h⟩)) htake))
  |exact Al (Al (m:=Eo _) (C1 (AC ⟨_,rfl,AC h⟩) htake))
end
end HT
namespace L2
open PySem PySem.Spec PyProof.Rows
variable{xs:Ac V}{us its its':Ac Ak}{n t':Ag}{i:Af}{pI:Pn}{σ:St}{H:Hp}{s:Ar}{p:Ah}
abbrev TO:=St->Hp->(An Af->Hp->Prop)->Prop
noncomputable def PO(X:Cx)(e:An Ap)(t:TO):Prop:=
 ∀(pI:Pn)(s:Ar)(σ:St)(H:Hp)(Q:An Af->Hp->Prop),Inv X pI σ H s->t σ H Q ->
  Ax (model X.prog X.w) X.A (evalPart e X.env) (fun u s'=>∃ o H',Inv X pI σ H' s'/\HN u o/\Q o H') X.xe s
def eB:TO:=fun _ H Q=>Q Ad H
def pV(t:TE):TO:=fun σ H Q=>t σ H fun x H1=>∃ i,x=.int i/\Q (Aa i) H1
section
variable{X:Cx}{e:Ap}{te:TE}{lo hi:An Ap}{tl th:TO}{pos p2:AO}
theorem fX:PO X Ad eB:=by
 intro pI s σ H Q I h;rw[evalPart_none];exact AC ⟨Ad,H,I,.none,h⟩
theorem fW(h:PE X e te):PO X (Aa e) (pV te):=by
 intro pI s σ H Q I hw;rw[evalPart_some];refine thn (h pI s σ H _ I hw) fun u s1 ⟨x,H1,I1,r1,q1⟩=>?_
 obtain⟨i,rfl,q⟩:=q1;obtain⟨t,rfl⟩:=r1;exact⟨Aa i,H1,I1,.int i t,q⟩
noncomputable def SlR(X:Cx)(r:V->An Af->An Af->Hp->VK->Prop):Prop:=
 ∀(pI:Pn)(s:Ar)(σ:St)(H:Hp)(x:V)(v vl vu:Ak)(lo hi:An Af)(sl:Ah)(Q:VK),Inv X pI σ H s->Bx x v->s.heap.IsSliceOf sl vl vu .none->HN vl lo->HN vu hi->r x lo hi H Q ->
  ∃ T id,typeLookup (.type T) "__getitem__" = pure (Aa (.builtin id))/\s.TypeIs v T/\Ax (model X.prog X.w) X.A (JQ v (.ref sl)) (EP X pI σ Q) X.xe s
def tSl(r:V->An Af->An Af->Hp->VK->Prop)(te:TE)(tl th:TO):TE:=fun σ H Q=>te σ H fun x H1=>tl σ H1 fun l H2=>th σ H2 fun u H3=>r x l u H3 Q
theorem Zx{r:V->An Af->An Af->Hp->VK->Prop}(hr:SlR X r)(he:PE X e te)(hl:PO X lo tl)(hu:PO X hi th):PE X (.Subscript e (.Slice lo hi Ad p2) pos) (tSl r te tl th):=by
 intro pI s σ H Q I h;refine Subscript_ (thn (he pI s σ H _ I h) fun v s1 ⟨x,H1,I1,r1,q1⟩=>?_)
 refine wpAny_Slice (thn (hl pI s1 σ H1 _ I1 q1) fun vl s2 ⟨l,H2,I2,pl,q2⟩=>thn (hu pI s2 σ H2 _ I2 q2) fun vu s3 ⟨u,H3,I3,pu,q3⟩=>?_)
 rw[evalPart_none];refine AC ?_;have I4:Inv X pI σ H3 { s3 with heap:=s3.heap.push { cls:=.type "slice", data:=.fields #[vl,vu,.none] } }:=I3.kept (t':=s3.toks) fun b ob q=>Au _ q
 obtain⟨T,id,hT,ht,hg⟩:=hr pI { s3 with heap:=s3.heap.push { cls:=.type "slice", data:=.fields #[vl,vu,.none] } } σ H3 x v vl vu l u s3.heap.objs.size Q I4 r1 (Heap.IsSliceOf.new ..) pl pu q3
 show Ax (model X.prog X.w) X.A (subscriptTail e (.Slice lo hi Ad p2) v (.ref s3.heap.objs.size)) (EP X pI σ Q) X.xe { s3 with heap:=s3.heap.push { cls:=.type "slice", data:=.fields #[vl,vu,.none] } }
 exact tail_any (ops:=[.ref s3.heap.objs.size,v]) ht hT hg (by with_unfolding_all rfl)
noncomputable def JP(xs:Ac V)(lo hi:An Af):Ac V:=(xs.drop (HT.sIx xs.length 0 lo)).take (HT.sIx xs.length xs.length hi-HT.sIx xs.length 0 lo)
theorem Rc(xs:Ac V)(lo hi:An Af):(JP xs lo hi).length<=xs.length:=by
 unfold JP;rw[Em,E9];omega
def Vb(K:Fg):V->An Af->An Af->Hp->VK->Prop:=fun x lo hi H Q=>∃ a xs,x=.ref a/\SqT K H a xs /\
 ¬ (HT.sIx xs.length 0 lo=0/\HT.sIx xs.length xs.length hi=xs.length)/\∀ p,H p=Ad->Q (.ref p) (upd H p (.tup (JP xs lo hi)))
theorem jT:SlR X (Vb X.K):=by
 intro pI s σ H x v vl vu lo hi sl Q I rx hs pl pu h;obtain⟨a,xs,rfl,hx,hw,q⟩:=h;cases rx;obtain⟨its,r,ht,hz⟩:=I.tuple hx;have hlen:its.toArray.size=xs.length:=by rw[AM];exact r.length.symm
 refine⟨"tuple", _,PyProof.Rows.slot_tuple_getitem.lookup,ht.typeIs,?_⟩;refine HT.getItem_tuple_cut ht hs pl pu (by rw[hlen];exact hw) ?_ (by rw[hlen];exact hz)
 rw[hlen];refine⟨.ref s.heap.objs.size,_,I.laid (t':=s.toks) (o:=.tup (JP xs lo hi)) (fun b ob q=>Au _ q) (AU _) ?_,rfl,q _ (I.hok.fresh (AU _))⟩
 exact⟨BU (Rc xs lo hi) hz,_,(r.drop (HT.sIx xs.length 0 lo)).take (HT.sIx xs.length xs.length hi-HT.sIx xs.length 0 lo),LH _ _⟩
def tP(K:Fg):R2:=fun x y H Q=>∃ a b xs ys,x=.ref a/\y=.ref b/\SqT K H a xs/\SqT K H b ys/\xs≠[]/\xs.length+ys.length<=sizeLine /\
 (ys=[]->Q (.ref a) H)/\(ys≠[]->∀ p,H p=Ad->Q (.ref p) (upd H p (.tup (xs++ys))))
theorem Bc.nil_iff(r:Bc xs us):us=[]↔xs=[]:=by
 cases r with
 |nil=>simp
 |cons _ _=>simp
theorem gW:OpR X (B7 .Add) (tP X.K):=by
 intro pI s σ H x y v u Q I rx ry h;obtain⟨a,b,xs,ys,rfl,rfl,ha,hb,hx,hz,q1,q2⟩:=h;cases rx;cases ry;obtain⟨its,r1,p1,_⟩:=I.tuple ha;obtain⟨its2,r2,p2,_⟩:=I.tuple hb;refine HT.cat_tup p1 p2 (fun z=>hx (r1.nil_iff.mp z)) (fun z=>⟨.ref a,H,I,rfl,q1 (r2.nil_iff.mp z)⟩) (fun z=>?_) (by rw[<-r1.length,<-r2.length];exact hz)
 refine⟨.ref s.heap.objs.size,_,I.laid (t':=s.toks) (o:=.tup (xs++ys)) (fun b ob q=>Au _ q) (AU _) ?_,rfl,q2 (fun w=>z (r2.nil_iff.mpr w)) _ (I.hok.fresh (AU _))⟩
 exact⟨by rw[Bu];exact hz,_,r1.append r2,LH _ _⟩
end
noncomputable def ixN(n:Ag)(i:Af):An Ag:=if 0<=i then (if i<n then Aa i.toNat else Ad) else if -(n:Af)<=i then Aa (i+n).toNat else Ad
noncomputable def atI{α:Type}(xs:Ac α)(i:Af):An α:=(ixN xs.length i).bind fun j=>xs[j]?
theorem Te{j:Ag}(h:ixN n i=Aa j):seqIndex? i n=Aa j/\j<n/\-(n:Af)<=i/\i<n:=by
 unfold ixN at h;by_cases h0:0<=i
 ·rw[AG h0]at h;by_cases h1:i<n
  ·rw[AG h1]at h;have e:i.toNat=j:=Bw h;exact⟨by rw[JU h0 h1,e],by omega,by omega,h1⟩
  ·rw[AI h1]at h;cases h
 ·rw[AI h0]at h;by_cases h1:-(n:Af)<=i
  ·rw[AG h1]at h;have e:(i+n).toNat=j:=Bw h;exact⟨by rw[JA (by omega) h1,e],by omega,h1,by omega⟩
  ·rw[AI h1]at h;cases h
theorem Tz{α:Type}{xs:Ac α}{v:α}(h:atI xs i=Aa v):∃ j,seqIndex? i xs.length=Aa j/\xs[j]?=Aa v/\j<xs.length/\-(xs.length:Af)<=i/\i<xs.length:=by
 unfold atI at h;cases e:ixN xs.length i with
 |none=>rw[e]at h;cases h
 |some j=>
  rw[e]at h;obtain⟨h1,h2,h3,h4⟩:=Te e;exact⟨j,h1,h,h2,h3,h4⟩
def Pz(b:Ap):Prop:=∀ o i,subscripted b Ae o i=operate [o,i] (JQ o i)
noncomputable def IxR(X:Cx)(r:R2):Prop:=
 ∀(value slice:Ap)(pI:Pn)(s:Ar)(σ:St)(H:Hp)(x y:V)(v u:Ak)(Q:VK),Inv X pI σ H s->Bx x v->Bx y u->r x y H Q ->
  subscripted slice Ae v u=operate [v,u] (JQ v u)->Ax (model X.prog X.w) X.A (subscriptTail value slice v u) (EP X pI σ Q) X.xe s
noncomputable def MtR(X:Cx)(id:CY)(r:V->Ac V->Hp->VK->Prop):Prop:=
 ∀(pI:Pn)(s:Ar)(σ:St)(H:Hp)(x:V)(xs:Ac V)(v:Ak)(us:Ac Ak)(Q:VK),Inv X pI σ H s->Bx x v->Bc xs us->r x xs H Q ->
  Ax (model X.prog X.w) X.A (call (.builtin id) (v::us)) (EP X pI σ Q) X.xe s
section
variable{X:Cx}{a b:Ap}{ta tb:TE}{pos:AO}
theorem IxR.or{r r':R2}(h:IxR X r)(h':IxR X r'):IxR X (fun x y H Q=>r x y H Q\/r' x y H Q):=by
 intro value slice pI s σ H x y v u Q I rx ry q hs;rcases q with q|q
 ·exact h value slice pI s σ H x y v u Q I rx ry q hs
 ·exact h' value slice pI s σ H x y v u Q I rx ry q hs
theorem rX{r:R2}(hr:IxR X r)(ha:PE X a ta)(hb:PE X b tb)(hs:Pz b):PE X (.Subscript a b pos) (tOp r ta tb):=by
 intro pI s σ H Q I h;exact Subscript_ (QT ha hb I h fun v u s2 x y H2 I2 rx ry q=>hr a b pI s2 σ H2 x y v u Q I2 rx ry q (hs _ _))
def Ve(K:Fg):R2:=fun x y H Q=>∃ p xs i v,x=.ref p/\y=.int i/\SqL K H p xs/\atI xs i=Aa v/\Q v H
def Vd(K:Fg):R2:=fun x y H Q=>∃ p xs i v,x=.ref p/\y=.int i/\SqT K H p xs/\atI xs i=Aa v/\Q v H
theorem fK:IxR X (Ve X.K):=by
 intro value slice pI s σ H x y v u Q I rx ry h hs;obtain⟨p,xs,i,z,rfl,rfl,hq,he,q⟩:=h;cases rx;obtain⟨t,rfl⟩:=ry;obtain⟨its,r,pl,hz⟩:=I.list hq;obtain⟨j,h1,h2,h3,h4,h5⟩:=Tz he;obtain⟨w,ew,rw'⟩:=r.get h2;have hl:=r.length;have hn:=JI;have fin:EP X pI σ Q w s:=⟨z,H,I,rw',q⟩;by_cases h0:0<=i
 ·have hj:i.toNat=j:=by
   rw[JU h0 h5]at h1;exact Bw h1
  exact item_listR pl.isList h0 (by omega) (by rw[hj];simpa using ew) fin hs
 ·have hj:(i+(its.toArray.size:Af)).toNat=j:=by
   rw[JA (by omega) h4]at h1
   rw[AM,<-hl];exact Bw h1
  exact Gd (x:=w) pl.isList.typeIs Xp.lookup
   (wpAny_getItem_list_neg (Q:=fun r s'=>r=w/\EP X pI σ Q r s') pl.isList (by omega) (by rw[AM]<;>omega) (by omega) (by rw[hj];simpa using ew) ⟨rfl,fin⟩) hs
theorem pA:IxR X (Vd X.K):=by
 intro value slice pI s σ H x y v u Q I rx ry h hs;obtain⟨p,xs,i,z,rfl,rfl,hq,he,q⟩:=h;cases rx;obtain⟨t,rfl⟩:=ry;obtain⟨its,r,pl,hz⟩:=I.tuple hq;obtain⟨j,h1,h2,h3,h4,h5⟩:=Tz he;obtain⟨w,ew,rw'⟩:=r.get h2;have hl:=r.length;have hn:=JI;have fin:EP X pI σ Q w s:=⟨z,H,I,rw',q⟩;exact Gd (x:=w) pl.typeIs slot_tuple_getitem.lookup
  (getItem_tuple (j:=j) (Q:=fun r s'=>r=w/\EP X pI σ Q r s') pl (by omega) (by omega) (by rw[AM,<-hl];exact h1) (by simpa using ew) ⟨rfl,fin⟩) hs
theorem YD(its:Ac Ak)(n j:Ag)(u:Ak):GN (·.setIfInBounds j u) { cls:=.type "list", data:=.seq its.toArray n }={ cls:=.type "list", data:=.seq (its.set j u).toArray n }:=by
 simp[GN]
theorem Inv.lst(I:Inv X pI σ H s)(h:H p=Aa (.lst xs)):
  ∃(its:Ac Ak)(n:Ag),Bc xs its/\s.heap.get? p=Aa { cls:=.type "list", data:=.seq its.toArray n }/\xs.length<=sizeLine:=by
 obtain⟨z,its,n,r,e⟩:=I.hok p _ h;exact⟨its,n,r,e,z⟩
theorem Inv.lstUpd{ys:Ac V}{n':Ag}{f:Dl->Dl}(I:Inv X pI σ H s)(h:H p=Aa (.lst xs))(ho:s.heap.get? p=Aa { cls:=.type "list", data:=.seq its.toArray n })(hf:f { cls:=.type "list", data:=.seq its.toArray n }={ cls:=.type "list", data:=.seq its'.toArray n' })(r:Bc ys its')(hz:ys.length<=sizeLine)(t:Ag):Inv X pI σ (upd H p (.lst ys)) {s with heap:=s.heap.update p f,toks:=t}:=by
 have e:(s.heap.update p f).get? p=Aa { cls:=.type "list", data:=.seq its'.toArray n' }:=by
  rw[Cp f ho (by rw[hf]<;>rfl),hf]
 refine I.write (x:=p) (e:=p) (by rw[h];trivial) (.inl rfl) (fun b u hb q=>(CC _ _ (DZ hb)).trans q) ⟨_,e⟩ ?_
 exact⟨hz,its',n',r,e⟩
def tM:V->V->V->Hp->(Hp->Prop)->Prop:=fun o i v H Q=>∃ p xs k j,o=.ref p/\i=.int k/\H p=Aa (.lst xs)/\ixN xs.length k=Aa j/\Q (upd H p (.lst (xs.set j v)))
theorem ZL:QW X tM:=by
 intro pI s σ H o i v ov iv u Q I ro ri rv h;obtain⟨p,xs,k,j,rfl,rfl,hp,hj,q⟩:=h;cases ro;obtain⟨t,rfl⟩:=ri;obtain⟨its,n,r,ho,hz⟩:=I.lst hp;obtain⟨h1,h2,h3,h4⟩:=Te hj;have hl:=r.length;have hn:=JI;have I':Inv X pI σ (upd H p (.lst (xs.set j v))) {s with heap:=s.heap.update p (GN (·.setIfInBounds j u))}:=
  I.lstUpd hp ho (YD its n j u) (r.set rv j) (by rw[Bb];exact hz) s.toks
 by_cases h0:0<=k
 ·have hk:k.toNat=j:=by
   rw[JU h0 h4]at h1;exact Bw h1
  exact PySem.W.ki_setAt ho h0 (by omega) (by rw[AM,<-hl];exact h4) (by rw[hk];exact⟨_,I',q⟩)
 ·have hk:(k+(its.toArray.size:Af)).toNat=j:=by
   rw[JA (by omega) h3]at h1
   rw[AM,<-hl];exact Bw h1
  exact PySem.W.ki_setBack ho (by omega) (by rw[AM,<-hl];exact h3) (by omega) (by rw[hk];exact⟨_,I',q⟩)
theorem Yt(lo hi:An Af)(n:Ag):(Fn lo hi Ad n).1=((HT.sIx n 0 lo:Ag):Af)/\(Fn lo hi Ad n).2.1=((HT.sIx n n hi:Ag):Af)/\(Fn lo hi Ad n).2.2=1:=by
 refine⟨?_,?_,rfl⟩
 ·cases lo with
  |none=>simp[Fn,HT.sIx]
  |some i=>
   simp only[Fn,HT.sIx,Wy,show (1:Af) > 0 by decide,E7]
   by_cases h:i<0
   ·simp only[h,E7]<;>omega
   ·simp only[h,Jl]<;>omega
 ·cases hi with
  |none=>simp[Fn,HT.sIx]
  |some i=>
   simp only[Fn,HT.sIx,Wy,show (1:Af) > 0 by decide,E7]
   by_cases h:i<0
   ·simp only[h,E7]<;>omega
   ·simp only[h,Jl]<;>omega
theorem Yu(its:Ac Ak)(lo hi:An Af):slicePick its.toArray lo hi Ad=((its.drop (HT.sIx its.length 0 lo)).take (HT.sIx its.length its.length hi-HT.sIx its.length 0 lo)).toArray:=by
 obtain⟨h1,h2,h3⟩:=Yt lo hi its.toArray.size;unfold slicePick;rw[h1,h2,h3];simp only[sliceRange_one,pick_run,AM]<;>rfl
def Vc(K:Fg):V->An Af->An Af->Hp->VK->Prop:=fun x lo hi H Q=>∃ a xs,x=.ref a/\SqL K H a xs/\∀ p,H p=Ad->Q (.ref p) (upd H p (.lst (JP xs lo hi)))
theorem eQ:SlR X (Vc X.K):=by
 intro pI s σ H x v vl vu lo hi sl Q I rx hs pl pu h;obtain⟨a,xs,rfl,hx,q⟩:=h;cases rx;obtain⟨its,r,ht,hz⟩:=I.list hx;have hlen:=r.length;refine⟨"list", _,Xp.lookup,ht.isList.typeIs,?_⟩;refine wpAny_getItem_list_slice ht.isList hs pl pu .none (by simp) ?_ (by rw[AM]<;>omega)
 rw[Yu,<-hlen];refine⟨.ref s.heap.objs.size,_,I.laid (t':=s.toks) (o:=.lst (JP xs lo hi)) (fun b ob q=>Au _ q) (AU _) ?_,rfl,q _ (I.hok.fresh (AU _))⟩
 exact⟨BU (Rc xs lo hi) hz,_,0,(r.drop (HT.sIx xs.length 0 lo)).take (HT.sIx xs.length xs.length hi-HT.sIx xs.length 0 lo),AV _ rfl⟩
theorem Q1:JN X (.builtin "len") (fun xs H Q=>∃ p ys,xs=[.ref p]/\(SqL X.K H p ys\/SqT X.K H p ys)/\Q (.int ys.length) H):=by
 intro pI s σ H xs us Q I r h;obtain⟨p,ys,rfl,hq,q⟩:=h;obtain⟨u,rfl,rx⟩:=ME r;cases rx;have hn:=JI;rcases hq with hq|hq
 ·obtain⟨its,r',pl,hz⟩:=I.list hq;have hlen:=r'.length;exact Calls.call_len_list pl.isList (by simp only[AM]<;>omega) ⟨.int ys.length,H,I.tok _,⟨s.toks+1,by rw[AM,hlen]⟩,q⟩
 ·obtain⟨its,r',pl,hz⟩:=I.tuple hq;have hlen:=r'.length;exact len_tuple pl (by simp only[AM]<;>omega) ⟨.int ys.length,H,I.tok _,⟨s.toks+1,by rw[AM,hlen]⟩,q⟩
theorem Yy:JN X (.builtin "len") (fun xs H Q=>∃ z,xs=[.str z]/\z.length<=sizeLine/\Q (.int z.length) H):=by
 intro pI s σ H xs us Q I r h;obtain⟨z,rfl,hz,q⟩:=h;obtain⟨u,rfl,t,rfl⟩:=ME r;have hn:=JI;exact len_str (by omega) ⟨.int z.length,H,I.tok _,⟨_,rfl⟩,q⟩
theorem Q0:JN X (.type "list") (fun xs H Q=>∃ p ys,xs=[.ref p]/\(SqL X.K H p ys\/SqT X.K H p ys)/\∀ l,H l=Ad->Q (.ref l) (upd H l (.lst ys))):=by
 intro pI s σ H xs us Q I r h;obtain⟨p,ys,rfl,hq,q⟩:=h;obtain⟨u,rfl,rx⟩:=ME r;cases rx;have fin:∀(its:Ac Ak),Bc ys its->ys.length<=sizeLine->∀(h':AF)(c':Ag),(∀ b o',s.heap.get? b=Aa o'->h'.get? b=Aa o') ->
   h'.get? s.heap.objs.size=Aa { cls:=.type "list", dict:=Ad,data:=.seq its.toArray c',slots:=#[] }->EP X pI σ Q (.ref s.heap.objs.size) {s with heap:=h'}:=fun its r' hz h' c' kp e=>
  ⟨.ref s.heap.objs.size,_,I.laid (t':=s.toks) kp (AU _) (show ObjOk X.prog X.w _ h' _ (.lst ys) from ⟨hz,its,c',r',e⟩),rfl,q _ (I.hok.fresh (AU _))⟩
 rcases hq with hq|hq
 ·obtain⟨its,r',pl,hz⟩:=I.list hq;have hlen:=r'.length;obtain⟨o,ho,hc,n,hd⟩:=pl.isList;exact call_list_seq p (.inl rfl) ho hc hd (fun h' c' kp e=>fin its r' hz h' c' kp e) (by simp only[AM]<;>omega)
 ·obtain⟨its,r',pl,hz⟩:=I.tuple hq;have hlen:=r'.length;obtain⟨o,ho,hc,n,hd⟩:=pl;exact call_list_seq p (.inr rfl) ho hc hd (fun h' c' kp e=>fin its r' hz h' c' kp e) (by simp only[AM]<;>omega)
theorem Q3:JN X (.type "tuple") (fun xs H Q=>∃ p ys,xs=[.ref p]/\((SqL X.K H p ys/\∀ l,H l=Ad->Q (.ref l) (upd H l (.tup ys)))\/(SqT X.K H p ys/\Q (.ref p) H))):=by
 intro pI s σ H xs us Q I r h;obtain⟨p,ys,rfl,h⟩:=h;obtain⟨u,rfl,rx⟩:=ME r;cases rx;rcases h with ⟨hq,q⟩|⟨hq,q⟩
 ·obtain⟨its,r',pl,hz⟩:=I.list hq;have hlen:=r'.length;refine call_tuple_list pl.isList (fun h' kp=>?_) (by simp only[AM]<;>omega)
  have I1:Inv X pI σ H {s with heap:=h'}:=I.kept (t':=s.toks) kp
  have I2:Inv X pI σ (upd H h'.objs.size (.tup ys)) { s with heap:=h'.push { cls:=.type "tuple", data:=.seq its.toArray } }:=
   I1.laid (t':=s.toks) (fun b o e=>Au _ e) (AU _) (show ObjOk X.prog X.w _ _ _ (.tup ys) from ⟨hz,its,r',LH _ _⟩)
  exact⟨.ref h'.objs.size,_,I2,rfl,q _ (I1.hok.fresh (AU _))⟩
 ·obtain⟨its,r',pl,hz⟩:=I.tuple hq;exact call_tuple_same pl ⟨.ref p,H,I,rfl,q⟩
def tyV(K:Fg)(T:CY)(x:V)(H:Hp):Prop:=match x with
  |.str _=>T = "str"
  |.int _=>T = "int"
  |.ref p=>(T = "list"/\∃ xs,SqL K H p xs)\/(T = "tuple"/\∃ o,K.lookup p=Aa o/\o.cls=.type "tuple"/\o.dict=Ad) \/
      (T = "dict"/\((∃ kvs,H p=Aa (.dK kvs))\/∃ kvs,H p=Aa (.dT kvs)))\/(T = "set"/\∃ S n,H p=Aa (.set S n))
  |_=>AW
theorem jY{T:CY}{x:V}{v:Ak}(I:Inv X pI σ H s)(r:Bx x v)(ty:tyV X.K T x H):s.TypeIs v T/\∀ a,v=.ref a->∃ ob,s.heap.get? a=Aa ob/\ob.dict=Ad:=by
 cases x with
 |str z=>
  obtain⟨t,rfl⟩:=r;cases (show T = "str" from ty)
  exact⟨typeIs_str s z t,fun _ e=>nomatch e⟩
 |int i=>
  obtain⟨t,rfl⟩:=r;cases (show T = "int" from ty)
  exact⟨typeIs_int s i t,fun _ e=>nomatch e⟩
 |ref p=>
  cases r;rcases ty with ⟨rfl,xs,hq⟩|⟨rfl,o,hk,hc,hd⟩|⟨rfl,hk⟩|⟨rfl,S,n,hk⟩
  ·obtain⟨its,_,pl,_⟩:=I.list hq;refine⟨pl.isList.typeIs,fun a e=>?_⟩
   cases e;obtain⟨o,n,e,c,hd,_⟩:=pl;exact⟨o,e,hd⟩
  ·refine⟨⟨o,I.kIn p o hk,hc⟩,fun a e=>?_⟩
   cases e;exact⟨o,I.kIn _ o hk,hd⟩
  ·have z:∃ o,s.heap.get? p=Aa o/\o.ExactDict:=by
    rcases hk with ⟨kvs,hk⟩|⟨kvs,hk⟩
    ·obtain⟨_,_,_,_,o,_,_,e,ex,_⟩:=I.hok p _ hk;exact⟨o,e,ex⟩
    ·obtain⟨_,_,_,_,o,_,_,e,ex,_⟩:=I.hok p _ hk;exact⟨o,e,ex⟩
   obtain⟨o,e,ex⟩:=z;refine⟨⟨o,e,ex.1⟩,fun a e2=>?_⟩
   cases e2;exact⟨o,e,ex.2.1⟩
  ·obtain⟨o,_,_,_,e,ex,_⟩:=I.hok p _ hk;refine⟨⟨o,e,ex.1⟩,fun a e2=>?_⟩
   cases e2;exact⟨o,e,ex.2.1⟩
 |_=>exact Bi ty
def tBM(K:Fg)(T:CY)(r:V->Ac V->Hp->VK->Prop)(to:TE)(t:TA):TE:=fun σ H Q=>to σ H fun x H1=>tyV K T x H1/\t σ H1 fun xs H2=>r x xs H2 Q
variable{o e:Ap}{es:Ac Ap}{to:TE}{t:TA}{name:Ai}{apos cpos:AO}{T id:CY}{r:V->Ac V->Hp->VK->Prop}
theorem NH(pa:PlainAttrs T)(slot:Slot T name id)(hty:typeOf (.builtin id)=pure (.type "method_descriptor"))(hm:MtR X id r)(ho:PE X o to)(ha:PA X (e::es) t)(hbase:Dk o name X.env (eval o X.env)=eval o X.env:=by rfl)(hfew:((Bz cpos (As (e::es) X.env)).all (fun x=>!x.1)&&(FJ cpos (Ei [] X.env)).all (fun x=>x.1.isSome)
   && decide ((e::es).length+([]:Ac C9).length+(if ([]:Ac C9).isEmpty then 0 else 1)<30))=Ab:=by rfl)(hline:(apos.endLine==cpos.line)=Ab:=by rfl)(hs:As (e::es) X.env=(Ae,eval e X.env)::As es X.env:=by rfl)(hplain:(Bz cpos (As es X.env)).any (·.1)=Ae:=by rfl):PE X (.Call (.Attribute o name apos) (e::es) [] cpos) (tBM X.K T r to t):=by
 intro pI s σ H Q I h;refine Xq hbase hfew hline rfl (thn (ho pI s σ H _ I h) fun v s1 ⟨x,H1,I1,r1,ty,q1⟩=>?_)
 obtain⟨h1,h2⟩:=jY I1 r1 ty;refine⟨T,id,pa,slot,hty,h1,h2,?_⟩;have hA:=ha cpos pI s1 σ H1 _ I1 q1;rw[hs]at hA ⊢;refine Ge (by show (Ae||(Bz cpos (As es X.env)).any (·.1))=Ae;rw[hplain]<;>rfl) (Ed ?_)
 exact thn hA fun us s2 ⟨vs,H2,I2,r2,q2⟩=>hm pI s2 σ H2 x vs v us Q I2 r1 r2 q2
/- xs.append(e),list.index on a module's tuple .. are MtR facts of 06m -/
end
noncomputable def MtM(X:Cx)(id:CY)(r:V->Ac V->Hp->VK->Prop):Prop:=
 ∀(pI:Pn)(s:Ar)(σ:St)(H:Hp)(x:V)(xs:Ac V)(v:Ak)(us:Ac Ak)(Q:VK),Inv X pI σ H s->Bx x v->Bc xs us->r x xs H Q ->
  Ax (model X.prog X.w) X.A (call (.builtin id) (v::us)) (EP X pI σ Q) X.xe s
theorem Bc.one:∀{x:V}{us:Ac Ak},Bc [x] us->∃ u,us=[u]/\Bx x u
 |_,_,.cons r .nil=>⟨_,rfl,r⟩
theorem Bc.zero:∀{us:Ac Ak},Bc [] us->us=[]
 |_,.nil=>rfl
theorem Bc.eraseIdx:∀{xs:Ac V}{us:Ac Ak}(i:Ag),Bc xs us->Bc (xs.eraseIdx i) (us.eraseIdx i)
 |_,_,_,.nil=>.nil
 |_,_,0,.cons _ t=>t
 |_,_,i+1,.cons r t=>.cons r (Bc.eraseIdx i t)
theorem Bc.reverse(h:Bc xs us):Bc xs.reverse us.reverse:=by
 induction h with
 |nil=>exact .nil
 |cons r t ih=>rw[Wo,Wo];exact Bc.append ih (.cons r .nil)
section
variable{X:Cx}{pI:Pn}{σ:St}{H:Hp}{s:Ar}{l b:Ah}{xs ys zs:Ac V}
theorem Inv.lset{f:Bj Ak->Bj Ak}(I:Inv X pI σ H s)(hH:H l=Aa (.lst xs))(e:s.heap.get? l=Aa { cls:=.type "list", data:=.seq its.toArray n })(hf:f its.toArray=its'.toArray)(hv:Bc ys its')(hz:ys.length<=sizeLine):Inv X pI σ (upd H l (.lst ys)) {s with heap:=s.heap.update l (GN f),toks:=t'}:=by
 have q:=PySem.IsL.update e f;rw[hf]at q;refine I.write (x:=l) (e:=l) (by rw[hH];exact trivial) (.inl rfl) (fun b' u hb hu=>(CC s.heap (GN f) (DZ hb)).trans hu) ⟨_,q⟩ ?_
 exact⟨hz,its',_,hv,q⟩
theorem Inv.lnew(I:Inv X pI σ H s)(hv:Bc ys its)(hz:ys.length<=sizeLine):
  Inv X pI σ (upd H s.heap.objs.size (.lst ys)) { s with heap:=s.heap.push { cls:=.type "list", data:=.seq its.toArray },toks:=t' }:=
 I.laid (fun _ _ q=>Au _ q) (AU _) ⟨hz,its,0,hv,AV _ rfl⟩
theorem Inv.fresh(I:Inv X pI σ H s):H s.heap.objs.size=Ad:=I.hok.fresh (AU _)
theorem Inv.lstM(I:Inv X pI σ H s)(hH:H l=Aa (.lst xs)):xs.length<=sizeLine/\∃(its:Ac Ak)(n:Ag),Bc xs its/\xs.length=its.length/\s.heap.get? l=Aa { cls:=.type "list", data:=.seq its.toArray n }:=by
 obtain⟨z,its,n,r,e⟩:=I.hok l _ hH;exact⟨z,its,n,r,r.length,e⟩
theorem Sj(h:n<=sizeLine):DA n=Ae:=by
 unfold DA;exact BY (by omega)
end
section
variable{X:Cx}
def cM:V->Ac V->Hp->VK->Prop:=fun x vs H Q=>∃ l xs y,x=.ref l/\vs=[y]/\H l=Aa (.lst xs)/\xs.length<sizeLine/\Q .non (upd H l (.lst (xs++[y])))
theorem Zp:MtM X "list.append" cM:=by
 intro pI s σ H x vs v us Q I rx rv h;obtain⟨l,xs,y,rfl,rfl,hH,hz,q⟩:=h;cases rx;obtain⟨u,rfl,ru⟩:=rv.one;obtain⟨z,its,n,r,hl,e⟩:=I.lstM hH;refine IU F.slot_list_append ⟨_,e,rfl⟩ F.entry_list_append (F.args_list_append_2 _ _) (PySem.list_append l its.toArray n u (by rw[AM];omega)) ⟨e,?_⟩
 refine⟨.non,_,I.lset (its':=its++[u]) hH e (by simp) (r.append (.cons ru .nil)) ?_,rfl,q⟩
 rw[Bu,Do];omega
def cL:V->Ac V->Hp->VK->Prop:=fun x vs H Q=>∃ l b xs zs,x=.ref l/\vs=[.ref b]/\H l=Aa (.lst xs)/\H b=Aa (.lst zs)/\xs.length+zs.length<=sizeLine/\Q .non (upd H l (.lst (xs++zs)))
theorem Zo:MtM X "list.extend" cL:=by
 intro pI s σ H x vs v us Q I rx rv h;obtain⟨l,b,xs,zs,rfl,rfl,hH,hB,hz,q⟩:=h;cases rx;obtain⟨u,rfl,ru⟩:=rv.one;cases ru;obtain⟨z,its,n,r,hl,e⟩:=I.lstM hH;obtain⟨z2,its2,n2,r2,hl2,e2⟩:=I.lstM hB;have hsz:its.toArray.size+its2.toArray.size<=sizeLine:=by rw[AM,AM];omega
 have hlong:¬ (!its.toArray.isEmpty&&DA (its.toArray.size+its2.toArray.size))=Ab:=by
  rw[Sj hsz,FR];exact Aq
 refine IU EY ⟨_,e,rfl⟩ WQ (WL _ _)
  (AutoSeq1.list_extend_list_list_0 l its.toArray n b its2.toArray n2 hlong (by rw[AM];omega) (by omega)) ⟨e,e2,?_⟩
 refine⟨.non,_,I.lset (its':=its++its2) hH e (by simp) (r.append r2) ?_,rfl,q⟩
 rw[Bu];omega
end
section
variable{prog:AS}{w:AB}{A:AY}{E:Vq}{s:Ar}
set_option maxRecDepth 100000 in
end
section
variable{X:Cx}
end
end L2
namespace Att
open PySem PySem.W PySem.Calls PyProof.Rows
variable{P:LU}{h:AF}{l:Gf}{n:Ag}
theorem Yr:∀(ns:Ac Af)(vs:Ac Ak),WellAll P h vs (ns.map Xd)->IH vs ns:=by
 intro ns
 induction ns with
 |nil=>
  intro vs w;rw[Jp]at w;cases w;exact .nil
 |cons n ns ih=>
  intro vs w;rw[BE]at w;cases w with
  |cons a b=>
   cases a;exact .cons _ _ (ih _ b)
theorem YZ(hn:l.most=Aa n){args:Ac WData}{vals:Ac Ak}(hpre:l.row.toRowW.claim.pre args=Ab)(hwl:WellAll P h vals args):
  ∃ a vs ns,vals=[Ck a]/\args=[WData.list (ns.map Xd)]/\h.get? a=Aa { cls:=.type "list", data:=.seq vs.toArray }/\IH vs ns/\ns.length<=n:=by
 have hsh:WShape.hasAll [] args [.list .int]=Ab:=(pre_splitW hpre).1;have hc:l.pre.holds [] {args:=args}=Ab:=(pre_splitW hpre).2;obtain⟨d,r,rfl,h1,h2⟩:=hasAllW_cons hsh;obtain rfl:=hasAllW_nil h2;obtain⟨xs,rfl,h3⟩:=hasW_list h1;obtain⟨ns,rfl⟩:=items_int h3;have hlen:ns.length<=n:=by
  unfold OpenLaw.pre at hc;have h4:(WTm.not (.lt (.lit (.int (n:Af))) (.len (.arg 0)))).holds [] {args:=[.list (ns.map .int)]}=Ab:=by
   have h4:=(holds_andW hc).1;rw[hn]at h4;exact h4
  have h5:=condW_of h4 (w_not (w_lt w_lit (w_len_list (w_arg rfl))));rw[Bm]at h5;refine Nat.le_of_not_lt fun q=>?_
  have q':(n:Af)<((ns.length:Ag):Af):=by omega
  first
   |(rw[DR q']at h5;exact absurd h5 (by decide))
   |(simp at h5;omega)
 cases hwl with
 |cons w1 w2=>
  cases w2;cases w1 with
  |list ho hall=>exact⟨_,_,ns,rfl,rfl,ho,Yr ns _ hall,hlen⟩
theorem Zi(l:Gf)(args:Ac WData):l.row.toRowW.claim.post args (.bool Ab) args=Ab:=
 postW_of (r:=l.row.toRowW) (X:=(Ab==Ab))
  (show Xe [] (.bool Ab) .bool=Ab by first|rfl|decide|simp[Xe,WShape.arms,WShape.armsAll])
  (show (WTm.eq .res (.lit (.bool Ab))).value [] {args:=args,res:=Aa (.bool Ab),after:=args}=Aa (.bool (Ab==Ab)) from w_eq_bool (w_res rfl) w_lit) rfl
theorem attach_call{q:AS}{loose:Ac Ai}{XP:(Ai->An Ak)->AF->Prop}{YP:AB->AF->Prop}{d:DefRec}(hn:l.most=Aa n)(hdf:d.params.defaults=[])(call:∀(w:AB)(s₀ s₁:Ar)(mg mb:Ai->An Ak)(fa:Ah)(o:Dl)(pm cd doc:Ak)(a:Ah)(vs:Ac Ak)(ns:Ac Af),
   Ground q loose [] XP w s₀ mg mb s₁.heap->YP w s₁.heap ->
   s₁.heap.get? fa=Aa o->o.data=.func (docDef d.name d.params d.body d.scope pm cd doc)->s₁.heap.CodeRec cd d.name->mg d.name=Aa (.ref fa) ->
   s₁.heap.get? a=Aa { cls:=.type "list", data:=.seq vs.toArray }->IH vs ns->ns.length<=n->s₁.gens=#[] ->
   FU (model l.prog w) HE (.call (.ref fa) ⟨[.ref a],[]⟩) (fun r s'=>r=.ok (.ret (.bool Ab))/\OldK s₁.heap s'.heap/\s'.os=s₁.os/\FT s'.gens) s₁):WalkO q loose XP YP l.row.toRowW d [] (fun f vs=>KA f vs):=by
 intro w s₀ s₁ mg mb G Y fa o pm cd doc dV kV ho hd hcd hD hmg hg args vals as hpre hlay hrd hwl hlo;obtain rfl:dV=.none:=Dflts.none hD hdf;obtain rfl:kV=.none:=Dflts.noKw hD;obtain⟨a,vs,ns,rfl,rfl,hobj,hints,hlen⟩:=YZ hn hpre hwl;refine enter_call (FK (call w s₀ s₁ mg mb fa o pm cd doc a vs ns G Y ho (fd_plain hd) hcd hmg hobj hints hlen hg) fun r s' hq=>?_)
 obtain⟨rfl,h2,h3,h4⟩:=hq;exact⟨.inl ⟨.bool Ab,.bool Ab,[],rfl,fun _=>rfl,.bool Ab,Zi l _,fun _=>⟨List.Pairwise.nil,fun _ hm=>(nomatch hm)⟩⟩,h2,h3,h4⟩
section
variable{prog:AS}{w:AB}{A:AY}{E:Vq}{s:Ar}{K:Frag}
end
end Att
namespace L2
open PySem PySem.Spec PyProof.Rows
variable{k:Ag}{x:Ai}
theorem Rn:∀{vs:Ac Ak}{ns:Ac Af},IH vs ns->Bc (ns.map V.int) vs
 |_,_,.nil=>.nil
 |_,_,.cons n t h=>.cons ⟨t,rfl⟩ (Rn h)
def QX(H:Hp):Prop:=∀ b,H b=Ad\/∃ o xs,H b=Aa (.frz o (.lst xs))
theorem aN{P:AS}{w:AB}{K:Fg}{mg mb:Ai->An Ak}{CX:CXT}{fa a:Ah}{fd:BV}{sp:Sp}{s₁:Ar}{vs:Ac Ak}{ns:Ac Af}(KX:K.In s₁.heap)(hns:s₁.heap.Ns A8 mg)(hb:s₁.heap.Ns IT mb)(hbb:∀ x:Ai,x≠"__name__"->mb x=Dd x)(hlim:s₁.heap.NoLimit)(hg:s₁.gens=#[])(ha:s₁.heap.get? a=Aa { cls:=.type "list", data:=.seq vs.toArray })(hi:IH vs ns)(hl:ns.length<=sizeLine)(hr:Room k HE)(F:∀ base:AF,K.In base->base.Ns A8 mg->FnOk P w K mg base CX k fa fd [x] sp)(hbind:∀(s:Ar)(u:Ak),Gz s fd ⟨[u],[]⟩ [(x,u)])(hsp:∀ H:Hp,QX H->SqL K H a (ns.map V.int)->sp [.ref a] H (fun v _=>v=.bl Ab) fun _ _ _=>AW)(hCX:∀ H e s',CX [] H s₁ (fun _ _ _=>AW) e s'->AW):FU (model P w) HE (.call (.ref fa) ⟨[.ref a],[]⟩) (fun r s'=>r=.ok (.ret (.bool Ab))/\OldK s₁.heap s'.heap/\s'.os=s₁.os/\FT s'.gens) s₁:=by
 have rv:=Rn hi;have lenV:=hi.length
 -- from an abstract heap in which nothing but the script may be tracked
 have core:∀ H:Hp,QX H->SqL K H a (ns.map V.int)->HOk P w H s₁.heap->(∀ b,H b≠Ad->b=a)->(H a≠Ad->K.lookup a=Ad) ->
   FU (model P w) HE (.call (.ref fa) ⟨[.ref a],[]⟩) (fun r s'=>r=.ok (.ret (.bool Ab))/\OldK s₁.heap s'.heap/\s'.os=s₁.os/\FT s'.gens) s₁:=by
  intro H hO hS hok hA hK;have base_of:∀{b:Ah}{o:Dl},s₁.heap.get? b=Aa o->H b=Ad->(Jk s₁.heap H).get? b=Aa o:=fun e n=>aR e n
  have noA:∀{b:Ah}{o:Dl}{es:Bj DictEntry}{ep:Ag},s₁.heap.get? b=Aa o->o.data=.dict es ep->H b=Ad:=fun {b o es ep} e d=>by
   cases q:H b with
   |none=>rfl
   |some u=>
    have e':b=a:=hA b (by rw[q];simp)
    subst e';rw[ha]at e;cases e;have d':LR vs.toArray _=Data.dict es ep:=d;cases d'
  have nsK:∀{b:Ah}{m:Ai->An Ak},s₁.heap.Ns b m->(Jk s₁.heap H).Ns b m:=fun {b m} ⟨o,es,ep,e,d,r⟩=>⟨o,es,ep,base_of e (noA e d),d,r⟩
  have hKb:K.In (Jk s₁.heap H):=fun b o e=>base_of (KX b o e) (by
   cases q:H b with
   |none=>rfl
   |some u=>
    have e':b=a:=hA b (by rw[q];simp)
    subst e';rw[hK (by rw[q];simp)]at e;cases e)
  have hM:Mod K mg (Jk s₁.heap H):=⟨hKb,nsK hns,⟨mb,nsK hb,hbb⟩,let ⟨mc,h1,h2⟩:=hlim;⟨mc,nsK h1,h2⟩⟩
  have e0:Env0 P w K mg (Jk s₁.heap H) HE [] s₁ H:=⟨rfl,hM,fun b o e=>gX e,Nat.le_of_eq (Zc _ _),trivial,fun b hb=>absurd (show b∈([]:Ac Ah) from hb) (by simp),hok,.of_eq hg⟩
  refine FK ((F _ hKb (nsK hns)).run HE [] s₁ H ⟨[.ref a],[]⟩ [.ref a] [.ref a] _ _ hr e0 (hbind s₁ (.ref a)) (.cons rfl .nil) (hsp H hO hS)) fun r s' h=>?_
  cases r with
  |error e=>exact(hCX H e s' h).elim
  |ok fl=>
   cases fl with
   |next=>exact Bi h
   |brk=>exact Bi h
   |cont=>exact Bi h
   |ret u=>
    obtain⟨v,H',os,bare,un,hok',r',q⟩:=h;have q':v=.bl Ab:=q;subst q';obtain rfl:u=Ky Ab:=r';refine⟨rfl,OldK.of_keep fun b o e=>?_,os,bare⟩
    cases q:H b with
    |none=>exact un.keep b o e q (by intro z;exact absurd (show b∈([]:Ac Ah) from z) (by simp)) (by simp)
    |some u=>
     rcases hO b with z|⟨ob,xs,z⟩
     ·rw[q]at z;cases z
     ·have z2:=un.frzs b ob _ z;obtain⟨e1,_⟩:=hok b _ z;obtain⟨e2,_⟩:=hok' b _ z2;rw[e]at e1;cases e1;exact e2
 cases hk:K.lookup a with
 |some o=>
  -- the script is one of the module's own objects
  have e:=KX a o hk;rw[ha]at e;cases e;refine core (fun _=>Ad) (fun _=>.inl rfl) (.inr ⟨_,vs.toArray,_,hk,rfl,rfl,rfl,by rw[AM,lenV];exact hl,by simpa using rv⟩) (fun b u z=>by have z':(Ad:An HO)=Aa u:=z;cases z') (fun b z=>absurd rfl z) fun z=>absurd rfl z
 |none=>
  refine core (fun b=>if b=a then Aa (.frz { cls:=.type "list", data:=.seq vs.toArray } (.lst (ns.map V.int))) else Ad) (fun b=>?_) (.inl (.inr ⟨{ cls:=.type "list", data:=.seq vs.toArray },AG rfl⟩)) (fun b u z=>?_) (fun b z=>?_) fun _=>hk
  ·by_cases hb:b=a
   ·exact .inr ⟨_,_,AG hb⟩
   ·exact .inl (AI hb)
  ·by_cases hb:b=a
   ·have z':=(AG hb).symm.trans z;cases z';subst hb;exact⟨ha,by rw[Bm];exact hl,vs,_,rv,ha⟩
   ·have z':=(AI hb).symm.trans z;cases z'
  ·by_cases hb:b=a
   ·exact hb
   ·exact absurd (AI hb) z
noncomputable abbrev KOf{K:Fg}{h:AF}(_:K.In h):Fg:=K
theorem walk_of{l:Gf}{n:Ag}{q:AS}{loose:Ac Ai}{XP:(Ai->An Ak)->AF->Prop}{YP:AB->AF->Prop}{d:DefRec}{K:LU->Fg}{CX:AB->CXT}{sp:AB->Sp}(hn:l.most=Aa n)(hn2:n<=sizeLine)(hdf:d.params.defaults=[])(hr:Room k HE)(hY:∀(w:AB)(h:AF),YP w h->(K w.params).In h)(F:∀(w:AB)(mg:Ai->An Ak)(fa:Ah)(h:AF),(K w.params).In h->h.Ns A8 mg->mg d.name=Aa (.ref fa) ->
   ∃ fd:BV,(∀(s:Ar)(u:Ak),Gz s fd ⟨[u],[]⟩ [(x,u)]) /\
    ∀ base:AF,(K w.params).In base->base.Ns A8 mg->FnOk l.prog w (K w.params) mg base (CX w) k fa fd [x] (sp w))(hsp:∀(w:AB)(H:Hp)(a:Ah)(ns:Ac Af),ns.length<=n->QX H->SqL (K w.params) H a (ns.map V.int)->sp w [.ref a] H (fun v _=>v=.bl Ab) fun _ _ _=>AW)(hCX:∀(w:AB)(H:Hp)(s:Ar)(e:Ak)(s':Ar),CX w [] H s (fun _ _ _=>AW) e s'->AW):Xf q loose XP YP l.row.toRowW d [] (fun f vs=>KA f vs):=by
 refine Att.attach_call hn hdf fun w s₀ s₁ mg mb fa o pm cd doc a vs ns G Y ho hd hcd hmg hobj hints hlen hg=>?_
 have KX:=hY w _ Y;obtain⟨fd,hb,hF⟩:=F w mg fa _ KX G.T.g hmg;exact aN KX G.T.g G.T.b G.T.builtins G.T.nolimit hg hobj hints (BU hlen hn2) hr hF hb (fun H hO hS=>hsp w H a ns hlen hO hS) fun H e s'=>hCX w H s₁ e s'
end L2
/- THE LAST THEOREM (shape;LID,My.* are yours):
   My.Adr: a structure of the addresses that your layer names (classes,functions);My.Txt K t: a structure (Prop) of the equations over K;
   My.txt_mk:{K} {implicit addresses ..} (e1:nsIn K A8 "law" = Aa (Aa (.ref f))) (e2:K.lookup f=Aa ⟨oc,od,.func (fnOf "law" "law" params body scope dV kV doc pm an cdv ct),sl⟩) (e3:codeIn K cdv "law" = Ab) ..:∃ t,My.Txt K t
set_option maxRecDepth 100000 in
set_option maxHeartbeats 0 in
theorem PySem.Challenge.cw_LID_holds:PySem.Challenge.rw_LID.Holds:=by
 w_on;o_law;k_head;(case hw=>w_witness2)
 k_fill
 refine L2.walk_of (l:=PySem.Challenge.rw_LID) (n:=63) (k:=40) (x := "script") (CX:=fun w=>..) (sp:=fun _=>My.sp_law) rfl (by decide) rfl ⟨rfl,by decide,by decide⟩ (fun w h Y=>Xh Y) ?F ?S ?C
 case F=>
  intro w mg fa h KX G hmg;have T:∃ t,My.Txt (L2.KOf KX) t:=by
   dsimp only[L2.KOf]                          -- K must stand as «<heap const> w.params» for k_is
   refine' My.txt_mk ?e1 ?e2 ?e3 ..
   (case e1=>PySem.W.k_is)                    -- in the order: a name -> its address -> its object -> its parts
   (case e2=>PySem.W.k_is)
   ..
  obtain⟨t,T⟩:=T;have e0:=hmg.symm.trans (BM KX G T.law);cases e0                                       -- fa is the law's own address
  exact⟨_,fun s u=>.of_eq rfl,fun base kb nb=>My.law_fn T kb nb⟩     -- if «.of_eq rfl» comes too early: refine' ⟨_,?b,fun base kb nb=>My.law_fn T kb nb⟩;exact fun s u=>.of_eq rfl
 case S=>exact fun w H a ns hl hO hS=>..
 case C=>exact ..
(the tactic k_is has no namespace: write k_is) -/
namespace L2
open PySem PySem.Spec PyProof.Rows
noncomputable def JF(s:Be):LI:=match s with
  |.FunctionDef _ a _ _ _ _ _ _ _ _=>a
  |_=>{posonlyargs:=[],args:=[],vararg:=Ad,kwonlyargs:=[],kw_defaults:=[],kwarg:=Ad,defaults:=[]}
noncomputable def F1(s:Be):Ac Be:=match s with
  |.FunctionDef _ _ b _ _ _ _ _ _ _=>b
  |_=>[]
noncomputable def CB(s:Be):Co:=match s with
  |.FunctionDef _ _ _ _ _ _ sc _ _ _=>sc
  |_=>{kind:=.function,names:=[],isGenerator:=Ae,isCoroutine:=Ae}
noncomputable abbrev CX0:CXT:=fun _ _ _ _ _ _=>AW
noncomputable abbrev E0:XK:=fun _ _ _=>AW
structure Fun (K:Fg) (x qual:Ai) (st:Be) (f:Ah) (fd:BV):Prop where
 ex:∃(oc:Ak)(od:An Ah)(kV doc pm:Ak)(an:An Ah)(cdv ct:Ak)(osl:Bj (An Ak)),
  fd=CO x qual (JF st) (F1 st) (CB st) .none kV doc pm an cdv ct/\K.lookup f=Aa ⟨oc,od,.func fd,osl⟩/\E2 K cdv qual=Ab
 kp:B8 K (.ref f)=Ab
section
variable{P:AS}{w:AB}{K:Fg}{mg:Ai->An Ak}{base:AF}
theorem Fun.ok{x qual:Ai}{st:Be}{f:Ah}{fd:BV}{N ps:Ac Ai}{k:Ag}{sp:Sp}(F:Fun K x qual st f fd)(S:FnScope N ps (CB st))(len:∀ vs H Q E,sp vs H Q E->vs.length=ps.length)(hbody:∀(cdv:Ak)(A:AY)(outer:Ac Cd)(s:Ar)(H:Hp)(vs:Ac V)(Q:VK)(E:XK),Room k (A.deeper (EX qual (CB st) s.heap.objs.size f cdv))->sp vs H Q E ->
   ∃ t,PSs (E6 CX0 P w K mg base N qual (CB st) f cdv A outer s H E).nox (F1 st) t/\t {nx:=fun _ H'=>Q .non H',rt:=Q} (start N vs) H):FnOk P w K mg base CX0 (k+1) f fd ps sp:=by
 obtain⟨oc,od,kV,doc,pm,an,cdv,ct,osl,rfl,lk,hcd⟩:=F.ex;refine US lk hcd S len fun A outer s H vs Q E hr hsp=>?_
 obtain⟨t,h,q⟩:=hbody cdv A outer s H vs Q E hr hsp;exact⟨t,h.nox,q⟩
theorem Fun.binds{x qual:Ai}{st:Be}{f:Ah}{fd:BV}{ps:Ac Ai}(F:Fun K x qual st f fd)(h:∀(kV doc pm:Ak)(an:An Ah)(cdv ct:Ak)(us:Ac Ak),us.length=ps.length->JW (CO x qual (JF st) (F1 st) (CB st) .none kV doc pm an cdv ct) ⟨us,[]⟩=pure (ps.zip us)):F6 K fd ps []:=by
 obtain⟨oc,od,kV,doc,pm,an,cdv,ct,osl,rfl,lk,hcd⟩:=F.ex;exact .all (h kV doc pm an cdv ct)
theorem Ut{x qual:Ai}{st:Be}{f:Ah}{oc:Ak}{od an:An Ah}{osl:Bj (An Ak)}{kV doc pm cdv ct:Ak}(l:K.lookup f=Aa ⟨oc,od,.func (CO x qual (JF st) (F1 st) (CB st) .none kV doc pm an cdv ct),osl⟩)(c:E2 K cdv qual=Ab)(k:B8 K (.ref f)=Ab):Fun K x qual st f (CO x qual (JF st) (F1 st) (CB st) .none kV doc pm an cdv ct):=⟨⟨oc,od,kV,doc,pm,an,cdv,ct,osl,rfl,l,c⟩,k⟩
end
section
variable{X:Cx}
end
def AH(H H':Hp):Prop:=∀ b o,H b=Aa o->H' b=Aa o
theorem AH.refl(H:Hp):AH H H:=fun _ _ h=>h
theorem AH.trans{H H1 H2:Hp}(a:AH H H1)(b:AH H1 H2):AH H H2:=fun c o h=>b c o (a c o h)
theorem AH.free{H H':Hp}(e:AH H H'){l:Ah}(h:H' l=Ad):H l=Ad:=by
 cases q:H l with
 |none=>rfl
 |some o=>
  rw[e l o q]at h;cases h
end L2
section
namespace Ov
open PySem
variable{α β:Type}
inductive D where
 |non|bl (b:Ao)|int (i:Af)|str (x:Ai)|tup (ds:Ac D)|lst (ds:Ac D)
 |obj (c:Ag) (fs:Ac (Ai×D))|exc (c:Ag) (fs:Ac (Ai×D))|dic (kvs:Ac (Ac Af×D))
 deriving Inhabited
structure Ex where
 c:Ag
 fs:Ac (Ai×D)
 deriving Inhabited
inductive R (α:Type) where
 |ok (a:α)|exn (x:Ex)|bad
 deriving Inhabited
noncomputable def R.bind{α β:Type}(r:R α)(f:α->R β):R β:=match r with
  |.ok a=>f a
  |.exn x=>.exn x
  |.bad=>.bad
@[simp]theorem R.bind_ok(a:α)(f:α->R β):(R.ok a).bind f=f a:=rfl
@[simp]theorem R.bind_exn(x:Ex)(f:α->R β):(R.exn x:R α).bind f=.exn x:=rfl
@[simp]theorem R.bind_bad(f:α->R β):(R.bad:R α).bind f=.bad:=rfl
theorem R.bind_assoc{γ:Type}(r:R α)(f:α->R β)(g:β->R γ):(r.bind f).bind g=r.bind fun a=>(f a).bind g:=by cases r<;>rfl
noncomputable def Ci(n:Ag):Ao:=C8 n 1000000
noncomputable def EB(i j:Af):Ao:=(decide (-(18446744073709551616:Af)<i)&&decide (i<18446744073709551616))||(decide (-(18446744073709551616:Af)<j)&&decide (j<18446744073709551616))
noncomputable def Ht(i j:Af):Ao:=decide (i.natAbs<2 ^ 2000)&&decide (j.natAbs<2 ^ 2000)
noncomputable def CV:Go->D->D->R D
 |.Add,.int i,.int j=>.ok (.int (i+j))
 |.Sub,.int i,.int j=>.ok (.int (i-j))
 |.Mult,.int i,.int j=>if (EB i j||Ht i j)=Ab then .ok (.int (i*j)) else .bad
 |.FloorDiv,.int i,.int j=>if 0<j/\j<1073741824 then .ok (.int (i / j)) else .bad
 |.Mod,.int i,.int j=>if 0<j then .ok (.int (i%j)) else .bad
 |.Pow,.int i,.int j=>if (0<=j/\j<=1000000)/\(-(18446744073709551616:Af)<i/\i<18446744073709551616) then .ok (.int (i ^ j.toNat)) else .bad
 |.Add,.str x,.str y=>if Ci (x.length+y.length)=Ab then .ok (.str (x++y)) else .bad
 |.Add,.lst x,.lst y=>if Ci (x.length+y.length)=Ab then .ok (.lst (x++y)) else .bad
 |.Add,.tup x,.tup y=>if (!x.isEmpty&&Ci (x.length+y.length))=Ab then .ok (.tup (x++y)) else .bad
 |_,_,_=>.bad
noncomputable def unD:UnaryOp->D->R D
 |.USub,.int i=>.ok (.int (-i))
 |_,_=>.bad
noncomputable def b2i(b:Ao):Af:=if b=Ab then 1 else 0
mutual
noncomputable def eqD:D->D->Ao
 |.non,.non=>Ab
 |.bl a,.bl b=>a==b
 |.bl a,.int j=>b2i a==j
 |.int i,.bl b=>i==b2i b
 |.int i,.int j=>i==j
 |.str x,.str y=>x==y
 |.tup xs,.tup ys=>eqDs xs ys
 |.lst xs,.lst ys=>eqDs xs ys
 |_,_=>Ae
noncomputable def eqDs:Ac D->Ac D->Ao
 |[],[]=>Ab
 |x::xs,y::ys=>eqD x y&&eqDs xs ys
 |_,_=>Ae
end
noncomputable def flD:Ag->D->Ao
 |_,.non=>Ab
 |_,.bl _=>Ab
 |_,.int _=>Ab
 |_,.str _=>Ab
 |n+1,.tup xs=>xs.all (flD n)
 |n+1,.lst xs=>xs.all (flD n)
 |_,_=>Ae
noncomputable def DI:D->An (Ac Af)
 |.tup ds=>keyDs ds
 |_=>Ad
where keyDs:Ac D->An (Ac Af)
 |[]=>Aa []
 |.int i::r=>(keyDs r).map (i :: ·)
 |_=>Ad
noncomputable def ltD:Ag->D->D->Ao
 |0,.int i,.int j=>decide (i<j)
 |n+1,.tup xs,.tup ys=>ltDs (ltD n) xs ys
 |_,_,_=>Ae
where ltDs (lt:D->D->Ao):Ac D->Ac D->Ao
 |[],[]=>Ae
 |[],_::_=>Ab
 |_::_,[]=>Ae
 |x::xs,y::ys=>if eqD x y=Ab then ltDs lt xs ys else lt x y
noncomputable def rkD:Ag->D->Ao
 |0,.int _=>Ab
 |n+1,.tup xs=>xs.all (rkD n)
 |_,_=>Ae
noncomputable def VR(lt:D->D->Ao)(x:D):Ac D->Ac D
 |[]=>[x]
 |y::ys=>if lt y x=Ab then y::VR lt x ys else x::y::ys
noncomputable def UD(lt:D->D->Ao):Ac D->Ac D
 |[]=>[]
 |x::xs=>VR lt x (UD lt xs)
noncomputable def VL:Ac D->Ao
 |[]=>Ab
 |x::xs=>xs.all (fun y=>!eqD x y)&&VL xs
noncomputable def VA:Ac D->Ao
 |[]=>Ab
 |[_]=>Ab
 |x::y::r=>ltD 1 x y&&VA (y::r)
noncomputable def SR(xs:Ac D):R (Ac D):=if (xs.all (fun d=>rkD 1 d && !eqD d (.tup []))&&VL xs&&(decide (xs.length<64)||(VA xs&&decide (xs.length<=1000))))=Ab then .ok (UD (ltD 1) xs) else .bad
noncomputable def BO:EF->D->D->R D
  |.Eq,x,y=>if (flD 5 x&&flD 5 y)=Ab then .ok (.bl (eqD x y)) else .bad
  |.NotEq,x,y=>if (flD 5 x&&flD 5 y)=Ab then .ok (.bl (!eqD x y)) else .bad
  |.Lt,.int i,.int j=>.ok (.bl (decide (i<j)))
  |.LtE,.int i,.int j=>.ok (.bl (decide (i<=j)))
  |.Gt,.int i,.int j=>.ok (.bl (decide (j<i)))
  |.GtE,.int i,.int j=>.ok (.bl (decide (j<=i)))
  |.In,x,.lst ys=>if (flD 5 x&&ys.all (flD 5))=Ab then .ok (.bl (ys.any fun y=>eqD y x)) else .bad
  |.In,x,.dic kvs=>match DI x with
    |some k=>.ok (.bl (kvs.any fun p=>p.1==k))
    |none=>.bad
  |.In,x,.tup ys=>if (flD 5 x&&ys.all (flD 5))=Ab then .ok (.bl (ys.any fun y=>eqD y x)) else .bad
  |.NotIn,x,.lst ys=>if (flD 5 x&&ys.all (flD 5))=Ab then .ok (.bl (!ys.any fun y=>eqD y x)) else .bad
  |.NotIn,x,.dic kvs=>match DI x with
    |some k=>.ok (.bl (!kvs.any fun p=>p.1==k))
    |none=>.bad
  |.NotIn,x,.tup ys=>if (flD 5 x&&ys.all (flD 5))=Ab then .ok (.bl (!ys.any fun y=>eqD y x)) else .bad
  |.Is,.non,.non=>.ok (.bl Ab)
  |.Is,.bl _,.non=>.ok (.bl Ae)
  |.Is,.int _,.non=>.ok (.bl Ae)
  |.Is,.str _,.non=>.ok (.bl Ae)
  |.Is,.tup _,.non=>.ok (.bl Ae)
  |.Is,.lst _,.non=>.ok (.bl Ae)
  |.Is,.obj _ _,.non=>.ok (.bl Ae)
  |.Is,.bl a,.bl b=>.ok (.bl (a==b))
  |.IsNot,.bl a,.bl b=>.ok (.bl (!(a==b)))
  |.IsNot,.non,.non=>.ok (.bl Ae)
  |.IsNot,.bl _,.non=>.ok (.bl Ab)
  |.IsNot,.int _,.non=>.ok (.bl Ab)
  |.IsNot,.str _,.non=>.ok (.bl Ab)
  |.IsNot,.tup _,.non=>.ok (.bl Ab)
  |.IsNot,.lst _,.non=>.ok (.bl Ab)
  |.IsNot,.obj _ _,.non=>.ok (.bl Ab)
  |_,_,_=>.bad
noncomputable def BL:D->R Ao
 |.non=>.ok Ae
 |.bl b=>.ok b
 |.int i=>.ok (i != 0)
 |.str x=>if Ci x.length=Ab then .ok (x.length != 0) else .bad
 |.tup xs=>.ok (!xs.isEmpty)
 |.lst xs=>.ok (!xs.isEmpty)
 |_=>.bad
noncomputable def plD(n:Ag)(i:Af):An Ag:=if 0<=i then (if i<n then Aa i.toNat else Ad) else if -(n:Af)<=i then Aa (i+n).toNat else Ad
noncomputable def Di(xs:Ac D)(i:Af):R D:=match plD xs.length i with
  |some k=>match xs[k]? with
    |some d=>.ok d
    |none=>.bad
  |none=>.bad
noncomputable def Fu(kvs:Ac (Ac Af×D))(k:Ac Af):An D:=(kvs.find? fun p=>p.1==k).map (·.2)
noncomputable def Hs(kvs:Ac (Ac Af×D))(k:Ac Af)(v:D):Ac (Ac Af×D):=if (kvs.any fun p=>p.1==k)=Ab then kvs.map (fun p=>if (p.1==k)=Ab then (k,v) else p) else kvs++[(k,v)]
noncomputable def QB:D->R (Ac (Ac Af×D))
 |.dic kvs=>.ok kvs
 |_=>.bad
noncomputable def FM(d:D):R (Ac Af):=match DI d with
  |some k=>.ok k
  |none=>.bad
noncomputable def DQ:D->D->R D
  |.lst xs,.int i=>Di xs i
  |.tup xs,.int i=>Di xs i
  |.dic kvs,k=>match (DI k).bind (Fu kvs) with
    |some d=>.ok d
    |none=>.bad
  |_,_=>.bad
noncomputable def EK:D->R Af
 |.int i=>.ok i
 |_=>.bad
noncomputable def DK:D->R Ao
 |.bl b=>.ok b
 |_=>.bad
noncomputable def De:D->R (Ac D)
 |.lst xs=>.ok xs
 |.tup xs=>.ok xs
 |_=>.bad
noncomputable def Lu:D->R (Ac D)
 |.lst xs=>.ok xs
 |_=>.bad
inductive BI where
 |len|abs|max|min|int|list|tuple|all|any|sum|sorted|str|count|stp|lset|tmin|tmax|tlt|rvs
 deriving DecidableEq,Inhabited
inductive Ki where
 |int|bool|str|list|tuple|verr|cls (c:Ag)
 deriving DecidableEq,Inhabited
mutual
inductive E where
 |non|bl (b:Ao)|int (i:Af)|str (x:Ai)
 |var (i:Ag)|glob (g:Ag)
 |bin (op:Go) (a b:E)|un (op:UnaryOp) (a:E)|no (a:E)
 |and (es:Es)|or (es:Es)
 |cmp (op:EF) (a b:E)|cmp2 (op op':EF) (a b c:E)
 |ite (c a b:E)
 |call (f:Ag) (as:Es)|bi (b:BI) (as:Es)
 |isi (a:E) (ks:Ac Ki)
 |idx (a i:E)|sl (a lo hi:E)
 |tup (es:Es)|lst (es:Es)
 |comp (elt:E) (t:Ag) (it:I) (c:E)|compT (elt:E) (ts:Ac Ag) (it:I) (c:E)|tupI (it:I)
 /-- d.get(k,x) -/
 |dget (i:Ag) (k x:E)
 |fld (o:E) (f:Ai)
inductive Es where
 |nil|cons (e:E) (es:Es)
inductive I where
 |e (a:E)|rng (a:E)|rng2 (a b:E)|zip (a b:E)|zip3 (a b c:E)|enm (a:E)
end
abbrev Sl:=An (D×Ao)
abbrev Rho:=Ac Sl
structure Gam where
 F:Ag->Ac D->R D
 G:Ag->D
 up:Ag->Ac Ag
 /-- the defs whose answer is a new list -/
 fr:Ag->Ao
 /-- what is raised: the class,what it is made of -/
 xn:Ag->Ac D->R Ex
noncomputable def Cq(lo:Af)(n:Ag):Ac D:=(A5 n).map fun(k:Ag)=>D.int (lo+(k:Af))
noncomputable def Du(lo hi:Af):R (Ac D):=if (-(4611686018427387904:Af)<=lo/\lo<4611686018427387904)/\(-(4611686018427387904:Af)<=hi/\hi<4611686018427387904)/\hi-lo<1000000 then .ok (Cq lo (hi-lo).toNat) else .bad
noncomputable def kiD(up:Ag->Ac Ag):Ki->D->Ao
 |.int,.int _=>Ab
 |.int,.bl _=>Ab
 |.bool,.bl _=>Ab
 |.str,.str _=>Ab
 |.list,.lst _=>Ab
 |.tuple,.tup _=>Ab
 |.cls c,.obj k _=>(up k).contains c
 |.cls c,.exc k _=>(up k).contains c
 |.verr,.exc _ _=>Ab
 |_,_=>Ae
noncomputable def Ev:Ki->Ao
 |.cls _=>Ab
 |.verr=>Ab
 |_=>Ae
noncomputable def EL(up:Ag->Ac Ag)(ks:Ac Ki)(x:D):R D:=match x with
  |.obj _ _=>.bad
  |.exc _ _=>if ks.all Ev=Ab then .ok (.bl (ks.any fun k=>kiD up k x)) else .bad
  |.dic _=>.bad
  |_=>if ks.any Ev=Ab then .bad else .ok (.bl (ks.any fun k=>kiD up k x))
noncomputable def Kt:D->R Ao
 |.non=>.ok Ae
 |.bl b=>.ok b
 |.int i=>.ok (i != 0)
 |_=>.bad
noncomputable def Lv:Ac D->R Ao
 |[]=>.ok Ab
 |x::r=>(Kt x).bind fun b=>(Lv r).bind fun c=>.ok (b&&c)
noncomputable def JM:Ac D->R Ao
 |[]=>.ok Ae
 |x::r=>(Kt x).bind fun b=>(JM r).bind fun c=>.ok (b||c)
noncomputable def MJ:Af->Ac D->R Af
 |a,[]=>.ok a
 |a,.int i::r=>MJ (a+i) r
 |_,_=>.bad
noncomputable def F7:Ac D->Ac D->Ac D
 |x::xs,y::ys=>.tup [x,y]::F7 xs ys
 |_,_=>[]
noncomputable def UJ:Ac D->Ac D->Ac D->Ac D
 |x::xs,y::ys,z::zs=>.tup [x,y,z]::UJ xs ys zs
 |_,_,_=>[]
noncomputable def UI(x y z:D):R (Ac D):=(De x).bind fun xs=>(De y).bind fun ys=>(De z).bind fun zs=>if 0<xs.length/\xs.length<=1000/\ys.length=xs.length/\zs.length=xs.length then .ok (UJ xs ys zs) else .bad
noncomputable def Fe:Af->Ac D->Ac D
 |_,[]=>[]
 |i,x::xs=>.tup [.int i,x]::Fe (i+1) xs
noncomputable def nlD:Ag->D->Ao
 |_,.non=>Ab
 |_,.bl _=>Ab
 |_,.int _=>Ab
 |_,.str _=>Ab
 |n+1,.tup xs=>xs.all (nlD n)
 |_,_=>Ae
noncomputable def Ea(fr:Ao):D->Ao
 |.lst ds=>fr&&ds.all (nlD 5)
 |d=>nlD 5 d
noncomputable def Qq:Ac D->An (Ac Af)
 |[]=>Aa []
 |.int i::r=>(Qq r).map (i :: ·)
 |_=>Ad
noncomputable def VM(i:Af):Ac Af->Af
 |[]=>i
 |j::r=>VM (if j<i then j else i) r
noncomputable def pk2(k n:Ag):Ac Ag:=(A5 ((n-min k n+1) / 2)).map fun j=>min k n+2*j
noncomputable def Vs(k:Ag)(xs:Ac D):Ac D:=(pk2 k xs.length).filterMap fun i=>xs[i]?
noncomputable def ddS(acc:Ac Af)(x:Af):Ac Af:=if acc.any (· == x)=Ab then acc else acc++[x]
noncomputable def ddN(is:Ac Af):Ag:=(is.foldl ddS []).length
noncomputable def UV(xs:Ac D):R D:=match Qq xs with
  |some is=>if C8 is.length 4000=Ab then .ok (.int (ddN is)) else .bad
  |none=>.bad
noncomputable def mmD(mx:Ao)(x y:D):R D:=if [x,y].all (fun d=>rkD 1 d && !eqD d (.tup []))=Ab then .ok (if (if mx=Ab then ltD 1 x y else ltD 1 y x)=Ab then y else x) else .bad
noncomputable def Vm(x y:D):R D:=if [x,y].all (fun d=>rkD 1 d && !eqD d (.tup []))=Ab then .ok (.bl (ltD 1 x y)) else .bad
noncomputable def biD:BI->Ac D->R D
  |.len,[.lst xs]=>.ok (.int xs.length)
  |.len,[.tup xs]=>.ok (.int xs.length)
  |.len,[.str x]=>if Ci x.length=Ab then .ok (.int x.length) else .bad
  |.abs,[.int i]=>.ok (.int (if i<0 then -i else i))
  |.max,[.int i,.int j]=>.ok (.int (if i<j then j else i))
  |.min,[.int i,.int j]=>.ok (.int (if j<i then j else i))
  |.min,[.lst xs]=>match Qq xs with
    |some (i::is)=>.ok (.int (VM i is))
    |_=>.bad
  |.int,[.int i]=>.ok (.int i)
  |.int,[.bl b]=>.ok (.int (b2i b))
  |.list,[.lst xs]=>.ok (.lst xs)
  |.list,[.tup xs]=>.ok (.lst xs)
  |.tuple,[.lst xs]=>.ok (.tup xs)
  |.tuple,[.tup xs]=>.ok (.tup xs)
  |.all,[.lst xs]=>(Lv xs).bind fun b=>.ok (.bl b)
  |.any,[.lst xs]=>(JM xs).bind fun b=>.ok (.bl b)
  |.any,[.tup xs]=>(JM xs).bind fun b=>.ok (.bl b)
  |.sum,[.lst xs]=>(MJ 0 xs).bind fun i=>.ok (.int i)
  |.sum,[.tup xs]=>(MJ 0 xs).bind fun i=>.ok (.int i)
  |.sorted,[.lst xs]=>(SR xs).bind fun ys=>.ok (.lst ys)
  |.count,[.lst xs,x]=>if (flD 5 x&&xs.all (flD 5))=Ab then .ok (.int ((xs.filter fun y=>eqD y x).length:Ag)) else .bad
  |.len,[.dic kvs]=>if Ci kvs.length=Ab then .ok (.int kvs.length) else .bad
  |.stp,[.lst xs,.int k]=>.ok (.lst (Vs k.toNat xs))
  |.lset,[.lst xs]=>UV xs
  |.tmin,[x,y]=>mmD Ae x y
  |.tmax,[x,y]=>mmD Ab x y
  |.tlt,[x,y]=>Vm x y
  |.rvs,[.lst xs]=>.ok (.lst xs.reverse)
  |_,_=>.bad
noncomputable def slE(c:E)(d:D):R (An Af):=match c with
  |.non=>.ok Ad
  |_=>(EK d).bind fun i=>.ok (Aa i)
noncomputable def Ha(n d:Ag):An Af->Ag
 |none=>d
 |some i=>if i<0 then (i+n).toNat else min i.toNat n
noncomputable def LD(xs:Ac D)(lo hi:An Af):Ac D:=(xs.drop (Ha xs.length 0 lo)).take (Ha xs.length xs.length hi-Ha xs.length 0 lo)
noncomputable def slD:D->An Af->An Af->R D
 |.lst xs,l,h=>.ok (.lst (LD xs l h))
 |.tup xs,l,h=>if (Ha xs.length 0 l==0&&Ha xs.length xs.length h==xs.length)=Ab then .bad else .ok (.tup (LD xs l h))
 |_,_,_=>.bad
noncomputable def LC:D->Ai->R D
  |.exc _ fs,f=>match fs.lookup f with
    |some d=>.ok d
    |none=>.bad
  |_,_=>.bad
noncomputable def F8(ρ:Rho)(i:Ag):R D:=match ρ[i]? with
  |some (Aa (d,Ae))=>.ok d
  |_=>.bad
noncomputable def Dm(ρ:Rho)(i:Ag):R D:=match ρ[i]? with
  |some (Aa (d,_))=>.ok d
  |_=>.bad
noncomputable def shE(ρ:Rho):E->Ao
  | .var i=>(match ρ[i]? with
    |some (Aa (_,Ab))=>Ae
    | _=>Ab)
  |_=>Ab
noncomputable def Ie(ρ:Rho):Es->Ao
 |.nil=>Ab
 |.cons e es=>shE ρ e&&Ie ρ es
noncomputable def DX:Ac Ag->Ac D->Rho->An Rho
 |[],[],ρ=>Aa ρ
 |t::ts,d::ds,ρ=>DX ts ds (ρ.set t (Aa (d,Ae)))
 |_,_,_=>Ad
noncomputable def E3(ts:Ac Ag)(d:D)(ρ:Rho):R Rho:=match d with
  | .tup xs=>(match DX ts xs ρ with
    |some ρ'=>.ok ρ'
    | none=>.bad)
  |_=>.bad
noncomputable def H9(ts:Ac Ag)(d:D)(ρ:Rho):R Rho:=match d with
  | .lst xs=>(match DX ts xs ρ with
    |some ρ'=>.ok ρ'
    | none=>.bad)
  |d=>E3 ts d ρ
noncomputable def Cb(g:D->R Ao)(f:D->R D):Ac D->R (Ac D)
 |[]=>.ok []
 |x::xs=>(g x).bind fun b=>if b=Ab then (f x).bind fun y=>(Cb g f xs).bind fun ys=>.ok (y::ys) else Cb g f xs
noncomputable def noX{α:Type}:R α->R α
 |.ok a=>.ok a
 |_=>.bad
noncomputable def top(ρ:Rho)(e:E)(r:R D):R D:=match e with
  |.var i=>Dm ρ i
  |_=>r
mutual
noncomputable def evE(Γ:Gam)(ρ:Rho):E->R D
 |.non=>.ok .non
 |.bl b=>.ok (.bl b)
 |.int i=>.ok (.int i)
 |.str x=>.ok (.str x)
 |.var i=>F8 ρ i
 |.glob g=>.ok (Γ.G g)
 |.bin op a b=>(top ρ a (evE Γ ρ a)).bind fun x=>(top ρ b (evE Γ ρ b)).bind fun y=>CV op x y
 |.un op a=>(top ρ a (evE Γ ρ a)).bind fun x=>unD op x
 |.no a=>(top ρ a (evE Γ ρ a)).bind fun x=>(DK x).bind fun b=>.ok (.bl (!b))
 |.and es=>evN Γ ρ es
 |.or es=>evO Γ ρ es
 |.cmp op a b=>(top ρ a (evE Γ ρ a)).bind fun x=>(top ρ b (evE Γ ρ b)).bind fun y=>BO op x y
 |.cmp2 op op' a b c=>(top ρ a (evE Γ ρ a)).bind fun x=>(top ρ b (evE Γ ρ b)).bind fun y=>(BO op x y).bind fun z=>(DK z).bind fun k=>if k=Ab then (top ρ c (evE Γ ρ c)).bind fun u=>BO op' y u else .ok (.bl Ae)
 |.ite c a b=>(top ρ c (evE Γ ρ c)).bind fun x=>(BL x).bind fun k=>if k=Ab then evE Γ ρ a else evE Γ ρ b
 |.call f as=>(evB Γ ρ as).bind fun xs=>(Γ.F f xs).bind fun d=>if Ie ρ as=Ab then .ok d else if Ea (Γ.fr f) d=Ab then .ok d else .bad
 |.bi b as=>(evB Γ ρ as).bind fun xs=>biD b xs
 |.isi a ks=>(top ρ a (evE Γ ρ a)).bind fun x=>EL Γ.up ks x
 |.idx a i=>(top ρ a (evE Γ ρ a)).bind fun x=>(top ρ i (evE Γ ρ i)).bind fun y=>DQ x y
 |.sl a lo hi=>(top ρ a (evE Γ ρ a)).bind fun x=>(top ρ lo (evE Γ ρ lo)).bind fun l=>(slE lo l).bind fun l'=>(top ρ hi (evE Γ ρ hi)).bind fun h=>(slE hi h).bind fun h'=>slD x l' h'
 |.tup es=>(evA Γ ρ es).bind fun xs=>.ok (.tup xs)
 |.lst es=>(evA Γ ρ es).bind fun xs=>.ok (.lst xs)
 |.comp elt t it c=>(evI Γ ρ it).bind fun xs=>(noX (Cb (fun x=>(top (ρ.set t (Aa (x,Ae))) c (evE Γ (ρ.set t (Aa (x,Ae))) c)).bind BL) (fun x=>evE Γ (ρ.set t (Aa (x,Ae))) elt) xs)).bind fun ys=>.ok (.lst ys)
 |.compT elt ts it c=>(evI Γ ρ it).bind fun xs=>(noX (Cb (fun x=>(E3 ts x ρ).bind fun ρ'=>(top ρ' c (evE Γ ρ' c)).bind BL) (fun x=>(E3 ts x ρ).bind fun ρ'=>evE Γ ρ' elt) xs)).bind fun ys=>.ok (.lst ys)
 |.tupI it=>(evI Γ ρ it).bind fun xs=>.ok (.tup xs)
 |.dget i k x=>(Dm ρ i).bind fun d=>(QB d).bind fun kvs=>(top ρ k (evE Γ ρ k)).bind fun a=>(FM a).bind fun j=>(evE Γ ρ x).bind fun y=>.ok ((Fu kvs j).getD y)
 |.fld o f=>(top ρ o (evE Γ ρ o)).bind fun x=>LC x f
noncomputable def evN(Γ:Gam)(ρ:Rho):Es->R D
 |.nil=>.bad
 |.cons e .nil=>evE Γ ρ e
 |.cons e (.cons e' es)=>(evE Γ ρ e).bind fun x=>(DK x).bind fun c=>if c=Ab then evN Γ ρ (.cons e' es) else .ok (.bl Ae)
noncomputable def evO(Γ:Gam)(ρ:Rho):Es->R D
 |.nil=>.bad
 |.cons e .nil=>evE Γ ρ e
 |.cons e (.cons e' es)=>(evE Γ ρ e).bind fun x=>(DK x).bind fun c=>if c=Ab then .ok (.bl Ab) else evO Γ ρ (.cons e' es)
noncomputable def evA(Γ:Gam)(ρ:Rho):Es->R (Ac D)
 |.nil=>.ok []
 |.cons e es=>(evE Γ ρ e).bind fun x=>(evA Γ ρ es).bind fun xs=>.ok (x::xs)
noncomputable def evB(Γ:Gam)(ρ:Rho):Es->R (Ac D)
 |.nil=>.ok []
 |.cons e es=>(top ρ e (evE Γ ρ e)).bind fun x=>(evB Γ ρ es).bind fun xs=>.ok (x::xs)
noncomputable def evI(Γ:Gam)(ρ:Rho):I->R (Ac D)
 |.e a=>(evE Γ ρ a).bind De
 |.rng a=>(top ρ a (evE Γ ρ a)).bind fun x=>(EK x).bind fun j=>Du 0 j
 |.rng2 a b=>(top ρ a (evE Γ ρ a)).bind fun x=>(top ρ b (evE Γ ρ b)).bind fun y=>(EK x).bind fun i=>(EK y).bind fun j=>Du i j
 |.zip a b=>(evE Γ ρ a).bind fun x=>(evE Γ ρ b).bind fun y=>(De x).bind fun xs=>(De y).bind fun ys=>.ok (F7 xs ys)
 |.zip3 a b c=>(evE Γ ρ a).bind fun x=>(evE Γ ρ b).bind fun y=>(evE Γ ρ c).bind fun z=>UI x y z
 |.enm a=>(evE Γ ρ a).bind fun x=>(De x).bind fun xs=>.ok (Fe 0 xs)
end
noncomputable def Dh(Γ:Gam):E->Ao
 |.lst _=>Ab
 |.comp _ _ _ _=>Ab
 |.compT _ _ _ _=>Ab
 |.bin .Add _ _=>Ab
 |.bi .list _=>Ab
 |.bi .sorted _=>Ab
 |.sl _ _ _=>Ab
 |.call f _=>Γ.fr f
 |_=>Ae
mutual
inductive S where
 |pass
 /-- x=e;fresh: x alone holds the new list -/
 |asg (i:Ag) (fresh:Ao) (e:E)
 /-- a,b,..=e -/
 |asgT (ts:Ac Ag) (e:E)
 |expr (e:E)
 |ret (e:E)|retN
 |ife (c:E) (a b:Ss)
 |fors (t:Ag) (it:I) (body:Ss)
 |forT (ts:Ac Ag) (it:I) (body:Ss)
 |whl (c:E) (body:Ss)
 /-- raise C(e,..) -/
 |rais (c:Ag) (as:Es)
 /-- try: body except C as x: h -/
 |tryx (body:Ss) (c:Ag) (x:Ag) (h:Ss)
 /-- .. except C as x: h,except C' as x: h',else: els -/
 |try2 (body:Ss) (c:Ag) (x:Ag) (h:Ss) (c':Ag) (h' els:Ss)
 /-- x.append(e),x.extend(e),x.insert(k,e),x.reverse(),x.clear() -/
 |app (i:Ag) (e:E)|ext (i:Ag) (e:E)|ins (i:Ag) (k e:E)|rev (i:Ag)|clr (i:Ag)
 /-- d={},d[k]=e,d.setdefault(k,e) -/
 |dnw (i:Ag)|dput (i:Ag) (k e:E)|dsd (i:Ag) (k e:E)
 /-- x[k]=e -/
 |put (i:Ag) (k e:E)
 /-- x[k],x[l]=x[l],x[k] -/
 |swp (i k l:Ag)
 /-- x.append(y.pop(e)) -/
 |apop (j i:Ag) (e:E)
 |brk|cont
 /-- nothing: from here on x is no longer changed -/
 |rel (i:Ag)
inductive Ss where
 |nil|cons (s:S) (ss:Ss)
end
inductive O where
 |next (ρ:Rho)|ret (d:D) (fr:Ao)|brk (ρ:Rho)|cont (ρ:Rho)|exn (x:Ex) (ρ:Rho)|bad
 deriving Inhabited
noncomputable def O.of{α:Type}(ρ:Rho)(r:R α)(f:α->O):O:=match r with
  |.ok a=>f a
  |.exn x=>.exn x ρ
  |.bad=>.bad
@[simp]theorem O.of_ok(ρ:Rho)(a:α)(f:α->O):O.of ρ (.ok a) f=f a:=rfl
@[simp]theorem O.of_exn(ρ:Rho)(x:Ex)(f:α->O):O.of ρ (.exn x:R α) f=.exn x ρ:=rfl
@[simp]theorem O.of_bad(ρ:Rho)(f:α->O):O.of ρ (.bad:R α) f=.bad:=rfl
noncomputable def FP(Γ:Gam)(ρ:Rho)(i:I):R (Ac D):=evI Γ ρ i
noncomputable def Cv(ρ:Rho)(i:Ag):R (Ac D):=match ρ[i]? with
  |some (Aa (.lst xs,Ab))=>.ok xs
  |_=>.bad
noncomputable def Hv(ρ:Rho)(i:Ag):R (Ac (Ac Af×D)):=match ρ[i]? with
  |some (Aa (.dic xs,Ab))=>.ok xs
  |_=>.bad
noncomputable def NW:Ag:=4096
noncomputable def O.seq(o:O)(f:Rho->O):O:=match o with
  |.next ρ=>f ρ
  |.ret d b=>.ret d b
  |.brk ρ=>.brk ρ
  |.cont ρ=>.cont ρ
  |.exn x ρ=>.exn x ρ
  |.bad=>.bad
noncomputable def O.turn(o:O)(f:Rho->O):O:=match o with
  |.next ρ=>f ρ
  |.cont ρ=>f ρ
  |.brk ρ=>.next ρ
  |.ret d b=>.ret d b
  |.exn x ρ=>.exn x ρ
  |.bad=>.bad
noncomputable def Cj(body:D->Rho->O):Ac D->Rho->O
 |[],ρ=>.next ρ
 |x::xs,ρ=>(body x ρ).turn (Cj body xs)
noncomputable def Gu(c:Rho->R Ao)(body:Rho->O):Ag->Rho->O
 |0,_=>.bad
 |n+1,ρ=>O.of ρ (c ρ) fun b=>if b=Ab then (body ρ).turn (Gu c body n) else .next ρ
noncomputable def UY(ρ:Rho)(k:Ag):R Af:=(F8 ρ k).bind EK
noncomputable def X8(ρ:Rho)(d:D)(i k l:Ag):O:=match d with
  |.tup [x,y]=>O.of ρ (Cv ρ i) fun xs=>O.of ρ (UY ρ k) fun a=>O.of ρ (UY ρ l) fun b=>match plD xs.length a,plD xs.length b with
    |some m,Aa n=>.next (ρ.set i (Aa (.lst ((xs.set m x).set n y),Ab)))
    |_,_=>.bad
  |_=>.bad
noncomputable def apD(ρ:Rho)(j i:Ag)(ys xs:Ac D)(n:Af):O:=match plD xs.length n with
  | some m=>(match xs[m]? with
    |some d=>if (j != i&&(Ci xs.length&&Ci (ys.length+1)))=Ab then .next ((ρ.set i (Aa (.lst (xs.eraseIdx m),Ab))).set j (Aa (.lst (ys++[d]),Ab))) else .bad
    | none=>.bad)
  |none=>.bad
noncomputable def hdO(i:Ag)(y:Ex)(ρ':Rho)(fh:Rho->O):O:=match fh (ρ'.set i (Aa (.exc y.c y.fs,Ae))) with
  |.next ρ''=>.next (ρ''.set i Ad)
  |.ret d f=>.ret d f
  |_=>.bad
mutual
noncomputable def evS(Γ:Gam)(ρ:Rho):S->O
  |.pass=>.next ρ
  | .asg i fresh e=>O.of ρ (evE Γ ρ e) fun d=>if fresh=Ab then (if Dh Γ e=Ab then (match d with
      |.lst xs=>.next (ρ.set i (Aa (.lst xs,Ab)))
      | _=>.bad) else .bad) else .next (ρ.set i (Aa (d,Ae)))
  |.asgT ts e=>O.of ρ (evE Γ ρ e) fun d=>O.of ρ (H9 ts d ρ) fun ρ'=>.next ρ'
  |.expr e=>O.of ρ (evE Γ ρ e) fun _=>.next ρ
  |.ret e=>O.of ρ (top ρ e (evE Γ ρ e)) fun d=>.ret d (Dh Γ e||(match e with | .var i=>(match ρ[i]? with|some (Aa (_,o))=>o|_=>Ae)|_=>Ae))
  |.retN=>.ret .non Ae
  |.ife c a b=>O.of ρ ((top ρ c (evE Γ ρ c)).bind BL) fun k=>if k=Ab then evSs Γ ρ a else evSs Γ ρ b
  |.fors t it body=>O.of ρ (FP Γ ρ it) fun xs=>Cj (fun x ρ'=>evSs Γ (ρ'.set t (Aa (x,Ae))) body) xs ρ
  |.forT ts it body=>O.of ρ (FP Γ ρ it) fun xs=>Cj (fun x ρ'=>O.of ρ' (E3 ts x ρ') fun ρ''=>evSs Γ ρ'' body) xs ρ
  |.whl c body=>Gu (fun ρ'=>(top ρ' c (evE Γ ρ' c)).bind BL) (fun ρ'=>evSs Γ ρ' body) NW ρ
  |.rais c as=>O.of ρ (noX (evA Γ ρ as)) fun xs=>O.of ρ (Γ.xn c xs) fun x=>.exn x ρ
  |.tryx body c x h=>match evSs Γ ρ body with
      | .exn y ρ'=>if (Γ.up y.c).contains c=Ab then (match evSs Γ (ρ'.set x (Aa (.exc y.c y.fs,Ae))) h with
          |.next ρ''=>.next (ρ''.set x Ad)
          |.ret d f=>.ret d f
          | _=>.bad) else .bad
      |o=>o
  |.try2 body c x h c' h' els=>match evSs Γ ρ body with
      |.exn y ρ'=>if (Γ.up y.c).contains c=Ab then hdO x y ρ' (fun r=>evSs Γ r h) else if (Γ.up y.c).contains c'=Ab then hdO x y ρ' (fun r=>evSs Γ r h') else .bad
      |.next ρ'=>evSs Γ ρ' els
      |o=>o
  |.app i e=>O.of ρ (Cv ρ i) fun xs=>O.of ρ (evE Γ ρ e) fun d=>if Ci (xs.length+1)=Ab then .next (ρ.set i (Aa (.lst (xs++[d]),Ab))) else .bad
  |.ext i e=>O.of ρ (Cv ρ i) fun xs=>O.of ρ (evE Γ ρ e) fun d=>O.of ρ (Lu d) fun ys=>if Ci (xs.length+ys.length)=Ab then .next (ρ.set i (Aa (.lst (xs++ys),Ab))) else .bad
  |.ins i k e=>O.of ρ (Cv ρ i) fun xs=>O.of ρ ((top ρ k (evE Γ ρ k)).bind EK) fun j=>O.of ρ (evE Γ ρ e) fun d=>if (Ci (xs.length+1)&&decide (0<=j)&&decide (j<=xs.length))=Ab then .next (ρ.set i (Aa (.lst (xs.take j.toNat++d::xs.drop j.toNat),Ab))) else .bad
  |.rev i=>O.of ρ (Cv ρ i) fun xs=>.next (ρ.set i (Aa (.lst xs.reverse,Ab)))
  |.clr i=>O.of ρ (Cv ρ i) fun _=>.next (ρ.set i (Aa (.lst [],Ab)))
  |.dnw i=>.next (ρ.set i (Aa (.dic [],Ab)))
  |.dput i k e=>O.of ρ (evE Γ ρ e) fun d=>O.of ρ (Hv ρ i) fun xs=>O.of ρ ((top ρ k (evE Γ ρ k)).bind FM) fun j=>if Ci (xs.length+1)=Ab then .next (ρ.set i (Aa (.dic (Hs xs j d),Ab))) else .bad
  |.dsd i k e=>O.of ρ (Hv ρ i) fun xs=>O.of ρ ((top ρ k (evE Γ ρ k)).bind FM) fun j=>O.of ρ (evE Γ ρ e) fun d=>if Ci (xs.length+1)=Ab then .next (ρ.set i (Aa (.dic (if (xs.any fun p=>p.1==j)=Ab then xs else Hs xs j d),Ab))) else .bad
  |.put i k e=>O.of ρ (evE Γ ρ e) fun d=>O.of ρ (Cv ρ i) fun xs=>O.of ρ ((top ρ k (evE Γ ρ k)).bind EK) fun j=>match plD xs.length j with
      |some n=>.next (ρ.set i (Aa (.lst (xs.set n d),Ab)))
      |none=>.bad
  |.swp i k l=>O.of ρ (evE Γ ρ (.tup (.cons (.idx (.var i) (.var l)) (.cons (.idx (.var i) (.var k)) .nil)))) fun d=>X8 ρ d i k l
  |.apop j i e=>O.of ρ (Cv ρ j) fun ys=>O.of ρ (Cv ρ i) fun xs=>O.of ρ (evE Γ ρ e) fun d=>O.of ρ (EK d) fun n=>apD ρ j i ys xs n
  |.brk=>.brk ρ
  |.cont=>.cont ρ
  |.rel i=>match ρ[i]? with
      |some (Aa (d,Ab))=>.next (ρ.set i (Aa (d,Ae)))
      |_=>.next ρ
noncomputable def evSs(Γ:Gam)(ρ:Rho):Ss->O
 |.nil=>.next ρ
 |.cons s ss=>(evS Γ ρ s).seq fun ρ'=>evSs Γ ρ' ss
end
structure Df where
 n:Ag
 fr:Ao
 body:Ss
noncomputable def BA(n:Ag)(ds:Ac D):Rho:=ds.map (fun d=>Aa (d,Ae))++G0 (n-ds.length) Ad
noncomputable def isL:D->Ao
 |.lst _=>Ab
 |.dic _=>Ab
 |_=>Ae
noncomputable def O.ans(fr:Ao)(o:O):R D:=match o with
  |.ret d b=>if (fr&&(!b&&isL d))=Ab then .bad else .ok d
  |.next _=>if fr=Ab then .bad else .ok .non
  |.exn x _=>.exn x
  |_=>.bad
noncomputable def Df.run(Γ:Gam)(f:Df)(ds:Ac D):R D:=(evSs Γ (BA f.n ds) f.body).ans f.fr
structure Prg where
 xs:Ao
 defs:Ag->Df
 G:Ag->D
 up:Ag->Ac Ag
 xn:Ag->Ac D->R Ex
noncomputable def EM(xs:Ao)(r:R D):R D:=match xs with
  |true=>r
  |false=>noX r
noncomputable def gam(P:Prg):Ag->Gam
 |0=>⟨fun _ _=>.bad,P.G,P.up,fun i=>(P.defs i).fr,P.xn⟩
 |n+1=>⟨fun i ds=>EM P.xs ((P.defs i).run (gam P n) ds),P.G,P.up,fun i=>(P.defs i).fr,P.xn⟩
end Ov
end
section
namespace Ov
open PySem
variable{α:Type}{c:Rho->R Ao}{body:Rho->O}{n:Ag}{ρ:Rho}{lo:Af}{x:D}
section
variable(Γ:Gam)(ρ:Rho)
@[simp]theorem ZxS:evE Γ ρ .non=.ok .non:=rfl
@[simp]theorem ZzM(b):evE Γ ρ (.bl b)=.ok (.bl b):=rfl
@[simp]theorem ZxW(b):evE Γ ρ (.int b)=.ok (.int b):=rfl
@[simp]theorem ZxR(b):evE Γ ρ (.str b)=.ok (.str b):=rfl
@[simp]theorem ZxQ(i):evE Γ ρ (.var i)=F8 ρ i:=rfl
@[simp]theorem Zuq(i):evE Γ ρ (.glob i)=.ok (Γ.G i):=rfl
@[simp]theorem iR(op a b):evE Γ ρ (.bin op a b)=(top ρ a (evE Γ ρ a)).bind fun x=>(top ρ b (evE Γ ρ b)).bind fun y=>CV op x y:=rfl
@[simp]theorem ZzI(op a):evE Γ ρ (.un op a)=(top ρ a (evE Γ ρ a)).bind fun x=>unD op x:=rfl
@[simp]theorem ZzL(a):evE Γ ρ (.no a)=(top ρ a (evE Γ ρ a)).bind fun x=>(DK x).bind fun b=>.ok (.bl (!b)):=rfl
@[simp]theorem ZxZ(es):evE Γ ρ (.and es)=evN Γ ρ es:=rfl
@[simp]theorem ZzK(es):evE Γ ρ (.or es)=evO Γ ρ es:=rfl
@[simp]theorem ZxN(e):evN Γ ρ (.cons e .nil)=evE Γ ρ e:=rfl
@[simp]theorem Zul(e e' es):evN Γ ρ (.cons e (.cons e' es))=(evE Γ ρ e).bind fun x=>(DK x).bind fun c=>if c=Ab then evN Γ ρ (.cons e' es) else .ok (.bl Ae):=rfl
@[simp]theorem ZxM(e):evO Γ ρ (.cons e .nil)=evE Γ ρ e:=rfl
@[simp]theorem Zuk(e e' es):evO Γ ρ (.cons e (.cons e' es))=(evE Γ ρ e).bind fun x=>(DK x).bind fun c=>if c=Ab then .ok (.bl Ab) else evO Γ ρ (.cons e' es):=rfl
@[simp]theorem fC(op a b):evE Γ ρ (.cmp op a b)=(top ρ a (evE Γ ρ a)).bind fun x=>(top ρ b (evE Γ ρ b)).bind fun y=>BO op x y:=rfl
@[simp]theorem Zut(op op' a b c):evE Γ ρ (.cmp2 op op' a b c)=(top ρ a (evE Γ ρ a)).bind fun x=>(top ρ b (evE Γ ρ b)).bind fun y=>(BO op x y).bind fun z=>(DK z).bind fun k=>if k=Ab then (top ρ c (evE Γ ρ c)).bind fun u=>BO op' y u else .ok (.bl Ae):=rfl
@[simp]theorem ZxU(c a b):evE Γ ρ (.ite c a b)=(top ρ c (evE Γ ρ c)).bind fun x=>(BL x).bind fun k=>if k=Ab then evE Γ ρ a else evE Γ ρ b:=rfl
@[simp]theorem Zuu(f as):evE Γ ρ (.call f as)=(evB Γ ρ as).bind fun xs=>(Γ.F f xs).bind fun d=>if Ie ρ as=Ab then .ok d else if Ea (Γ.fr f) d=Ab then .ok d else .bad:=rfl
@[simp]theorem oA(f as):evE Γ ρ (.bi f as)=(evB Γ ρ as).bind fun xs=>biD f xs:=rfl
@[simp]theorem ZxV(a ks):evE Γ ρ (.isi a ks)=(top ρ a (evE Γ ρ a)).bind fun x=>EL Γ.up ks x:=rfl
@[simp]theorem ZxX(a i):evE Γ ρ (.idx a i)=(top ρ a (evE Γ ρ a)).bind fun x=>(top ρ i (evE Γ ρ i)).bind fun y=>DQ x y:=rfl
@[simp]theorem ZzJ(a lo hi):evE Γ ρ (.sl a lo hi)=(top ρ a (evE Γ ρ a)).bind fun x=>(top ρ lo (evE Γ ρ lo)).bind fun l=>(slE lo l).bind fun l'=>(top ρ hi (evE Γ ρ hi)).bind fun h=>(slE hi h).bind fun h'=>slD x l' h':=rfl
@[simp]theorem fB(es):evE Γ ρ (.tup es)=(evA Γ ρ es).bind fun xs=>.ok (.tup xs):=rfl
@[simp]theorem ZxT(es):evE Γ ρ (.lst es)=(evA Γ ρ es).bind fun xs=>.ok (.lst xs):=rfl
noncomputable def cG(Γ:Gam)(ρ:Rho)(t:Ag)(c:E):D->R Ao:=fun x=>(top (ρ.set t (Aa (x,Ae))) c (evE Γ (ρ.set t (Aa (x,Ae))) c)).bind BL
noncomputable def cF(Γ:Gam)(ρ:Rho)(t:Ag)(elt:E):D->R D:=fun x=>evE Γ (ρ.set t (Aa (x,Ae))) elt
noncomputable def mkL(r:R (Ac D)):R D:=(noX r).bind fun ys=>.ok (.lst ys)
@[simp]theorem Zzf(ys):mkL (.ok ys)=.ok (.lst ys):=rfl
@[simp]theorem Zus(elt t it c):evE Γ ρ (.comp elt t it c)=(evI Γ ρ it).bind fun xs=>mkL (Cb (cG Γ ρ t c) (cF Γ ρ t elt) xs):=rfl
noncomputable def cGT(Γ:Gam)(ρ:Rho)(ts:Ac Ag)(c:E):D->R Ao:=fun x=>(E3 ts x ρ).bind fun ρ'=>(top ρ' c (evE Γ ρ' c)).bind BL
noncomputable def cFT(Γ:Gam)(ρ:Rho)(ts:Ac Ag)(elt:E):D->R D:=fun x=>(E3 ts x ρ).bind fun ρ'=>evE Γ ρ' elt
@[simp]theorem ZsG(elt ts it c):evE Γ ρ (.compT elt ts it c)=(evI Γ ρ it).bind fun xs=>mkL (Cb (cGT Γ ρ ts c) (cFT Γ ρ ts elt) xs):=rfl
@[simp]theorem Zup(it):evE Γ ρ (.tupI it)=(evI Γ ρ it).bind fun xs=>.ok (.tup xs):=rfl
@[simp]theorem Zur(i k x):evE Γ ρ (.dget i k x)=(Dm ρ i).bind fun d=>(QB d).bind fun kvs=>(top ρ k (evE Γ ρ k)).bind fun a=>(FM a).bind fun j=>(evE Γ ρ x).bind fun y=>.ok ((Fu kvs j).getD y):=rfl
@[simp]theorem ZxY(o f):evE Γ ρ (.fld o f)=(top ρ o (evE Γ ρ o)).bind fun x=>LC x f:=rfl
@[simp]theorem Zx1:evA Γ ρ .nil=.ok []:=rfl
@[simp]theorem R0(e es):evA Γ ρ (.cons e es)=(evE Γ ρ e).bind fun x=>(evA Γ ρ es).bind fun xs=>.ok (x::xs):=rfl
@[simp]theorem Zx0:evB Γ ρ .nil=.ok []:=rfl
@[simp]theorem O3(e es):evB Γ ρ (.cons e es)=(top ρ e (evE Γ ρ e)).bind fun x=>(evB Γ ρ es).bind fun xs=>.ok (x::xs):=rfl
@[simp]theorem ZAM(a):evI Γ ρ (.e a)=(evE Γ ρ a).bind De:=rfl
@[simp]theorem Tj(a):evI Γ ρ (.rng a)=(top ρ a (evE Γ ρ a)).bind fun x=>(EK x).bind fun j=>Du 0 j:=rfl
@[simp]theorem aZ(a b):evI Γ ρ (.rng2 a b)=(top ρ a (evE Γ ρ a)).bind fun x=>(top ρ b (evE Γ ρ b)).bind fun y=>(EK x).bind fun i=>(EK y).bind fun j=>Du i j:=rfl
@[simp]theorem ZxO(a b):evI Γ ρ (.zip a b)=(evE Γ ρ a).bind fun x=>(evE Γ ρ b).bind fun y=>(De x).bind fun xs=>(De y).bind fun ys=>.ok (F7 xs ys):=rfl
@[simp]theorem Zuo(a b c):evI Γ ρ (.zip3 a b c)=(evE Γ ρ a).bind fun x=>(evE Γ ρ b).bind fun y=>(evE Γ ρ c).bind fun z=>UI x y z:=rfl
@[simp]theorem ZxP(a):evI Γ ρ (.enm a)=(evE Γ ρ a).bind fun x=>(De x).bind fun xs=>.ok (Fe 0 xs):=rfl
@[simp]theorem Zum(a b):FP Γ ρ (.zip a b)=evI Γ ρ (.zip a b):=rfl
@[simp]theorem ZsF(a b c):FP Γ ρ (.zip3 a b c)=evI Γ ρ (.zip3 a b c):=rfl
@[simp]theorem Zun(a):FP Γ ρ (.enm a)=evI Γ ρ (.enm a):=rfl
@[simp]theorem ZzH(a):FP Γ ρ (.e a)=(evE Γ ρ a).bind De:=rfl
@[simp]theorem RZ(a):FP Γ ρ (.rng a)=evI Γ ρ (.rng a):=rfl
@[simp]theorem Zh(a b):FP Γ ρ (.rng2 a b)=evI Γ ρ (.rng2 a b):=rfl
variable(r:R D)
@[simp]theorem ZuX(i):top ρ (.var i) r=Dm ρ i:=rfl
@[simp]theorem ZuZ:top ρ .non r=r:=rfl
@[simp]theorem ZyL(b):top ρ (.bl b) r=r:=rfl
@[simp]theorem Zu3(b):top ρ (.int b) r=r:=rfl
@[simp]theorem ZuY(b):top ρ (.str b) r=r:=rfl
@[simp]theorem ZtH(b):top ρ (.glob b) r=r:=rfl
@[simp]theorem bJ(op a b):top ρ (.bin op a b) r=r:=rfl
@[simp]theorem ZyH(op a):top ρ (.un op a) r=r:=rfl
@[simp]theorem ZyK(a):top ρ (.no a) r=r:=rfl
@[simp]theorem Zu7(a):top ρ (.and a) r=r:=rfl
@[simp]theorem ZyJ(a):top ρ (.or a) r=r:=rfl
@[simp]theorem Zu6(op a b):top ρ (.cmp op a b) r=r:=rfl
@[simp]theorem ZtK(op op' a b c):top ρ (.cmp2 op op' a b c) r=r:=rfl
@[simp]theorem Zu1(a b c):top ρ (.ite a b c) r=r:=rfl
@[simp]theorem ZtL(a b):top ρ (.call a b) r=r:=rfl
@[simp]theorem T7(a b):top ρ (.bi a b) r=r:=rfl
@[simp]theorem Zu2(a b):top ρ (.isi a b) r=r:=rfl
@[simp]theorem Zu4(a b):top ρ (.idx a b) r=r:=rfl
@[simp]theorem ZyI(a b c):top ρ (.sl a b c) r=r:=rfl
@[simp]theorem bH(a):top ρ (.tup a) r=r:=rfl
@[simp]theorem Zu0(a):top ρ (.lst a) r=r:=rfl
@[simp]theorem ZtJ(a b c d):top ρ (.comp a b c d) r=r:=rfl
@[simp]theorem Zu5(a b):top ρ (.fld a b) r=r:=rfl
@[simp]theorem ZqI(a b c d):top ρ (.compT a b c d) r=r:=rfl
@[simp]theorem ZtG(a):top ρ (.tupI a) r=r:=rfl
@[simp]theorem ZtI(i k x):top ρ (.dget i k x) r=r:=rfl
end
@[simp]theorem Zqy(x:D×Ao)(ρ:Rho):Dm (Aa x::ρ) 0=.ok x.1:=rfl
@[simp]theorem Zqz(x:D)(ρ:Rho):F8 (Aa (x,Ae)::ρ) 0=.ok x:=rfl
@[simp]theorem Zp5(x:Sl)(ρ:Rho)(i:Ag)[NeZero i]:Dm (x::ρ) i=Dm ρ (i-1):=by
 obtain⟨j,rfl⟩:∃ j,i=j+1:=⟨i-1,by have:=LG i;omega⟩
 rfl
@[simp]theorem Zp6(x:Sl)(ρ:Rho)(i:Ag)[NeZero i]:F8 (x::ρ) i=F8 ρ (i-1):=by
 obtain⟨j,rfl⟩:∃ j,i=j+1:=⟨i-1,by have:=LG i;omega⟩
 rfl
noncomputable def shV(ρ:Rho)(i:Ag):Ao:=match ρ[i]? with
    |some (Aa (_,Ab))=>Ae
    |_=>Ab
@[simp]theorem ZtP(x:D)(b:Ao)(ρ:Rho):shV (Aa (x,b)::ρ) 0=!b:=by cases b<;>rfl
@[simp]theorem Zq8(ρ:Rho):shV (Ad::ρ) 0=Ab:=rfl
@[simp]theorem Zq9(x:Sl)(ρ:Rho)(i:Ag)[NeZero i]:shV (x::ρ) i=shV ρ (i-1):=by
 obtain⟨j,rfl⟩:∃ j,i=j+1:=⟨i-1,by have:=LG i;omega⟩
 rfl
section
variable(ρ:Rho)
@[simp]theorem Zvu(i):shE ρ (.var i)=shV ρ i:=rfl
@[simp]theorem Zvx:shE ρ .non=Ab:=rfl
@[simp]theorem Zy2(b):shE ρ (.bl b)=Ab:=rfl
@[simp]theorem ZvB(b):shE ρ (.int b)=Ab:=rfl
@[simp]theorem Zvw(b):shE ρ (.str b)=Ab:=rfl
@[simp]theorem ZtS(b):shE ρ (.glob b)=Ab:=rfl
@[simp]theorem ZvF(op a b):shE ρ (.bin op a b)=Ab:=rfl
@[simp]theorem ZyY(op a):shE ρ (.un op a)=Ab:=rfl
@[simp]theorem Zy1(a):shE ρ (.no a)=Ab:=rfl
@[simp]theorem ZvG(a):shE ρ (.and a)=Ab:=rfl
@[simp]theorem Zy0(a):shE ρ (.or a)=Ab:=rfl
@[simp]theorem ZvE(op a b):shE ρ (.cmp op a b)=Ab:=rfl
@[simp]theorem ZtV(op op' a b c):shE ρ (.cmp2 op op' a b c)=Ab:=rfl
@[simp]theorem Zvz(a b c):shE ρ (.ite a b c)=Ab:=rfl
@[simp]theorem ZtW(a b):shE ρ (.call a b)=Ab:=rfl
@[simp]theorem Zy3(a b):shE ρ (.bi a b)=Ab:=rfl
@[simp]theorem ZvA(a b):shE ρ (.isi a b)=Ab:=rfl
@[simp]theorem ZvC(a b):shE ρ (.idx a b)=Ab:=rfl
@[simp]theorem ZyZ(a b c):shE ρ (.sl a b c)=Ab:=rfl
@[simp]theorem Zvv(a):shE ρ (.tup a)=Ab:=rfl
@[simp]theorem Zvy(a):shE ρ (.lst a)=Ab:=rfl
@[simp]theorem ZtU(a b c d):shE ρ (.comp a b c d)=Ab:=rfl
@[simp]theorem Zra(a b c d):shE ρ (.compT a b c d)=Ab:=rfl
@[simp]theorem ZtR(a):shE ρ (.tupI a)=Ab:=rfl
@[simp]theorem ZtT(i k x):shE ρ (.dget i k x)=Ab:=rfl
@[simp]theorem ZvD(a b):shE ρ (.fld a b)=Ab:=rfl
@[simp]theorem ZtQ:Ie ρ .nil=Ab:=rfl
@[simp]theorem YY(e es):Ie ρ (.cons e es)=(shE ρ e&&Ie ρ es):=rfl
end
@[simp]theorem Zp8(ρ:Rho):DX [] [] ρ=Aa ρ:=rfl
@[simp]theorem ZnB(t ts d ds)(ρ:Rho):DX (t::ts) (d::ds) ρ=DX ts ds (ρ.set t (Aa (d,Ae))):=rfl
@[simp]theorem Z0(ts ds)(ρ:Rho):H9 ts (.lst ds) ρ=match DX ts ds ρ with
  |some ρ'=>.ok ρ'
  |none=>.bad:=rfl
@[simp]theorem Zte(ts ds)(ρ:Rho):H9 ts (.tup ds) ρ=E3 ts (.tup ds) ρ:=rfl
@[simp]theorem Rw(ts ds)(ρ:Rho):E3 ts (.tup ds) ρ=match DX ts ds ρ with
  |some ρ'=>.ok ρ'
  |none=>.bad:=rfl
@[simp]theorem ZuD{β:Type}(c:Prop)[FE c](a b:R α)(f:α->R β):(if c then a else b).bind f=if c then a.bind f else b.bind f:=by split<;>rfl
@[simp]theorem Zzc(ρ:Rho)(c:Prop)[FE c](a b:R α)(f:α->O):O.of ρ (if c then a else b) f=if c then O.of ρ a f else O.of ρ b f:=by split<;>rfl
@[simp]theorem ZwS{β:Type}(ρ:Rho)(a:R α)(g:α->R β)(f:β->O):O.of ρ (a.bind g) f=O.of ρ a fun x=>O.of ρ (g x) f:=by cases a<;>rfl
@[simp]theorem ZvI(c:Prop)[FE c](a b:O)(f:Rho->O):O.seq (if c then a else b) f=if c then a.seq f else b.seq f:=by split<;>rfl
@[simp]theorem Ztw(c:Prop)[FE c](a b:O)(f:Rho->O):O.turn (if c then a else b) f=if c then a.turn f else b.turn f:=by split<;>rfl
@[simp]theorem Zyq(fr:Ao)(c:Prop)[FE c](a b:O):O.ans fr (if c then a else b)=if c then a.ans fr else b.ans fr:=by split<;>rfl
@[simp]theorem ZtX(ρ f):O.seq (.next ρ) f=f ρ:=rfl
@[simp]theorem ZvH(d b f):O.seq (.ret d b) f=.ret d b:=rfl
@[simp]theorem ZvK(ρ f):O.seq (.brk ρ) f=.brk ρ:=rfl
@[simp]theorem ZtY(ρ f):O.seq (.cont ρ) f=.cont ρ:=rfl
@[simp]theorem ZvJ(x ρ f):O.seq (.exn x ρ) f=.exn x ρ:=rfl
@[simp]theorem ZvL(f):O.seq .bad f=.bad:=rfl
@[simp]theorem ZqE(ρ f):O.turn (.next ρ) f=f ρ:=rfl
@[simp]theorem Ztv(d b f):O.turn (.ret d b) f=.ret d b:=rfl
@[simp]theorem Zty(ρ f):O.turn (.brk ρ) f=.next ρ:=rfl
@[simp]theorem ZqF(ρ f):O.turn (.cont ρ) f=f ρ:=rfl
@[simp]theorem Ztx(x ρ f):O.turn (.exn x ρ) f=.exn x ρ:=rfl
@[simp]theorem Ztz(f):O.turn .bad f=.bad:=rfl
@[simp]theorem ZuF(ρ):O.ans Ae (.next ρ)=.ok .non:=rfl
@[simp]theorem Zyp(d b):O.ans Ae (.ret d b)=.ok d:=rfl
@[simp]theorem ZuE(d b):O.ans Ab (.ret d b)=if (!b&&isL d)=Ab then .bad else .ok d:=rfl
@[simp]theorem Zxk(d):isL (.lst d)=Ab:=rfl
@[simp]theorem Zxj(d):isL (.tup d)=Ae:=rfl
@[simp]theorem Zxl(d):isL (.int d)=Ae:=rfl
@[simp]theorem Zyr(fr x ρ):O.ans fr (.exn x ρ)=.exn x:=rfl
@[simp]theorem Zys(fr):O.ans fr .bad=.bad:=rfl
@[simp]theorem ZzU(i j:Af):CV .Add (.int i) (.int j)=.ok (.int (i+j)):=rfl
@[simp]theorem ZyS(i j:Af):CV .Sub (.int i) (.int j)=.ok (.int (i-j)):=rfl
@[simp]theorem lC(i j:Af):CV .Mult (.int i) (.int j)=if (EB i j||Ht i j)=Ab then .ok (.int (i*j)) else .bad:=rfl
@[simp]theorem eX(i j:Af):CV .FloorDiv (.int i) (.int j)=if 0<j/\j<1073741824 then .ok (.int (i / j)) else .bad:=rfl
@[simp]theorem lF(i j:Af):CV .Mod (.int i) (.int j)=if 0<j then .ok (.int (i%j)) else .bad:=rfl
@[simp]theorem lR(i j:Af):CV .Pow (.int i) (.int j)=if (0<=j/\j<=1000000)/\(-(18446744073709551616:Af)<i/\i<18446744073709551616) then .ok (.int (i ^ j.toNat)) else .bad:=rfl
@[simp]theorem pS(x y:Ai):CV .Add (.str x) (.str y)=if Ci (x.length+y.length)=Ab then .ok (.str (x++y)) else .bad:=rfl
@[simp]theorem Ue(x y:Ac D):CV .Add (.lst x) (.lst y)=if Ci (x.length+y.length)=Ab then .ok (.lst (x++y)) else .bad:=rfl
@[simp]theorem pR(x y:Ac D):CV .Add (.tup x) (.tup y)=if (!x.isEmpty&&Ci (x.length+y.length))=Ab then .ok (.tup (x++y)) else .bad:=rfl
@[simp]theorem ZAs(i:Af):unD .USub (.int i)=.ok (.int (-i)):=rfl
@[simp]theorem tQ(x y:D):BO .Eq x y=if (flD 5 x&&flD 5 y)=Ab then .ok (.bl (eqD x y)) else .bad:=rfl
@[simp]theorem rL(x y:D):BO .NotEq x y=if (flD 5 x&&flD 5 y)=Ab then .ok (.bl (!eqD x y)) else .bad:=rfl
@[simp]theorem ZAt(i j:Af):BO .Lt (.int i) (.int j)=.ok (.bl (decide (i<j))):=rfl
@[simp]theorem ZAw(i j:Af):BO .LtE (.int i) (.int j)=.ok (.bl (decide (i<=j))):=rfl
@[simp]theorem ZAG(i j:Af):BO .Gt (.int i) (.int j)=.ok (.bl (decide (j<i))):=rfl
@[simp]theorem ZAH(i j:Af):BO .GtE (.int i) (.int j)=.ok (.bl (decide (j<=i))):=rfl
@[simp]theorem XH(x:D)(ys:Ac D):BO .In x (.lst ys)=if (flD 5 x&&ys.all (flD 5))=Ab then .ok (.bl (ys.any fun y=>eqD y x)) else .bad:=rfl
@[simp]theorem XG(x:D)(ys:Ac D):BO .In x (.tup ys)=if (flD 5 x&&ys.all (flD 5))=Ab then .ok (.bl (ys.any fun y=>eqD y x)) else .bad:=rfl
@[simp]theorem sM(x:D)(ys:Ac D):BO .NotIn x (.lst ys)=if (flD 5 x&&ys.all (flD 5))=Ab then .ok (.bl (!ys.any fun y=>eqD y x)) else .bad:=rfl
@[simp]theorem sK(x:D)(ys:Ac D):BO .NotIn x (.tup ys)=if (flD 5 x&&ys.all (flD 5))=Ab then .ok (.bl (!ys.any fun y=>eqD y x)) else .bad:=rfl
@[simp]theorem Zzt:BO .Is .non .non=.ok (.bl Ab):=rfl
@[simp]theorem Zzv(i):BO .Is (.int i) .non=.ok (.bl Ae):=rfl
@[simp]theorem Zzs(i):BO .Is (.tup i) .non=.ok (.bl Ae):=rfl
@[simp]theorem Zzu(i):BO .Is (.lst i) .non=.ok (.bl Ae):=rfl
@[simp]theorem ZAy(a b):BO .Is (.bl a) (.bl b)=.ok (.bl (a==b)):=rfl
@[simp]theorem Zzp(a b):BO .IsNot (.bl a) (.bl b)=.ok (.bl (!(a==b))):=rfl
@[simp]theorem Zw9:BO .IsNot .non .non=.ok (.bl Ae):=rfl
@[simp]theorem Zxb(i):BO .IsNot (.int i) .non=.ok (.bl Ab):=rfl
@[simp]theorem Zw8(i):BO .IsNot (.tup i) .non=.ok (.bl Ab):=rfl
@[simp]theorem Zxa(i):BO .IsNot (.lst i) .non=.ok (.bl Ab):=rfl
@[simp]theorem Zx7(i j:Af):eqD (.int i) (.int j)=(i==j):=rfl
@[simp]theorem ZzN(i j:Ao):eqD (.bl i) (.bl j)=(i==j):=rfl
@[simp]theorem Zx4(i j:Ai):eqD (.str i) (.str j)=(i==j):=rfl
@[simp]theorem Zx3(i j:Ac D):eqD (.tup i) (.tup j)=eqDs i j:=rfl
@[simp]theorem Zx6(i j:Ac D):eqD (.lst i) (.lst j)=eqDs i j:=rfl
@[simp]theorem Zx5:eqD .non .non=Ab:=rfl
@[simp]theorem Zpb(i):eqD .non (.int i)=Ae:=rfl
@[simp]theorem Zpc(i):eqD (.int i) .non=Ae:=rfl
@[simp]theorem Zuv:eqDs [] []=Ab:=rfl
@[simp]theorem OX(x y:D)(xs ys:Ac D):eqDs (x::xs) (y::ys)=(eqD x y&&eqDs xs ys):=rfl
@[simp]theorem ZxA(n)(i:Af):flD n (.int i)=Ab:=by cases n<;>rfl
@[simp]theorem ZzG(n)(i:Ao):flD n (.bl i)=Ab:=by cases n<;>rfl
@[simp]theorem Zxy(n)(i:Ai):flD n (.str i)=Ab:=by cases n<;>rfl
@[simp]theorem Zxz(n):flD n .non=Ab:=by cases n<;>rfl
@[simp]theorem Zt1(i):flD 5 (.tup i)=i.all (flD 4):=rfl
@[simp]theorem Zt6(i):flD 5 (.lst i)=i.all (flD 4):=rfl
@[simp]theorem Zt2(i):flD 4 (.tup i)=i.all (flD 3):=rfl
@[simp]theorem Zt7(i):flD 4 (.lst i)=i.all (flD 3):=rfl
@[simp]theorem Zt3(i):flD 3 (.tup i)=i.all (flD 2):=rfl
@[simp]theorem Zt8(i):flD 3 (.lst i)=i.all (flD 2):=rfl
@[simp]theorem Zt4(i):flD 2 (.tup i)=i.all (flD 1):=rfl
@[simp]theorem Zt9(i):flD 2 (.lst i)=i.all (flD 1):=rfl
@[simp]theorem Zt5(i):flD 1 (.tup i)=i.all (flD 0):=rfl
@[simp]theorem Zua(i):flD 1 (.lst i)=i.all (flD 0):=rfl
@[simp]theorem ZuV(b):BL (.bl b)=.ok b:=rfl
@[simp]theorem ZtD(i):BL (.int i)=.ok (i != 0):=rfl
@[simp]theorem ZtC(i):BL (.lst i)=.ok (!i.isEmpty):=rfl
@[simp]theorem ZtA(i):BL (.tup i)=.ok (!i.isEmpty):=rfl
@[simp]theorem ZtB:BL .non=.ok Ae:=rfl
@[simp]theorem ZuW(b):Kt (.bl b)=.ok b:=rfl
@[simp]theorem ZtF(i):Kt (.int i)=.ok (i != 0):=rfl
@[simp]theorem ZtE:Kt .non=.ok Ae:=rfl
@[simp]theorem Ztk:Lv []=.ok Ab:=rfl
@[simp]theorem Zql(x r):Lv (x::r)=(Kt x).bind fun b=>(Lv r).bind fun c=>.ok (b&&c):=rfl
@[simp]theorem Ztj:JM []=.ok Ae:=rfl
@[simp]theorem Zqk(x r):JM (x::r)=(Kt x).bind fun b=>(JM r).bind fun c=>.ok (b||c):=rfl
@[simp]theorem Zyg(b)(d):EM b (.ok d)=.ok d:=by cases b<;>rfl
@[simp]theorem Zux(b):EM b .bad=.bad:=by cases b<;>rfl
@[simp]theorem Zuw(x):EM Ab (.exn x)=.exn x:=rfl
@[simp]theorem Zqh(r):EM Ae r=noX r:=rfl
@[simp]theorem ZwT(a:α):noX (.ok a)=.ok a:=rfl
@[simp]theorem ZwV:noX (.bad:R α)=.bad:=rfl
@[simp]theorem ZwU(x):noX (.exn x:R α)=.bad:=rfl
@[simp]theorem Zyn(b):DK (.bl b)=.ok b:=rfl
@[simp]theorem L8(b):EK (.int b)=.ok b:=rfl
@[simp]theorem RT(b):Lu (.lst b)=.ok b:=rfl
@[simp]theorem Ztg(b):De (.lst b)=.ok b:=rfl
@[simp]theorem Ztf(b):De (.tup b)=.ok b:=rfl
@[simp]theorem tW(xs i):DQ (.lst xs) (.int i)=Di xs i:=rfl
@[simp]theorem tV(xs i):DQ (.tup xs) (.int i)=Di xs i:=rfl
@[simp]theorem ZAv(xs):biD .len [.lst xs]=.ok (.int xs.length):=rfl
@[simp]theorem ZAu(xs):biD .len [.tup xs]=.ok (.int xs.length):=rfl
@[simp]theorem ZAX(i):biD .abs [.int i]=.ok (.int (if i<0 then -i else i)):=rfl
@[simp]theorem Zzi(i j):biD .max [.int i,.int j]=.ok (.int (if i<j then j else i)):=rfl
@[simp]theorem Zzg(i j):biD .min [.int i,.int j]=.ok (.int (if j<i then j else i)):=rfl
@[simp]theorem ZAA(i):biD .int [.int i]=.ok (.int i):=rfl
@[simp]theorem ZAB(i):biD .int [.bl i]=.ok (.int (b2i i)):=rfl
@[simp]theorem Zzn(i):biD .list [.lst i]=.ok (.lst i):=rfl
@[simp]theorem Zzm(i):biD .list [.tup i]=.ok (.lst i):=rfl
@[simp]theorem ZuU(i):biD .tuple [.lst i]=.ok (.tup i):=rfl
@[simp]theorem ZuT(i):biD .tuple [.tup i]=.ok (.tup i):=rfl
@[simp]theorem ZAW(i):biD .all [.lst i]=(Lv i).bind fun b=>.ok (.bl b):=rfl
@[simp]theorem ZAV(i):biD .any [.lst i]=(JM i).bind fun b=>.ok (.bl b):=rfl
@[simp]theorem ZAU(i):biD .any [.tup i]=(JM i).bind fun b=>.ok (.bl b):=rfl
@[simp]theorem ZAh(i):biD .sum [.lst i]=(MJ 0 i).bind fun b=>.ok (.int b):=rfl
@[simp]theorem ZAg(i):biD .sum [.tup i]=(MJ 0 i).bind fun b=>.ok (.int b):=rfl
@[simp]theorem ZtN(i):biD .sorted [.lst i]=(SR i).bind fun b=>.ok (.lst b):=rfl
@[simp]theorem ZAi(xs k):biD .stp [.lst xs,.int k]=.ok (.lst (Vs k.toNat xs)):=rfl
@[simp]theorem ZAo(xs):biD .rvs [.lst xs]=.ok (.lst xs.reverse):=rfl
@[simp]theorem Zzk(xs):biD .lset [.lst xs]=UV xs:=rfl
@[simp]theorem ZyM(x y):biD .tmin [x,y]=mmD Ae x y:=rfl
@[simp]theorem Zz4(x y):biD .tlt [x,y]=Vm x y:=rfl
@[simp]theorem ZyN(x y):biD .tmax [x,y]=mmD Ab x y:=rfl
@[simp]theorem Zyh(xs x):biD .count [.lst xs,x]=if (flD 5 x&&xs.all (flD 5))=Ab then .ok (.int ((xs.filter fun y=>eqD y x).length:Ag)) else .bad:=rfl
@[simp]theorem Yd(xs lo hi):slD (.tup xs) lo hi=if (Ha xs.length 0 lo==0&&Ha xs.length xs.length hi==xs.length)=Ab then .bad else .ok (.tup (LD xs lo hi)):=rfl
@[simp]theorem ZA5(xs lo hi):slD (.lst xs) lo hi=.ok (.lst (LD xs lo hi)):=rfl
@[simp]theorem Zvp(d):slE .non d=.ok Ad:=rfl
@[simp]theorem Zvq(k i):slE (.int k) (.int i)=.ok (Aa i):=rfl
@[simp]theorem Zvo(k i):slE (.var k) (.int i)=.ok (Aa i):=rfl
@[simp]theorem Zvr(op a b i):slE (.bin op a b) (.int i)=.ok (Aa i):=rfl
@[simp]theorem ZyV(op a i):slE (.un op a) (.int i)=.ok (Aa i):=rfl
@[simp]theorem ZyW(b as i):slE (.bi b as) (.int i)=.ok (Aa i):=rfl
@[simp]theorem Zxe(up ks):EL up ks .non=if ks.any Ev=Ab then .bad else .ok (.bl (ks.any fun k=>kiD up k .non)):=rfl
@[simp]theorem Zzq(up ks b):EL up ks (.bl b)=if ks.any Ev=Ab then .bad else .ok (.bl (ks.any fun k=>kiD up k (.bl b))):=rfl
@[simp]theorem Zxg(up ks b):EL up ks (.int b)=if ks.any Ev=Ab then .bad else .ok (.bl (ks.any fun k=>kiD up k (.int b))):=rfl
@[simp]theorem Zxd(up ks b):EL up ks (.str b)=if ks.any Ev=Ab then .bad else .ok (.bl (ks.any fun k=>kiD up k (.str b))):=rfl
@[simp]theorem Zxc(up ks b):EL up ks (.tup b)=if ks.any Ev=Ab then .bad else .ok (.bl (ks.any fun k=>kiD up k (.tup b))):=rfl
@[simp]theorem Zxf(up ks b):EL up ks (.lst b)=if ks.any Ev=Ab then .bad else .ok (.bl (ks.any fun k=>kiD up k (.lst b))):=rfl
@[simp]theorem Zxh(up ks c f):EL up ks (.exc c f)=if ks.all Ev=Ab then .ok (.bl (ks.any fun k=>kiD up k (.exc c f))) else .bad:=rfl
@[simp]theorem ZuA(c):Ev (.cls c)=Ab:=rfl
@[simp]theorem ZsU:Ev .verr=Ab:=rfl
@[simp]theorem Zuz:Ev .int=Ae:=rfl
@[simp]theorem ZsW:Ev .bool=Ae:=rfl
@[simp]theorem Zuy:Ev .str=Ae:=rfl
@[simp]theorem ZsV:Ev .list=Ae:=rfl
@[simp]theorem Zqj:Ev .tuple=Ae:=rfl
@[simp]theorem Zqc(up i):kiD up .int (.int i)=Ab:=rfl
@[simp]theorem Zqb(up):kiD up .int .non=Ae:=rfl
@[simp]theorem ZoJ(up i):kiD up .bool (.int i)=Ae:=rfl
@[simp]theorem Zqa(up i):kiD up .int (.tup i)=Ae:=rfl
@[simp]theorem Zqe(up i):kiD up .bool (.bl i)=Ab:=rfl
@[simp]theorem ZoI(up):kiD up .bool .non=Ae:=rfl
@[simp]theorem ZoH(up i):kiD up .list (.lst i)=Ab:=rfl
@[simp]theorem Zmh(up i):kiD up .tuple (.tup i)=Ab:=rfl
@[simp]theorem Zmi(up):kiD up .tuple .non=Ae:=rfl
@[simp]theorem Zqd(up c k f):kiD up (.cls c) (.exc k f)=(up k).contains c:=rfl
@[simp]theorem ZoG(up k f):kiD up .verr (.exc k f)=Ab:=rfl
theorem aU(xs:Ac D)(k:Ag)(h:k<xs.length):Di xs (k:Af)=.ok (xs[k]):=by
 unfold Di plD;have h1:(0:Af)<=k:=Int.natCast_nonneg k;have h2:(k:Af)<(xs.length:Ag):=by omega
 rw[AG h1,AG h2];simp[h]
theorem Pf{xs:Ac D}{i:Af}{d:D}(h0:0<=i)(h:xs[i.toNat]?=Aa d):Di xs i=.ok d:=by
 unfold Di plD;obtain⟨h1,_⟩:=Bg.mp h;rw[AG h0,AG (by omega)]
 dsimp only;rw[h]
section
variable(Γ:Gam)(ρ:Rho)
@[simp]theorem Zub:evSs Γ ρ .nil=.next ρ:=rfl
noncomputable def F9(Γ:Gam)(ss:Ss)(o:O):O:=o.seq fun ρ'=>evSs Γ ρ' ss
@[simp]theorem G4(s ss):evSs Γ ρ (.cons s ss)=F9 Γ ss (evS Γ ρ s):=rfl
@[simp]theorem JE(ss):F9 Γ ss (.next ρ)=evSs Γ ρ ss:=rfl
@[simp]theorem ZzA(ss d b):F9 Γ ss (.ret d b)=.ret d b:=rfl
@[simp]theorem ZzD(ss):F9 Γ ss (.brk ρ)=.brk ρ:=rfl
@[simp]theorem Zxv(ss):F9 Γ ss (.cont ρ)=.cont ρ:=rfl
@[simp]theorem ZzC(ss x):F9 Γ ss (.exn x ρ)=.exn x ρ:=rfl
@[simp]theorem ZzE(ss):F9 Γ ss .bad=.bad:=rfl
@[simp]theorem ZzB(ss)(c:Prop)[FE c](a b:O):F9 Γ ss (if c then a else b)=if c then F9 Γ ss a else F9 Γ ss b:=by split<;>rfl
@[simp]theorem pK(o:O):F9 Γ .nil o=o:=by cases o<;>rfl
noncomputable def Bk(Γ:Gam)(t:Ag)(body:Ss):D->Rho->O:=fun x ρ'=>evSs Γ (ρ'.set t (Aa (x,Ae))) body
noncomputable def whC(Γ:Gam)(c:E):Rho->R Ao:=fun ρ'=>(top ρ' c (evE Γ ρ' c)).bind BL
noncomputable def whB(Γ:Gam)(body:Ss):Rho->O:=fun ρ'=>evSs Γ ρ' body
noncomputable def Vv(Γ:Gam)(t:Ag)(body:Ss)(ρ:Rho)(r:R (Ac D)):O:=O.of ρ r fun xs=>Cj (Bk Γ t body) xs ρ
@[simp]theorem Nt(t body xs):Vv Γ t body ρ (.ok xs)=Cj (Bk Γ t body) xs ρ:=rfl
@[simp]theorem Zuf:evS Γ ρ .pass=.next ρ:=rfl
@[simp]theorem ZxK(i e):evS Γ ρ (.asg i Ae e)=O.of ρ (evE Γ ρ e) fun d=>.next (ρ.set i (Aa (d,Ae))):=rfl
@[simp]theorem Zug(e):evS Γ ρ (.expr e)=O.of ρ (evE Γ ρ e) fun _=>.next ρ:=rfl
@[simp]theorem ZxE(e):evS Γ ρ (.ret e)=O.of ρ (top ρ e (evE Γ ρ e)) fun d=>.ret d (Dh Γ e||(match e with | .var i=>(match ρ[i]? with|some (Aa (_,o))=>o|_=>Ae)|_=>Ae)):=rfl
@[simp]theorem Zud:evS Γ ρ .retN=.ret .non Ae:=rfl
@[simp]theorem ZxF(c a b):evS Γ ρ (.ife c a b)=O.of ρ ((top ρ c (evE Γ ρ c)).bind BL) fun k=>if k=Ab then evSs Γ ρ a else evSs Γ ρ b:=rfl
@[simp]theorem Nc(t it body):evS Γ ρ (.fors t it body)=Vv Γ t body ρ (FP Γ ρ it):=rfl
noncomputable def E4(Γ:Gam)(ts:Ac Ag)(body:Ss):D->Rho->O:=fun x ρ'=>O.of ρ' (E3 ts x ρ') fun ρ''=>evSs Γ ρ'' body
noncomputable def U2(Γ:Gam)(ts:Ac Ag)(body:Ss)(ρ:Rho)(r:R (Ac D)):O:=O.of ρ r fun xs=>Cj (E4 Γ ts body) xs ρ
@[simp]theorem Sv(t body xs):U2 Γ t body ρ (.ok xs)=Cj (E4 Γ t body) xs ρ:=rfl
@[simp]theorem RY(t it body):evS Γ ρ (.forT t it body)=U2 Γ t body ρ (FP Γ ρ it):=rfl
@[simp]theorem Zuj(ts e):evS Γ ρ (.asgT ts e)=O.of ρ (evE Γ ρ e) fun d=>O.of ρ (H9 ts d ρ) fun ρ'=>.next ρ':=rfl
theorem aY(i e):evS Γ ρ (.asg i Ab e)=O.of ρ (evE Γ ρ e) fun d=>if Dh Γ e=Ab then (match d with
      |.lst xs=>.next (ρ.set i (Aa (.lst xs,Ab)))
      | _=>.bad) else .bad:=rfl
noncomputable def setF(ρ:Rho)(i:Ag):D->O
 |.lst xs=>.next (ρ.set i (Aa (.lst xs,Ab)))
 |_=>.bad
@[simp]theorem Zy4(i xs):setF ρ i (.lst xs)=.next (ρ.set i (Aa (.lst xs,Ab))):=rfl
@[simp]theorem Zg(i e):evS Γ ρ (.asg i Ab e)=O.of ρ (evE Γ ρ e) fun d=>if Dh Γ e=Ab then setF ρ i d else .bad:=by
 rw[aY]
 congr 1
@[simp]theorem ZxL(i e):evS Γ ρ (.app i e)=O.of ρ (Cv ρ i) fun xs=>O.of ρ (evE Γ ρ e) fun d=>if Ci (xs.length+1)=Ab then .next (ρ.set i (Aa (.lst (xs++[d]),Ab))) else .bad:=rfl
@[simp]theorem fA(i e):evS Γ ρ (.ext i e)=O.of ρ (Cv ρ i) fun xs=>O.of ρ (evE Γ ρ e) fun d=>O.of ρ (Lu d) fun ys=>if Ci (xs.length+ys.length)=Ab then .next (ρ.set i (Aa (.lst (xs++ys),Ab))) else .bad:=rfl
@[simp]theorem Zuh(i k e):evS Γ ρ (.dput i k e)=O.of ρ (evE Γ ρ e) fun d=>O.of ρ (Hv ρ i) fun xs=>O.of ρ ((top ρ k (evE Γ ρ k)).bind FM) fun j=>if Ci (xs.length+1)=Ab then .next (ρ.set i (Aa (.dic (Hs xs j d),Ab))) else .bad:=rfl
@[simp]theorem ZxG(i k e):evS Γ ρ (.dsd i k e)=O.of ρ (Hv ρ i) fun xs=>O.of ρ ((top ρ k (evE Γ ρ k)).bind FM) fun j=>O.of ρ (evE Γ ρ e) fun d=>if Ci (xs.length+1)=Ab then .next (ρ.set i (Aa (.dic (if (xs.any fun p=>p.1==j)=Ab then xs else Hs xs j d),Ab))) else .bad:=rfl
@[simp]theorem ZxH(i):evS Γ ρ (.dnw i)=.next (ρ.set i (Aa (.dic [],Ab))):=rfl
@[simp]theorem ZxD(i):evS Γ ρ (.rev i)=O.of ρ (Cv ρ i) fun xs=>.next (ρ.set i (Aa (.lst xs.reverse,Ab))):=rfl
@[simp]theorem ZxI(i):evS Γ ρ (.clr i)=O.of ρ (Cv ρ i) fun _=>.next (ρ.set i (Aa (.lst [],Ab))):=rfl
theorem Pw(i k e):evS Γ ρ (.put i k e)=O.of ρ (evE Γ ρ e) fun d=>O.of ρ (Cv ρ i) fun xs=>O.of ρ ((top ρ k (evE Γ ρ k)).bind EK) fun j=>match plD xs.length j with
      |some n=>.next (ρ.set i (Aa (.lst (xs.set n d),Ab)))
      |none=>.bad:=rfl
@[simp]theorem aX(body c x h):evS Γ ρ (.tryx body c x h)=match evSs Γ ρ body with
      | .exn y ρ'=>if (Γ.up y.c).contains c=Ab then (match evSs Γ (ρ'.set x (Aa (.exc y.c y.fs,Ae))) h with
          |.next ρ''=>.next (ρ''.set x Ad)
          |.ret d f=>.ret d f
          | _=>.bad) else .bad
      |o=>o:=rfl
@[simp]theorem Zuc(body c x h c' h' els):evS Γ ρ (.try2 body c x h c' h' els)=match evSs Γ ρ body with
      |.exn y ρ'=>if (Γ.up y.c).contains c=Ab then hdO x y ρ' (fun r=>evSs Γ r h) else if (Γ.up y.c).contains c'=Ab then hdO x y ρ' (fun r=>evSs Γ r h') else .bad
      |.next ρ'=>evSs Γ ρ' els
      |o=>o:=rfl
@[simp]theorem ZxC(c body):evS Γ ρ (.whl c body)=Gu (whC Γ c) (whB Γ body) NW ρ:=rfl
@[simp]theorem Zue(c as):evS Γ ρ (.rais c as)=O.of ρ (noX (evA Γ ρ as)) fun xs=>O.of ρ (Γ.xn c xs) fun x=>.exn x ρ:=rfl
@[simp]theorem ZxJ:evS Γ ρ .brk=.brk ρ:=rfl
@[simp]theorem Zui:evS Γ ρ .cont=.cont ρ:=rfl
end
end Ov
namespace Ov
open PySem
theorem Sw{body:D->Rho->O}(P:Rho->Prop):∀(xs:Ac D)(ρ:Rho),P ρ->(∀ x∈xs,∀ ρ,P ρ->∃ ρ',body x ρ=.next ρ'/\P ρ')->∃ ρ',Cj body xs ρ=.next ρ'/\P ρ'
 |[],ρ,h,_=>⟨ρ,rfl,h⟩
 |x::xs,ρ,h,k=>by
  obtain⟨ρ1,e1,h1⟩:=k x AE ρ h;obtain⟨ρ2,e2,h2⟩:=Sw P xs ρ1 h1 fun y hy=>k y (AA _ hy)
  exact⟨ρ2,by show (body x ρ).turn _=_;rw[e1];exact e2,h2⟩
theorem Ox{body:D->Rho->O}(P:Ag->Rho->Prop):∀(xs:Ac D)(n:Ag)(ρ:Rho),P n ρ->(∀ i x,xs[i]?=Aa x->∀ ρ,P (n+i) ρ->∃ ρ',body x ρ=.next ρ'/\P (n+i+1) ρ')->∃ ρ',Cj body xs ρ=.next ρ'/\P (n+xs.length) ρ'
 |[],n,ρ,h,_=>⟨ρ,rfl,h⟩
 |x::xs,n,ρ,h,k=>by
  obtain⟨ρ1,e1,h1⟩:=k 0 x rfl ρ h;obtain⟨ρ2,e2,h2⟩:=Ox P xs (n+1) ρ1 h1 fun i y hy ρ hρ=>by
   have:=k (i+1) y (by simpa using hy) ρ (by rw[show n+(i+1)=n+1+i by omega];exact hρ)
   rw[show n+(i+1)=n+1+i by omega]at this
   exact this
  exact⟨ρ2,by show (body x ρ).turn _=_;rw[e1];exact e2,by rw[show n+(x::xs).length=n+1+xs.length by simp;omega];exact h2⟩
theorem cH{ρ':Rho}(h1:c ρ=.ok Ab)(h2:body ρ=.next ρ'):Gu c body (n+1) ρ=Gu c body n ρ':=by
 rw[Gu,h1];simp[h2]
theorem ZB(h1:c ρ=.ok Ae):Gu c body (n+1) ρ=.next ρ:=by
 rw[Gu,h1];simp
theorem aM(h:x∈Cq lo n):∃ k:Ag,k<n/\x=.int (lo+(k:Af)):=by
 obtain⟨k,hk,e⟩:=B4.mp h;exact⟨k,Ba.mp hk,e.symm⟩
theorem L4(lo:Af)(n:Ag):(Cq lo n).length=n:=by simp[Cq]
theorem Pe{i:Ag}(h:(Cq lo n)[i]?=Aa x):i<n/\x=.int (lo+(i:Af)):=by
 have hl:=(Bg.mp h).1;rw[L4]at hl;unfold Cq at h;rw[Eb,List.getElem?_range hl]at h;cases h;exact⟨hl,rfl⟩
noncomputable def Ss.take:Ag->Ss->Ss
 |0,_=>.nil
 |_,.nil=>.nil
 |n+1,.cons s ss=>.cons s (ss.take n)
noncomputable def Ss.drop:Ag->Ss->Ss
 |0,ss=>ss
 |_,.nil=>.nil
 |n+1,.cons _ ss=>ss.drop n
theorem O2(Γ:Gam):∀(n:Ag)(ss:Ss)(ρ:Rho),evSs Γ ρ ss=F9 Γ (ss.drop n) (evSs Γ ρ (ss.take n))
 |0,_,_=>rfl
 |_+1,.nil,_=>rfl
 |n+1,.cons s ss,ρ=>by
  show (evS Γ ρ s).seq (fun ρ'=>evSs Γ ρ' ss)=F9 Γ (ss.drop n) ((evS Γ ρ s).seq fun ρ'=>evSs Γ ρ' (ss.take n))
  cases evS Γ ρ s with
  |next ρ'=>exact O2 Γ n ss ρ'
  |_=>rfl
end Ov
end
section
namespace Ov
noncomputable def xfD:Ag->D->Ao
 |0,.int i=>decide (0<=i)&&decide (i<100)
 |n+1,.tup ds=>C8 ds.length 8&&ds.all (xfD n)
 |_,_=>Ae
noncomputable def mkX(c:Ag)(f:PySem.Str):Ac D->R Ex
 |[d]=>if (xfD 1 d||xfD 2 d)=Ab then .ok ⟨c,[(f,d)]⟩ else .bad
 |_=>.bad
end Ov
end
section
namespace OvC
open PySem Ov PyProof.Rows
noncomputable abbrev scr(ns:Ac Af):D:=.lst (ns.map .int)
noncomputable abbrev sh(d:D):Sl:=Aa (d,Ae)
noncomputable abbrev si(i:Af):Sl:=Aa (.int i,Ae)
def P4(p:Af):Prop:=p=3\/p=5\/p=7\/p=11
theorem P4.pos{p}(h:P4 p):0<p:=by rcases h with rfl|rfl|rfl|rfl<;>decide
theorem P4.lo{p}(h:P4 p):3<=p:=by rcases h with rfl|rfl|rfl|rfl<;>decide
theorem P4.hi{p}(h:P4 p):p<=11:=by rcases h with rfl|rfl|rfl|rfl<;>decide
theorem Jb{i j:Af}(h0:-18446744073709551616<i)(h1:i<18446744073709551616):EB i j=Ab:=by simp[EB];left;exact⟨h0,h1⟩
theorem Pq{i j:Af}(h0:-18446744073709551616<j)(h1:j<18446744073709551616):EB i j=Ab:=by simp[EB];right;exact⟨h0,h1⟩
noncomputable def Qb:Df:=⟨2,Ae,(.cons (.ret (.bin .Mod (.var 1) (.var 0))) .nil)⟩
def Lk(Γ:Gam):Prop:=∀ p n:Af,0<p->Γ.F 1 [.int p,.int n]=.ok (.int (n%p))
theorem nC(Γ:Gam)(p n:Af)(h:0<p):Qb.run Γ [.int p,.int n]=.ok (.int (n%p)):=by simp[Qb,Df.run,BA,h]
end OvC
end
namespace Ov
open PySem PySem.Spec PyProof.Rows L2
variable{A A' B:Ah->Prop}{H H' H1 H0:Hp}{a ka b l q j:Ah}{u o:HO}{xs:Ac V}{k' k:Ac Af}{v:V}{d:D}{K:Fg}{ρ:Rho}{σ:L2.St}{i n:Ag}{Rp Rq:Hp->V->D->Prop}{r:R D}{Q:VK}{X:Cx}{e c tg iter elt:Ap}{x:Ex}{g:D->D->R D}{op:EF}{h' h h2:AF}{ys:Ac (Ac Af×Ah×Ak)}{y:Ak}{pos p pos' p2 pos2 spos tpos:AO}{pI:Pn}{s:Ar}{items2 its items:Bj Ak}{its2:Ac Ak}{es ifs:Ac Ap}{fs fi:Rho->R (Ac D)}{Q':An Af->Hp->Prop}{T:CY}{f fc:Rho->R Ao}{α:Type}{Fz:Ah->HO->Prop}{D':Ends}{body:Ac Be}{fbd:Rho->O}{as:D->Rho->R Rho}{up:Ag->Ac Ag}{scope:Co}{env:Cd}{cl:Ac (Ai×Ah)}{N':Ac Ai}{ts:Ac Ag}{fp:Ac Ah}{tt:TT}{te:TE}{J:It}{wi:TI}{prog P:AS}{w:AB}{t:Ao}{ta:TA}
abbrev ClA:=Ag->An Ah
variable{CL:ClA}
def KL(K:Fg)(a:Ah)(xs:Ac V):Prop:=∃(o:Dl)(its:Bj Ak)(n:Ag),K.lookup a=Aa o/\o.cls=.type "list"/\o.dict=Ad/\o.data=.seq its n/\its.size<=sizeLine/\Bc xs its.toList
def KT(K:Fg)(a:Ah)(xs:Ac V):Prop:=∃(o:Dl)(its:Bj Ak)(n:Ag),K.lookup a=Aa o/\o.cls=.type "tuple"/\o.data=.seq its n/\its.size<=sizeLine/\Bc xs its.toList
noncomputable abbrev TK(P:AS)(w:AB):HeapKind P w (Ac Af):=tupleKind (intKind P w)
def GU(P:AS)(w:AB)(a:Ah)(xs:Ac (Ac Af×Ah×Ak))(h:AF):Prop:=(a==Ef)=Ae/\∃ o es ep,h.get? a=Aa o/\o.ExactDict/\o.data=.dict es ep/\es.toList=xs.map (IV (TK P w))/\(xs.map (·.1)).Nodup
inductive ValE:Ac (Ac Af×Ah×V)->Ac (Ac Af×Ah×Ak)->Prop
 |nil:ValE [] []
 |cons {k:Ac Af} {a:Ah} {v:V} {y:Ak} {xs:Ac (Ac Af×Ah×V)} {ys:Ac (Ac Af×Ah×Ak)}:Bx v y->ValE xs ys->ValE ((k,a,v)::xs) ((k,a,y)::ys)
def Dx(a:Ah)(xs:Ac (Ac Af×Ah×V)):AF->Prop:=fun h=>∃ ys,ValE xs ys/\∀ P w,GU P w a ys h
def DP(K:Fg)(H:Hp)(A:Ah->Prop)(a:Ah)(k:Ac Af):Prop:=∃ xs,(¬ A a\/KT K a xs)/\SqT K H a xs/\xs=k.map V.int
section
variable(K:Fg)(CL:ClA)(H:Hp)(A:Ah->Prop)
mutual
def Rep:V->D->Prop
 |v,.non=>v=.non
 |v,.bl b=>v=.bl b
 |v,.int i=>v=.int i
 |v,.str x=>v=.str x
 |v,.tup ds=>∃ a xs,v=.ref a/\(¬ A a\/KT K a xs)/\SqT K H a xs/\Reps xs ds
 |v,.lst ds=>∃ a xs,v=.ref a/\(¬ A a\/KL K a xs)/\SqL K H a xs/\Reps xs ds
 |v,.obj c fs=>∃ a C dx vs,v=.ref a/\¬ A a/\CL c=Aa C/\H a=Aa (.ins C dx vs)/\Repf vs fs
 |v,.dic kvs=>∃ a es,v=.ref a/\¬ A a/\H a=Aa (.ext (Dx a es))/\Repk es kvs
 |v,.exc c fs=>∃ a C φ,v=.ref a/\¬ A a/\CL c=Aa C/\H a=Aa (.ext φ)/\(∀ h,φ h->∃ o,h.get? a=Aa o/\o.cls=.ref C)/\(fs=[]\/∃ dx vs,¬ A dx/\H dx=Aa (.xd vs)/\Repf vs fs/\∀ h,φ h->∃ o,h.get? a=Aa o/\o.dict=Aa dx/\∃ us,o.data=.fields us)
def Reps:Ac V->Ac D->Prop
 |[],[]=>HS
 |v::vs,d::ds=>Rep v d/\Reps vs ds
 |_,_=>AW
def Repf:Ac (Ai×V)->Ac (Ai×D)->Prop
 |[],[]=>HS
 |v::vs,d::ds=>Repp v d/\Repf vs ds
 |_,_=>AW
def Repp:Ai×V->Ai×D->Prop
 |v,(n,d)=>v.1=n/\Rep v.2 d
def Repk:Ac (Ac Af×Ah×V)->Ac (Ac Af×D)->Prop
 |[],[]=>HS
 |v::vs,d::ds=>Repe v d/\Repk vs ds
 |_,_=>AW
def Repe:Ac Af×Ah×V->Ac Af×D->Prop
 |v,(k,d)=>v.1=k/\DP K H A v.2.1 k/\Rep v.2.2 d
end
def C3(a:Ah)(o:HO)(d:D):Prop:=(∃ xs ds,o=.lst xs/\d=.lst ds/\Reps K CL H A xs ds)\/∃ es kvs,o=.ext (Dx a es)/\d=.dic kvs/\Repk K CL H A es kvs
def CG(v:V)(d:D):Prop:=Rep K CL H A v d\/∃ a o,v=.ref a/\H a=Aa o/\C3 K CL H A a o d
end
def OwK(a:Ah)(o:HO):Prop:=(∃ xs,o=.lst xs)\/∃ es,o=.ext (Dx a es)
def Kp(A:Ah->Prop)(H H':Hp):Prop:=∀ b o,H b=Aa o->¬ A b->H' b=Aa o
def AOk(H:Hp)(A:Ah->Prop):Prop:=∀ a,A a->∃ o,H a=Aa o/\OwK a o
theorem Kp.of(h:AH H H'):Kp A H H':=fun b o e _=>h b o e
theorem AOk.same(h:AOk H A)(s:AH H H'):AOk H' A:=fun a ha=>let ⟨xs,e,k⟩:=h a ha;⟨xs,s _ _ e,k⟩
theorem AOk.new{p:Ah}(h:AOk H A)(e:H p=Ad):¬ A p:=fun ha=>by
 obtain⟨xs,q,_⟩:=h p ha;rw[e]at q;cases q
section
variable{K:Fg}{CL:ClA}{H H':Hp}{A B:Ah->Prop}
theorem UP(k:Kp A H H')(na:¬ A a)(h:Rd H a u):Rd H' a u:=by
 rcases h with h|⟨o,h⟩
 ·exact .inl (k _ _ h na)
 ·exact .inr ⟨o,k _ _ h na⟩
theorem Nu(k:Kp A H H')(na:¬ A a\/KL K a xs)(h:SqL K H a xs):SqL K H' a xs:=na.elim (fun na=>h.imp (UP k na) id) .inr
theorem Mv(k:Kp A H H')(na:¬ A a\/KT K a xs)(h:SqT K H a xs):SqT K H' a xs:=na.elim (fun na=>h.imp (UP k na) id) .inr
theorem DP.kp(k:Kp A H H')(h:DP K H A a k'):DP K H' A a k':=by
 obtain⟨xs,na,s,e⟩:=h;exact⟨xs,na,Mv k na s,e⟩
theorem DP.sub(k:∀ a,B a->A a)(h:DP K H A a k'):DP K H B a k':=by
 obtain⟨xs,na,s,e⟩:=h;exact⟨xs,na.imp (fun na z=>na (k _ z)) id,s,e⟩
theorem DP.wide(hp:∀ a,B a->A a\/H a=Ad)(h:DP K H A a k'):DP K H B a k':=by
 obtain⟨xs,na,s,e⟩:=h;refine⟨xs,?_,s,e⟩;rcases s with s|s
 ·refine na.imp (fun na z=>(hp _ z).elim na fun e=>?_) id
  rcases s with s|⟨o,s⟩<;>rw[e]at s<;>cases s
 ·exact .inr s
mutual
theorem Rep.kp(k:Kp A H H'):∀{v:V}(d:D),Rep K CL H A v d->Rep K CL H' A v d
 |_,.non,h=>h
 |_,.bl _,h=>h
 |_,.int _,h=>h
 |_,.str _,h=>h
 |_,.dic kvs,h=>by
  obtain⟨a,es,e,na,s,r⟩:=h;exact⟨a,es,e,na,k _ _ s na,Repk.kp k kvs r⟩
 |_,.tup ds,h=>by
  obtain⟨a,xs,e,na,s,r⟩:=h;exact⟨a,xs,e,na,by first|exact Mv k na s|exact Nu k na s,Reps.kp k ds r⟩
 |_,.lst ds,h=>by
  obtain⟨a,xs,e,na,s,r⟩:=h;exact⟨a,xs,e,na,by first|exact Mv k na s|exact Nu k na s,Reps.kp k ds r⟩
 |_,.obj c fs,h=>by
  obtain⟨a,C,dx,vs,e,na,c,s,r⟩:=h;exact⟨a,C,dx,vs,e,na,c,k _ _ s na,Repf.kp k fs r⟩
 |_,.exc c fs,h=>by
  obtain⟨a,C,φ,e,na,c,s,p,q⟩:=h;refine⟨a,C,φ,e,na,c,k _ _ s na,p,q.imp id ?_⟩;rintro⟨dx,vs,nx,s2,r,z⟩;exact⟨dx,vs,nx,k _ _ s2 nx,Repf.kp k fs r,z⟩
theorem Reps.kp(k:Kp A H H'):∀{vs:Ac V}(ds:Ac D),Reps K CL H A vs ds->Reps K CL H' A vs ds
 |[],[],h=>h
 |_::_,d::ds,h=>⟨Rep.kp k d h.1,Reps.kp k ds h.2⟩
 |[],_::_,h=>h.elim
 |_::_,[],h=>h.elim
theorem Repf.kp(k:Kp A H H'):∀{vs:Ac (Ai×V)}(ds:Ac (Ai×D)),Repf K CL H A vs ds->Repf K CL H' A vs ds
 |[],[],h=>h
 |_::_,d::ds,h=>⟨Repp.kp k d h.1,Repf.kp k ds h.2⟩
 |[],_::_,h=>h.elim
 |_::_,[],h=>h.elim
theorem Repp.kp(k:Kp A H H'):∀{v:Ai×V}(d:Ai×D),Repp K CL H A v d->Repp K CL H' A v d
 |_,(_,d),h=>⟨h.1,Rep.kp k d h.2⟩
theorem Repk.kp(k:Kp A H H'):∀{vs:Ac (Ac Af×Ah×V)}(ds:Ac (Ac Af×D)),Repk K CL H A vs ds->Repk K CL H' A vs ds
 |[],[],h=>h
 |_::_,d::ds,h=>⟨Repe.kp k d h.1,Repk.kp k ds h.2⟩
 |[],_::_,h=>h.elim
 |_::_,[],h=>h.elim
theorem Repe.kp(k:Kp A H H'):∀{v:Ac Af×Ah×V}(d:Ac Af×D),Repe K CL H A v d->Repe K CL H' A v d
 |_,(_,d),h=>⟨h.1,DP.kp k h.2.1,Rep.kp k d h.2.2⟩
end
mutual
theorem Rep.sub(k:∀ a,B a->A a):∀{v:V}(d:D),Rep K CL H A v d->Rep K CL H B v d
 |_,.non,h=>h
 |_,.bl _,h=>h
 |_,.int _,h=>h
 |_,.str _,h=>h
 |_,.dic kvs,h=>by
  obtain⟨a,es,e,na,s,r⟩:=h;exact⟨a,es,e,fun z=>na (k _ z),s,Repk.sub k kvs r⟩
 |_,.tup ds,h=>by
  obtain⟨a,xs,e,na,s,r⟩:=h;exact⟨a,xs,e,na.imp (fun na z=>na (k _ z)) id,s,Reps.sub k ds r⟩
 |_,.lst ds,h=>by
  obtain⟨a,xs,e,na,s,r⟩:=h;exact⟨a,xs,e,na.imp (fun na z=>na (k _ z)) id,s,Reps.sub k ds r⟩
 |_,.obj c fs,h=>by
  obtain⟨a,C,dx,vs,e,na,c,s,r⟩:=h;exact⟨a,C,dx,vs,e,fun z=>na (k _ z),c,s,Repf.sub k fs r⟩
 |_,.exc c fs,h=>by
  obtain⟨a,C,φ,e,na,c,s,p,q⟩:=h;refine⟨a,C,φ,e,fun z=>na (k _ z),c,s,p,q.imp id ?_⟩
  rintro⟨dx,vs,nx,s2,r,z⟩;exact⟨dx,vs,fun z=>nx (k _ z),s2,Repf.sub k fs r,z⟩
theorem Reps.sub(k:∀ a,B a->A a):∀{vs:Ac V}(ds:Ac D),Reps K CL H A vs ds->Reps K CL H B vs ds
 |[],[],h=>h
 |_::_,d::ds,h=>⟨Rep.sub k d h.1,Reps.sub k ds h.2⟩
 |[],_::_,h=>h.elim
 |_::_,[],h=>h.elim
theorem Repf.sub(k:∀ a,B a->A a):∀{vs:Ac (Ai×V)}(ds:Ac (Ai×D)),Repf K CL H A vs ds->Repf K CL H B vs ds
 |[],[],h=>h
 |_::_,d::ds,h=>⟨Repp.sub k d h.1,Repf.sub k ds h.2⟩
 |[],_::_,h=>h.elim
 |_::_,[],h=>h.elim
theorem Repp.sub(k:∀ a,B a->A a):∀{v:Ai×V}(d:Ai×D),Repp K CL H A v d->Repp K CL H B v d
 |_,(_,d),h=>⟨h.1,Rep.sub k d h.2⟩
theorem Repk.sub(k:∀ a,B a->A a):∀{vs:Ac (Ac Af×Ah×V)}(ds:Ac (Ac Af×D)),Repk K CL H A vs ds->Repk K CL H B vs ds
 |[],[],h=>h
 |_::_,d::ds,h=>⟨Repe.sub k d h.1,Repk.sub k ds h.2⟩
 |[],_::_,h=>h.elim
 |_::_,[],h=>h.elim
theorem Repe.sub(k:∀ a,B a->A a):∀{v:Ac Af×Ah×V}(d:Ac Af×D),Repe K CL H A v d->Repe K CL H B v d
 |_,(_,d),h=>⟨h.1,DP.sub k h.2.1,Rep.sub k d h.2.2⟩
end
mutual
theorem Rep.wide(hp:∀ a,B a->A a\/H a=Ad):∀{v:V}(d:D),Rep K CL H A v d->Rep K CL H B v d
 |_,.non,h=>h
 |_,.bl _,h=>h
 |_,.int _,h=>h
 |_,.str _,h=>h
 |_,.dic kvs,h=>by
  obtain⟨a,es,e,na,s,r⟩:=h;exact⟨a,es,e,(fun z=>(hp _ z).elim na fun e=>by rw[e]at s;cases s),s,Repk.wide hp kvs r⟩
 |_,.tup ds,h=>by
  obtain⟨a,xs,e,na,s,r⟩:=h;refine⟨a,xs,e,?_,s,Reps.wide hp ds r⟩;rcases s with s|s
  ·refine na.imp (fun na z=>(hp _ z).elim na fun e=>?_) id
   rcases s with s|⟨o,s⟩<;>rw[e]at s<;>cases s
  ·exact .inr s
 |_,.lst ds,h=>by
  obtain⟨a,xs,e,na,s,r⟩:=h;refine⟨a,xs,e,?_,s,Reps.wide hp ds r⟩;rcases s with s|s
  ·refine na.imp (fun na z=>(hp _ z).elim na fun e=>?_) id
   rcases s with s|⟨o,s⟩<;>rw[e]at s<;>cases s
  ·exact .inr s
 |_,.obj c fs,h=>by
  obtain⟨a,C,dx,vs,e,na,c,s,r⟩:=h;exact⟨a,C,dx,vs,e,(fun z=>(hp _ z).elim na fun e=>by rw[e]at s;cases s),c,s,Repf.wide hp fs r⟩
 |_,.exc c fs,h=>by
  obtain⟨a,C,φ,e,na,c,s,p,q⟩:=h;refine⟨a,C,φ,e,(fun z=>(hp _ z).elim na fun e=>by rw[e]at s;cases s),c,s,p,q.imp id ?_⟩
  rintro⟨dx,vs,nx,s2,r,z⟩;exact⟨dx,vs,(fun z=>(hp _ z).elim nx fun e=>by rw[e]at s2;cases s2),s2,Repf.wide hp fs r,z⟩
theorem Reps.wide(hp:∀ a,B a->A a\/H a=Ad):∀{vs:Ac V}(ds:Ac D),Reps K CL H A vs ds->Reps K CL H B vs ds
 |[],[],h=>h
 |_::_,d::ds,h=>⟨Rep.wide hp d h.1,Reps.wide hp ds h.2⟩
 |[],_::_,h=>h.elim
 |_::_,[],h=>h.elim
theorem Repf.wide(hp:∀ a,B a->A a\/H a=Ad):∀{vs:Ac (Ai×V)}(ds:Ac (Ai×D)),Repf K CL H A vs ds->Repf K CL H B vs ds
 |[],[],h=>h
 |_::_,d::ds,h=>⟨Repp.wide hp d h.1,Repf.wide hp ds h.2⟩
 |[],_::_,h=>h.elim
 |_::_,[],h=>h.elim
theorem Repp.wide(hp:∀ a,B a->A a\/H a=Ad):∀{v:Ai×V}(d:Ai×D),Repp K CL H A v d->Repp K CL H B v d
 |_,(_,d),h=>⟨h.1,Rep.wide hp d h.2⟩
theorem Repk.wide(hp:∀ a,B a->A a\/H a=Ad):∀{vs:Ac (Ac Af×Ah×V)}(ds:Ac (Ac Af×D)),Repk K CL H A vs ds->Repk K CL H B vs ds
 |[],[],h=>h
 |_::_,d::ds,h=>⟨Repe.wide hp d h.1,Repk.wide hp ds h.2⟩
 |[],_::_,h=>h.elim
 |_::_,[],h=>h.elim
theorem Repe.wide(hp:∀ a,B a->A a\/H a=Ad):∀{v:Ac Af×Ah×V}(d:Ac Af×D),Repe K CL H A v d->Repe K CL H B v d
 |_,(_,d),h=>⟨h.1,DP.wide hp h.2.1,Rep.wide hp d h.2.2⟩
end
theorem Rep.same(s:AH H H')(h:Rep K CL H A v d):Rep K CL H' A v d:=Rep.kp (Kp.of s) d h
theorem Reps.same{v:Ac V}{d:Ac D}(s:AH H H')(h:Reps K CL H A v d):Reps K CL H' A v d:=Reps.kp (Kp.of s) d h
theorem C3.map(f:∀{vs:Ac V}{ds:Ac D},Reps K CL H A vs ds->Reps K CL H' A' vs ds)(g:∀{vs:Ac (Ac Af×Ah×V)}{ds:Ac (Ac Af×D)},Repk K CL H A vs ds->Repk K CL H' A' vs ds)(h:C3 K CL H A a o d):C3 K CL H' A' a o d:=
 h.imp (fun ⟨xs,ds,e1,e2,r⟩=>⟨xs,ds,e1,e2,f r⟩) fun ⟨xs,ds,e1,e2,r⟩=>⟨xs,ds,e1,e2,g r⟩
theorem C3.kp{a:Ah}{o:HO}{d:D}(k:Kp A H H')(h:C3 K CL H A a o d):C3 K CL H' A a o d:=h.map (Reps.kp k _) (Repk.kp k _)
theorem C3.sub{a:Ah}{o:HO}{d:D}(k:∀ a,B a->A a)(h:C3 K CL H A a o d):C3 K CL H B a o d:=h.map (Reps.sub k _) (Repk.sub k _)
theorem C3.wide{a:Ah}{o:HO}{d:D}(k:∀ a,B a->A a\/H a=Ad)(h:C3 K CL H A a o d):C3 K CL H B a o d:=h.map (Reps.wide k _) (Repk.wide k _)
theorem C3.same(s:AH H H')(h:C3 K CL H A a o d):C3 K CL H' A a o d:=h.kp (Kp.of s)
theorem C3.owk(h:C3 K CL H A a o d):OwK a o:=h.imp (fun ⟨xs,_,e,_⟩=>⟨xs,e⟩) fun ⟨xs,_,e,_⟩=>⟨xs,e⟩
theorem C3.lst{ds:Ac D}(h:Reps K CL H A xs ds):C3 K CL H A a (.lst xs) (.lst ds):=.inl ⟨xs,ds,rfl,rfl,h⟩
theorem C3.dic{xs:Ac (Ac Af×Ah×V)}{ds:Ac (Ac Af×D)}(h:Repk K CL H A xs ds):C3 K CL H A a (.ext (Dx a xs)) (.dic ds):=.inr ⟨xs,ds,rfl,rfl,h⟩
theorem C3.lst_of{ds:Ac D}(h:C3 K CL H A a o (.lst ds)):∃ xs,o=.lst xs/\Reps K CL H A xs ds:=by
 rcases h with ⟨xs,ds',e,e2,r⟩|⟨_,_,_,e,_⟩
 ·cases e2;exact⟨xs,e,r⟩
 ·cases e
theorem C3.dic_of{ds:Ac (Ac Af×D)}(h:C3 K CL H A a o (.dic ds)):∃ xs,o=.ext (Dx a xs)/\Repk K CL H A xs ds:=by
 rcases h with ⟨_,_,_,e,_⟩|⟨xs,ds',e,e2,r⟩
 ·cases e
 ·cases e2;exact⟨xs,e,r⟩
theorem CG.same{v:V}{d:D}(s:AH H H')(h:CG K CL H A v d):CG K CL H' A v d:=by
 rcases h with h|⟨a,o,e,q,r⟩
 ·exact .inl (h.same s)
 ·exact .inr ⟨a,o,e,s _ _ q,r.same s⟩
theorem Reps.length:∀{vs:Ac V}{ds:Ac D},Reps K CL H A vs ds->vs.length=ds.length
 |[],[],_=>rfl
 |_::_,_::_,h=>congrArg (· + 1) (Reps.length h.2)
 |[],_::_,h=>h.elim
 |_::_,[],h=>h.elim
theorem Reps.append:∀{vs ws:Ac V}{ds es:Ac D},Reps K CL H A vs ds->Reps K CL H A ws es->Reps K CL H A (vs++ws) (ds++es)
 |[],_,[],_,_,h=>h
 |_::_,_,_::_,_,h,g=>⟨h.1,Reps.append h.2 g⟩
 |[],_,_::_,_,h,_=>h.elim
 |_::_,_,[],_,h,_=>h.elim
theorem Reps.get:∀{vs:Ac V}{ds:Ac D}{i:Ag}{d:D},Reps K CL H A vs ds->ds[i]?=Aa d->∃ v,vs[i]?=Aa v/\Rep K CL H A v d
 |[],[],_,_,_,e=>by simp at e
 |v::_,_::_,0,_,h,e=>by simp at e;subst e;exact⟨v,rfl,h.1⟩
 |_::_,_::_,i+1,_,h,e=>by
  obtain⟨v,q,r⟩:=Reps.get (i:=i) h.2 (by simpa using e)
  exact⟨v,by simpa using q,r⟩
 |[],_::_,_,_,h,_=>h.elim
 |_::_,[],_,_,h,_=>h.elim
theorem Reps.take:∀{vs:Ac V}{ds:Ac D}(n:Ag),Reps K CL H A vs ds->Reps K CL H A (vs.take n) (ds.take n)
 |_,_,0,_=>trivial
 |[],[],_+1,_=>trivial
 |_::_,_::_,n+1,h=>⟨h.1,Reps.take n h.2⟩
 |[],_::_,_+1,h=>h.elim
 |_::_,[],_+1,h=>h.elim
theorem Reps.drop:∀{vs:Ac V}{ds:Ac D}(n:Ag),Reps K CL H A vs ds->Reps K CL H A (vs.drop n) (ds.drop n)
 |_,_,0,h=>h
 |[],[],_+1,_=>trivial
 |_::_,_::_,n+1,h=>Reps.drop n h.2
 |[],_::_,_+1,h=>h.elim
 |_::_,[],_+1,h=>h.elim
theorem Reps.set{x:V}{e:D}(r:Rep K CL H A x e):∀{vs:Ac V}{ds:Ac D}(n:Ag),Reps K CL H A vs ds->Reps K CL H A (vs.set n x) (ds.set n e)
 |[],[],_,_=>trivial
 |_::_,_::_,0,h=>⟨r,h.2⟩
 |_::_,_::_,n+1,h=>⟨h.1,Reps.set r n h.2⟩
 |[],_::_,_,h=>h.elim
 |_::_,[],_,h=>h.elim
end
structure Good (K:Fg) (CL:ClA) (A:Ah->Prop) (ρ:Rho) (σ:L2.St) (H:Hp):Prop where
 sh:∀(i:Ag)(d:D),ρ[i]?=Aa (Aa (d,Ae))->∃ v,σ[i]?=Aa (Aa v)/\Rep K CL H A v d
 ow:∀(i:Ag)(d:D),ρ[i]?=Aa (Aa (d,Ab))->∃ a o,σ[i]?=Aa (Aa (.ref a))/\A a/\H a=Aa o/\C3 K CL H A a o d
 len:ρ.length=σ.length
theorem Good.same{K:Fg}{CL:ClA}{A:Ah->Prop}{ρ:Rho}{σ:L2.St}{H H':Hp}(g:Good K CL A ρ σ H)(s:AH H H'):Good K CL A ρ σ H':=
 ⟨fun i d e=>let ⟨v,q,r⟩:=g.sh i d e;⟨v,q,r.same s⟩,fun i d e=>let ⟨a,o,q,na,h,r⟩:=g.ow i d e;⟨a,o,q,na,s _ _ h,r.same s⟩,g.len⟩
theorem Good.owL(g:Good K CL A ρ σ H){ds:Ac D}(e:ρ[i]?=Aa (Aa (.lst ds,Ab))):∃ a xs ds',σ[i]?=Aa (Aa (.ref a))/\D.lst ds=.lst ds'/\A a/\H a=Aa (.lst xs)/\Reps K CL H A xs ds':=by
 obtain⟨a,o,q,na,h,r⟩:=g.ow i _ e;obtain⟨xs,rfl,r'⟩:=r.lst_of;exact⟨a,xs,ds,q,rfl,na,h,r'⟩
theorem Good.owK(g:Good K CL A ρ σ H){ds:Ac (Ac Af×D)}(e:ρ[i]?=Aa (Aa (.dic ds,Ab))):∃ a xs,σ[i]?=Aa (Aa (.ref a))/\A a/\H a=Aa (.ext (Dx a xs))/\Repk K CL H A xs ds:=by
 obtain⟨a,o,q,na,h,r⟩:=g.ow i _ e;obtain⟨xs,rfl,r'⟩:=r.dic_of;exact⟨a,xs,q,na,h,r'⟩
abbrev XW:=Ex->Hp->Prop
variable{W:XW}
def Bf(Rp:Hp->V->D->Prop)(W:XW)(H:Hp)(r:R D)(Q:VK):Prop:=match r with
  |.ok d=>∀ v H',AH H H'->Rp H' v d->Q v H'
  |.exn x=>∀ H',AH H H'->W x H'
  |.bad=>AW
def Ia(Rp:Hp->Ac V->Ac D->Prop)(W:XW)(H:Hp)(r:R (Ac D))(Q:Ac V->Hp->Prop):Prop:=match r with
  |.ok d=>∀ v H',AH H H'->Rp H' v d->Q v H'
  |.exn x=>∀ H',AH H H'->W x H'
  |.bad=>AW
def Dg(W:XW)(H:Hp)(r:R Ao)(Q:Ao->Hp->Prop):Prop:=match r with
  |.ok b=>∀ H',AH H H'->Q b H'
  |.exn x=>∀ H',AH H H'->W x H'
  |.bad=>AW
theorem Bf.same(s:AH H H')(h:Bf Rp W H r Q):Bf Rp W H' r Q:=by
 cases r with
 |ok d=>exact fun v H2 s2 q=>h v H2 (s.trans s2) q
 |exn x=>exact fun H2 s2=>h H2 (s.trans s2)
 |bad=>exact h
theorem Dg.same{r:R Ao}{Q:Ao->Hp->Prop}(s:AH H H')(h:Dg W H r Q):Dg W H' r Q:=by
 cases r with
 |ok d=>exact fun H2 s2=>h H2 (s.trans s2)
 |exn x=>exact fun H2 s2=>h H2 (s.trans s2)
 |bad=>exact h
theorem Bf.bind{f:D->R D}{Q':VK}(h:Bf Rq W H (r.bind f) Q)(k:∀ d v H',r=.ok d->AH H H'->Rp H' v d->Bf Rq W H' (f d) Q->Q' v H'):Bf Rp W H r Q':=by
 cases r with
 |ok d=>exact fun v H2 s2 q=>k d v H2 rfl s2 q (Bf.same s2 h)
 |exn x=>exact h
 |bad=>exact h
section
variable(X:Cx)(CL:ClA)(W:XW)
def SE(e:Ap)(f:Rho->R D):Prop:=∀ A,PE X e (fun σ H Q=>AOk H A/\∃ ρ,Good X.K CL A ρ σ H/\Bf (fun H=>Rep X.K CL H A) W H (f ρ) Q)
def ST(e:Ap)(f:Rho->R D):Prop:=∀ A,PE X e (fun σ H Q=>AOk H A/\∃ ρ,Good X.K CL A ρ σ H/\Bf (fun H=>CG X.K CL H A) W H (f ρ) Q)
def SB(e:Ap)(f:Rho->R Ao):Prop:=∀ A,PT X e (fun σ H Q=>AOk H A/\∃ ρ,Good X.K CL A ρ σ H/\Dg W H (f ρ) Q)
def SA(es:Ac Ap)(f:Rho->R (Ac D)):Prop:=∀ A,PA X es (fun σ H Q=>AOk H A/\∃ ρ,Good X.K CL A ρ σ H/\Ia (fun H=>Reps X.K CL H A) W H (f ρ) Q)
end
theorem PE.weak{t t':TE}(h:PE X e t)(k:∀ σ H Q,t' σ H Q->t σ H Q):PE X e t':=fun pI s σ H Q I q=>h pI s σ H Q I (k _ _ _ q)
theorem PT.weak{t t':TT}(h:PT X e t)(k:∀ σ H Q,t' σ H Q->t σ H Q):PT X e t':=fun pI s σ H Q I q=>h pI s σ H Q I (k _ _ _ q)
theorem PA.weak{e:Ac Ap}{t t':TA}(h:PA X e t)(k:∀ σ H Q,t' σ H Q->t σ H Q):PA X e t':=fun pos pI s σ H Q I q=>h pos pI s σ H Q I (k _ _ _ q)
noncomputable def OpD(X:Cx)(CL:ClA)(W:XW)(f:Ak->Ak->Sem Ak)(g:D->D->R D):Prop:=
 ∀ A,OpR X f (fun x y H Q=>AOk H A/\∃ dx dy,CG X.K CL H A x dx/\CG X.K CL H A y dy/\Bf (fun H=>Rep X.K CL H A) W H (g dx dy) Q)
section
variable{X:Cx}{CL:ClA}{W:XW}{a b c:Ap}{fa fb fc:Rho->R D}{pos:AO}
theorem SE.st(h:SE X CL W a fa):ST X CL W a fa:=fun A=>PE.weak (h A) fun σ H Q ⟨hA,ρ,g,p⟩=>⟨hA,ρ,g,by
 cases e:fa ρ with
 |ok d=>rw[e]at p;exact fun v H' s r=>p v H' s (.inl r)
 |exn x=>rw[e]at p;exact p
 | bad=>rw[e]at p;exact p⟩
theorem SE.congr{f g:Rho->R D}(h:SE X CL W a f)(e:∀ ρ,g ρ=f ρ):SE X CL W a g:=fun A=>PE.weak (h A) fun σ H Q ⟨hA,ρ,q,p⟩=>⟨hA,ρ,q,by rw[<-e];exact p⟩
theorem NJ(h:PE X a (tC v))(r:∀ H A,AOk H A->Rep X.K CL H A v d):SE X CL W a (fun _=>.ok d):=fun A=>PE.weak h fun σ H Q ⟨hA,ρ,g,p⟩=>p v H (AH.refl H) (r H A hA)
theorem mP{i j}:SE X CL W (.Constant (.int i) j pos) (fun _=>.ok (.int i)):=NJ lY fun _ _ _=>rfl
theorem UO{b j}:SE X CL W (.Constant (.bool b) j pos) (fun _=>.ok (.bl b)):=NJ rY fun _ _ _=>rfl
theorem mJ{j}:SE X CL W (.Constant .none j pos) (fun _=>.ok .non):=NJ lW fun _ _ _=>rfl
theorem TV{x j}:SE X CL W (.Constant (.str x) j pos) (fun _=>.ok (.str x)):=NJ Uk fun _ _ _=>rfl
theorem cJ(h:F8 ρ i=.ok d):ρ[i]?=Aa (Aa (d,Ae)):=by
 unfold F8 at h;split at h
 ·rename_i e;cases h;exact e
 ·cases h
theorem S5(h:Dm ρ i=.ok d):∃ o,ρ[i]?=Aa (Aa (d,o)):=by
 unfold Dm at h;split at h
 ·rename_i e;cases h;exact⟨_,e⟩
 ·cases h
theorem ZC(h:F8 ρ i=.exn x):AW:=by
 unfold F8 at h;split at h<;>cases h
theorem RC(h:Dm ρ i=.exn x):AW:=by
 unfold Dm at h;split at h<;>cases h
theorem TR(h:PE X a (E5 i)):SE X CL W a (fun ρ=>F8 ρ i):=fun A=>PE.weak h fun σ H Q ⟨hA,ρ,g,p⟩=>by
 dsimp only at p;cases e:F8 ρ i with
 |ok d=>
  rw[e]at p;obtain⟨v,q,r⟩:=g.sh i d (cJ e);exact⟨v,q,p v H (AH.refl H) r⟩
 |exn x=>exact(ZC e).elim
 |bad=>rw[e]at p;exact p.elim
theorem JH(h:PE X a (E5 i)):ST X CL W a (fun ρ=>Dm ρ i):=fun A=>PE.weak h fun σ H Q ⟨hA,ρ,g,p⟩=>by
 dsimp only at p;cases e:Dm ρ i with
 |ok d=>
  rw[e]at p;obtain⟨o,e⟩:=S5 e;cases o with
  |false=>
   obtain⟨v,q,r⟩:=g.sh i d e;exact⟨v,q,p v H (AH.refl H) (.inl r)⟩
  |true=>
   obtain⟨x,o,q,ha,hh,r⟩:=g.ow i d e;exact⟨_,q,p _ H (AH.refl H) (.inr ⟨x,o,rfl,hh,r⟩)⟩
 |exn x=>exact(RC e).elim
 |bad=>rw[e]at p;exact p.elim
theorem op2(h:AOk H A/\∃ ρ,Good X.K CL A ρ σ H/\Bf Rq W H ((fa ρ).bind fun x=>(fb ρ).bind fun y=>g x y) Q):AOk H A/\∃ ρ,Good X.K CL A ρ σ H/\Bf (fun H=>CG X.K CL H A) W H (fa ρ) (fun x H1=>AOk H1 A/\∃ ρ,Good X.K CL A ρ σ H1/\Bf (fun H=>CG X.K CL H A) W H1 (fb ρ) (fun y H2=>AOk H2 A/\∃ dx dy,CG X.K CL H2 A x dx/\CG X.K CL H2 A y dy/\Bf Rq W H2 (g dx dy) Q)):=by
 obtain⟨hA,ρ,gd,p⟩:=h;refine⟨hA,ρ,gd,Bf.bind p fun dx x H1 _ s1 r1 p1=>⟨hA.same s1,ρ,gd.same s1,Bf.bind p1 fun dy y H2 _ s2 r2 p2=>⟨(hA.same s1).same s2,dx,dy,r1.same s2,r2,p2⟩⟩⟩
theorem PN{op:Go}(ho:OpD X CL W (B7 op) g)(ha:ST X CL W a fa)(hb:ST X CL W b fb):SE X CL W (.BinOp a op b pos) (fun ρ=>(fa ρ).bind fun x=>(fb ρ).bind fun y=>g x y):=
 fun A=>PE.weak (UM (ho A) (ha A) (hb A)) fun σ H Q h=>op2 h
theorem mR(ho:OpD X CL W (Cm op) g)(ha:ST X CL W a fa)(hb:ST X CL W b fb)(hm:Ho op b=Ae):SE X CL W (.Compare a [op] [b] pos) (fun ρ=>(fa ρ).bind fun x=>(fb ρ).bind fun y=>g x y):=
 fun A=>PE.weak (gB (ho A) (ha A) (hb A) hm) fun σ H Q h=>op2 h
theorem CG.int_of{i:Af}(h:CG K CL H A v (.int i)):v=.int i:=by
 rcases h with h|⟨_,_,_,_,⟨_,_,_,e,_⟩|⟨_,_,_,e,_⟩⟩
 ·exact h
 ·cases e
 ·cases e
theorem CG.str_of{i:Ai}(h:CG K CL H A v (.str i)):v=.str i:=by
 rcases h with h|⟨_,_,_,_,⟨_,_,_,e,_⟩|⟨_,_,_,e,_⟩⟩
 ·exact h
 ·cases e
 ·cases e
theorem CG.bl_of{i:Ao}(h:CG K CL H A v (.bl i)):v=.bl i:=by
 rcases h with h|⟨_,_,_,_,⟨_,_,_,e,_⟩|⟨_,_,_,e,_⟩⟩
 ·exact h
 ·cases e
 ·cases e
theorem CG.non_of(h:CG K CL H A v .non):v=.non:=by
 rcases h with h|⟨_,_,_,_,⟨_,_,_,e,_⟩|⟨_,_,_,e,_⟩⟩
 ·exact h
 ·cases e
 ·cases e
theorem CG.lst_of{K:Fg}{H:Hp}{A:Ah->Prop}{v:V}{ds:Ac D}(h:CG K CL H A v (.lst ds)):∃ a xs,v=.ref a/\SqL K H a xs/\Reps K CL H A xs ds:=by
 rcases h with ⟨a,xs,e,_,s,r⟩|⟨a,o,rfl,s,r⟩
 ·exact⟨a,xs,e,s,r⟩
 ·obtain⟨xs,rfl,r'⟩:=r.lst_of;exact⟨a,xs,rfl,SqL.of s,r'⟩
theorem CG.dic_of{K:Fg}{H:Hp}{A:Ah->Prop}{v:V}{ds:Ac (Ac Af×D)}(h:CG K CL H A v (.dic ds)):∃ a es,v=.ref a/\H a=Aa (.ext (Dx a es))/\Repk K CL H A es ds:=by
 rcases h with ⟨a,xs,e,_,s,r⟩|⟨a,o,rfl,s,r⟩
 ·exact⟨a,xs,e,s,r⟩
 ·obtain⟨xs,rfl,r'⟩:=r.dic_of;exact⟨a,xs,rfl,s,r'⟩
theorem CG.tup_of{ds:Ac D}(h:CG K CL H A v (.tup ds)):∃ a xs,v=.ref a/\(¬ A a\/KT K a xs)/\SqT K H a xs/\Reps K CL H A xs ds:=by
 rcases h with ⟨a,xs,e,n,s,r⟩|⟨_,_,_,_,⟨_,_,_,e,_⟩|⟨_,_,_,e,_⟩⟩
 ·exact⟨a,xs,e,n,s,r⟩
 ·cases e
 ·cases e
theorem fE{i j:Af}(h:EB i j=Ab):N7 i j:=by
 unfold EB at h;simp only[B9,Aj,AT]at h;unfold N7;omega
theorem Tw{a:Af}(h:a.natAbs<2 ^ 2000):WE a<=2 ^ 20:=by
 unfold WE;split
 ·omega
 ·rename_i hz;have h0:a.natAbs≠0:=by intro z;exact hz (by rw[Int.natAbs_eq_zero.mp z];rfl)
  have:=(Nat.log2_lt h0).mpr h;omega
theorem fD{i j:Af}(h:(EB i j||Ht i j)=Ab):LS i j:=by
 rcases Bool.or_eq_true_iff.mp h with h|h
 ·exact(fE h).ok
 ·unfold Ht at h;rw[Aj,AT,AT]at h;exact .of_bits (Tw h.1) (Tw h.2)
theorem gS:OpR X (B7 .Mult) (rI LS fun i j=>.int (i*j)):=opI fun _ _ _ _ _ _ _ hc q=>mul_int q hc
theorem G3(h:Ci n=Ab):n<=sizeLine:=by
 unfold Ci at h;rw[DT];have:=EV h;omega
theorem Tu{p:Ah}{ds:Ac D}(hA:AOk H A)(hp:H p=Ad)(r:Reps K CL H A xs ds):Rep K CL (upd H p (.lst xs)) A (.ref p) (.lst ds):=
 ⟨p,xs,rfl,.inl (hA.new hp),SqL.of FL,r.same fun b o e=>by rw[BG (F3 e hp)];exact e⟩
theorem Ld{p:Ah}{ds:Ac D}(hA:AOk H A)(hp:H p=Ad)(r:Reps K CL H A xs ds):Rep K CL (upd H p (.tup xs)) A (.ref p) (.tup ds):=
 ⟨p,xs,rfl,.inl (hA.new hp),SqT.of FL,r.same fun b o e=>by rw[BG (F3 e hp)];exact e⟩
theorem F2{p:Ah}(h:H p=Ad)(o:HO):AH H (upd H p o):=fun b u q=>by rw[BG (F3 q h)];exact q
def rR(K:Fg):R2:=fun x y H Q=>∃ l b xs zs,x=.ref l/\y=.ref b/\SqL K H l xs/\SqL K H b zs/\xs.length+zs.length<=sizeLine/\∀ p,H p=Ad->Q (.ref p) (upd H p (.lst (xs++zs)))
end
section
variable{P:AS}{w:AB}{a:Ah}{xs:Ac (Ac Af×Ah×Ak)}{h:AF}
theorem GU.of(d:GU P w a xs h)(k:∀ x∈xs,(TK P w).is h x.1 x.2.1):h.DictOfH (TK P w) a xs:=by
 obtain⟨_,o,es,ep,h1,h2,h3,h4,h5⟩:=d;exact⟨o,es,ep,h1,h2,h3,h4,k,h5⟩
theorem GU.to(hs:(a==Ef)=Ae)(d:h.DictOfH (TK P w) a xs):GU P w a xs h:=by
 obtain⟨o,es,ep,h1,h2,h3,h4,k,h5⟩:=d;exact⟨hs,o,es,ep,h1,h2,h3,h4,h5⟩
theorem GU.keep(d:GU P w a xs h)(k:∀ o,h.get? a=Aa o->h'.get? a=Aa o):GU P w a xs h':=by
 obtain⟨hs,o,es,ep,h1,r⟩:=d;exact⟨hs,o,es,ep,k o h1,r⟩
theorem GU.any(d:GU P w a xs h):∀ P w,GU P w a xs h:=fun _ _=>d
theorem Dx.keep{h':AF}{es:Ac (Ac Af×Ah×V)}(d:Dx a es h)(k:∀ o,h.get? a=Aa o->h'.get? a=Aa o):Dx a es h':=let ⟨ys,v,d⟩:=d;⟨ys,v,fun P w=>(d P w).keep k⟩
theorem ValE.length{es:Ac (Ac Af×Ah×V)}(v:ValE es ys):es.length=ys.length:=by
 induction v with
 |nil=>rfl
 |cons _ _ ih=>exact congrArg (· + 1) ih
theorem Y8:∀{k:Ac Af}{its:Ac Ak},Bc (k.map V.int) its->ItemsAre (intKind P w) k its:=by
 intro k
 induction k with
 |nil=>intro its v;cases v;exact .nil
 |cons i k ih=>
  intro its v;cases v with
  |cons v1 v2=>
   obtain⟨t,rfl⟩:=v1;exact .cons (intKind_is _ _ _ _) (ih v2)
end
section
variable{K:Fg}{CL:ClA}{H:Hp}{A:Ah->Prop}
theorem aO:∀{ds:Ac D}{k:Ac Af}{xs:Ac V},DI.keyDs ds=Aa k->Reps K CL H A xs ds->xs=k.map V.int:=by
 intro ds
 induction ds with
 |nil=>
  intro k xs e r;cases e;cases xs with
  |nil=>rfl
  |cons=>exact r.elim
 |cons d ds ih=>
  intro k xs e r;cases xs with
  |nil=>exact r.elim
  |cons x xs=>
   cases d with
   |int i=>
    have e':(DI.keyDs ds).map (i :: ·)=Aa k:=e;cases e1:DI.keyDs ds with
    |none=>rw[e1]at e';cases e'
    |some k'=>
     rw[e1]at e';cases e';have ex:x=.int i:=r.1;rw[ex,ih e1 r.2];rfl
   |_=>exact nomatch (show Ad=Aa k from e)
theorem dH(r:Rep K CL H A v d)(e:DI d=Aa k):∃ a,v=.ref a/\DP K H A a k:=by
 cases d with
 |tup ds=>
  obtain⟨a,xs,ev,na,sq,rs⟩:=r;exact⟨a,ev,xs,na,sq,aO e rs⟩
 |_=>exact nomatch (show Ad=Aa k from e)
theorem KW(r:CG K CL H A v d)(e:DI d=Aa k):∃ a,v=.ref a/\DP K H A a k:=by
 rcases r with r|⟨_,_,_,_,⟨_,_,_,rfl,_⟩|⟨_,_,_,rfl,_⟩⟩
 ·exact dH r e
 ·exact nomatch (show Ad=Aa k from e)
 ·exact nomatch (show Ad=Aa k from e)
theorem Repk.length:∀{es:Ac (Ac Af×Ah×V)}{kvs:Ac (Ac Af×D)},Repk K CL H A es kvs->es.length=kvs.length
 |[],[],_=>rfl
 |_::_,_::_,h=>congrArg (· + 1) (Repk.length h.2)
 |[],_::_,h=>h.elim
 |_::_,[],h=>h.elim
theorem Kk{es:Ac (Ac Af×Ah×V)}(v:ValE es ys)(k:Ac Af):∀{kvs:Ac (Ac Af×D)},Repk K CL H A es kvs->(Hf ys k=Ad/\Fu kvs k=Ad/\(kvs.any fun p=>p.1==k)=Ae)\/∃ p x d,Hf ys k=Aa p/\Fu kvs k=Aa d/\(kvs.any fun p=>p.1==k)=Ab/\Bx x p.2/\Rep K CL H A x d:=by
 induction v with
 |nil=>
  intro kvs r;cases kvs with
  |nil=>exact .inl ⟨rfl,rfl,rfl⟩
  |cons=>exact r.elim
 | @cons k' a x y xs ys rv _ ih=>
  intro kvs r;cases kvs with
  |nil=>exact r.elim
  |cons q kvs=>
   obtain⟨k2,d⟩:=q;obtain⟨⟨e1,_,rd⟩,r2⟩:=r;cases (show k'=k2 from e1)
   by_cases hk:k'=k
   ·refine .inr ⟨(a,y),x,d,?_,?_,?_,rv,rd⟩
    ·simp[Hf,hk]
    ·simp[Fu,hk]
    ·simp[hk]
   ·have h0:(k' == k)=Ae:=CI.mpr hk;rcases ih r2 with ⟨z1,z2,z3⟩|⟨p,x',d',z1,z2,z3,z4⟩
    ·refine .inl ⟨?_,?_,?_⟩
     ·simpa [Hf,GC,hk] using z1
     ·simpa [Fu,GC,h0] using z2
     ·rw[Gj,z3];simp[h0]
    ·refine .inr ⟨p,x',d',?_,?_,?_,z4⟩
     ·simpa [Hf,GC,hk] using z1
     ·simpa [Fu,GC,h0] using z2
     ·rw[Gj,z3];simp
theorem Sz{es:Ac (Ac Af×Ah×V)}(v:ValE es ys){x:V}(kr:DP K H A ka k)(rx:Bx x y)(rd:Rep K CL H A x d):∀{kvs:Ac (Ac Af×D)},Repk K CL H A es kvs->∃ es',ValE es' (ys++[(k,ka,y)])/\Repk K CL H A es' (kvs++[(k,d)]):=by
 induction v with
 |nil=>
  intro kvs r;cases kvs with
  |nil=>exact⟨[(k,ka,x)],.cons rx .nil,⟨rfl,kr,rd⟩,trivial⟩
  |cons=>exact r.elim
 | @cons k' a x y xs ys rv _ ih=>
  intro kvs r;cases kvs with
  |nil=>exact r.elim
  |cons q kvs=>
   obtain⟨es',h1,h2⟩:=ih r.2;exact⟨(k',a,x)::es',.cons rv h1,r.1,h2⟩
theorem dG{es:Ac (Ac Af×Ah×V)}(v:ValE es ys){x:V}(rx:Bx x y)(rd:Rep K CL H A x d):∀{kvs:Ac (Ac Af×D)},Repk K CL H A es kvs->∃ es',ValE es' (ys.map (putAt k y))/\Repk K CL H A es' (kvs.map fun p=>if (p.1==k)=Ab then (k,d) else p):=by
 induction v with
 |nil=>
  intro kvs r;cases kvs with
  |nil=>exact⟨[],.nil,trivial⟩
  |cons=>exact r.elim
 | @cons k' a x' y' xs ys rv _ ih=>
  intro kvs r;cases kvs with
  |nil=>exact r.elim
  |cons q kvs=>
   obtain⟨es',h1,h2⟩:=ih r.2;obtain⟨k2,d'⟩:=q;obtain⟨⟨e1,kr,rd'⟩,r2⟩:=r;cases (show k'=k2 from e1)
   by_cases hk:k'=k
   ·refine⟨(k',a,x)::es',?_,?_⟩
    ·rw[BE,show putAt k y (k',a,y')=(k',a,y) from AG hk]
     exact .cons rx h1
    ·rw[BE,AG (show ((k' == k)=Ab) from AR.mpr hk)]
     exact⟨⟨hk,hk ▸ kr,rd⟩,h2⟩
   ·refine⟨(k',a,x')::es',?_,?_⟩
    ·rw[BE,show putAt k y (k',a,y')=(k',a,y') from AI hk]
     exact .cons rv h1
    ·rw[BE,AI (show ¬ ((k' == k)=Ab) from fun z=>hk (AR.mp z))]
     exact⟨⟨rfl,kr,rd'⟩,h2⟩
theorem dF{es:Ac (Ac Af×Ah×V)}(v:ValE es ys){x:V}(kr:DP K H A ka k)(rx:Bx x y)(rd:Rep K CL H A x d){kvs:Ac (Ac Af×D)}(r:Repk K CL H A es kvs):∃ es',ValE es' (storedH ys k ka y)/\Repk K CL H A es' (Hs kvs k d):=by
 unfold Hs;rcases Kk v k r with ⟨z1,_,z3⟩|⟨p,_,_,z1,_,z3,_⟩
 ·rw[storedH_new z1,AI (by rw[z3];exact Aq)]
  exact Sz v kr rx rd r
 ·rw[storedH_old z1,AG z3];exact dG v rx rd r
end
section
variable{X:Cx}{pI:Pn}{σ:L2.St}{H:Hp}{s:Ar}{a ka:Ah}{k:Ac Af}{CL:ClA}{A:Ah->Prop}{es:Ac (Ac Af×Ah×V)}{kvs:Ac (Ac Af×D)}
theorem Ko(I:Inv X pI σ H s)(r:DP X.K H A ka k):(TK X.prog X.w).is s.heap k ka:=by
 obtain⟨xs,_,sq,rfl⟩:=r;obtain⟨its,vs,⟨o,ho,hc,n,hd⟩,_⟩:=I.tuple sq;exact⟨o,its.toArray,n,ho,hc,hd,Y8 vs⟩
theorem fJ(I:Inv X pI σ H s)(v:ValE es ys):∀{kvs:Ac (Ac Af×D)},Repk X.K CL H A es kvs->∀ x∈ys,(TK X.prog X.w).is s.heap x.1 x.2.1:=by
 induction v with
 |nil=>intro kvs r x hx;cases hx
 | @cons k' a x y xs ys rv _ ih=>
  intro kvs r z hz;cases kvs with
  |nil=>exact r.elim
  |cons q kvs=>
   obtain⟨k2,d⟩:=q;obtain⟨⟨e1,kr,rd⟩,r2⟩:=r;cases (show k'=k2 from e1)
   rcases AD.mp hz with rfl|hz
   ·exact Ko I kr
   ·exact ih r2 z hz
theorem dic_of(I:Inv X pI σ H s)(hH:H a=Aa (.ext (Dx a es)))(r:Repk X.K CL H A es kvs):∃ ys,ValE es ys/\(a==Ef)=Ae/\s.heap.DictOfH (TK X.prog X.w) a ys:=by
 obtain⟨ys,ve,d⟩:=(I.hok a _ hH).1;have d:=d X.prog X.w;exact⟨ys,ve,d.1,d.of (fJ I ve r)⟩
theorem iV{x:V}{v:Ak}{Q:FZ->Ar->Prop}{E:Vq}(hu:X.A.units+1<BD)(I:Inv X pI σ H s)(hH:H a=Aa (.ext (Dx a es)))(r:Repk X.K CL H A es kvs)(hk:DP X.K H A ka k)(rx:Bx x v)(rd:Rep X.K CL H A x d)(hz:kvs.length<=sizeLine)(q:∀ s' es',Repk X.K CL H A es' (Hs kvs k d)->Inv X pI σ (upd H a (.ext (Dx a es'))) s'->Q () s'):Ax (model X.prog X.w) X.A (JR (.ref a) (.ref ka) v) Q E s:=by
 obtain⟨ys,ve,hs,m⟩:=dic_of I hH r;obtain⟨es',ve',r'⟩:=dF ve hk rx rd r;refine wpAny_setItem_heap (knd:=TK X.prog X.w) (hsz:=by rw[<-ve.length,r.length];exact hz) (DV hu) (Ko I hk) m fun h' m sb=>q _ es' r' ?_
 obtain⟨o,_,_,h1,_⟩:=id m;exact I.write (x:=a) (e:=a) (by rw[hH];exact trivial) (.inl rfl) (fun b u hb hu=>(sb.2 b hb).trans hu) ⟨o,h1⟩ ⟨⟨_,ve',(GU.to hs m).any⟩,⟨o,h1⟩,fun h1 h2 d k=>d.keep k⟩
theorem oE{Q:Vq}{E:Vq}(hu:X.A.units+1<BD)(I:Inv X pI σ H s)(hH:H a=Aa (.ext (Dx a es)))(r:Repk X.K CL H A es kvs)(hk:DP X.K H A ka k)(q:∀ s',Inv X pI σ H s'->Q (.bool (kvs.any fun p=>p.1==k)) s'):Ax (model X.prog X.w) X.A (Cm .In (.ref ka) (.ref a)) Q E s:=by
 obtain⟨ys,ve,hs,m⟩:=dic_of I hH r;refine wpAny_in_heap (knd:=TK X.prog X.w) (DV hu) (Ko I hk) hs m ?_;have e:(Hf ys k).isSome=(kvs.any fun p=>p.1==k):=by
  rcases Kk ve k r with ⟨z1,_,z3⟩|⟨p,_,_,z1,_,z3,_⟩<;>rw[z1,z3]<;>rfl
 rw[e];exact q _ (I.kept fun b o e=>e)
theorem iW{Q:Vq}{E:Vq}(hu:X.A.units+1<BD)(I:Inv X pI σ H s)(hH:H a=Aa (.ext (Dx a es)))(r:Repk X.K CL H A es kvs)(hk:DP X.K H A ka k)(q:∀ s',Inv X pI σ H s'->Q (.bool (!(kvs.any fun p=>p.1==k))) s'):Ax (model X.prog X.w) X.A (Cm .NotIn (.ref ka) (.ref a)) Q E s:=by
 obtain⟨ys,ve,hs,m⟩:=dic_of I hH r;refine wpAny_notIn_heap (knd:=TK X.prog X.w) (DV hu) (Ko I hk) hs m ?_;have e:(Hf ys k).isSome=(kvs.any fun p=>p.1==k):=by
  rcases Kk ve k r with ⟨z1,_,z3⟩|⟨p,_,_,z1,_,z3,_⟩<;>rw[z1,z3]<;>rfl
 rw[e];exact q _ (I.kept fun b o e=>e)
theorem Y6(d:Ah)(hd:(d==Ef)=Ae):MeetsIn X.prog X.w (Builtin.«dict.__len__» ⟨[.ref d],[]⟩) (fun _ R s=>∃ ys,s.heap.DictOfH (TK X.prog X.w) d ys/\R (.ok (.ret (.int ys.length s.toks))) {s with toks:=s.toks+1}):=
 .of_wp fun A R s ⟨ys,hm,h⟩=>by
  obtain⟨o,es,ep,ho,hc,hdat,hk,_,_⟩:=hm;show Ax _ _ (dictSize d >>= _) _ _ s;unfold dictSize;refine Al (Al (Xu ho hdat (AC ?_)));show Ax _ _ (Builtin.Dict.pendingCount d >>= _) _ _ s;refine Al (wpAny_pendingCount_other hd ?_);refine wpAny_ret_mkInt ?_;have:es.size=ys.length:=by rw[<-Fo,hk,Bm]
  rw[Nat.add_zero,this];exact h
theorem iY{Q:Vq}{E:Vq}(I:Inv X pI σ H s)(hH:H a=Aa (.ext (Dx a es)))(r:Repk X.K CL H A es kvs)(hz:kvs.length<=sizeLine)(q:∀ s' t,Inv X pI σ H s'->Q (.int kvs.length t) s'):Ax (model X.prog X.w) X.A (call (.builtin "len") [.ref a]) Q E s:=by
 obtain⟨ys,ve,hs,m⟩:=dic_of I hH r;have el:ys.length=kvs.length:=by rw[<-ve.length,r.length]
 have hf:(ys.length:Af)<2 ^ 63:=by have:=JI;omega
 refine Calls.call_function_entry kind_len plain_len entry_len (args_len1 _) ?_;unfold Builtin.«len»;refine Al (m:=oneArg "len" _) (AC ?_);refine Al (m:=HQ (.ref a) (Bh "__len__")) (CW (name:=Bh "__len__") m.typeIs WU
  (Jv WU m.typeIs F.entry_dict_len (F.args_dict_len_1 _) (Y6 a hs) ⟨ys,m,?_⟩))
 show Ax _ _ _ _ _ {s with toks:=s.toks+1}
 refine Al (BX (AC ?_));refine Al (IA ?_);show Ax _ _ (if ((ys.length:Ag):Af)<0 then _ else _) _ _ _
 rw[AI (by omega)]
 show Ax _ _ (if ((ys.length:Ag):Af) ≥ 2 ^ 63 then _ else _) _ _ _
 rw[AI (by omega)]
 refine Al (wpAny_mkInt (AC ⟨_,rfl,?_⟩));rw[el];exact q _ _ (I.kept fun b o e=>e)
theorem iX:PE X (.Dict [] [] pos) (fun _ H Q=>∀ a,H a=Ad->Q (.ref a) (upd H a (.ext (Dx a [])))):=fun pI s σ H Q I h=>by
 have big:Ef<s.heap.objs.size:=Nat.lt_trans (by decide) (I.mod.glob.keeps I.bk).lt
 have at0:(s.heap.push { cls:=.type "dict", data:=.dict #[] }).get? s.heap.objs.size=Aa { cls:=.type "dict", data:=.dict #[] }:=AV _ rfl;refine wpAny_Dict_empty ⟨.ref s.heap.objs.size,_,I.laid (a:=s.heap.objs.size) (t':=s.toks) (fun _ _ q=>Au _ q) (AU _) ?_,rfl,h _ (I.hok.fresh (AU _))⟩
 exact⟨⟨[],.nil,GU.any (P:=X.prog) (w:=X.w) ⟨CI.mpr (DZ (Bo big)),_,#[],0,at0,⟨rfl,rfl,rfl⟩,rfl,rfl,GZ⟩⟩,⟨_,at0⟩,fun h1 h2 d k=>d.keep k⟩
def VH(K:Fg)(CL:ClA)(A:Ah->Prop):R2:=fun x y H Q=>∃ a ka es kvs k d,x=.ref a/\y=.ref ka/\H a=Aa (.ext (Dx a es))/\Repk K CL H A es kvs/\DP K H A ka k/\Fu kvs k=Aa d/\∀ v,Rep K CL H A v d->Q v H
theorem pB(hu:X.A.units+1<BD):IxR X (VH X.K CL A):=by
 intro value slice pI s σ H x y v u Q I rx ry h hs;obtain⟨a,ka,es,kvs,k,d,rfl,rfl,hH,r,hk,hp,q⟩:=h;cases rx;cases ry;obtain⟨ys,ve,_,m⟩:=dic_of I hH r;rcases Kk ve k r with ⟨_,z2,_⟩|⟨p,x,d',z1,z2,_,z4,z5⟩
 ·rw[hp]at z2;cases z2
 ·rw[hp]at z2;cases z2;exact Gd m.typeIs slot_dict_getitem.lookup (wpAny_getItem_heap (knd:=TK X.prog X.w) (Q:=fun r s'=>r=p.2/\EP X pI σ Q r s') (DV hu) (Ko I hk) m z1 ⟨rfl,x,H,I.kept fun b o e=>e,z4,q x z5⟩) hs
end
section
variable{X:Cx}{CL:ClA}{W:XW}
theorem Ts:OpR X (B7 .Add) (rR X.K):=by
 intro pI s σ H x y v u Q I rx ry h;obtain⟨l,b,xs,zs,rfl,rfl,hH,hB,hz,q⟩:=h;cases rx;cases ry;obtain⟨its,r,⟨o,n,e,c,dd,dt⟩,z⟩:=I.list hH;obtain⟨its2,r2,⟨o2,n2,e2,c2,dd2,dt2⟩,z2⟩:=I.list hB;have hl:=r.length;have hl2:=r2.length;obtain⟨cls,dd0,data,sl⟩:=o;obtain⟨cls2,dd02,data2,sl2⟩:=o2;simp only at c dd dt c2 dd2 dt2;subst c dd dt c2 dd2 dt2;have ea:its.toArray++its2.toArray=(its++its2).toArray:=by simp
 refine Jx ⟨_,e,rfl⟩ ⟨_,e2,rfl⟩ noFill_list_add seq_list_add PySem.F.slot_list_add PySem.F.entry_list_add (PySem.F.args_list_add_2 _ _) (list_addW l b its.toArray its2.toArray n n2 Ad Ad sl sl2 (by simp;omega)) ⟨e,e2,?_⟩
 rw[ea];exact⟨.ref _,_,I.lnew (t':=s.toks) (r.append r2) (by rw[Bu];omega),rfl,q _ I.fresh⟩
theorem Tr:OpD X CL W (B7 .Add) (CV .Add):=by
 intro A pI s σ H x y v u Q I rx ry ⟨hA,dx,dy,hx,hy,p⟩;cases dx with
 |int i=>
  cases dy with
  |int j=>
   have ex:=hx.int_of;have ey:=hy.int_of
   subst ex ey;exact mH pI s σ H _ _ v u Q I rx ry ⟨i,j,rfl,rfl,p _ H (AH.refl H) rfl⟩
  |_=>exact p.elim
 |str i=>
  cases dy with
  |str j=>
   have ex:=hx.str_of;have ey:=hy.str_of
   subst ex ey;simp only[pS]at p;split at p
   ·rename_i h;exact YC pI s σ H _ _ v u Q I rx ry ⟨i,j,rfl,rfl,G3 h,p _ H (AH.refl H) rfl⟩
   ·exact p.elim
  |_=>exact p.elim
 |lst ds=>
  cases dy with
  |lst es=>
   obtain⟨a,xs,rfl,s1,r1⟩:=hx.lst_of;obtain⟨b,ys,rfl,s2,r2⟩:=hy.lst_of;simp only[Ue]at p;split at p
   ·rename_i h;refine Ts pI s σ H _ _ v u Q I rx ry ⟨a,b,xs,ys,rfl,rfl,s1,s2,by rw[r1.length,r2.length];exact G3 h,fun q hq=>?_⟩
    exact p _ _ (F2 hq _) (Tu hA hq (r1.append r2))
   ·exact p.elim
  |_=>exact p.elim
 |tup ds=>
  cases dy with
  |tup es=>
   obtain⟨a,xs,rfl,na1,s1,r1⟩:=hx.tup_of;obtain⟨b,ys,rfl,_,s2,r2⟩:=hy.tup_of;simp only[pR]at p;split at p
   ·rename_i h;simp only[Aj]at h;refine gW pI s σ H _ _ v u Q I rx ry ⟨a,b,xs,ys,rfl,rfl,s1,s2,?_,by rw[r1.length,r2.length];exact G3 h.2,fun hy0=>?_,fun _ q hq=>?_⟩
    ·rintro rfl;cases ds with
     |nil=>cases h.1
     |cons _ _=>exact r1.elim
    ·subst hy0;cases es with
     |nil=>rw[Ca]at p;exact p _ H (AH.refl H) ⟨a,xs,rfl,na1,s1,r1⟩
     |cons _ _=>exact r2.elim
    ·exact p _ _ (F2 hq _) (Ld hA hq (r1.append r2))
   ·exact p.elim
  |_=>exact p.elim
 |_=>exact p.elim
theorem Nq{op:Go}{C:Af->Af->Prop}{g:Af->Af->Af}(ho:OpR X (B7 op) (rI C fun i j=>.int (g i j)))(hg:∀ dx dy,(∃ i j,dx=.int i/\dy=.int j/\((C i j/\CV op dx dy=.ok (.int (g i j)))\/CV op dx dy=.bad))\/CV op dx dy=.bad):OpD X CL W (B7 op) (CV op):=by
 intro A pI s σ H x y v u Q I rx ry ⟨hA,dx,dy,hx,hy,p⟩;rcases hg dx dy with ⟨i,j,rfl,rfl,⟨c,e⟩|e⟩|e
 ·have ex:=hx.int_of;have ey:=hy.int_of
  subst ex ey;rw[e]at p;exact ho pI s σ H _ _ v u Q I rx ry ⟨i,j,rfl,rfl,c,p _ H (AH.refl H) rfl⟩
 ·rw[e]at p;exact p.elim
 ·rw[e]at p;exact p.elim
theorem gN:OpD X CL W (B7 .Sub) (CV .Sub):=by
 intro A pI s σ H x y v u Q I rx ry ⟨hA,dx,dy,hx,hy,p⟩;cases dx with
 |int i=>
  cases dy with
  |int j=>
   have ex:=hx.int_of;have ey:=hy.int_of
   subst ex ey;exact mD pI s σ H _ _ v u Q I rx ry ⟨i,j,rfl,rfl,p _ H (AH.refl H) rfl⟩
  |_=>exact p.elim
 |_=>exact p.elim
theorem gP:OpD X CL W (B7 .Mult) (CV .Mult):=Nq gS fun dx dy=>by
 cases dx with
 |int i=>
  cases dy with
  |int j=>
   refine .inl ⟨i,j,rfl,rfl,?_⟩;rw[lC];split
   ·rename_i h;exact .inl ⟨fD h,rfl⟩
   ·exact .inr rfl
  |_=>exact .inr rfl
 |_=>exact .inr rfl
theorem aL:OpD X CL W (B7 .FloorDiv) (CV .FloorDiv):=Nq gU fun dx dy=>by
 cases dx with
 |int i=>
  cases dy with
  |int j=>
   refine .inl ⟨i,j,rfl,rfl,?_⟩;rw[eX];split
   ·rename_i h;exact .inl ⟨h,rfl⟩
   ·exact .inr rfl
  |_=>exact .inr rfl
 |_=>exact .inr rfl
theorem gQ:OpD X CL W (B7 .Mod) (CV .Mod):=Nq mF fun dx dy=>by
 cases dx with
 |int i=>
  cases dy with
  |int j=>
   refine .inl ⟨i,j,rfl,rfl,?_⟩;rw[lF];split
   ·rename_i h;exact .inl ⟨h,rfl⟩
   ·exact .inr rfl
  |_=>exact .inr rfl
 |_=>exact .inr rfl
theorem gO:OpD X CL W (B7 .Pow) (CV .Pow):=Nq mE fun dx dy=>by
 cases dx with
 |int i=>
  cases dy with
  |int j=>
   refine .inl ⟨i,j,rfl,rfl,?_⟩;rw[lR];split
   ·rename_i h;exact .inl ⟨⟨h.1.1,h.1.2,by omega⟩,rfl⟩
   ·exact .inr rfl
  |_=>exact .inr rfl
 |_=>exact .inr rfl
theorem Pp(op:Go):OpD X CL W (B7 op) (CV op):=by
 cases op with
 |Add=>exact Tr
 |Sub=>exact gN
 |Mult=>exact gP
 |FloorDiv=>exact aL
 |Mod=>exact gQ
 |Pow=>exact gO
 |_=>
  intro A pI s σ H x y v u Q I rx ry ⟨hA,dx,dy,hx,hy,p⟩;cases dx<;>cases dy<;>exact p.elim
noncomputable abbrev A0:Ah->Prop:=fun _=>AW
theorem CG.plain(h:CG K CL H A v d):Rep K CL H A0 v d:=by
 rcases h with h|⟨a,o,rfl,e,⟨xs,ds,rfl,rfl,r⟩|⟨es,ds,rfl,rfl,r⟩⟩
 ·exact Rep.sub (fun _ z=>z.elim) d h
 ·exact⟨a,xs,rfl,.inl fun z=>z.elim,SqL.of e,Reps.sub (fun _ z=>z.elim) ds r⟩
 ·exact⟨a,es,rfl,fun z=>z.elim,e,Repk.sub (fun _ z=>z.elim) ds r⟩
mutual
theorem K5:∀(n:Ag)(d:D),flD n d=Ab->eqD d d=Ab
 |_,.non,_=>rfl
 |_,.bl b,_=>by simp
 |_,.int i,_=>by simp
 |_,.str x,_=>by simp
 |n+1,.tup ds,h=>by
  show eqDs ds ds=Ab;exact eqDs_refl n ds h
 |n+1,.lst ds,h=>by
  show eqDs ds ds=Ab;exact eqDs_refl n ds h
 |0,.tup ds,h=>by cases h
 |0,.lst ds,h=>by cases h
 |n,.obj _ _,h=>by cases n<;>cases h
 |n,.exc _ _,h=>by cases n<;>cases h
 |n,.dic _,h=>by cases n<;>cases h
theorem eqDs_refl:∀(n:Ag)(ds:Ac D),ds.all (flD n)=Ab->eqDs ds ds=Ab
 |_,[],_=>rfl
 |n,d::ds,h=>by
  simp only[Gi,Aj]at h;simp only[OX,Aj];exact⟨K5 n d h.1,eqDs_refl n ds h.2⟩
end
theorem Rz{ys:Ac V}(I:Inv X pI σ H s)(h:SqL X.K H a xs)(h':SqT X.K H a ys):AW:=by
 obtain⟨its,r,⟨o,n,e,c,_,_⟩,_⟩:=I.list h;obtain⟨its',r',⟨o',e',c',_⟩,_⟩:=I.tuple h';rw[e]at e';cases e';rw[c]at c'
 injection c' with z
 exact absurd z (by decide)
mutual
theorem Np{pI:Pn}{σ:L2.St}{H:Hp}{s:Ar}(I:Inv X pI σ H s):∀(n:Ag)(d e:D){v:V},flD n d=Ab->flD n e=Ab->Rep X.K CL H A0 v d->Rep X.K CL H A0 v e->d=e
 |n,.tup ds,e,v,hd,he,r,q=>by
  obtain⟨a,xs,rfl,_,s1,r1⟩:=r;cases e with
  |tup es=>
   obtain⟨b,ys,e,_,s2,r2⟩:=q;cases e;have z:=I.tuple_inj s1 s2;subst z;cases n with
   |zero=>cases hd
   |succ n=>rw[reps_inj I n ds es hd he r1 r2]
  |lst es=>
   obtain⟨b,ys,e,_,s2,r2⟩:=q;cases e;exact(Rz I s2 s1).elim
  |obj=>cases n<;>cases he
  |exc=>cases n<;>cases he
  |dic=>cases n<;>cases he
  |_=>cases q
 |n,.lst ds,e,v,hd,he,r,q=>by
  obtain⟨a,xs,rfl,_,s1,r1⟩:=r;cases e with
  |lst es=>
   obtain⟨b,ys,e,_,s2,r2⟩:=q;cases e;have z:=I.list_inj s1 s2;subst z;cases n with
   |zero=>cases hd
   |succ n=>rw[reps_inj I n ds es hd he r1 r2]
  |tup es=>
   obtain⟨b,ys,e,_,s2,r2⟩:=q;cases e;exact(Rz I s1 s2).elim
  |obj=>cases n<;>cases he
  |exc=>cases n<;>cases he
  |dic=>cases n<;>cases he
  |_=>cases q
 |n,.obj _ _,e,v,hd,he,r,q=>by cases n<;>cases hd
 |n,.exc _ _,e,v,hd,he,r,q=>by cases n<;>cases hd
 |n,.dic _,e,v,hd,he,r,q=>by cases n<;>cases hd
 |n,.non,e,v,hd,he,r,q=>by
  cases r;cases e with
  |tup=>obtain⟨_,_,z,_⟩:=q;cases z
  |lst=>obtain⟨_,_,z,_⟩:=q;cases z
  |obj=>cases n<;>cases he
  |exc=>cases n<;>cases he
  |dic=>cases n<;>cases he
  |_=>cases q<;>rfl
 |n,.bl b,e,v,hd,he,r,q=>by
  cases r;cases e with
  |tup=>obtain⟨_,_,z,_⟩:=q;cases z
  |lst=>obtain⟨_,_,z,_⟩:=q;cases z
  |obj=>cases n<;>cases he
  |exc=>cases n<;>cases he
  |dic=>cases n<;>cases he
  |_=>cases q<;>rfl
 |n,.int b,e,v,hd,he,r,q=>by
  cases r;cases e with
  |tup=>obtain⟨_,_,z,_⟩:=q;cases z
  |lst=>obtain⟨_,_,z,_⟩:=q;cases z
  |obj=>cases n<;>cases he
  |exc=>cases n<;>cases he
  |dic=>cases n<;>cases he
  |_=>cases q<;>rfl
 |n,.str b,e,v,hd,he,r,q=>by
  cases r;cases e with
  |tup=>obtain⟨_,_,z,_⟩:=q;cases z
  |lst=>obtain⟨_,_,z,_⟩:=q;cases z
  |obj=>cases n<;>cases he
  |exc=>cases n<;>cases he
  |dic=>cases n<;>cases he
  |_=>cases q<;>rfl
theorem reps_inj{pI:Pn}{σ:L2.St}{H:Hp}{s:Ar}(I:Inv X pI σ H s):∀(n:Ag)(ds es:Ac D){xs:Ac V},ds.all (flD n)=Ab->es.all (flD n)=Ab->Reps X.K CL H A0 xs ds->Reps X.K CL H A0 xs es->ds=es
 |_,[],[],_,_,_,_,_=>rfl
 |n,d::ds,e::es,x::xs,hd,he,r,q=>by
  simp only[Gi,Aj]at hd he;rw[Np I n d e hd.1 he.1 r.1 q.1,reps_inj I n ds es hd.2 he.2 r.2 q.2]
 |_,[],_::_,[],_,_,_,q=>q.elim
 |_,[],_::_,_::_,_,_,r,_=>r.elim
 |_,_::_,[],[],_,_,r,_=>r.elim
 |_,_::_,[],_::_,_,_,_,q=>q.elim
 |_,_::_,_::_,[],_,_,r,_=>r.elim
end
theorem Me:∀{ds es:Ac D},ds.length≠es.length->eqDs ds es=Ae
 |[],[],h=>absurd rfl h
 |[],_::_,_=>rfl
 |_::_,[],_=>rfl
 |d::ds,e::es,h=>by
  simp only[OX,Me (ds:=ds) (es:=es) (by simpa using h),FR]
theorem Yq(n:Ag)(f:Ag->Ao):(A5 (n+1)).all f=(f 0&&(A5 n).all fun j=>f (j+1)):=by
 rw[Gc,Gi,V7];rfl
theorem Mf:∀{ds es:Ac D},ds.length=es.length->eqDs ds es=(A5 ds.length).all fun j=>eqD (ds.getD j .non) (es.getD j .non)
 |[],[],_=>rfl
 |d::ds,e::es,h=>by
  rw[OX,Mf (ds:=ds) (es:=es) (by simpa using h),Bs,Yq]
  rfl
 |[],_::_,h=>by cases h
 |_::_,[],h=>by cases h
theorem Lj{ds:Ac D}{its:Ac Ak}(r:Reps K CL H A0 xs ds)(rv:Bc xs its){j:Ag}(h:j<its.length):∃ x,Rep K CL H A0 x (ds.getD j .non)/\Bx x its[j]:=by
 have e1:=rv.length;have e2:=r.length;have hd:ds[j]?=Aa (ds.getD j .non):=by
  rw[D5,B0 (by omega)];rfl
 obtain⟨x,hx,q⟩:=r.get hd;obtain⟨u,hu,ru⟩:=rv.get hx;refine⟨x,q,?_⟩;rw[B0 h]at hu;cases hu;exact ru
theorem Kh{ds:Ac D}(h:ds.all (flD n)=Ab)(j:Ag):flD n (ds.getD j .non)=Ab:=by
 rw[D5];cases e:ds[j]? with
 |none=>cases n<;>rfl
 |some d=>exact List.all_eq_true.mp h d (Wm e)
def CH(B:AY)(s:Ar)(u t:Ak)(k:Ao):Prop:=Kw B s u t k/\GO B s u t k/\Jt B s u t (!k)
section
variable{B:AY}{s:Ar}
open SeqAt
theorem qC:CH B s .none .none Ab:=⟨RcAt.none_none,EqAt.same _,RcNeAt.none_none⟩
theorem tD(a b:Ao):CH B s (.bool a) (.bool b) (a==b):=⟨RcAt.bool_bool _ _,EqAt.bool_bool _ _,RcNeAt.bool_bool _ _⟩
theorem qF(b:Ao):CH B s .none (.bool b) Ae:=⟨RcAt.none_bool _,EqAt.none_bool _,RcNeAt.none_bool _⟩
theorem sY(b:Ao):CH B s (.bool b) .none Ae:=⟨RcAt.bool_none _,EqAt.bool_none _,RcNeAt.bool_none _⟩
theorem sU(a:Af)(t:CN)(b:Af)(u:CN):CH B s (.int a t) (.int b u) (a==b):=⟨RcAt.int_int _ _ _ _,EqAt.int_int _ _ _ _,RcNeAt.int_int _ _ _ _⟩
theorem qS(a:Ai)(t:CN)(b:Ai)(u:CN):CH B s (.str a t) (.str b u) (a==b):=⟨RcAt.str_str _ _ _ _,EqAt.str_str _ _ _ _,RcNeAt.str_str _ _ _ _⟩
theorem sR(a:Af)(t:CN)(b:Ai)(u:CN):CH B s (.int a t) (.str b u) Ae:=⟨RcAt.int_str _ _ _ _,EqAt.int_str _ _ _ _,RcNeAt.int_str _ _ _ _⟩
theorem qV(a:Ai)(t:CN)(b:Af)(u:CN):CH B s (.str a t) (.int b u) Ae:=⟨RcAt.str_int _ _ _ _,EqAt.str_int _ _ _ _,RcNeAt.str_int _ _ _ _⟩
theorem qE(b:Af)(u:CN):CH B s .none (.int b u) Ae:=⟨RcAt.none_int _ _,EqAt.none_int _ _,RcNeAt.none_int _ _⟩
theorem sS(b:Af)(u:CN):CH B s (.int b u) .none Ae:=⟨RcAt.int_none _ _,EqAt.int_none _ _,RcNeAt.int_none _ _⟩
theorem qB(b:Ai)(u:CN):CH B s .none (.str b u) Ae:=⟨RcAt.none_str _ _,EqAt.none_str _ _,RcNeAt.none_str _ _⟩
theorem qT(b:Ai)(u:CN):CH B s (.str b u) .none Ae:=⟨RcAt.str_none _ _,EqAt.str_none _ _,RcNeAt.str_none _ _⟩
theorem tB(a:Ao)(b:Af)(u:CN):CH B s (.bool a) (.int b u) (b2i a==b):=⟨RcAt.bool_int _ _ _,EqAt.bool_int _ _ _,RcNeAt.bool_int _ _ _⟩
theorem sV(a:Ao)(b:Af)(u:CN):CH B s (.int b u) (.bool a) (b==b2i a):=⟨RcAt.int_bool _ _ _,EqAt.int_bool _ _ _,RcNeAt.int_bool _ _ _⟩
theorem sX(a:Ao)(b:Ai)(u:CN):CH B s (.bool a) (.str b u) Ae:=⟨RcAt.bool_str _ _ _,EqAt.bool_str _ _ _,RcNeAt.bool_str _ _ _⟩
theorem qW(a:Ao)(b:Ai)(u:CN):CH B s (.str b u) (.bool a) Ae:=⟨RcAt.str_bool _ _ _,EqAt.str_bool _ _ _,RcNeAt.str_bool _ _ _⟩
variable{l:Ah}{items:Bj Ak}
theorem qI(h:s.heap.IsList l items)(hu:B.units<BD):CH B s (.ref l) .none Ae:=⟨RcAt.list_none h hu,EqAt.list_none h hu,RcNeAt.list_none h hu⟩
theorem qD(h:s.heap.IsList l items)(hu:B.units<BD):CH B s .none (.ref l) Ae:=⟨RcAt.none_list h hu,EqAt.none_list h hu,RcNeAt.none_list h hu⟩
theorem sP(b:Ao)(h:s.heap.IsList l items)(hu:B.units<BD):CH B s (.ref l) (.bool b) Ae:=⟨RcAt.list_bool b h hu,EqAt.list_bool b h hu,RcNeAt.list_bool b h hu⟩
theorem sZ(b:Ao)(h:s.heap.IsList l items)(hu:B.units<BD):CH B s (.bool b) (.ref l) Ae:=⟨RcAt.bool_list b h hu,EqAt.bool_list b h hu,RcNeAt.bool_list b h hu⟩
theorem qJ(b:Af)(u:CN)(h:s.heap.IsList l items)(hu:B.units<BD):CH B s (.ref l) (.int b u) Ae:=⟨RcAt.list_int b u h hu,EqAt.list_int b u h hu,RcNeAt.list_int b u h hu⟩
theorem sT(b:Af)(u:CN)(h:s.heap.IsList l items)(hu:B.units<BD):CH B s (.int b u) (.ref l) Ae:=⟨RcAt.int_list b u h hu,EqAt.int_list b u h hu,RcNeAt.int_list b u h hu⟩
theorem qH(b:Ai)(u:CN)(h:s.heap.IsList l items)(hu:B.units<BD):CH B s (.ref l) (.str b u) Ae:=⟨RcAt.list_str b u h hu,EqAt.list_str b u h hu,RcNeAt.list_str b u h hu⟩
theorem qU(b:Ai)(u:CN)(h:s.heap.IsList l items)(hu:B.units<BD):CH B s (.str b u) (.ref l) Ae:=⟨RcAt.str_list b u h hu,EqAt.str_list b u h hu,RcNeAt.str_list b u h hu⟩
theorem qN(h:s.heap.IsTuple l items)(hu:B.units<BD):CH B s (.ref l) .none Ae:=⟨RcAt.tuple_none h hu,EqAt.tuple_none h hu,RcNeAt.tuple_none h hu⟩
theorem qA(h:s.heap.IsTuple l items)(hu:B.units<BD):CH B s .none (.ref l) Ae:=⟨RcAt.none_tuple h hu,EqAt.none_tuple h hu,RcNeAt.none_tuple h hu⟩
theorem qQ(b:Ao)(h:s.heap.IsTuple l items)(hu:B.units<BD):CH B s (.ref l) (.bool b) Ae:=⟨RcAt.tuple_bool b h hu,EqAt.tuple_bool b h hu,RcNeAt.tuple_bool b h hu⟩
theorem sW(b:Ao)(h:s.heap.IsTuple l items)(hu:B.units<BD):CH B s (.bool b) (.ref l) Ae:=⟨RcAt.bool_tuple b h hu,EqAt.bool_tuple b h hu,RcNeAt.bool_tuple b h hu⟩
theorem qP(b:Af)(u:CN)(h:s.heap.IsTuple l items)(hu:B.units<BD):CH B s (.ref l) (.int b u) Ae:=⟨RcAt.tuple_int b u h hu,EqAt.tuple_int b u h hu,RcNeAt.tuple_int b u h hu⟩
theorem sQ(b:Af)(u:CN)(h:s.heap.IsTuple l items)(hu:B.units<BD):CH B s (.int b u) (.ref l) Ae:=⟨RcAt.int_tuple b u h hu,EqAt.int_tuple b u h hu,RcNeAt.int_tuple b u h hu⟩
theorem qM(b:Ai)(u:CN)(h:s.heap.IsTuple l items)(hu:B.units<BD):CH B s (.ref l) (.str b u) Ae:=⟨RcAt.tuple_str b u h hu,EqAt.tuple_str b u h hu,RcNeAt.tuple_str b u h hu⟩
theorem qR(b:Ai)(u:CN)(h:s.heap.IsTuple l items)(hu:B.units<BD):CH B s (.str b u) (.ref l) Ae:=⟨RcAt.str_tuple b u h hu,EqAt.str_tuple b u h hu,RcNeAt.str_tuple b u h hu⟩
theorem qG(h:s.heap.IsList l items)(h2:s.heap.IsTuple b items2)(hu:B.units<BD):CH B s (.ref l) (.ref b) Ae:=⟨RcAt.list_tuple h h2 hu,EqAt.list_tuple h h2 hu,RcNeAt.list_tuple h h2 hu⟩
theorem qO(h:s.heap.IsTuple l items)(h2:s.heap.IsList b items2)(hu:B.units<BD):CH B s (.ref l) (.ref b) Ae:=⟨RcAt.tuple_list h h2 hu,EqAt.tuple_list h h2 hu,RcNeAt.tuple_list h h2 hu⟩
end
end
section
variable{X:Cx}{CL:ClA}{W:XW}
theorem ND(x:PlainL h a its):h.IsList a its:=let ⟨o,n,e,c,_,d⟩:=x;⟨o,e,c,n,d⟩
def XC(X:Cx)(CL:ClA)(H:Hp)(s:Ar)(d:D)(u:Ak):Prop:=match d with
  |.non=>u=.none
  |.bl b=>u=.bool b
  |.int i=>∃ t,u=.int i t
  |.str x=>∃ t,u=.str x t
  |.tup ds=>∃ a xs its,u=.ref a/\Reps X.K CL H A0 xs ds/\Bc xs its/\s.heap.IsTuple a its.toArray
  |.lst ds=>∃ a xs its,u=.ref a/\Reps X.K CL H A0 xs ds/\Bc xs its/\s.heap.IsList a its.toArray
  |_=>AW
theorem SV(I:Inv X pI σ H s){u:Ak}(hd:flD n d=Ab)(r:Rep X.K CL H A0 v d)(q:Bx v u):XC X CL H s d u:=by
 cases d with
 |non=>cases r;exact q
 |bl b=>cases r;exact q
 |int b=>cases r;exact q
 |str b=>cases r;exact q
 |tup ds=>
  obtain⟨a,xs,rfl,_,sq,r⟩:=r;obtain⟨its,rv,p,_⟩:=I.tuple sq;cases q;exact⟨a,xs,its,rfl,r,rv,p⟩
 |lst ds=>
  obtain⟨a,xs,rfl,_,sq,r⟩:=r;obtain⟨its,rv,p,_⟩:=I.list sq;cases q;exact⟨a,xs,its,rfl,r,rv,ND p⟩
 |obj=>cases n<;>cases hd
 |exc=>cases n<;>cases hd
 |dic=>cases n<;>cases hd
theorem dB{B:AY}{its:Ac Ak}{ds es:Ac D}(hl:s.heap.IsList l its.toArray)(hb:s.heap.IsList b its2.toArray)(e1:its.length=ds.length)(e2:its2.length=es.length)(hu:B.units<BD)(hs:l=b->eqDs ds es=Ab)(he:∀ j (h1:j<its.length) (h2:j<its2.length),GO B.in1 s its[j] its2[j] (eqD (ds.getD j .non) (es.getD j .non))):CH B s (.ref l) (.ref b) (eqDs ds es):=by
 have rc:Kw B s (.ref l) (.ref b) (eqDs ds es):=by
  by_cases hz:its.length=its2.length
  ·have q:=SeqAt.RcAt.lists (e:=fun j=>eqD (ds.getD j .non) (es.getD j .non)) hl hb (by simpa using hz) hu (fun j h1 h2=>by simpa using he j (by simpa using h1) (by simpa using h2))
   rw[Mf (by omega)]
   have e:its.toArray.size=ds.length:=by simpa using e1
   rw[e]at q;exact q
  ·rw[Me (by omega)]
   exact SeqAt.RcAt.lists_lengths hl hb (by simpa using hz) hu
 have ne:Jt B s (.ref l) (.ref b) (!eqDs ds es):=by
  by_cases hz:its.length=its2.length
  ·have q:=SeqAt.RcNeAt.lists (e:=fun j=>eqD (ds.getD j .non) (es.getD j .non)) hl hb (by simpa using hz) hu (fun j h1 h2=>by simpa using he j (by simpa using h1) (by simpa using h2))
   rw[Mf (by omega)]
   have e:its.toArray.size=ds.length:=by simpa using e1
   rw[e]at q;exact q
  ·rw[Me (by omega)]
   exact SeqAt.RcNeAt.lists_lengths hl hb (by simpa using hz) hu
 refine⟨rc,?_,ne⟩;by_cases hlb:l=b
 ·rw[hs hlb,hlb];exact Xa _
 ·exact W9 hlb rc
theorem dA{B:AY}{its:Ac Ak}{ds es:Ac D}(hl:s.heap.IsTuple l its.toArray)(hb:s.heap.IsTuple b its2.toArray)(e1:its.length=ds.length)(e2:its2.length=es.length)(hu:B.units<BD)(hs:l=b->eqDs ds es=Ab)(he:∀ j (h1:j<its.length) (h2:j<its2.length),GO B.in1 s its[j] its2[j] (eqD (ds.getD j .non) (es.getD j .non))):CH B s (.ref l) (.ref b) (eqDs ds es):=by
 have rc:Kw B s (.ref l) (.ref b) (eqDs ds es):=by
  have q:=SeqAt.RcAt.tuples (e:=fun j=>eqD (ds.getD j .non) (es.getD j .non)) hl hb hu (fun j h1 h2=>by simpa using he j (by simpa using h1) (by simpa using h2))
  have e:its.toArray.size=ds.length:=by simpa using e1
  have e':its2.toArray.size=es.length:=by simpa using e2
  rw[e,e']at q;by_cases hz:ds.length=es.length
  ·rw[Mf hz];rw[hz,Wv,Cy,VW]at q;rw[hz];exact q
  ·rw[Me hz];rw[CI.mpr hz,FR]at q;exact q
 have ne:Jt B s (.ref l) (.ref b) (!eqDs ds es):=by
  have q:=SeqAt.RcNeAt.tuples (e:=fun j=>eqD (ds.getD j .non) (es.getD j .non)) hl hb hu (fun j h1 h2=>by simpa using he j (by simpa using h1) (by simpa using h2))
  have e:its.toArray.size=ds.length:=by simpa using e1
  have e':its2.toArray.size=es.length:=by simpa using e2
  rw[e,e']at q;by_cases hz:ds.length=es.length
  ·rw[Mf hz];rw[hz,Wv,Cy,VW]at q;rw[hz];exact q
  ·rw[Me hz];rw[CI.mpr hz,FR]at q;exact q
 refine⟨rc,?_,ne⟩;by_cases hlb:l=b
 ·rw[hs hlb,hlb];exact Xa _
 ·exact W9 hlb rc
theorem MA{pI:Pn}{σ:L2.St}{H:Hp}{s:Ar}(I:Inv X pI σ H s):∀(n:Ag)(d e:D)(v w':V)(u t:Ak)(B:AY),flD n d=Ab->flD n e=Ab->Rep X.K CL H A0 v d->Rep X.K CL H A0 w' e->Bx v u->Bx w' t->B.units+n<BD->CH B s u t (eqD d e)
  |n,d,e,v,w',u,t,B,hd,he,r,q,rv,rw',hu=>by
    have hu0:B.units<BD:=by omega
    have sd:=SV I hd r rv;have se:=SV I he q rw'
    match d,e,sd,se with
    |.non,.non,s1,s2=>cases s1;cases s2;exact qC
    |.non,.bl b,s1,s2=>cases s1;cases s2;exact qF b
    |.non,.int b,s1,s2=>cases s1;obtain⟨_,rfl⟩:=s2;exact qE b _
    |.non,.str b,s1,s2=>cases s1;obtain⟨_,rfl⟩:=s2;exact qB b _
    |.non,.tup es,s1,s2=>cases s1;obtain⟨_,_,_,rfl,_,_,p⟩:=s2;exact qA p hu0
    |.non,.lst es,s1,s2=>cases s1;obtain⟨_,_,_,rfl,_,_,p⟩:=s2;exact qD p hu0
    |.bl a,.non,s1,s2=>cases s1;cases s2;exact sY a
    |.bl a,.bl b,s1,s2=>cases s1;cases s2;exact tD a b
    |.bl a,.int b,s1,s2=>cases s1;obtain⟨_,rfl⟩:=s2;exact tB a b _
    |.bl a,.str b,s1,s2=>cases s1;obtain⟨_,rfl⟩:=s2;exact sX a b _
    |.bl a,.tup es,s1,s2=>cases s1;obtain⟨_,_,_,rfl,_,_,p⟩:=s2;exact sW a p hu0
    |.bl a,.lst es,s1,s2=>cases s1;obtain⟨_,_,_,rfl,_,_,p⟩:=s2;exact sZ a p hu0
    |.int a,.non,s1,s2=>obtain⟨_,rfl⟩:=s1;cases s2;exact sS a _
    |.int a,.bl b,s1,s2=>obtain⟨_,rfl⟩:=s1;cases s2;exact sV b a _
    |.int a,.int b,s1,s2=>obtain⟨_,rfl⟩:=s1;obtain⟨_,rfl⟩:=s2;exact sU a _ b _
    |.int a,.str b,s1,s2=>obtain⟨_,rfl⟩:=s1;obtain⟨_,rfl⟩:=s2;exact sR a _ b _
    |.int a,.tup es,s1,s2=>obtain⟨_,rfl⟩:=s1;obtain⟨_,_,_,rfl,_,_,p⟩:=s2;exact sQ a _ p hu0
    |.int a,.lst es,s1,s2=>obtain⟨_,rfl⟩:=s1;obtain⟨_,_,_,rfl,_,_,p⟩:=s2;exact sT a _ p hu0
    |.str a,.non,s1,s2=>obtain⟨_,rfl⟩:=s1;cases s2;exact qT a _
    |.str a,.bl b,s1,s2=>obtain⟨_,rfl⟩:=s1;cases s2;exact qW b a _
    |.str a,.int b,s1,s2=>obtain⟨_,rfl⟩:=s1;obtain⟨_,rfl⟩:=s2;exact qV a _ b _
    |.str a,.str b,s1,s2=>obtain⟨_,rfl⟩:=s1;obtain⟨_,rfl⟩:=s2;exact qS a _ b _
    |.str a,.tup es,s1,s2=>obtain⟨_,rfl⟩:=s1;obtain⟨_,_,_,rfl,_,_,p⟩:=s2;exact qR a _ p hu0
    |.str a,.lst es,s1,s2=>obtain⟨_,rfl⟩:=s1;obtain⟨_,_,_,rfl,_,_,p⟩:=s2;exact qU a _ p hu0
    |.tup ds,.non,s1,s2=>cases s2;obtain⟨_,_,_,rfl,_,_,p⟩:=s1;exact qN p hu0
    |.tup ds,.bl b,s1,s2=>cases s2;obtain⟨_,_,_,rfl,_,_,p⟩:=s1;exact qQ b p hu0
    |.tup ds,.int b,s1,s2=>obtain⟨_,rfl⟩:=s2;obtain⟨_,_,_,rfl,_,_,p⟩:=s1;exact qP b _ p hu0
    |.tup ds,.str b,s1,s2=>obtain⟨_,rfl⟩:=s2;obtain⟨_,_,_,rfl,_,_,p⟩:=s1;exact qM b _ p hu0
    |.tup ds,.lst es,s1,s2=>obtain⟨_,_,_,rfl,_,_,p⟩:=s1;obtain⟨_,_,_,rfl,_,_,p2⟩:=s2;exact qO p p2 hu0
    |.lst ds,.non,s1,s2=>cases s2;obtain⟨_,_,_,rfl,_,_,p⟩:=s1;exact qI p hu0
    |.lst ds,.bl b,s1,s2=>cases s2;obtain⟨_,_,_,rfl,_,_,p⟩:=s1;exact sP b p hu0
    |.lst ds,.int b,s1,s2=>obtain⟨_,rfl⟩:=s2;obtain⟨_,_,_,rfl,_,_,p⟩:=s1;exact qJ b _ p hu0
    |.lst ds,.str b,s1,s2=>obtain⟨_,rfl⟩:=s2;obtain⟨_,_,_,rfl,_,_,p⟩:=s1;exact qH b _ p hu0
    |.lst ds,.tup es,s1,s2=>obtain⟨_,_,_,rfl,_,_,p⟩:=s1;obtain⟨_,_,_,rfl,_,_,p2⟩:=s2;exact qG p p2 hu0
    |.tup ds,.tup es,s1,s2=>
      match n,hd,he,hu with
      |n+1,hd,he,hu=>
        obtain⟨a,xs,its,rfl,r1,v1,p1⟩:=s1;obtain⟨b,ys,its2,rfl,r2,v2,p2⟩:=s2;have l1:=v1.length;have l2:=r1.length;have l3:=v2.length;have l4:=r2.length
        refine dA p1 p2 (by omega) (by omega) hu0 (fun hab=>?_) fun j h1 h2=>?_
        · have e1:v=.ref a:=Bx.inj rv rfl;have e2:w'=.ref b:=Bx.inj rw' rfl;subst e1 e2 hab;have z:=Np I (n+1) _ _ hd he r q
          injection z with z
          rw[z];exact eqDs_refl n es he
        · obtain⟨x,rx,qx⟩:=Lj r1 v1 h1;obtain⟨y,ry,qy⟩:=Lj r2 v2 h2;exact(MA I n _ _ x y _ _ B.in1 (Kh hd j) (Kh he j) rx ry qx qy (by show B.units+1+n<BD;omega)).2.1
    |.lst ds,.lst es,s1,s2=>
      match n,hd,he,hu with
      |n+1,hd,he,hu=>
        obtain⟨a,xs,its,rfl,r1,v1,p1⟩:=s1;obtain⟨b,ys,its2,rfl,r2,v2,p2⟩:=s2;have l1:=v1.length;have l2:=r1.length;have l3:=v2.length;have l4:=r2.length
        refine dB p1 p2 (by omega) (by omega) hu0 (fun hab=>?_) fun j h1 h2=>?_
        · have e1:v=.ref a:=Bx.inj rv rfl;have e2:w'=.ref b:=Bx.inj rw' rfl;subst e1 e2 hab;have z:=Np I (n+1) _ _ hd he r q
          injection z with z
          rw[z];exact eqDs_refl n es he
        · obtain⟨x,rx,qx⟩:=Lj r1 v1 h1;obtain⟨y,ry,qy⟩:=Lj r2 v2 h2;exact(MA I n _ _ x y _ _ B.in1 (Kh hd j) (Kh he j) rx ry qx qy (by show B.units+1+n<BD;omega)).2.1
    |.obj _ _,_,s1,_=>exact s1.elim
    |.exc _ _,_,s1,_=>exact s1.elim
    |.dic _,_,s1,_=>exact s1.elim
    |_,.obj _ _,_,s2=>exact s2.elim
    |_,.exc _ _,_,s2=>exact s2.elim
    |_,.dic _,_,s2=>exact s2.elim
end
section
variable{X:Cx}{CL:ClA}{W:XW}
theorem NE(I:Inv X pI σ H s){ds:Ac D}{its:Ac Ak}{u:Ak}(B:AY)(hd:flD n d=Ab)(hs:ds.all (flD n)=Ab)(r:Reps X.K CL H A0 xs ds)(rv:Bc xs its)(q:Rep X.K CL H A0 v d)(qv:Bx v u)(hu:B.units+n<BD):∃ e:Ak->Ao,(∀ y,y∈its.toArray->GO B s y u (e y))/\its.toArray.any e=ds.any fun y=>eqD y d:=by
 have l1:=rv.length;have l2:=r.length
 have key:∀ y,y∈its->∃ k:Ao,GO B s y u k/\∀ j (h:j<its.length),its[j]=y->eqD (ds.getD j .non) d=k:=fun y hy=>by
  obtain⟨j,hj,rfl⟩:=DL hy;obtain⟨x,rx,qx⟩:=Lj r rv hj;refine⟨eqD (ds.getD j .non) d,(MA I n _ _ x v _ _ B (Kh hs j) hd rx q qx qv hu).2.1,fun j' hj' e=>?_⟩
  obtain⟨x',rx',qx'⟩:=Lj r rv hj';rw[e]at qx';have z:=Bx.inj qx qx';subst z;rw[Np I n _ _ (Kh hs j') (Kh hs j) rx' rx]
 have key2:∀ y,∃ k:Ao,y∈its->GO B s y u k/\∀ j (h:j<its.length),its[j]=y->eqD (ds.getD j .non) d=k:=fun y=>by
  by_cases hy:y∈its
  ·obtain⟨k,hk⟩:=key y hy;exact⟨k,fun _=>hk⟩
  ·exact⟨Ab,fun h=>absurd h hy⟩
 refine⟨fun y=>V1 (key2 y),fun y hy=>(DY (key2 y) (by simpa using hy)).1,?_⟩
 rw[Dy];simp only[List.any_toArray,DM];constructor
 ·rintro⟨y,hy,hk⟩;obtain⟨j,hj,rfl⟩:=DL hy;have z:=(DY (key2 its[j]) hy).2 j hj rfl;rw[hk]at z;refine⟨ds.getD j .non,?_,z⟩;rw[D5,B0 (by omega)]
  exact B1 _
 ·rintro⟨y,hy,hk⟩;obtain⟨j,hj,rfl⟩:=DL hy;have hj':j<its.length:=by omega
  refine⟨its[j],B1 _,?_⟩;have z:=(DY (key2 its[j]) (B1 _)).2 j hj' rfl;rw[<-z,D5,B0 hj];exact hk
theorem M8{g:Af->Af->Ao}(ho:OpR X (Cm op) (rI0 fun i j=>.bl (g i j)))(hg:∀ dx dy,(∃ i j,dx=.int i/\dy=.int j/\BO op dx dy=.ok (.bl (g i j)))\/BO op dx dy=.bad):OpD X CL W (Cm op) (BO op):=by
 intro A pI s σ H x y v u Q I rx ry ⟨hA,dx,dy,hx,hy,p⟩;rcases hg dx dy with ⟨i,j,rfl,rfl,e⟩|e
 ·have ex:=hx.int_of;have ey:=hy.int_of
  subst ex ey;rw[e]at p;exact ho pI s σ H _ _ v u Q I rx ry ⟨i,j,rfl,rfl,p _ H (AH.refl H) rfl⟩
 ·rw[e]at p;exact p.elim
theorem Uo{x:V}(h:CG X.K CL H A x d)(hd:d≠.non):x≠.non:=by
 rintro rfl;have h:=h.plain;cases d with
 |non=>exact hd rfl
 |tup=>obtain⟨_,_,e,_⟩:=h;cases e
 |lst=>obtain⟨_,_,e,_⟩:=h;cases e
 |obj=>obtain⟨_,_,_,_,e,_⟩:=h;cases e
 |exc=>obtain⟨_,_,_,e,_⟩:=h;cases e
 |dic=>obtain⟨_,_,e,_⟩:=h;cases e
 |_=>cases h
theorem Lc(hu:X.A.units+64<BD)(op:EF):OpD X CL W (Cm op) (BO op):=by
 cases op with
 |Eq=>
  intro A pI s σ H x y v u Q I rx ry ⟨hA,dx,dy,hx,hy,p⟩;rw[tQ]at p;split at p
  ·rename_i h;simp only[Aj]at h;exact(MA I 5 dx dy x y v u X.A h.1 h.2 hx.plain hy.plain rx ry (by omega)).1 X.prog X.w X.xe _ ⟨.bl _,H,I,rfl,p _ H (AH.refl H) rfl⟩
  ·exact p.elim
 |NotEq=>
  intro A pI s σ H x y v u Q I rx ry ⟨hA,dx,dy,hx,hy,p⟩;rw[rL]at p;split at p
  ·rename_i h;simp only[Aj]at h;exact(MA I 5 dx dy x y v u X.A h.1 h.2 hx.plain hy.plain rx ry (by omega)).2.2 X.prog X.w X.xe _ ⟨.bl _,H,I,rfl,p _ H (AH.refl H) rfl⟩
  ·exact p.elim
 |Lt=>exact M8 sE fun dx dy=>by cases dx<;>cases dy<;>first|exact .inl ⟨_,_,rfl,rfl,rfl⟩|exact .inr rfl
 |LtE=>exact M8 sF fun dx dy=>by cases dx<;>cases dy<;>first|exact .inl ⟨_,_,rfl,rfl,rfl⟩|exact .inr rfl
 |Gt=>exact M8 sG fun dx dy=>by cases dx<;>cases dy<;>first|exact .inl ⟨_,_,rfl,rfl,rfl⟩|exact .inr rfl
 |GtE=>exact M8 sH fun dx dy=>by cases dx<;>cases dy<;>first|exact .inl ⟨_,_,rfl,rfl,rfl⟩|exact .inr rfl
 |In=>
  intro A pI s σ H x y v u Q I rx ry ⟨hA,dx,dy,hx,hy,p⟩;cases dy with
  |lst es=>
   rw[XH]at p;split at p
   ·rename_i h;simp only[Aj]at h;obtain⟨a,xs,e,_,sq,r⟩:=hy.plain;subst e;cases ry;obtain⟨its,rv,pl,_⟩:=I.list sq;obtain⟨e,he,ha⟩:=NE I (n:=5) X.A.in1 h.1 h.2 r rv hx.plain rx (by show X.A.units+1+5<BD;omega)
    refine SeqAt.in_listAt e (ND pl) he ?_;rw[ha];exact⟨.bl _,H,I,rfl,p _ H (AH.refl H) rfl⟩
   ·exact p.elim
  |tup es=>
   rw[XG]at p;split at p
   ·rename_i h;simp only[Aj]at h;obtain⟨a,xs,e,_,sq,r⟩:=hy.plain;subst e;cases ry;obtain⟨its,rv,pl,_⟩:=I.tuple sq;obtain⟨e,he,ha⟩:=NE I (n:=5) X.A.in1 h.1 h.2 r rv hx.plain rx (by show X.A.units+1+5<BD;omega)
    refine SeqAt.in_tupleAt e pl he ?_;rw[ha];exact⟨.bl _,H,I,rfl,p _ H (AH.refl H) rfl⟩
   ·exact p.elim
  |dic kvs=>
   obtain⟨a,es,rfl,hH,rk⟩:=hy.dic_of;have p':Bf (fun H=>Rep X.K CL H A) W H (match DI dx with|some k=>.ok (.bl (kvs.any fun p=>p.1==k))|none=>.bad) Q:=p
   cases ek:DI dx with
   |none=>rw[ek]at p';exact p'.elim
   |some k=>
    rw[ek]at p';obtain⟨ka,rfl,hk⟩:=KW hx ek;cases rx;cases ry;exact oE (by omega) I hH rk hk fun s' I'=>⟨.bl _,H,I',rfl,p' _ H (AH.refl H) rfl⟩
  |_=>cases dx<;>exact p.elim
 |NotIn=>
  intro A pI s σ H x y v u Q I rx ry ⟨hA,dx,dy,hx,hy,p⟩;cases dy with
  |lst es=>
   rw[sM]at p;split at p
   ·rename_i h;simp only[Aj]at h;obtain⟨a,xs,e,_,sq,r⟩:=hy.plain;subst e;cases ry;obtain⟨its,rv,pl,_⟩:=I.list sq;obtain⟨e,he,ha⟩:=NE I (n:=5) X.A.in1 h.1 h.2 r rv hx.plain rx (by show X.A.units+1+5<BD;omega)
    refine SeqAt.notIn_listAt e (ND pl) he ?_;rw[ha];exact⟨.bl _,H,I,rfl,p _ H (AH.refl H) rfl⟩
   ·exact p.elim
  |tup es=>
   rw[sK]at p;split at p
   ·rename_i h;simp only[Aj]at h;obtain⟨a,xs,e,_,sq,r⟩:=hy.plain;subst e;cases ry;obtain⟨its,rv,pl,_⟩:=I.tuple sq;obtain⟨e,he,ha⟩:=NE I (n:=5) X.A.in1 h.1 h.2 r rv hx.plain rx (by show X.A.units+1+5<BD;omega)
    refine SeqAt.notIn_tupleAt e pl he ?_;rw[ha];exact⟨.bl _,H,I,rfl,p _ H (AH.refl H) rfl⟩
   ·exact p.elim
  |dic kvs=>
   obtain⟨a,es,rfl,hH,rk⟩:=hy.dic_of;have p':Bf (fun H=>Rep X.K CL H A) W H (match DI dx with|some k=>.ok (.bl (!kvs.any fun p=>p.1==k))|none=>.bad) Q:=p
   cases ek:DI dx with
   |none=>rw[ek]at p';exact p'.elim
   |some k=>
    rw[ek]at p';obtain⟨ka,rfl,hk⟩:=KW hx ek;cases rx;cases ry;exact iW (by omega) I hH rk hk fun s' I'=>⟨.bl _,H,I',rfl,p' _ H (AH.refl H) rfl⟩
  |_=>cases dx<;>exact p.elim
 |Is=>
  intro A pI s σ H x y v u Q I rx ry ⟨hA,dx,dy,hx,hy,p⟩;cases dy with
  |non=>
   have ey:=hy.non_of;subst ey;refine mG pI s σ H _ _ v u Q I rx ry ⟨rfl,?_⟩;cases dx with
   |non=>
    have ex:=hx.non_of;subst ex;exact p _ H (AH.refl H) rfl
   |exc=>exact p.elim
   |dic=>exact p.elim
   |_=>rw[BY (Uo hx (by simp))];exact p _ H (AH.refl H) rfl
  |bl b=>
   cases dx with
   |bl a=>
    have ey:=hy.bl_of;have ex:=hx.bl_of;subst ex ey;cases rx;cases ry;refine wpAny_is_plain rfl ⟨.bl (a==b),H,I,?_,p _ H (AH.refl H) rfl⟩;cases a<;>cases b<;>rfl
   |_=>exact p.elim
  |_=>cases dx<;>exact p.elim
 |IsNot=>
  intro A pI s σ H x y v u Q I rx ry ⟨hA,dx,dy,hx,hy,p⟩;cases dy with
  |non=>
   have ey:=hy.non_of;subst ey;refine gR pI s σ H _ _ v u Q I rx ry ⟨rfl,?_⟩;cases dx with
   |non=>
    have ex:=hx.non_of;subst ex;exact p _ H (AH.refl H) rfl
   |exc=>exact p.elim
   |dic=>exact p.elim
   |_=>rw[BY (Uo hx (by simp))];exact p _ H (AH.refl H) rfl
  |bl b=>
   cases dx with
   |bl a=>
    have ey:=hy.bl_of;have ex:=hx.bl_of;subst ex ey;cases rx;cases ry;refine wpAny_isNot_plain rfl ⟨.bl (!(a==b)),H,I,?_,p _ H (AH.refl H) rfl⟩;cases a<;>cases b<;>rfl
   |_=>exact p.elim
  |_=>cases dx<;>exact p.elim
end
section
variable{X:Cx}{CL:ClA}{W:XW}{a b c:Ap}{fa fb fc:Rho->R D}{pos:AO}
theorem Dg.bind{f:D->R Ao}{Q:Ao->Hp->Prop}{Q':VK}(h:Dg W H (r.bind f) Q)(k:∀ d v H',r=.ok d->AH H H'->Rp H' v d->Dg W H' (f d) Q->Q' v H'):Bf Rp W H r Q':=by
 cases r with
 |ok d=>exact fun v H2 s2 q=>k d v H2 rfl s2 q (Dg.same s2 h)
 |exn x=>exact h
 |bad=>exact h
theorem Dg.bindB{r:R Ao}{f:Ao->R Ao}{Q:Ao->Hp->Prop}{Q':Ao->Hp->Prop}(h:Dg W H (r.bind f) Q)(k:∀ b H',r=.ok b->AH H H'->Dg W H' (f b) Q->Q' b H'):Dg W H r Q':=by
 cases r with
 |ok d=>exact fun H2 s2=>k d H2 rfl s2 (Dg.same s2 h)
 |exn x=>exact h
 |bad=>exact h
theorem Ia.bind{Rp:Hp->Ac V->Ac D->Prop}{r:R (Ac D)}{f:Ac D->R D}{Q':Ac V->Hp->Prop}(h:Bf Rq W H (r.bind f) Q)(k:∀ d v H',r=.ok d->AH H H'->Rp H' v d->Bf Rq W H' (f d) Q->Q' v H'):Ia Rp W H r Q':=by
 cases r with
 |ok d=>exact fun v H2 s2 q=>k d v H2 rfl s2 q (Bf.same s2 h)
 |exn x=>exact h
 |bad=>exact h
theorem Ni{f:Ao->R D}(h:Bf Rq W H ((DK d).bind f) Q):∃ c,d=.bl c/\Bf Rq W H (f c) Q:=by
 cases d with
 |bl c=>exact⟨c,rfl,h⟩
 |_=>exact h.elim
theorem TW(ha:ST X CL W a fa):SE X CL W (.UnaryOp .Not a pos) (fun ρ=>(fa ρ).bind fun x=>(DK x).bind fun b=>.ok (.bl (!b))):=fun A=>PE.weak (lV (ha A)) fun σ H Q ⟨hA,ρ,g,p⟩=>⟨hA,ρ,g,Bf.bind p fun d v H1 _ s1 r1 p1=>by
 obtain⟨c,rfl,p2⟩:=Ni p1;exact⟨c,r1.bl_of,p2 _ H1 (AH.refl H1) rfl⟩⟩
theorem PM{op}(ha:SE X CL W a fa):SE X CL W (.BoolOp op [a] pos) fa:=fun A=>lU (ha A)
theorem TX{rest:Ac Ap}(ha:SE X CL W a fa)(hb:SE X CL W (.BoolOp .And (b::rest) pos) fb):SE X CL W (.BoolOp .And (a::b::rest) pos) (fun ρ=>(fa ρ).bind fun x=>(DK x).bind fun c=>if c=Ab then fb ρ else .ok (.bl Ae)):=
 fun A=>PE.weak (lZ (ha A) (hb A)) fun σ H Q ⟨hA,ρ,g,p⟩=>⟨hA,ρ,g,Bf.bind p fun d v H1 _ s1 r1 p1=>by
  obtain⟨c,rfl,p2⟩:=Ni p1;refine⟨c,r1,?_⟩;cases c with
  |true=>exact⟨hA.same s1,ρ,g.same s1,p2⟩
  | false=>exact p2 _ H1 (AH.refl H1) rfl⟩
theorem qK{rest:Ac Ap}(ha:SE X CL W a fa)(hb:SE X CL W (.BoolOp .Or (b::rest) pos) fb):SE X CL W (.BoolOp .Or (a::b::rest) pos) (fun ρ=>(fa ρ).bind fun x=>(DK x).bind fun c=>if c=Ab then .ok (.bl Ab) else fb ρ):=
 fun A=>PE.weak (rW (ha A) (hb A)) fun σ H Q ⟨hA,ρ,g,p⟩=>⟨hA,ρ,g,Bf.bind p fun d v H1 _ s1 r1 p1=>by
  obtain⟨c,rfl,p2⟩:=Ni p1;refine⟨c,r1,?_⟩;cases c with
  |false=>exact⟨hA.same s1,ρ,g.same s1,p2⟩
  | true=>exact p2 _ H1 (AH.refl H1) rfl⟩
theorem ZM{op':EF}(hu:X.A.units+64<BD)(ha:ST X CL W a fa)(hb:ST X CL W b fb)(hc:ST X CL W c fc)(hm:Jy [op,op'] [b,c]=Ae):SE X CL W (.Compare a [op,op'] [b,c] pos) (fun ρ=>(fa ρ).bind fun x=>(fb ρ).bind fun y=>(BO op x y).bind fun z=>(DK z).bind fun k=>if k=Ab then (fc ρ).bind fun u=>BO op' y u else .ok (.bl Ae)):=
 fun A=>PE.weak (Zz (Lc hu op A) (Lc hu op' A) (ha A) (hb A) (hc A) hm) fun σ H Q ⟨hA,ρ,g,p⟩=>⟨hA,ρ,g,Bf.bind p fun dx x H1 _ s1 r1 p1=>⟨hA.same s1,ρ,g.same s1,Bf.bind p1 fun dy y H2 _ s2 r2 p2=>
  ⟨(hA.same s1).same s2,dx,dy,r1.same s2,r2,Bf.bind p2 fun dz z H3 _ s3 r3 p3=>by
   obtain⟨k,rfl,p4⟩:=Ni p3;refine⟨k,r3,?_⟩;cases k with
   |false=>exact p4 _ H3 (AH.refl H3) rfl
   | true=>exact⟨((hA.same s1).same s2).same s3,ρ,((g.same s1).same s2).same s3,Bf.bind p4 fun du u H4 _ s4 r4 p5=>⟨(((hA.same s1).same s2).same s3).same s4,dy,du,(r2.same s3).same s4,r4,p5⟩⟩⟩⟩⟩
theorem eW{xs:Ac D}{i:Af}(h:Di xs i=.ok d):∃ k,plD xs.length i=Aa k/\xs[k]?=Aa d:=by
 unfold Di at h;split at h
 ·rename_i k e;split at h
  ·rename_i d' e';cases h;exact⟨k,e,e'⟩
  ·cases h
 ·cases h
theorem Nb{xs:Ac D}{i:Af}(h:Di xs i=.exn x):AW:=by
 unfold Di at h;split at h
 ·split at h<;>cases h
 ·cases h
theorem Tx{ds:Ac D}{i:Af}(r:Reps K CL H A xs ds)(h:Di ds i=.ok d):∃ v,atI xs i=Aa v/\Rep K CL H A v d:=by
 obtain⟨k,e,q⟩:=eW h;obtain⟨v,hv,rv⟩:=r.get q;refine⟨v,?_,rv⟩;unfold atI;have:ixN xs.length i=Aa k:=by rw[r.length];exact e
 rw[this];exact hv
theorem mQ(hu:X.A.units+64<BD)(hs:Pz b)(ha:ST X CL W a fa)(hb:ST X CL W b fb):SE X CL W (.Subscript a b pos) (fun ρ=>(fa ρ).bind fun x=>(fb ρ).bind fun y=>DQ x y):=
 fun A=>PE.weak (rX (r:=fun x y H Q=>(Ve X.K x y H Q\/Vd X.K x y H Q)\/VH X.K CL A x y H Q) ((fK.or pA).or (pB (by omega))) (ha A) (hb A) hs) fun σ H Q h=>by
  obtain⟨hA,ρ,g,h⟩:=op2 h;refine⟨hA,ρ,g,?_⟩;cases e:fa ρ with
  |bad=>rw[e]at h;exact h
  |exn x=>rw[e]at h;exact h
  |ok dx0=>
   rw[e]at h;intro x H1 s1 r1;obtain⟨hA1,ρ1,g1,h1⟩:=h x H1 s1 r1;refine⟨hA1,ρ1,g1,?_⟩;cases e1:fb ρ1 with
   |bad=>rw[e1]at h1;exact h1
   |exn x=>rw[e1]at h1;exact h1
   |ok dy0=>
    rw[e1]at h1;intro y H2 s2 r2;obtain⟨hA2,dx,dy,rx,ry,p⟩:=h1 y H2 s2 r2;cases dy with
    |int i=>
     have ey:=ry.int_of;subst ey;cases dx with
     |lst ds=>
      obtain⟨q,xs,rfl,sq,r⟩:=rx.lst_of;rw[tW]at p;cases e2:Di ds i with
      |ok d=>
       rw[e2]at p;obtain⟨v,hv,rv⟩:=Tx r e2;exact .inl (.inl ⟨q,xs,i,v,rfl,rfl,sq,hv,p v H2 (AH.refl H2) rv⟩)
      |exn x=>exact(Nb e2).elim
      |bad=>rw[e2]at p;exact p.elim
     |tup ds=>
      obtain⟨q,xs,rfl,_,sq,r⟩:=rx.tup_of;rw[tV]at p;cases e2:Di ds i with
      |ok d=>
       rw[e2]at p;obtain⟨v,hv,rv⟩:=Tx r e2;exact .inl (.inr ⟨q,xs,i,v,rfl,rfl,sq,hv,p v H2 (AH.refl H2) rv⟩)
      |exn x=>exact(Nb e2).elim
      |bad=>rw[e2]at p;exact p.elim
     |_=>exact p.elim
    |tup es=>
     cases dx with
     |dic kvs=>
      have p':Bf (fun H=>Rep X.K CL H A) W H2 (match (DI (.tup es)).bind (Fu kvs) with|some d=>.ok d|none=>.bad) Q:=p
      cases ek:DI (.tup es) with
      |none=>rw[ek]at p';exact p'.elim
      |some k=>
       rw[ek]at p';have p2:Bf (fun H=>Rep X.K CL H A) W H2 (match Fu kvs k with|some d=>.ok d|none=>.bad) Q:=p'
       cases eg:Fu kvs k with
       |none=>rw[eg]at p2;exact p2.elim
       |some d=>
        rw[eg]at p2;obtain⟨a,es',rfl,hH,rk⟩:=rx.dic_of;obtain⟨ka,rfl,hk⟩:=KW ry ek;exact .inr ⟨a,ka,es',kvs,k,d,rfl,rfl,hH,rk,hk,eg,fun v rv=>p2 v H2 (AH.refl H2) rv⟩
     |_=>exact p.elim
    |_=>cases dx<;>exact p.elim
theorem PB:SA X CL W [] (fun _=>.ok []):=fun A=>PA.weak Ft fun σ H Q ⟨hA,ρ,g,p⟩=>p [] H (AH.refl H) trivial
theorem Pk(ha:SE X CL W a fa)(hs:SA X CL W es fs)(hst:As (a::es) X.env=(Ae,eval a X.env)::As es X.env):SA X CL W (a::es) (fun ρ=>(fa ρ).bind fun x=>(fs ρ).bind fun xs=>.ok (x::xs)):=
 fun A=>PA.weak (DH (ha A) (hs A) hst) fun σ H Q ⟨hA,ρ,g,p⟩=>by
  dsimp only at p;refine⟨hA,ρ,g,?_⟩;cases e:fa ρ with
  |bad=>rw[e]at p;exact p
  |exn x=>rw[e]at p;exact p
  |ok d=>
   rw[e]at p;intro v H1 s1 r1;refine⟨hA.same s1,ρ,g.same s1,?_⟩;cases e1:fs ρ with
   |bad=>rw[R.bind_ok,e1]at p;exact p
   |exn x=>rw[R.bind_ok,e1]at p;exact fun H2 s2=>p H2 (s1.trans s2)
   |ok ds=>
    rw[R.bind_ok,e1]at p;exact fun vs H2 s2 r2=>p (v::vs) H2 (s1.trans s2) ⟨r1.same s2,r2⟩
theorem TU{k:Ag}(hs:SA X CL W es fs)(hz:∀ ρ ds,fs ρ=.ok ds->ds.length<=100000):SE X CL W (.Tuple es k pos) (fun ρ=>(fs ρ).bind fun xs=>.ok (.tup xs)):=
 fun A=>PE.weak (Uj (hs A)) fun σ H Q ⟨hA,ρ,g,p⟩=>⟨hA,ρ,g,Ia.bind p fun ds vs H1 e s1 r1 p1=>⟨by
  rw[r1.length,DT];have:=hz ρ ds e;omega,fun q hq=>p1 _ _ (F2 hq _) (Ld (hA.same s1) hq r1)⟩⟩
def Ks(W:XW)(H:Hp)(r:R (An Af))(Q:An Af->Hp->Prop):Prop:=match r with
  |.ok o=>∀ H',AH H H'->Q o H'
  |.exn x=>∀ H',AH H H'->W x H'
  |.bad=>AW
theorem Ks.bind{r:R (An Af)}{f:An Af->R D}(h:Bf Rq W H (r.bind f) Q)(k:∀ o H',r=.ok o->AH H H'->Bf Rq W H' (f o) Q->Q' o H'):Ks W H r Q':=by
 cases r with
 |ok d=>exact fun H2 s2=>k d H2 rfl s2 (Bf.same s2 h)
 |exn x=>exact h
 |bad=>exact h
def SO(X:Cx)(CL:ClA)(W:XW)(e:An Ap)(f:Rho->R (An Af)):Prop:=∀ A,PO X e (fun σ H Q=>AOk H A/\∃ ρ,Good X.K CL A ρ σ H/\Ks W H (f ρ) Q)
theorem PO.weak{e:An Ap}{t t':TO}(h:PO X e t)(k:∀ σ H Q,t' σ H Q->t σ H Q):PO X e t':=fun pI s σ H Q I q=>h pI s σ H Q I (k _ _ _ q)
theorem eP:SO X CL W Ad (fun _=>.ok Ad):=fun A=>PO.weak fX fun σ H Q ⟨hA,ρ,g,p⟩=>p H (AH.refl H)
theorem eO(ha:ST X CL W a fa):SO X CL W (Aa a) (fun ρ=>(fa ρ).bind fun d=>(EK d).bind fun i=>.ok (Aa i)):=fun A=>PO.weak (fW (ha A)) fun σ H Q ⟨hA,ρ,g,p⟩=>by
 dsimp only at p;refine⟨hA,ρ,g,?_⟩;cases e:fa ρ with
 |bad=>rw[e]at p;exact p
 |exn x=>rw[e]at p;exact p
 |ok d=>
  rw[e]at p;intro v H1 s1 r1;cases d with
  |int i=>exact⟨i,r1.int_of,p H1 s1⟩
  |_=>exact p.elim
theorem S9{ds:Ac D}(lo hi:An Af)(r:Reps K CL H A xs ds):Reps K CL H A (JP xs lo hi) (LD ds lo hi):=by
 unfold JP LD;have e:∀ d o,HT.sIx xs.length d o=Ha ds.length d o:=fun d o=>by rw[r.length];cases o<;>rfl
 rw[e,e,r.length];exact(r.drop _).take _
end
section
variable{X:Cx}{CL:ClA}{W:XW}{a b c:Ap}{fa fb fc:Rho->R D}{pos:AO}
def G8(K:Fg)(CL:ClA)(H:Hp)(A:Ah->Prop):Ac V->Ac D->Prop
 |[],[]=>HS
 |v::vs,d::ds=>CG K CL H A v d/\G8 K CL H A vs ds
 |_,_=>AW
theorem G8.same{K:Fg}{H H':Hp}{A:Ah->Prop}(s:AH H H'):∀{vs:Ac V}{ds:Ac D},G8 K CL H A vs ds->G8 K CL H' A vs ds
 |[],[],h=>h
 |_::_,_::_,h=>⟨h.1.same s,G8.same s h.2⟩
 |[],_::_,h=>h.elim
 |_::_,[],h=>h.elim
theorem G8.one{vs:Ac V}(h:G8 K CL H A vs [d]):∃ v,vs=[v]/\CG K CL H A v d:=by
 cases vs with
 |nil=>exact h.elim
 |cons v vs=>
  cases vs with
  |nil=>exact⟨v,rfl,h.1⟩
  |cons=>exact h.2.elim
def SAT(X:Cx)(CL:ClA)(W:XW)(es:Ac Ap)(f:Rho->R (Ac D)):Prop:=∀ A,PA X es (fun σ H Q=>AOk H A/\∃ ρ,Good X.K CL A ρ σ H/\Ia (fun H=>G8 X.K CL H A) W H (f ρ) Q)
theorem SX:SAT X CL W [] (fun _=>.ok []):=fun A=>PA.weak Ft fun σ H Q ⟨hA,ρ,g,p⟩=>p [] H (AH.refl H) trivial
theorem RF(ha:ST X CL W a fa)(hs:SAT X CL W es fs)(hst:As (a::es) X.env=(Ae,eval a X.env)::As es X.env):SAT X CL W (a::es) (fun ρ=>(fa ρ).bind fun x=>(fs ρ).bind fun xs=>.ok (x::xs)):=
 fun A=>PA.weak (DH (ha A) (hs A) hst) fun σ H Q ⟨hA,ρ,g,p⟩=>by
  dsimp only at p;refine⟨hA,ρ,g,?_⟩;cases e:fa ρ with
  |bad=>rw[e]at p;exact p
  |exn x=>rw[e]at p;exact p
  |ok d=>
   rw[e]at p;intro v H1 s1 r1;refine⟨hA.same s1,ρ,g.same s1,?_⟩;cases e1:fs ρ with
   |bad=>rw[R.bind_ok,e1]at p;exact p
   |exn x=>rw[R.bind_ok,e1]at p;exact fun H2 s2=>p H2 (s1.trans s2)
   |ok ds=>
    rw[R.bind_ok,e1]at p;exact fun vs H2 s2 r2=>p (v::vs) H2 (s1.trans s2) ⟨r1.same s2,r2⟩
def NP(X:Cx)(CL:ClA)(W:XW)(f:Ak)(g:Ac D->R D):Prop:=∀ A,JN X f (fun xs H Q=>AOk H A/\∃ ds,G8 X.K CL H A xs ds/\Bf (fun H=>Rep X.K CL H A) W H (g ds) Q)
theorem mT{x:Ai}{id:CY}{g:Ac D->R D}(hc:NP X CL W (.builtin id) g)(hg:Gl X x)(hm:X.mg x=Ad)(hv:Dd x=Aa (.builtin id))(ha:SAT X CL W (e::es) fs)(hn:x≠"__name__")(hdb:(x==("__debug__" : Ai))=Ae)(he:As (e::es) X.env=(Ae,eval e X.env)::As es X.env)(hpl:∀ pos,(Bz pos (As es X.env)).any (·.1)=Ae):SE X CL W (.Call (.Name x p) (e::es) [] pos) (fun ρ=>(fs ρ).bind g):=fun A=>PE.weak (Mc (hc A) hg hm hv (ha A) hn hdb he (hpl _)) fun σ H Q ⟨hA,ρ,gd,q⟩=>⟨hA,ρ,gd,Ia.bind q fun ds vs H1 _ s1 r1 p1=>⟨hA.same s1,ds,r1,p1⟩⟩
theorem mS{x:Ai}{g:Ac D->R D}(hc:NP X CL W (.type T) g)(hg:Gl X x)(hm:X.mg x=Ad)(hv:Dd x=Aa (.type T))(ha:SAT X CL W (e::es) fs)(hn:x≠"__name__")(hdb:(x==("__debug__" : Ai))=Ae)(he:As (e::es) X.env=(Ae,eval e X.env)::As es X.env)(hpl:∀ pos,(Bz pos (As es X.env)).any (·.1)=Ae):SE X CL W (.Call (.Name x p) (e::es) [] pos) (fun ρ=>(fs ρ).bind g):=fun A=>PE.weak (Ru (hc A) hg hm hv (ha A) hn hdb he (hpl _)) fun σ H Q ⟨hA,ρ,gd,q⟩=>⟨hA,ρ,gd,Ia.bind q fun ds vs H1 _ s1 r1 p1=>⟨hA.same s1,ds,r1,p1⟩⟩
theorem nW:NP X CL W (.builtin "len") (biD .len):=by
  intro A pI s σ H xs us Q I r ⟨hA,ds,rs,p⟩
  match ds,rs,p with
  |[.lst es],rs,p=>
    obtain⟨v,rfl,rv⟩:=rs.one;obtain⟨q,ys,rfl,sq,ry⟩:=rv.lst_of;exact Q1 pI s σ H _ us Q I r ⟨q,ys,rfl,.inl sq,p _ H (AH.refl H) (by rw[ry.length];rfl)⟩
  |[.tup es],rs,p=>
    obtain⟨v,rfl,rv⟩:=rs.one;obtain⟨q,ys,rfl,_,sq,ry⟩:=rv.tup_of;exact Q1 pI s σ H _ us Q I r ⟨q,ys,rfl,.inr sq,p _ H (AH.refl H) (by rw[ry.length];rfl)⟩
  |[.str x],rs,p=>
    obtain⟨v,rfl,rv⟩:=rs.one;have e:=rv.str_of;subst e;have p':Bf (fun H=>Rep X.K CL H A) W H (if Ci x.length=Ab then .ok (.int x.length) else .bad) Q:=p
    split at p'
    · rename_i h;exact Yy pI s σ H _ us Q I r ⟨x,rfl,G3 h,p' _ H (AH.refl H) rfl⟩
    · exact p'.elim
  |[],_,p=>exact p.elim
  |[.non],_,p=>exact p.elim
  |[.bl _],_,p=>exact p.elim
  |[.int _],_,p=>exact p.elim
  |[.obj _ _],_,p=>exact p.elim
  |[.exc _ _],_,p=>exact p.elim
  |[.dic kvs],rs,p=>
    obtain⟨v,rfl,rv⟩:=rs.one;have p':Bf (fun H=>Rep X.K CL H A) W H (if Ci kvs.length=Ab then .ok (.int kvs.length) else .bad) Q:=p
    split at p'
    · rename_i h;obtain⟨a,es,rfl,hH,rk⟩:=rv.dic_of;cases r with
      |cons r1 r2=>
        cases r1;cases r2;exact iY I hH rk (G3 h) fun s' t I'=>⟨.int _,H,I',⟨t,rfl⟩,p' _ H (AH.refl H) rfl⟩
    · exact p'.elim
  |x::_::_,_,p=>cases x<;>exact p.elim
theorem aF:NP X CL W (.type "tuple") (biD .tuple):=by
  intro A pI s σ H xs us Q I r ⟨hA,ds,rs,p⟩
  match ds,rs,p with
  |[.lst es],rs,p=>
    obtain⟨v,rfl,rv⟩:=rs.one;obtain⟨q,ys,rfl,sq,ry⟩:=rv.lst_of;exact Q3 pI s σ H _ us Q I r ⟨q,ys,rfl,.inl ⟨sq,fun l hl=>p _ _ (F2 hl _) (Ld hA hl ry)⟩⟩
  |[.tup es],rs,p=>
    obtain⟨v,rfl,rv⟩:=rs.one;obtain⟨q,ys,rfl,na,sq,ry⟩:=rv.tup_of;exact Q3 pI s σ H _ us Q I r ⟨q,ys,rfl,.inr ⟨sq,p _ H (AH.refl H) ⟨q,ys,rfl,na,sq,ry⟩⟩⟩
  |[],_,p=>exact p.elim
  |[.non],_,p=>exact p.elim
  |[.bl _],_,p=>exact p.elim
  |[.int _],_,p=>exact p.elim
  |[.str _],_,p=>exact p.elim
  |[.obj _ _],_,p=>exact p.elim
  |[.exc _ _],_,p=>exact p.elim
  |[.dic _],rs,p=>first|exact p.elim|(obtain⟨v,rfl,rv⟩:=rs.one;exact rv.plain.elim)
  |x::_::_,_,p=>cases x<;>exact p.elim
end
section
variable{X:Cx}{CL:ClA}{W:XW}{a b c:Ap}{fa fb fc:Rho->R D}{pos:AO}
theorem SB.congr{g:Rho->R Ao}(h:SB X CL W a f)(e:∀ ρ,g ρ=f ρ):SB X CL W a g:=fun A=>PT.weak (h A) fun σ H Q ⟨hA,ρ,q,p⟩=>⟨hA,ρ,q,by rw[<-e];exact p⟩
theorem Uh(ha:SB X CL W a f):SB X CL W (.UnaryOp .Not a pos) (fun ρ=>(f ρ).bind fun b=>.ok (!b)):=fun A=>PT.weak (lN (ha A)) fun σ H Q ⟨hA,ρ,g,p⟩=>⟨hA,ρ,g,Dg.bindB p fun b H1 _ s1 p1=>p1 H1 (AH.refl H1)⟩
def SW(X:Cx)(CL:ClA)(W:XW)(e:Ap)(f:Rho->R Ao):Prop:=∀ A,PW X e (fun σ H Q=>AOk H A/\∃ ρ,Good X.K CL A ρ σ H/\Dg W H (f ρ) Q)
theorem PW.weak{t t':TT}(h:PW X e t)(k:∀ σ H Q,t' σ H Q->t σ H Q):PW X e t':=fun wh pI s σ H Q I q=>h wh pI s σ H Q I (k _ _ _ q)
theorem SW.sb(h:SW X CL W a f):SB X CL W a f:=fun A=>PW.pt (h A)
theorem SW.congr{g:Rho->R Ao}(h:SW X CL W a f)(e:∀ ρ,g ρ=f ρ):SW X CL W a g:=fun A=>PW.weak (h A) fun σ H Q ⟨hA,ρ,q,p⟩=>⟨hA,ρ,q,by rw[<-e];exact p⟩
theorem SL(ha:SB X CL W a f):SW X CL W (.BoolOp .And [a] pos) f:=fun A=>cN (ha A)
theorem Ua(ha:SB X CL W a f):SW X CL W (.BoolOp .Or [a] pos) f:=fun A=>lK (ha A)
theorem TF{g:Rho->R Ao}{rest:Ac Ap}(ha:SB X CL W a f)(hb:SW X CL W (.BoolOp .And (b::rest) pos) g):SW X CL W (.BoolOp .And (a::b::rest) pos) (fun ρ=>(f ρ).bind fun c=>if c=Ab then g ρ else .ok Ae):=
 fun A=>PW.weak (lL (ha A) (hb A)) fun σ H Q ⟨hA,ρ,gd,p⟩=>⟨hA,ρ,gd,Dg.bindB p fun c H1 _ s1 p1=>by
  cases c with
  |true=>exact⟨hA.same s1,ρ,gd.same s1,p1⟩
  | false=>exact p1 H1 (AH.refl H1)⟩
theorem UG{g:Rho->R Ao}{rest:Ac Ap}(ha:SB X CL W a f)(hb:SW X CL W (.BoolOp .Or (b::rest) pos) g):SW X CL W (.BoolOp .Or (a::b::rest) pos) (fun ρ=>(f ρ).bind fun c=>if c=Ab then .ok Ab else g ρ):=
 fun A=>PW.weak (rS (ha A) (hb A)) fun σ H Q ⟨hA,ρ,gd,p⟩=>⟨hA,ρ,gd,Dg.bindB p fun c H1 _ s1 p1=>by
  cases c with
  |false=>exact⟨hA.same s1,ρ,gd.same s1,p1⟩
  | true=>exact p1 H1 (AH.refl H1)⟩
theorem mU(ho:OpD X CL W (Cm op) g)(ha:ST X CL W a fa)(hb:ST X CL W b fb)(hm:Ho op b=Ae):SB X CL W (.Compare a [op] [b] pos) (fun ρ=>(fa ρ).bind fun x=>(fb ρ).bind fun y=>(g x y).bind DK):=
 fun A=>PT.weak (cQ (ho A) (ha A) (hb A) hm) fun σ H Q ⟨hA,ρ,gd,p⟩=>⟨hA,ρ,gd,Dg.bind p fun dx x H1 _ s1 r1 p1=>⟨hA.same s1,ρ,gd.same s1,Dg.bind p1 fun dy y H2 _ s2 r2 p2=>
  ⟨(hA.same s1).same s2,dx,dy,r1.same s2,r2,Dg.bind p2 fun dz z H3 _ s3 r3 p3=>by
   cases dz with
   |bl k=>exact⟨k,r3,p3 H3 (AH.refl H3)⟩
   | _=>exact p3.elim⟩⟩⟩
theorem ZO{op':EF}(hu:X.A.units+64<BD)(ha:ST X CL W a fa)(hb:ST X CL W b fb)(hc:ST X CL W c fc)(hm:Jy [op,op'] [b,c]=Ae):SB X CL W (.Compare a [op,op'] [b,c] pos) (fun ρ=>(fa ρ).bind fun x=>(fb ρ).bind fun y=>(BO op x y).bind fun z=>(DK z).bind fun k=>if k=Ab then (fc ρ).bind fun u=>(BO op' y u).bind DK else .ok Ae):=
  fun A=>PT.weak (Zt (Lc hu op A) (Lc hu op' A) (ha A) (hb A) (hc A) hm) fun σ H Q ⟨hA,ρ,g,p⟩=>⟨hA,ρ,g,Dg.bind p fun dx x H1 _ s1 r1 p1=>⟨hA.same s1,ρ,g.same s1,Dg.bind p1 fun dy y H2 _ s2 r2 p2=>
    ⟨(hA.same s1).same s2,dx,dy,r1.same s2,r2,Dg.bind p2 fun dz z H3 _ s3 r3 p3=>by
      cases dz with
      |bl k=>
        refine⟨k,r3,?_⟩;cases k with
        |false=>exact⟨Ae,rfl,p3 H3 (AH.refl H3)⟩
        | true=>exact⟨((hA.same s1).same s2).same s3,ρ,((g.same s1).same s2).same s3,Dg.bind p3 fun du u H4 _ s4 r4 p5=>⟨(((hA.same s1).same s2).same s3).same s4,dy,du,(r2.same s3).same s4,r4,Dg.bind p5 fun dv v H5 _ s5 r5 p6=>by
            cases dv with
            |bl k'=>exact⟨k',r5,p6 H5 (AH.refl H5)⟩
            | _=>exact p6.elim⟩⟩
      | _=>exact p3.elim⟩⟩⟩
theorem Ug(ha:ST X CL W a fa)(he:∀ whole,IL a X.env whole=(do let v <-whole;IQ a.pos;holding [v] (truthy v))):SB X CL W a (fun ρ=>(fa ρ).bind BL):=
 fun A=>PT.weak (Zs (ha A) he) fun σ H Q ⟨hA,ρ,g,p⟩=>⟨hA,ρ,g,Dg.bind p fun d v H1 _ s1 r1 p1=>by
  cases d with
  |non=>
   have e:=r1.non_of;subst e;exact⟨Ae,rfl,p1 H1 (AH.refl H1)⟩
  |bl b=>
   have e:=r1.bl_of;subst e;exact⟨b,rfl,p1 H1 (AH.refl H1)⟩
  |int i=>
   have e:=r1.int_of;subst e;exact⟨_,rfl,p1 H1 (AH.refl H1)⟩
  |str x=>
   have e:=r1.str_of;subst e;have p2:Dg W H1 (if Ci x.length=Ab then .ok (x.length != 0) else .bad) Q:=p1
   split at p2
   ·rename_i h;refine⟨_,⟨G3 h,rfl⟩,?_⟩;have e:((x.length:Af) != 0)=(x.length != 0):=by
     rw[Dy];simp
    rw[e];exact p2 H1 (AH.refl H1)
   ·exact p2.elim
  |tup ds=>
   obtain⟨q,xs,rfl,_,sq,r⟩:=r1.tup_of;refine⟨_,.inr (.inl ⟨xs,sq,rfl⟩),?_⟩;have e:xs.isEmpty=ds.isEmpty:=by
    have:=r.length;cases xs<;>cases ds<;>first|rfl|cases this
   rw[e];exact p1 H1 (AH.refl H1)
  |lst ds=>
   obtain⟨q,xs,rfl,sq,r⟩:=r1.lst_of;refine⟨_,.inl ⟨xs,sq,rfl⟩,?_⟩;have e:xs.isEmpty=ds.isEmpty:=by
    have:=r.length;cases xs<;>cases ds<;>first|rfl|cases this
   rw[e];exact p1 H1 (AH.refl H1)
  | _=>exact p1.elim⟩
noncomputable def X2(K:Fg)(CL:ClA)(H:Hp)(A:Ah->Prop)(cls:Ak)(dx:An Ah)(x:Ex):Prop:=
 ∃ C,CL x.c=Aa C/\cls=.ref C/\(x.fs=[]\/∃ d vs,dx=Aa d/\¬ A d/\H d=Aa (.xd vs)/\Repf K CL H A vs x.fs)
def Gs(K:Fg)(CL:ClA)(H:Hp)(cls:Ak)(dx:An Ah)(x:Ex):Prop:=∀ A,AOk H A->X2 K CL H A cls dx x
end
def By(B:Ah->Prop)(ρ:Rho)(σ:L2.St):Ah->Prop:=fun a=>B a\/∃(j:Ag)(d:D),ρ[j]?=Aa (Aa (d,Ab))/\σ[j]?=Aa (Aa (.ref a))
structure Sx (K:Fg) (CL:ClA) (Fz:Ah->HO->Prop) (B:Ah->Prop) (ρ:Rho) (σ:L2.St) (H:Hp):Prop where
 good:Good K CL (By B ρ σ) ρ σ H
 aok:AOk H (By B ρ σ)
 new:∀(j:Ag)(d:D)(a:Ah),ρ[j]?=Aa (Aa (d,Ab))->σ[j]?=Aa (Aa (.ref a))->(∀ o,¬ Fz a o)/\¬ B a
 dis:∀(i j:Ag)(d e:D)(a:Ah),ρ[i]?=Aa (Aa (d,Ab))->ρ[j]?=Aa (Aa (e,Ab))->σ[i]?=Aa (Aa (.ref a))->σ[j]?=Aa (Aa (.ref a))->i=j
 same:∀ b o,Fz b o->H b=Aa o
 len:ρ.length=σ.length
def BH(K:Fg)(CL:ClA)(Fz:Ah->HO->Prop)(B:Ah->Prop)(W:XW)(o:O)(D:Ends):Prop:=match o with
  |.next ρ=>∀ σ H,Sx K CL Fz B ρ σ H->D.nx σ H
  |.brk ρ=>∀ σ H,Sx K CL Fz B ρ σ H->D.bk σ H
  |.cont ρ=>∀ σ H,Sx K CL Fz B ρ σ H->D.ct σ H
  |.ret d fr=>∀ v H,(∀ b o,Fz b o->H b=Aa o)->Rep K CL H B v d->(fr=Ab->∀ ds,d=.lst ds->∃ a xs,v=.ref a/\(∀ o,¬ Fz a o)/\H a=Aa (.lst xs)/\Reps K CL H (fun b=>B b\/b=a) xs ds)->D.rt v H
  |.exn x _=>∀ H,(∀ b o,Fz b o->H b=Aa o)->W x H
  |.bad=>AW
section
variable{K:Fg}{CL:ClA}{Fz Fy:Ah->HO->Prop}{B:Ah->Prop}{ρ:Rho}{σ:L2.St}{H H':Hp}
theorem Sx.mono(k:∀ b o,Fz b o->Fy b o)(x:Sx K CL Fy B ρ σ H):Sx K CL Fz B ρ σ H:=⟨x.good,x.aok,fun j d a h1 h2=>⟨fun o z=>(x.new j d a h1 h2).1 o (k _ _ z),(x.new j d a h1 h2).2⟩,x.dis,fun b o z=>x.same b o (k _ _ z),x.len⟩
theorem Sx.grow(x:Sx K CL Fz B ρ σ H)(s:AH H H'):Sx K CL Fz B ρ σ H':=⟨x.good.same s,x.aok.same s,x.new,x.dis,fun b o z=>s _ _ (x.same b o z),x.len⟩
theorem Cf{l:Ac α}{j:Ag}{v:α}(h:i≠j):(l.set i v)[j]?=l[j]?:=by rw[GE h]
theorem G6{l:Ac α}{v w':α}(h:(l.set i v)[i]?=Aa w'):w'=v:=by
 rw[FW]at h;cases e:l[i]? with
 |none=>rw[e]at h;cases h
 |some x=>rw[e]at h;cases h;rfl
theorem Sx.set(x:Sx K CL Fz B ρ σ H){v:V}{d:D}(i:Ag)(r:Rep K CL H (By B ρ σ) v d):Sx K CL Fz B (ρ.set i (Aa (d,Ae))) (σ.set i (Aa v)) H:=by
 have own:∀(j:Ag)(e:D),(ρ.set i (Aa (d,Ae)))[j]?=Aa (Aa (e,Ab))->i≠j/\ρ[j]?=Aa (Aa (e,Ab)):=fun j e h=>by
  by_cases hj:i=j
  ·subst hj;have:=G6 h;cases this
  ·exact⟨hj,by rw[Cf hj]at h;exact h⟩
 have sub:∀ a,By B (ρ.set i (Aa (d,Ae))) (σ.set i (Aa v)) a->By B ρ σ a:=fun a h=>by
  rcases h with h|⟨j,e,h1,h2⟩
  ·exact .inl h
  ·obtain⟨hj,h1⟩:=own j e h1;rw[Cf hj]at h2;exact .inr ⟨j,e,h1,h2⟩
 refine⟨⟨fun j e h=>?_,fun j e h=>?_,by rw[Bb,Bb];exact x.len⟩,fun a h=>x.aok a (sub a h),fun j e a h1 h2=>?_,fun j k e f a h1 h2 h3 h4=>?_,x.same,by rw[Bb,Bb];exact x.len⟩
 ·by_cases hj:i=j
  ·subst hj;have e1:=G6 h;cases e1;refine⟨v,?_,Rep.sub sub _ r⟩;have hl:i<σ.length:=by
    rw[<-x.len];have:=(Bg.mp h).1;simpa using this
   rw[Dc hl]
  ·rw[Cf hj]at h;obtain⟨w',q,rw'⟩:=x.good.sh j e h;exact⟨w',by rw[Cf hj];exact q,Rep.sub sub _ rw'⟩
 ·obtain⟨hj,h1⟩:=own j e h;obtain⟨a,o,q,ha,hh,rr⟩:=x.good.ow j e h1;exact⟨a,o,by rw[Cf hj];exact q,.inr ⟨j,e,h,by rw[Cf hj];exact q⟩,hh,rr.sub sub⟩
 ·obtain⟨hj,h1⟩:=own j e h1;rw[Cf hj]at h2;exact x.new j e a h1 h2
 ·obtain⟨hj,h1⟩:=own j e h1;obtain⟨hk,h2⟩:=own k f h2;rw[Cf hj]at h3;rw[Cf hk]at h4;exact x.dis j k e f a h1 h2 h3 h4
end
section
variable{X:Cx}{CL:ClA}{W:XW}{pos:AO}{e:Ap}{fe:Rho->R D}
def SS(X:Cx)(CL:ClA)(W:XW)(st:Be)(f:Rho->O):Prop:=∀ Fz B,PS X st (fun D σ H=>∃ ρ,Sx X.K CL Fz B ρ σ H/\BH X.K CL Fz B W (f ρ) D)
def SSs(X:Cx)(CL:ClA)(W:XW)(st:Ac Be)(f:Rho->O):Prop:=∀ Fz B,PSs X st (fun D σ H=>∃ ρ,Sx X.K CL Fz B ρ σ H/\BH X.K CL Fz B W (f ρ) D)
theorem PS.weak{e:Be}{t t':TS}(h:PS X e t)(k:∀ D σ H,t' D σ H->t D σ H):PS X e t':=fun pI s σ H D I q=>h pI s σ H D I (k _ _ _ q)
theorem PSs.weak{e:Ac Be}{t t':TS}(h:PSs X e t)(k:∀ D σ H,t' D σ H->t D σ H):PSs X e t':=fun pI s σ H D I q=>h pI s σ H D I (k _ _ _ q)
theorem BH.ex{f:D->O}(x:Sx X.K CL Fz B ρ σ H)(h:BH X.K CL Fz B W (O.of ρ r f) D')(k:∀ d v H',r=.ok d->AH H H'->Rp H' v d->Sx X.K CL Fz B ρ σ H'->BH X.K CL Fz B W (f d) D'->Q v H'):Bf Rp W H r Q:=by
 cases r with
 |ok d=>exact fun v H' s r=>k d v H' rfl s r (x.grow s) h
 |exn y=>exact fun H' s=>h H' fun b o z=>s _ _ (x.same b o z)
 |bad=>exact h
theorem BH.exB{r:R Ao}{f:Ao->O}{Q:Ao->Hp->Prop}(x:Sx X.K CL Fz B ρ σ H)(h:BH X.K CL Fz B W (O.of ρ r f) D')(k:∀ b H',r=.ok b->AH H H'->Sx X.K CL Fz B ρ σ H'->BH X.K CL Fz B W (f b) D'->Q b H'):Dg W H r Q:=by
 cases r with
 |ok d=>exact fun H' s=>k d H' rfl s (x.grow s) h
 |exn y=>exact fun H' s=>h H' fun b o z=>s _ _ (x.same b o z)
 |bad=>exact h
theorem eL(he:SE X CL W e fe)(hs:Cn e Ad pos.line X.env=pure Ae):SS X CL W (.Expr e pos) (fun ρ=>O.of ρ (fe ρ) fun _=>.next ρ):=fun Fz B pI s σ H D I ⟨ρ,x,p⟩=>
 IZ (he (By B ρ σ)) hs pI s σ H D I ⟨x.aok,ρ,x.good,BH.ex x p fun d v H' _ s r x' q=>q σ H' x'⟩
theorem kK{n:Ai}(hN:X.N.Nodup)(hi:X.N[i]?=Aa n)(hx:Loc X.env.scope n)(he:SE X CL W e fe)(hs:Cn e (Aa (.Name n pos')) pos.line X.env=pure Ae)(hf:X.fn n=Ab\/X.env.scope.names.lookup n=Aa .local):SS X CL W (.Assign [.Name n pos'] e pos) (fun ρ=>O.of ρ (fe ρ) fun d=>.next (ρ.set i (Aa (d,Ae)))):=fun Fz B pI s σ H D I ⟨ρ,x,p⟩=>
 Mx hN hi hx (he (By B ρ σ)) hs hf pI s σ H D I ⟨x.aok,ρ,x.good,BH.ex x p fun d v H' _ s r x' q=>q _ H' (x'.set i r)⟩
theorem SN(he:SE X CL W e fe):SS X CL W (.Return (Aa e) pos) (fun ρ=>O.of ρ (fe ρ) fun d=>.ret d Ae):=fun Fz B pI s σ H D I ⟨ρ,x,p⟩=>
 PD (he (By B ρ σ)) pI s σ H D I ⟨x.aok,ρ,x.good,BH.ex x p fun d v H' _ s r x' q=>q v H' x'.same (Rep.sub (fun a h=>.inl h) _ r) fun z=>nomatch z⟩
theorem UH{a b:Ac Be}{fa fb:Rho->O}(hc:SB X CL W c fc)(ha:SSs X CL W a fa)(hb:SSs X CL W b fb):SS X CL W (.If c a b pos) (fun ρ=>O.of ρ (fc ρ) fun k=>if k=Ab then fa ρ else fb ρ):=fun Fz B pI s σ H D I ⟨ρ,x,p⟩=>
 rU (hc (By B ρ σ)) (ha Fz B) (hb Fz B) pI s σ H D I ⟨x.aok,ρ,x.good,BH.exB x p fun k H' _ s x' q=>by
  cases k with
  |true=>exact⟨ρ,x',q⟩
  | false=>exact⟨ρ,x',q⟩⟩
theorem Ph:SSs X CL W [] (fun ρ=>.next ρ):=fun Fz B=>PSs.weak cR fun D σ H ⟨ρ,x,p⟩=>p σ H x
theorem J5{st:Be}{rest:Ac Be}{f g:Rho->O}(h1:SS X CL W st f)(h2:SSs X CL W rest g):SSs X CL W (st::rest) (fun ρ=>(f ρ).seq g):=fun Fz B=>PSs.weak (Sd (h1 Fz B) (h2 Fz B)) fun D σ H ⟨ρ,x,p⟩=>⟨ρ,x,by
 dsimp only at p;cases e:f ρ with
 |next ρ'=>rw[e]at p;exact fun σ' H' x'=>⟨ρ',x',p⟩
 |ret d b=>rw[e]at p;exact p
 |brk ρ'=>rw[e]at p;exact p
 |cont ρ'=>rw[e]at p;exact p
 |exn y ρ'=>rw[e]at p;exact p
 | bad=>rw[e]at p;exact p⟩
end
def Je(K:Fg)(CL:ClA)(A:Ah->Prop)(ds:Ac D)(J:It)(H1:Hp):Prop:=∀ H,Kp A H1 H->∀ i:Ag,(ds.length<=i->J.stop i H)/\∀ d,ds[i]?=Aa d->J.go i H/\∀ x H',J.yld i H x H'->AH H H'/\∀ B,(∀ a,B a->A a\/H1 a=Ad)->AOk H B->Rep K CL H' B x d
def Fd(K:Fg)(CL:ClA)(A:Ah->Prop)(W:XW)(H:Hp)(r:R (Ac D))(Q:It->Hp->Prop):Prop:=match r with
  |.ok ds=>∀ J H',AH H H'->Je K CL A ds J H'->ds.length<=sizeLine->Q J H'
  |.exn x=>∀ H',AH H H'->W x H'
  |.bad=>AW
def SI(X:Cx)(CL:ClA)(W:XW)(tg iter:Ap)(f:Rho->R (Ac D)):Prop:=∀ A,PI X tg iter (fun σ H R=>AOk H A/\∃ ρ,Good X.K CL A ρ σ H/\Fd X.K CL A W H (f ρ) R)
theorem PI.weak{t t':TI}(h:PI X tg e t)(k:∀ σ H Q,t' σ H Q->t σ H Q):PI X tg e t':=fun pI s σ H Q I q=>h pI s σ H Q I (k _ _ _ q)
section
variable{X:Cx}{CL:ClA}{W:XW}{pos p:AO}{tg e a b:Ap}{fe fa fb:Rho->R D}
theorem Fd.ex{f:D->R (Ac D)}{Q:It->Hp->Prop}{Q':VK}(h:Fd X.K CL A W H (r.bind f) Q)(k:∀ d v H',r=.ok d->AH H H'->Rp H' v d->Fd X.K CL A W H' (f d) Q->Q' v H'):Bf Rp W H r Q':=by
  cases r with
  | ok d=>exact fun v H' s q=>k d v H' rfl s q (by
      have h':Fd X.K CL A W H (f d) Q:=h;cases e:f d with
      |ok ds=>rw[e]at h';exact fun J H2 s2 y z=>h' J H2 (s.trans s2) y z
      |exn y=>rw[e]at h';exact fun H2 s2=>h' H2 (s.trans s2)
      | bad=>rw[e]at h';exact h')
  |exn y=>exact h
  |bad=>exact h
theorem L9{x:V}(r:Rep K CL H1 A x d)(k:Kp A H1 H)(hB:∀ a,B a->A a\/H1 a=Ad):Rep K CL H B x d:=by
 have r1:Rep K CL H1 (fun a=>A a\/B a) x d:=Rep.wide (fun a ha=>ha.elim .inl (hB a)) _ r
 have r2:Rep K CL H (fun a=>A a\/B a) x d:=Rep.kp (fun b o e na=>k b o e fun z=>na (.inl z)) _ r1
 exact Rep.sub (fun a ha=>.inr ha) _ r2
theorem YJ{ds:Ac D}(na:¬ A q\/KL K q xs)(s:SqL K H q xs)(r:Reps K CL H A xs ds):Je K CL A ds (Itl K q) H:=fun H' k i=>by
 have s':=Nu k na s;refine⟨fun h=>⟨xs,s',by rw[r.length];exact h⟩,fun d hd=>?_⟩
 obtain⟨v,hv,rv⟩:=r.get hd;exact⟨⟨xs,v,s',hv⟩,fun x H2 ⟨e,y⟩=>by
  subst e;have:=y xs s';rw[hv]at this;cases this;exact⟨AH.refl _,fun B hB _=>L9 rv k hB⟩⟩
theorem Z5{ds:Ac D}(na:¬ A q\/KT K q xs)(s:SqT K H q xs)(r:Reps K CL H A xs ds):Je K CL A ds (Itt K q) H:=fun H' k i=>by
 have s':=Mv k na s;refine⟨fun h=>⟨xs,s',by rw[r.length];exact h⟩,fun d hd=>?_⟩
 obtain⟨v,hv,rv⟩:=r.get hd;exact⟨⟨xs,v,s',hv⟩,fun x H2 ⟨e,y⟩=>by
  subst e;have:=y xs s';rw[hv]at this;cases this;exact⟨AH.refl _,fun B hB _=>L9 rv k hB⟩⟩
theorem RB(lo:Af)(n:Ag):Je K CL A (Cq lo n) (Itr lo n) H:=fun H' k i=>by
 refine⟨fun h=>by rw[L4]at h;exact h,fun d hd=>?_⟩
 obtain⟨h1,rfl⟩:=Pe hd;exact⟨h1,fun x H2 ⟨e,y⟩=>by
  subst e y;exact⟨AH.refl _,fun _ _ _=>rfl⟩⟩
theorem lT{l:Ap}{tl:TE}(hl:PE X l tl):PI X tg l (fun σ H R=>tl σ H fun x H1=>(∃ a,x=.ref a/\(∃ xs,SqL X.K H1 a xs/\(xs.length<=sizeLine->R (Itl X.K a) H1)))\/∃ a,x=.ref a/\(∃ xs,SqT X.K H1 a xs/\(xs.length<=sizeLine->R (Itt X.K a) H1))):=by
 intro pI s σ H R I h;refine thn (hl pI s σ H _ I h) fun v s1 ⟨x,H1,I1,r1,q1⟩=>?_
 rcases q1 with ⟨a,e,xs,hq,q⟩|⟨a,e,xs,hq,q⟩
 ·subst e;cases r1;obtain⟨its,rv,p,hz⟩:=I1.list hq;refine Hz p.isList ?_;refine⟨s1.heap.objs.size,[s1.heap.objs.size],_,_,H1,rfl,I1.kept (t':=s1.toks) fun b o e=>Au _ e,YU a _,⟨_,AV _ rfl,rfl,rfl⟩,fun b hb=>?_,q hz⟩
  have e:b=s1.heap.objs.size:=by simpa using hb
  subst e;exact I1.fpOk (AU _) (I1.hok.fresh (AU _))
 ·subst e;cases r1;obtain⟨its,rv,p,hz⟩:=I1.tuple hq;refine Xx (show s1.heap.IsTuple a its.toArray from p) ?_
  refine⟨s1.heap.objs.size,[s1.heap.objs.size],_,_,H1,rfl,I1.kept (t':=s1.toks) fun b o e=>Au _ e,YL a _,⟨_,AV _ rfl,rfl,rfl⟩,fun b hb=>?_,q hz⟩
  have e:b=s1.heap.objs.size:=by simpa using hb
  subst e;exact I1.fpOk (AU _) (I1.hok.fresh (AU _))
theorem Ye(he:SE X CL W e fe):SI X CL W tg e (fun ρ=>(fe ρ).bind De):=fun A=>PI.weak (lT (he A)) fun σ H R ⟨hA,ρ,g,p⟩=>⟨hA,ρ,g,Fd.ex p fun d v H1 _ s1 r1 p1=>by
 cases d with
 |lst ds=>
  obtain⟨q,xs,rfl,na,sq,r⟩:=r1;exact .inl ⟨q,rfl,xs,sq,fun hz=>p1 _ H1 (AH.refl H1) (YJ na sq r) (by rw[<-r.length];exact hz)⟩
 |tup ds=>
  obtain⟨q,xs,rfl,na,sq,r⟩:=r1;exact .inr ⟨q,rfl,xs,sq,fun hz=>p1 _ H1 (AH.refl H1) (Z5 na sq r) (by rw[<-r.length];exact hz)⟩
 | _=>exact p1.elim⟩
theorem Rs{lo hi:Af}{ds:Ac D}(h:Du lo hi=.ok ds):(-(2 ^ 62)<=lo/\lo<2 ^ 62)/\(-(2 ^ 62)<=hi/\hi<2 ^ 62)/\ds=Cq lo (hi-lo).toNat/\(Cq lo (hi-lo).toNat).length<=sizeLine:=by
 unfold Du at h;split at h
 ·rename_i q;cases h;exact⟨by omega,by omega,rfl,by rw[L4,DT];omega⟩
 ·cases h
theorem Q5{lo hi:Af}(h:Du lo hi=.exn x):AW:=by
 unfold Du at h;split at h<;>cases h
theorem jV(ha:ST X CL W a fa)(hg:Gl X "range")(hm:X.mg "range" = Ad)(hs:As [a] X.env=[(Ae,eval a X.env)]):SI X CL W tg (.Call (.Name "range" p) [a] [] pos) (fun ρ=>(fa ρ).bind fun x=>(EK x).bind fun j=>Du 0 j):=
 fun A=>PI.weak (Zk hg hm (DH (ha A) Ft hs) hs) fun σ H R ⟨hA,ρ,g,q⟩=>⟨hA,ρ,g,Fd.ex q fun d v H1 _ s1 r1 p1=>by
  cases d with
  |int j=>
   have e:=r1.int_of;subst e;have p2:Fd X.K CL A W H1 (Du 0 j) R:=p1;cases e2:Du 0 j with
   |ok ds=>
    rw[e2]at p2;obtain⟨_,h2,rfl,hz⟩:=Rs e2;exact⟨j,rfl,h2.1,h2.2,p2 _ H1 (AH.refl H1) (by rw[HJ];exact RB 0 j.toNat) hz⟩
   |exn y=>exact(Q5 e2).elim
   |bad=>rw[e2]at p2;exact p2.elim
  | _=>exact p1.elim⟩
theorem eS(ha:ST X CL W a fa)(hb:ST X CL W b fb)(hg:Gl X "range")(hm:X.mg "range" = Ad)(hs:As [a,b] X.env=[(Ae,eval a X.env),(Ae,eval b X.env)])(hs2:As [b] X.env=[(Ae,eval b X.env)]):
  SI X CL W tg (.Call (.Name "range" p) [a,b] [] pos) (fun ρ=>(fa ρ).bind fun x=>(fb ρ).bind fun y=>(EK x).bind fun i=>(EK y).bind fun j=>Du i j):=
 fun A=>PI.weak (Zj hg hm (DH (ha A) (DH (hb A) Ft hs2) (by rw[hs,hs2])) hs hs2) fun σ H R ⟨hA,ρ,g,q⟩=>⟨hA,ρ,g,Fd.ex q fun d v H1 _ s1 r1 p1=>⟨hA.same s1,ρ,g.same s1,Fd.ex p1 fun d2 v2 H2 _ s2 r2 p2=>by
  cases d with
  |int i=>
   cases d2 with
   |int j=>
    have e:=r1.int_of;have e':=r2.int_of
    subst e e';have p3:Fd X.K CL A W H2 (Du i j) R:=p2;cases e2:Du i j with
    |ok ds=>
     rw[e2]at p3;obtain⟨h1,h2,rfl,hz⟩:=Rs e2;exact⟨i,j,rfl,⟨h1.1,h1.2,h2.1,h2.2⟩,p3 _ H2 (AH.refl H2) (RB _ _) hz⟩
    |exn y=>exact(Q5 e2).elim
    |bad=>rw[e2]at p3;exact p3.elim
   |_=>exact p2.elim
  | _=>exact p2.elim⟩⟩
theorem BH.exI{r:R (Ac D)}{f:Ac D->O}{Q:It->Hp->Prop}(x:Sx X.K CL Fz B ρ σ H)(h:BH X.K CL Fz B W (O.of ρ r f) D')(k:∀ ds J H',r=.ok ds->AH H H'->Je X.K CL A ds J H'->ds.length<=sizeLine->Sx X.K CL Fz B ρ σ H'->BH X.K CL Fz B W (f ds) D'->Q J H'):Fd X.K CL A W H r Q:=by
 cases r with
 |ok d=>exact fun J H' s y z=>k d J H' rfl s y z (x.grow s) h
 |exn y=>exact fun H' s=>h H' fun b o z=>s _ _ (x.same b o z)
 |bad=>exact h
theorem BH.turn{Fy:Ah->HO->Prop}{o:O}{g:Rho->O}{N:L2.St->Hp->Prop}(hf:∀ b q,Fz b q->Fy b q)(h:BH K CL Fz B W (o.turn g) D')(k:∀ ρ' σ' H',Sx K CL Fy B ρ' σ' H'->BH K CL Fz B W (g ρ') D'->N σ' H'):BH K CL Fy B W o {D' with nx:=N,ct:=N,bk:=D'.nx}:=by
 cases o with
 |next ρ'=>exact fun σ' H' x=>k ρ' σ' H' x h
 |cont ρ'=>exact fun σ' H' x=>k ρ' σ' H' x h
 |brk ρ'=>exact fun σ' H' x=>h σ' H' (x.mono hf)
 |ret d b=>exact fun v H' s r n=>h v H' (fun b o z=>s b o (hf b o z)) r fun z ds e=>let ⟨a,xs,h1,h2,h3⟩:=n z ds e;⟨a,xs,h1,fun o q=>h2 o (hf a o q),h3⟩
 |exn y ρ'=>exact fun H' s=>h H' (fun b o z=>s b o (hf b o z))
 |bad=>exact h
noncomputable def FN(ts:Ac Ag)(ρ:Rho):Rho:=ts.foldl (fun ρ t=>ρ.set t Ad) ρ
def GT(K:Fg)(CL:ClA)(as:D->Rho->R Rho)(g:TG):Prop:=∀ Fz B ρ σ H v d ρ' Q,Sx K CL Fz B ρ σ H->Rep K CL H (By B ρ σ) v d->as d ρ=.ok ρ'->(∀ σ',Sx K CL Fz B ρ' σ' H->Q σ' H)->g v σ H Q
theorem fV(i:Ag):GT K CL (fun d ρ=>.ok (ρ.set i (Aa (d,Ae)))) (Fv i):=fun Fz B ρ σ H v d ρ' Q x r e k=>by
 cases e;exact k _ (x.set i r)
theorem P5{K:Fg}{Fz:Ah->HO->Prop}{B:Ah->Prop}{H:Hp}:∀(ts:Ac Ag)(ds:Ac D)(vs:Ac V)(ρ ρ':Rho)(σ:L2.St)(Q:L2.St->Hp->Prop),Sx K CL Fz B ρ σ H->Reps K CL H (By B ρ σ) vs ds->DX ts ds ρ=Aa ρ'->(∀ σ',Sx K CL Fz B ρ' σ' H->Q σ' H)->(ts.foldr (fun t u=>Ib (Fv t) u) Ii) vs σ H Q
 |[],[],[],ρ,ρ',σ,Q,x,_,e,k=>by
  cases e;exact⟨rfl,k σ x⟩
 |t::ts,d::ds,v::vs,ρ,ρ',σ,Q,x,r,e,k=>by
  refine⟨v,vs,rfl,P5 ts ds vs _ ρ' _ Q (x.set t r.1) (Reps.sub (fun a ha=>?_) ds r.2) e k⟩
  rcases ha with ha|⟨j,c,h1,h2⟩
  ·exact .inl ha
  ·by_cases hj:t=j
   ·subst hj;have:=G6 h1;cases this
   ·rw[Cf hj]at h1 h2;exact .inr ⟨j,c,h1,h2⟩
 |[],_::_,_,_,_,_,_,_,_,e,_=>by cases e
 |_::_,[],_,_,_,_,_,_,_,e,_=>by cases e
 |[],[],_::_,_,_,_,_,_,r,_,_=>r.elim
 |_::_,_::_,[],_,_,_,_,_,r,_,_=>r.elim
theorem M0:∀(ts:Ac Ag)(ds:Ac D)(ρ ρ':Rho),DX ts ds ρ=Aa ρ'->ds.length=ts.length
 |[],[],_,_,_=>rfl
 |_::ts,_::ds,_,_,e=>congrArg (· + 1) (M0 ts ds _ _ e)
 |[],_::_,_,_,e=>by cases e
 |_::_,[],_,_,e=>by cases e
theorem Up(ts:Ac Ag):GT K CL (E3 ts) (LB K ts.length (ts.foldr (fun t u=>Ib (Fv t) u) Ii)):=fun Fz B ρ σ H v d ρ' Q x r e k=>by
 cases d with
 |tup ds=>
  obtain⟨a,xs,rfl,na,sq,rs⟩:=r;rw[Rw]at e;cases e2:DX ts ds ρ with
  |none=>rw[e2]at e;cases e
  |some ρ2=>
   rw[e2]at e;cases e;exact⟨a,xs,rfl,sq,by rw[rs.length];exact M0 _ _ _ _ e2,P5 ts ds xs ρ _ σ Q x rs e2 k⟩
 |_=>cases e
theorem TJ{g:TG}(hp:EG (model X.prog X.w) X.A X.env X.xe)(hc:X.calm=Ab)(hGT:GT X.K CL as g)(hg:PG X tg g)(hit:SI X CL W tg iter fi)(hb:SSs X CL W body fbd)(hs:∀ x,CZ iter X.env x=pure x)(hax:∀ d ρ x,as d ρ≠.exn x):SS X CL W (.For tg iter body [] pos) (fun ρ=>O.of ρ (fi ρ) fun xs=>Cj (fun x ρ'=>O.of ρ' (as x ρ') fbd) xs ρ):=fun Fz B pI s σ H D I ⟨ρ,x,p⟩=>by
 refine lQ hp hc (hit (By B ρ σ)) hg (tb:=fun D σ H=>∃ Fy,(fun D σ H=>∃ ρ,Sx X.K CL Fy B ρ σ H/\BH X.K CL Fy B W (fbd ρ) D) D σ H) (fun pI s σ H D I ⟨Fy,q⟩=>hb Fy B pI s σ H D I q) hs pI s σ H D I ⟨x.aok,ρ,x.good,BH.exI x p fun ds J H1 _ s1 y _ x1 q=>?_⟩
 let Fy:Ah->HO->Prop:=fun b o=>H1 b=Aa o/\¬ ∃(j:Ag)(d:Ov.D),ρ[j]?=Aa (Aa (d,Ab))/\σ[j]?=Aa (Aa (.ref b))
 have hfy:∀ b o,Fz b o->Fy b o:=fun b o z=>⟨x1.same b o z,fun ⟨j,d,h1,h2⟩=>(x1.new j d b h1 h2).1 o z⟩
 have xy:Sx X.K CL Fy B ρ σ H1:=⟨x1.good,x1.aok,fun j d a h1 h2=>⟨fun o z=>z.2 ⟨j,d,h1,h2⟩,(x1.new j d a h1 h2).2⟩,x1.dis,fun b o z=>z.1,x1.len⟩
 refine⟨fun k m σ' H'=>m=ds.length-k/\k<=ds.length/\∃ ρ',Sx X.K CL Fy B ρ' σ' H'/\BH X.K CL Fz B W (Cj (fun x ρ'=>O.of ρ' (as x ρ') fbd) (ds.drop k) ρ') D,⟨ds.length,by simp,Hd _,ρ,xy,q⟩,?_⟩
 rintro k m σ' H' ⟨rfl,hk,ρ',x',q'⟩;have kp:Kp (By B ρ σ) H1 H':=fun b o e na=>x'.same b o ⟨e,fun z=>na (.inr z)⟩
 obtain⟨yst,ygo⟩:=y H' kp k;by_cases hlt:k<ds.length
 ·have hd:ds[k]?=Aa ds[k]:=B0 hlt;obtain⟨hgo,hyl⟩:=ygo _ hd;refine .inr ⟨hgo,fun σ'' H''=>∃ ρ'',Sx X.K CL Fy B ρ'' σ'' H''/\BH X.K CL Fz B W (Cj (fun x ρ'=>O.of ρ' (as x ρ') fbd) (ds.drop (k+1)) ρ'') D,fun σ'' H'' z=>⟨ds.length-(k+1),by omega,rfl,hlt,z⟩,fun v H2 hv=>?_⟩
  obtain⟨e2,rv⟩:=hyl v H2 hv;rw[Fw hlt]at q';have q2:BH X.K CL Fz B W ((O.of ρ' (as ds[k] ρ') fbd).turn (Cj (fun x ρ'=>O.of ρ' (as x ρ') fbd) (ds.drop (k+1)))) D:=q'
  have rv':Rep X.K CL H2 (By B ρ' σ') v ds[k]:=rv _ (fun a ha=>by
    rcases ha with ha|⟨j,d,h1,h2⟩
    ·exact .inl (.inl ha)
    ·cases e:H1 a with
     |none=>exact .inr rfl
     |some o=>
      by_cases ho:∃(j:Ag)(d:Ov.D),ρ[j]?=Aa (Aa (d,Ab))/\σ[j]?=Aa (Aa (.ref a))
      ·exact .inl (.inr ho)
      ·exact absurd ⟨e,ho⟩ ((x'.new j d a h1 h2).1 o)) x'.aok
  cases ea:as ds[k] ρ' with
  |bad=>rw[ea]at q2;exact q2.elim
  |exn z=>exact absurd ea (hax _ _ z)
  |ok ρ2=>
   rw[ea,O.of_ok]at q2;exact hGT Fy B ρ' σ' H2 v ds[k] ρ2 _ (x'.grow e2) rv' ea fun σ3 x3=>⟨Fy,ρ2,x3,BH.turn hfy q2 fun ρ3 σ3 H3 x3 q3=>⟨ρ3,x3,q3⟩⟩
 ·have hk':ds.length<=k:=by omega
  rw[Wb hk']at q';exact .inl ⟨yst hk',q' σ' H' (x'.mono hfy)⟩
theorem ZH(n:Ag)(hp:EG (model X.prog X.w) X.A X.env X.xe)(hc:SB X CL W c fc)(hb:SSs X CL W body fbd):SS X CL W (.While c body [] pos) (fun ρ=>Gu fc fbd n ρ):=fun Fz B pI s σ H D I ⟨ρ,x,p⟩=>by
 refine Zu hp (tc:=fun σ H Q=>∃ A,AOk H A/\∃ ρ,Good X.K CL A ρ σ H/\Dg W H (fc ρ) Q) (fun pI s σ H Q I ⟨A,q⟩=>hc A pI s σ H Q I q) (hb Fz B) pI s σ H D I ⟨fun m σ' H'=>∃ ρ',Sx X.K CL Fz B ρ' σ' H'/\BH X.K CL Fz B W (Gu fc fbd m ρ') D,⟨n,ρ,x,p⟩,?_⟩
 rintro m σ' H' ⟨ρ',x',q⟩;cases m with
 |zero=>exact q.elim
 |succ m=>
  refine⟨By B ρ' σ',x'.aok,ρ',x'.good,BH.exB x' (f:=fun b=>if b=Ab then (fbd ρ').turn (Gu fc fbd m) else .next ρ') (D':=D) (by rw[Gu]at q;exact q) fun b H1 _ s1 x1 q1=>?_⟩
  cases b with
  |false=>exact q1 σ' H1 x1
  |true=>
   refine⟨fun σ'' H''=>∃ ρ'',Sx X.K CL Fz B ρ'' σ'' H''/\BH X.K CL Fz B W (Gu fc fbd m ρ'') D,fun σ'' H'' z=>⟨m,by omega,z⟩,ρ',x1,BH.turn (fun _ _ z=>z) q1 fun ρ3 σ3 H3 x3 q3=>⟨ρ3,x3,q3⟩⟩
end
section
variable{X:Cx}{CL:ClA}{W:XW}{a b c:Ap}{fa fb fc:Rho->R D}{pos:AO}
noncomputable def tyK:Ki->An CY
 |.int=>Aa "int"
 |.bool=>Aa "bool"
 |.str=>Aa "str"
 |.list=>Aa "list"
 |.tuple=>Aa "tuple"
 |_=>Ad
noncomputable def P7:D->Ao
 |.obj _ _=>Ae
 |.exc _ _=>Ae
 |.dic _=>Ae
 |_=>Ab
theorem pC{u:Ak}{k:Ki}{Q:Vq}{E:Vq}(I:Inv X pI σ H s)(r:CG X.K CL H A v d)(q:Bx v u)(hT:tyK k=Aa T)(hd:P7 d=Ab)(h:∀ s',Inv X pI σ H s'->Q (.bool (kiD up k d)) s'):
  Ax (model X.prog X.w) X.A (call (.builtin "isinstance") [u,.type T]) Q E s:=by
 have r':=r.plain;have it:=fun t=>h _ (I.tok t)
 cases d with
 |obj=>cases hd
 |exc=>cases hd
 |dic=>cases hd
 |non=>
  cases r';cases q;cases k<;>simp only[tyK]at hT<;>cases hT
  ·exact IsiPair.NoneType_int (it _)
  ·exact IsiPair.NoneType_bool (it _)
  ·exact IsiPair.NoneType_str (it _)
  ·exact IsiPair.NoneType_list (it _)
  ·exact IsiPair.NoneType_tuple (it _)
 |bl b=>
  cases r';cases q;cases k<;>simp only[tyK]at hT<;>cases hT
  ·exact IsiPair.bool_int (h _ I)
  ·exact IsiPair.bool_bool (h _ I)
  ·exact IsiPair.bool_str (it _)
  ·exact IsiPair.bool_list (it _)
  ·exact IsiPair.bool_tuple (it _)
 |int i=>
  cases r';obtain⟨t,rfl⟩:=q;cases k<;>simp only[tyK]at hT<;>cases hT
  ·exact IsiPair.int_int (h _ I)
  ·exact IsiPair.int_bool (it _)
  ·exact IsiPair.int_str (it _)
  ·exact IsiPair.int_list (it _)
  ·exact IsiPair.int_tuple (it _)
 |str x=>
  cases r';obtain⟨t,rfl⟩:=q;cases k<;>simp only[tyK]at hT<;>cases hT
  ·exact IsiPair.str_int (it _)
  ·exact IsiPair.str_bool (it _)
  ·exact IsiPair.str_str (h _ I)
  ·exact IsiPair.str_list (it _)
  ·exact IsiPair.str_tuple (it _)
 |tup ds=>
  obtain⟨p,xs,rfl,_,sq,rr⟩:=r';obtain⟨its,rv,pt,_⟩:=I.tuple sq;cases q;have pt':s.heap.IsTuple p its.toArray:=pt;cases k<;>simp only[tyK]at hT<;>cases hT
  ·exact IsiPair.isTuple_int pt' (fun _ _ e=>e) (it _)
  ·exact IsiPair.isTuple_bool pt' (fun _ _ e=>e) (it _)
  ·exact IsiPair.isTuple_str pt' (fun _ _ e=>e) (it _)
  ·exact IsiPair.isTuple_list pt' (fun _ _ e=>e) (it _)
  ·exact IsiPair.isTuple_tuple pt' (fun _ _ e=>e) (h _ I)
 |lst ds=>
  obtain⟨p,xs,rfl,_,sq,rr⟩:=r';obtain⟨its,rv,pl,_⟩:=I.list sq;cases q;have pt':s.heap.IsList p its.toArray:=ND pl;cases k<;>simp only[tyK]at hT<;>cases hT
  ·exact IsiPair.isList_int pt' (fun _ _ e=>e) (it _)
  ·exact IsiPair.isList_bool pt' (fun _ _ e=>e) (it _)
  ·exact IsiPair.isList_str pt' (fun _ _ e=>e) (it _)
  ·exact IsiPair.isList_list pt' (fun _ _ e=>e) (h _ I)
  ·exact IsiPair.isList_tuple pt' (fun _ _ e=>e) (it _)
theorem Y9{k:Ki}(hT:tyK k=Aa T)(p:Bf Rp W H (EL up [k] d) Q):P7 d=Ab/\Bf Rp W H (.ok (.bl (kiD up k d))) Q:=by
 cases k<;>simp only[tyK]at hT<;>cases hT<;>cases d<;>first|exact p.elim|exact⟨rfl,by simpa using p⟩
theorem mM{k:Ki}{x:Ai}(hT:tyK k=Aa T)(hg:Gl X "isinstance")(hm:X.mg "isinstance" = Ad)(hg2:Gl X x)(hm2:X.mg x=Ad)(hv:Dd x=Aa (.type T))(hn:x≠"__name__")(hdb:(x==("__debug__" : Ai))=Ae)(ha:ST X CL W a fa)(he:As [a,.Name x p2] X.env=(Ae,eval a X.env)::As [.Name x p2] X.env):SE X CL W (.Call (.Name "isinstance" p) [a,.Name x p2] [] pos) (fun ρ=>(fa ρ).bind fun x=>EL up [k] x):=fun A=>
 PE.weak (Mc (r:=fun xs H Q=>∃ y d,xs=[y,.ty T]/\CG X.K CL H A y d/\P7 d=Ab/\Q (.bl (kiD up k d)) H) (fun pI s σ H xs us Q I r ⟨y,d,e,ry,hd,q⟩=>by
   subst e;obtain⟨u,w',rfl,r1,r2⟩:=MD r;cases r2;exact pC I ry r1 hT hd fun s' I'=>⟨.bl _,H,I',rfl,q⟩)
  hg hm GK (DH (ha A) (DH (To (v:=.ty T) hg2 hm2 hv rfl hn hdb) Ft rfl) he) (by decide) (by decide) he rfl) fun σ H Q ⟨hA,ρ,g,q⟩=>⟨hA,ρ,g,Bf.bind q fun d v H1 _ s1 r1 p1=>by
   obtain⟨hd,p2⟩:=Y9 hT p1;exact⟨v,d,rfl,r1,hd,p2 _ H1 (AH.refl H1) rfl⟩⟩
end
section
variable(K:Fg)(CL:ClA)
def uP(H0:Hp)(A:Ah->Prop)(H:Hp)(v:V)(d:D):Prop:=∀ ds,d=.lst ds->∃ a xs,v=.ref a/\H0 a=Ad/\H a=Aa (.lst xs)/\Reps K CL H (fun b=>A b\/b=a) xs ds
def DO(fr:Ao)(H0:Hp)(A:Ah->Prop)(H:Hp)(v:V)(d:D):Prop:=Rep K CL H A v d/\(fr=Ab->uP K CL H0 A H v d)
end
section
variable{X:Cx}{CL:ClA}{W:XW}{a b c:Ap}{fa fb fc:Rho->R D}{pos:AO}
def SC(X:Cx)(CL:ClA)(W:XW)(fr:Ao)(e:Ap)(f:Rho->R D):Prop:=∀ A,PE X e (fun σ H Q=>AOk H A/\∃ ρ,Good X.K CL A ρ σ H/\Bf (DO X.K CL fr H A) W H (f ρ) Q)
theorem SC.se{fr:Ao}(h:SC X CL W fr a fa):SE X CL W a fa:=fun A=>PE.weak (h A) fun σ H Q ⟨hA,ρ,g,p⟩=>⟨hA,ρ,g,by
 cases e:fa ρ with
 |ok d=>rw[e]at p;exact fun v H' s r=>p v H' s r.1
 |exn x=>rw[e]at p;exact p
 | bad=>rw[e]at p;exact p⟩
theorem SE.sc(h:SE X CL W a fa):SC X CL W Ae a fa:=fun A=>PE.weak (h A) fun σ H Q ⟨hA,ρ,g,p⟩=>⟨hA,ρ,g,by
 cases e:fa ρ with
 |ok d=>rw[e]at p;exact fun v H' s r=>p v H' s ⟨r,fun z=>nomatch z⟩
 |exn x=>rw[e]at p;exact p
 | bad=>rw[e]at p;exact p⟩
theorem SC.congr{fr:Ao}{f g:Rho->R D}(h:SC X CL W fr a f)(e:∀ ρ,g ρ=f ρ):SC X CL W fr a g:=fun A=>PE.weak (h A) fun σ H Q ⟨hA,ρ,q,p⟩=>⟨hA,ρ,q,by rw[<-e];exact p⟩
theorem KY{p:Ah}{ds:Ac D}(s:AH H0 H)(hA:AOk H A)(hp:H p=Ad)(r:Reps K CL H A xs ds):DO K CL Ab H0 A (upd H p (.lst xs)) (.ref p) (.lst ds):=
 ⟨Tu hA hp r,fun _ ds' e=>by
  cases e;exact⟨p,xs,rfl,s.free hp,FL,(Reps.wide (fun a ha=>ha.imp id fun e=>by rw[e];exact hp) _ r).same (F2 hp _)⟩⟩
theorem SD{fr:Ao}(r:Rep K CL H A v d)(h:∀ ds,d≠.lst ds):DO K CL fr H0 A H v d:=⟨r,fun _ ds e=>absurd e (h ds)⟩
theorem PK(hs:SA X CL W es fs)(hz:∀ ρ ds,fs ρ=.ok ds->ds.length<=100000):SC X CL W Ab (.List es pos) (fun ρ=>(fs ρ).bind fun xs=>.ok (.lst xs)):=
 fun A=>PE.weak (lX (hs A)) fun σ H Q ⟨hA,ρ,g,p⟩=>⟨hA,ρ,g,Ia.bind p fun ds vs H1 e s1 r1 p1=>⟨by
  rw[r1.length,DT];have:=hz ρ ds e;omega,fun q hq=>p1 _ _ (F2 hq _) (KY s1 (hA.same s1) hq r1)⟩⟩
theorem Bf.bindF{fr:Ao}{f:D->R D}{Q':VK}(h:Bf (DO K CL fr H A) W H (r.bind f) Q)(k:∀ d v H',r=.ok d->AH H H'->Rp H' v d->Bf (DO K CL fr H A) W H' (f d) Q->Q' v H'):Bf Rp W H r Q':=by
 cases r with
 |ok d=>exact fun v H2 s2 q=>k d v H2 rfl s2 q (Bf.same s2 h)
 |exn x=>exact h
 |bad=>exact h
theorem Ia.bindF{Rp:Hp->Ac V->Ac D->Prop}{r:R (Ac D)}{f:Ac D->R D}{Q':Ac V->Hp->Prop}(h:Bf Rq W H (r.bind f) Q)(k:∀ d v H',r=.ok d->AH H H'->Rp H' v d->Bf Rq W H' (f d) Q->Q' v H'):Ia Rp W H r Q':=by
 cases r with
 |ok d=>exact fun v H2 s2 q=>k d v H2 rfl s2 q (Bf.same s2 h)
 |exn x=>exact h
 |bad=>exact h
theorem Ks.bindF{r:R (An Af)}{f:An Af->R D}(h:Bf Rq W H (r.bind f) Q)(k:∀ o H',r=.ok o->AH H H'->Bf Rq W H' (f o) Q->Q' o H'):Ks W H r Q':=by
 cases r with
 |ok d=>exact fun H2 s2=>k d H2 rfl s2 (Bf.same s2 h)
 |exn x=>exact h
 |bad=>exact h
theorem rK{lo hi:An Ap}{fl fh:Rho->R (An Af)}(ha:ST X CL W a fa)(hl:SO X CL W lo fl)(hh:SO X CL W hi fh):SC X CL W Ab (.Subscript a (.Slice lo hi Ad p2) pos) (fun ρ=>(fa ρ).bind fun x=>(fl ρ).bind fun l=>(fh ρ).bind fun h=>slD x l h):=
 fun A=>PE.weak (Zx (r:=fun x l h H Q=>Vc X.K x l h H Q\/Vb X.K x l h H Q) (fun pI s σ H x v vl vu lo hi sl Q I rx hs pl pu h=>h.elim (eQ pI s σ H x v vl vu lo hi sl Q I rx hs pl pu) (jT pI s σ H x v vl vu lo hi sl Q I rx hs pl pu)) (ha A) (hl A) (hh A)) fun σ H Q ⟨hA,ρ,g,p⟩=>⟨hA,ρ,g,Bf.bindF p fun dx x H1 _ s1 r1 p1=>⟨hA.same s1,ρ,g.same s1,Ks.bindF p1 fun l H2 _ s2 p2=>⟨(hA.same s1).same s2,ρ,(g.same s1).same s2,Ks.bindF p2 fun h H3 _ s3 p3=>by
  cases dx with
  |lst ds=>
   obtain⟨q,xs,rfl,sq,r⟩:=((r1.same s2).same s3).lst_of;exact .inl ⟨q,xs,rfl,sq,fun t ht=>p3 _ _ (F2 ht _) (KY ((s1.trans s2).trans s3) (((hA.same s1).same s2).same s3) ht (S9 l h r))⟩
  |tup ds=>
   obtain⟨q,xs,rfl,_,sq,r⟩:=((r1.same s2).same s3).tup_of;rw[Yd]at p3;split at p3
   ·exact p3.elim
   ·rename_i hw;refine .inr ⟨q,xs,rfl,sq,?_,fun t ht=>p3 _ _ (F2 ht _) (SD (Ld (((hA.same s1).same s2).same s3) ht (S9 l h r)) (by intro _ z;cases z))⟩
    rintro⟨h1,h2⟩;refine hw ?_;have e:∀ d o,HT.sIx xs.length d o=Ha ds.length d o:=fun d o=>by rw[r.length];cases o<;>rfl
    rw[e]at h1 h2;rw[r.length]at h2;simp[h1,h2]
  | _=>exact p3.elim⟩⟩⟩
noncomputable def OpN(X:Cx)(CL:ClA)(W:XW)(f:Ak->Ak->Sem Ak)(g:D->D->R D):Prop:=
 ∀ A H0,OpR X f (fun x y H Q=>AH H0 H/\AOk H A/\∃ dx dy,CG X.K CL H A x dx/\CG X.K CL H A y dy/\Bf (DO X.K CL Ab H0 A) W H (g dx dy) Q)
theorem gM:OpN X CL W (B7 .Add) (CV .Add):=by
 intro A H0 pI s σ H x y v u Q I rx ry ⟨s0,hA,dx,dy,hx,hy,p⟩;have key:(∀ ds,dx≠.lst ds)->EP X pI σ Q=EP X pI σ Q->Ax (model X.prog X.w) X.A (B7 .Add v u) (EP X pI σ Q) X.xe s:=fun hd _=>by
  refine Tr (W:=W) A pI s σ H x y v u Q I rx ry ⟨hA,dx,dy,hx,hy,?_⟩;cases e:CV .Add dx dy with
  |bad=>rw[e]at p;exact p
  |exn x=>rw[e]at p;exact p
  |ok d=>
   rw[e]at p;refine fun v' H' s' r'=>p v' H' s' (SD r' fun ds z=>?_)
   subst z;cases dx with
   |lst ds=>exact hd _ rfl
   |_=>cases dy<;>first|(cases e;done)|(simp only[CV]at e;split at e<;>cases e)
 cases dx with
 |lst ds=>
  cases dy with
  |lst es=>
   obtain⟨a,xs,rfl,s1,r1⟩:=hx.lst_of;obtain⟨b,ys,rfl,s2,r2⟩:=hy.lst_of;simp only[Ue]at p;split at p
   ·rename_i h;refine Ts pI s σ H _ _ v u Q I rx ry ⟨a,b,xs,ys,rfl,rfl,s1,s2,by rw[r1.length,r2.length];exact G3 h,fun q hq=>?_⟩
    exact p _ _ (F2 hq _) (KY s0 hA hq (r1.append r2))
   ·exact p.elim
  |_=>exact p.elim
 |_=>exact key (by intro _ z;cases z) rfl
theorem jS(ha:ST X CL W a fa)(hb:ST X CL W b fb):SC X CL W Ab (.BinOp a .Add b pos) (fun ρ=>(fa ρ).bind fun x=>(fb ρ).bind fun y=>CV .Add x y):=
 fun A pI s σ H Q I h=>by
  obtain⟨hA,ρ,g,p⟩:=h;exact UM (gM (W:=W) A H) (ha A) (hb A) pI s σ H Q I ⟨hA,ρ,g,Bf.bindF p fun dx x H1 _ s1 r1 p1=>⟨hA.same s1,ρ,g.same s1,Bf.bind (Rq:=DO X.K CL Ab H A) p1 fun dy y H2 _ s2 r2 p2=>⟨s1.trans s2,(hA.same s1).same s2,dx,dy,r1.same s2,r2,p2⟩⟩⟩
def U9(X:Cx)(CL:ClA)(W:XW)(f:Ak)(g:Ac D->R D):Prop:=∀ A H0,JN X f (fun xs H Q=>AH H0 H/\AOk H A/\∃ ds,G8 X.K CL H A xs ds/\Bf (DO X.K CL Ab H0 A) W H (g ds) Q)
theorem jF:U9 X CL W (.type "list") (biD .list):=by
  intro A H0 pI s σ H xs us Q I r ⟨s0,hA,ds,rs,p⟩
  match ds,rs,p with
  |[.lst es],rs,p=>
    obtain⟨v,rfl,rv⟩:=rs.one;obtain⟨q,ys,rfl,sq,ry⟩:=rv.lst_of;exact Q0 pI s σ H _ us Q I r ⟨q,ys,rfl,.inl sq,fun l hl=>p _ _ (F2 hl _) (KY s0 hA hl ry)⟩
  |[.tup es],rs,p=>
    obtain⟨v,rfl,rv⟩:=rs.one;obtain⟨q,ys,rfl,_,sq,ry⟩:=rv.tup_of;exact Q0 pI s σ H _ us Q I r ⟨q,ys,rfl,.inr sq,fun l hl=>p _ _ (F2 hl _) (KY s0 hA hl ry)⟩
  |[],_,p=>exact p.elim
  |[.non],_,p=>exact p.elim
  |[.bl _],_,p=>exact p.elim
  |[.int _],_,p=>exact p.elim
  |[.str _],_,p=>exact p.elim
  |[.obj _ _],_,p=>exact p.elim
  |[.exc _ _],_,p=>exact p.elim
  |[.dic _],_,p=>exact p.elim
  |x::_::_,_,p=>cases x<;>exact p.elim
theorem jR{x:Ai}{g:Ac D->R D}(hc:U9 X CL W (.type T) g)(hg:Gl X x)(hm:X.mg x=Ad)(hv:Dd x=Aa (.type T))(ha:SAT X CL W (e::es) fs)(hn:x≠"__name__")(hdb:(x==("__debug__" : Ai))=Ae)(he:As (e::es) X.env=(Ae,eval e X.env)::As es X.env)(hpl:∀ pos,(Bz pos (As es X.env)).any (·.1)=Ae):SC X CL W Ab (.Call (.Name x p) (e::es) [] pos) (fun ρ=>(fs ρ).bind g):=fun A pI s σ H Q I ⟨hA,ρ,gd,q⟩=>
 Ru (hc A H) hg hm hv (ha A) hn hdb he (hpl _) pI s σ H Q I ⟨hA,ρ,gd,Ia.bindF q fun ds vs H1 _ s1 r1 p1=>⟨s1,hA.same s1,ds,r1,p1⟩⟩
mutual
theorem Qt{K:Fg}{H:Hp}{A:Ah->Prop}(hA:AOk H A):∀(n:Ag)(d:D){v:V},nlD n d=Ab->Rep K CL H A0 v d->Rep K CL H A v d
 |_,.non,_,_,h=>h
 |_,.bl _,_,_,h=>h
 |_,.int _,_,_,h=>h
 |_,.str _,_,_,h=>h
 |0,.tup _,_,hn,_=>by cases hn
 |n+1,.tup ds,_,hn,h=>by
  obtain⟨a,xs,e,_,s,r⟩:=h;refine⟨a,xs,e,?_,s,nls_up hA n ds hn r⟩;rcases s with s|s
  ·refine .inl fun z=>?_
   obtain⟨u,q,⟨ys,rfl⟩|⟨ys,rfl⟩⟩:=hA a z<;>rcases s with s|⟨o,s⟩<;>rw[q]at s<;>cases s
  ·exact .inr s
 |n,.lst _,_,hn,_=>by cases n<;>cases hn
 |n,.obj _ _,_,hn,_=>by cases n<;>cases hn
 |n,.exc _ _,_,hn,_=>by cases n<;>cases hn
 |n,.dic _,_,hn,_=>by cases n<;>cases hn
theorem nls_up{K:Fg}{H:Hp}{A:Ah->Prop}(hA:AOk H A):∀(n:Ag)(ds:Ac D){vs:Ac V},ds.all (nlD n)=Ab->Reps K CL H A0 vs ds->Reps K CL H A vs ds
 |_,[],[],_,h=>h
 |n,d::ds,_::_,hn,h=>by
  simp only[Gi,Aj]at hn;exact⟨Qt hA n d hn.1 h.1,nls_up hA n ds hn.2 h.2⟩
 |_,[],_::_,_,h=>h.elim
 |_,_::_,[],_,h=>h.elim
end
theorem PY{fr:Ao}(hA0:AOk H0 A)(s:AH H0 H)(hc:Ea fr d=Ab)(r:DO K CL fr H0 A0 H v d):DO K CL fr H0 A H v d:=by
 have hA:=hA0.same s;cases d with
 |lst ds=>
  have hc':(fr&&ds.all (nlD 5))=Ab:=hc;rw[Aj]at hc';obtain⟨a,xs,e,h0,h1,rs⟩:=r.2 hc'.1 ds rfl;have hA2:AOk H (fun b=>A b\/b=a):=fun b hb=>hb.elim (hA b) fun e=>by rw[e];exact⟨_,h1,.inl ⟨xs,rfl⟩⟩
  have rs':=nls_up hA2 5 ds hc'.2 (Reps.sub (fun _ z=>z.elim) _ rs)
  refine⟨⟨a,xs,e,.inl (hA0.new h0),SqL.of h1,Reps.sub (fun _ z=>.inl z) _ rs'⟩,fun _ ds' e'=>?_⟩
  cases e';exact⟨a,xs,e,h0,h1,rs'⟩
 |_=>exact⟨Qt hA 5 _ hc r.1,fun _ _ z=>nomatch z⟩
def spD(K:Fg)(CL:ClA)(n:Ag)(fr:Ao)(F:Ac D->R D):Sp:=fun vs H Q E=>∃(ds:Ac D)(A:Ah->Prop),vs.length=n/\AOk H A/\Reps K CL H A vs ds/\(match F ds with
  |.ok d=>∀ v H',AH H H'->DO K CL fr H A H' v d->Q v H'
  |.exn x=>∀ cls dx H',AH H H'->Gs K CL H' cls dx x->E cls dx H'
  | .bad=>AW)
def EKW(K:Fg)(CL:ClA)(A:Ah->Prop)(W:XW):XK:=fun cls dx H'=>∃ x,Gs K CL H' cls dx x/\W x H'
theorem G8.plain{K:Fg}{H:Hp}{A:Ah->Prop}:∀{vs:Ac V}{ds:Ac D},G8 K CL H A vs ds->Reps K CL H A0 vs ds
 |[],[],h=>trivial
 |_::_,_::_,h=>⟨h.1.plain,G8.plain h.2⟩
 |[],_::_,h=>h.elim
 |_::_,[],h=>h.elim
theorem cY{CX:CXT}{k:Ag}{fr:Ao}{f:Ah}{fd:BV}{ps:Ac Ai}{F:Ac D->R D}{x:Ai}{ft:Rho->R (Ac D)}{sh:Rho->Ao}(G:FnOk X.prog X.w X.K X.mg X.base CX k f fd ps (spD X.K CL n fr F))(hr:Room k X.A)(hg:Gl X x)(hm:X.mg x=Aa (.ref f))(hk:B8 X.K (.ref f)=Ab)(hb:F6 X.K fd ps [])(hx:∀ A,Lm CX X (EKW X.K CL A W))(ha:SA X CL W (e::es) fs)(hat:SAT X CL W (e::es) ft)(hst:∀ ρ,sh ρ=Ab->ft ρ=fs ρ)(hn:∀ ρ ds,ft ρ=.ok ds->ds.length=n)(hdb:(x==("__debug__" : Ai))=Ae)(he:As (e::es) X.env=(Ae,eval e X.env)::As es X.env)(hpl:∀ pos,(Bz pos (As es X.env)).any (·.1)=Ae):SC X CL W fr (.Call (.Name x p) (e::es) [] pos) (fun ρ=>(ft ρ).bind fun ds=>(F ds).bind fun d=>if sh ρ=Ab then .ok d else if Ea fr d=Ab then .ok d else .bad):=fun A pI s σ H Q I ⟨hA,ρ,gd,q⟩=>by
 dsimp only at q;by_cases hs:sh ρ=Ab
 ·rw[hst ρ hs]at q;refine Tn G hr hg hm hk hb .nil (hx A) (ha A) hdb he (hpl _) pI s σ H Q I ⟨hA,ρ,gd,?_⟩;cases e1:fs ρ with
  |bad=>rw[e1]at q;exact q
  |exn y=>rw[e1]at q;exact q
  |ok ds=>
   rw[e1]at q;intro vs H1 s1 r1;refine⟨ds,A,by rw[Ca,r1.length];exact hn ρ ds (by rw[hst ρ hs];exact e1),hA.same s1,by rw[Ca];exact r1,?_⟩
   have q':Bf (DO X.K CL fr H A) W H ((F ds).bind fun d=>if sh ρ=Ab then .ok d else if Ea fr d=Ab then .ok d else .bad) Q:=q
   cases e2:F ds with
   |ok d=>
    rw[e2,R.bind_ok,AG hs]at q';exact fun v H2 s2 r2=>q' v H2 (s1.trans s2) ⟨r2.1,fun z ds' e'=>let ⟨a,xs,z1,z2,z3⟩:=r2.2 z ds' e';⟨a,xs,z1,s1.free z2,z3⟩⟩
   |exn y=>rw[e2]at q';exact fun cls dx H2 s2 xr=>⟨y,xr,q' H2 (s1.trans s2)⟩
   |bad=>rw[e2]at q';exact q'.elim
 ·refine Tn G hr hg hm hk hb .nil (hx A0) (hat A) hdb he (hpl _) pI s σ H Q I ⟨hA,ρ,gd,?_⟩;cases e1:ft ρ with
  |bad=>rw[e1]at q;exact q
  |exn y=>rw[e1]at q;exact q
  |ok ds=>
   rw[e1]at q;intro vs H1 s1 r1;refine⟨ds,A0,by rw[Ca,r1.plain.length];exact hn ρ ds e1,fun _ z=>z.elim,by rw[Ca];exact r1.plain,?_⟩
   have q':Bf (DO X.K CL fr H A) W H ((F ds).bind fun d=>if sh ρ=Ab then .ok d else if Ea fr d=Ab then .ok d else .bad) Q:=q
   cases e2:F ds with
   |ok d=>
    rw[e2,R.bind_ok,AI hs]at q';split at q'
    ·rename_i hc;exact fun v H2 s2 r2=>q' v H2 (s1.trans s2) (PY hA (s1.trans s2) hc ⟨r2.1,fun z ds' e'=>let ⟨a,xs,z1,z2,z3⟩:=r2.2 z ds' e';⟨a,xs,z1,s1.free z2,z3⟩⟩)
    ·exact q'.elim
   |exn y=>rw[e2]at q';exact fun cls dx H2 s2 xr=>⟨y,xr,q' H2 (s1.trans s2)⟩
   |bad=>rw[e2]at q';exact q'.elim
end
theorem Oy(env:Cd):∀(ns:Ac (Ai×Ep))(acc:Ac (Ai×Ah)),(∀ x∈ns,x.2=.free->∃ c,env.cells.lookup x.1=Aa c)->(∀ x c,acc.lookup x=Aa c->env.cells.lookup x=Aa c) ->
  ∃ cl,(forIn ns acc fun(x:Ai×Ep)(cs:Ac (Ai×Ah))=>(if (x.2==.free)=Ab then do let c <-cellOf env x.1;pure (EE ((x.1,c)::cs)) else pure (EE cs):Sem (ForInStep (Ac (Ai×Ah)))))=pure cl /\
   (∀ x c,cl.lookup x=Aa c->env.cells.lookup x=Aa c)/\(∀ x,((x,D7)∈ns\/∃ c,acc.lookup x=Aa c)->∃ c,cl.lookup x=Aa c)
 |[],acc,_,h2=>⟨acc,by rw[GY],h2,fun x hx=>hx.elim (fun z=>nomatch z) id⟩
 |(n,k)::r,acc,h1,h2=>by
  rw[Io];by_cases hk:k=.free
  ·subst hk;obtain⟨c,hc⟩:=h1 (n,.free) AE rfl;obtain⟨cl,e,p,q⟩:=Oy env r ((n,c)::acc) (fun x hx=>h1 x (AA _ hx)) (fun x d hd=>by
    rw[Cc]at hd;split at hd
    ·rename_i hx;cases hd;rw[eq_of_beq hx];exact hc
    ·exact h2 x d hd)
   refine⟨cl,?_,p,fun x hx=>q x ?_⟩
   ·have e1:cellOf env n=pure c:=by unfold cellOf;dsimp only at hc;rw[hc]
    rw[AG (by rfl),e1]
    exact e
   ·rcases hx with hx|⟨d,hd⟩
    ·rcases AD.mp hx with z|z
     ·cases z;exact .inr ⟨c,by simp[Cc]⟩
     ·exact .inl z
    ·by_cases hxn:x=n
     ·exact .inr ⟨c,by subst hxn;simp[Cc]⟩
     ·exact .inr ⟨d,by rw[Cc];rw[CI.mpr hxn];exact hd⟩
  ·obtain⟨cl,e,p,q⟩:=Oy env r acc (fun x hx=>h1 x (AA _ hx)) h2
   refine⟨cl,?_,p,fun x hx=>q x ?_⟩
   ·rw[AI (by simpa using hk)]
    exact e
   ·rcases hx with hx|hx
    ·rcases AD.mp hx with z|z
     ·cases z;exact absurd rfl hk
     ·exact .inl z
    ·exact .inr hx
theorem Q8(h:∀ x∈scope.names,x.2=.free->∃ c,env.cells.lookup x.1=Aa c):∃ cl,closureFor scope env=pure cl/\(∀ x c,cl.lookup x=Aa c->env.cells.lookup x=Aa c)/\∀ x,(x,D7)∈scope.names->∃ c,cl.lookup x=Aa c:=by
 obtain⟨cl,e,p,q⟩:=Oy env scope.names [] h (fun x c z=>by simp at z)
 refine⟨cl,?_,p,fun x hx=>q x (.inl hx)⟩
 unfold closureFor
 first
  |exact e
  |(simp only[bind_pure];exact e)
  |(rw[show (forIn scope.names ([]:Ac (Ai×Ah)) _:Sem _)=pure cl from e];rfl)
theorem OE:∀(names:Ac (Ai×Ep))(h:AF)(acc:Ac (Ai×Ah))(x:Ai)(c:Ah),(CQ h.objs.size names acc).lookup x=Aa c->acc.lookup x=Aa c\/((x,BQ)∈names/\h.objs.size<=c/\(Hm h names).IsCell c Ad)
 |[],_,_,_,_,e=>.inl e
 |(n,k)::r,h,acc,x,c,e=>by
  unfold CQ at e;unfold Hm;by_cases hk:(k==BQ)=Ab
  ·rw[AG hk]at e ⊢;have hs:h.objs.size+1=(h.push { cls:=.type "cell", data:=.cell Ad }).objs.size:=(CU ..).symm;rw[hs]at e;rcases OE r _ _ x c e with q|⟨q1,q2,q3⟩
   ·rw[Cc]at q;cases hx:x==n with
    |true=>
     rw[hx]at q;cases q;refine .inr ⟨?_,AU _,?_⟩
     ·rw[eq_of_beq hx,eq_of_beq hk];exact AE
     ·exact⟨_,Iw r _ _ _ (AV _ rfl),rfl⟩
    |false=>rw[hx]at q;exact .inl q
   ·exact .inr ⟨AA _ q1,by omega,q3⟩
  ·rw[AI hk]at e ⊢;rcases OE r h acc x c e with q|⟨q1,q2,q3⟩
   ·exact .inl q
   ·exact .inr ⟨AA _ q1,q2,q3⟩
theorem OF:∀(names:Ac (Ai×Ep))(h:AF)(acc:Ac (Ai×Ah)),(∀ x y c,acc.lookup x=Aa c->acc.lookup y=Aa c->x=y)->(∀ x c,acc.lookup x=Aa c->c<h.objs.size)->∀ x y c,(CQ h.objs.size names acc).lookup x=Aa c->(CQ h.objs.size names acc).lookup y=Aa c->x=y
 |[],_,_,i,_,x,y,c,e1,e2=>i x y c e1 e2
 |(n,k)::r,h,acc,i,b,x,y,c,e1,e2=>by
  unfold CQ at e1 e2;by_cases hk:(k==BQ)=Ab
  ·rw[AG hk]at e1 e2;have hs:h.objs.size+1=(h.push { cls:=.type "cell", data:=.cell Ad }).objs.size:=(CU ..).symm;rw[hs]at e1 e2;have look:∀ z d,Gb z ((n,h.objs.size)::acc)=Aa d->(z=n/\d=h.objs.size)\/(z≠n/\acc.lookup z=Aa d):=fun z d q=>by
    rw[Cc]at q;cases hx:z==n with
    |true=>rw[hx]at q;cases q;exact .inl ⟨eq_of_beq hx,rfl⟩
    |false=>rw[hx]at q;exact .inr ⟨fun e=>by rw[e]at hx;simp at hx,q⟩
   refine OF r _ _ (fun z z' d q q'=>?_) (fun z d q=>?_) x y c e1 e2
   ·rcases look z d q with ⟨rfl,q1⟩|⟨_,q1⟩<;>rcases look z' d q' with ⟨rfl,q2⟩|⟨_,q2⟩
    ·rfl
    ·exact absurd (b _ _ q2) (by rw[q1];exact BF _)
    ·exact absurd (b _ _ q1) (by rw[q2];exact BF _)
    ·exact i _ _ _ q1 q2
   ·rw[<-hs];rcases look z d q with ⟨_,q1⟩|⟨_,q1⟩
    ·rw[q1];exact Wu _
    ·exact ES (b _ _ q1)
  ·rw[AI hk]at e1 e2;exact OF r h acc i b x y c e1 e2
theorem Oz:∀(names:Ac (Ai×Ep))(n:Ag)(acc:Ac (Ai×Ah))(x:Ai),(x,BQ)∉names->(CQ n names acc).lookup x=acc.lookup x
 |[],_,_,_,_=>rfl
 |(m,k)::r,n,acc,x,hx=>by
  unfold CQ;have hr:(x,BQ)∉r:=fun z=>hx (AA _ z)
  by_cases hk:(k==BQ)=Ab
  ·rw[AG hk,Oz r _ _ x hr,Cc];cases q:x==m with
   |true=>exact absurd (by rw[eq_of_beq q,eq_of_beq hk];exact AE) hx
   |false=>rfl
  ·rw[AI hk];exact Oz r n acc x hr
theorem OG(n0:Ag):∀(names:Ac (Ai×Ep))(n:Ag)(acc:Ac (Ai×Ah))(x:Ai),n0<=n->((x,BQ)∈names\/∃ c,acc.lookup x=Aa c/\n0<=c)->∃ c,(CQ n names acc).lookup x=Aa c/\n0<=c
 |[],_,_,_,_,h=>h.elim (fun z=>nomatch z) id
 |(m,k)::r,n,acc,x,hn,h=>by
  unfold CQ;by_cases hk:(k==BQ)=Ab
  ·rw[AG hk];refine OG n0 r _ _ x (by omega) ?_
   by_cases hx:(x==m)=Ab
   ·exact .inr ⟨n,by rw[Cc,hx],hn⟩
   ·rcases h with h|⟨c,h,hc⟩
    ·rcases AD.mp h with z|z
     ·cases z;simp at hx
     ·exact .inl z
    ·exact .inr ⟨c,by rw[Cc];simp only[hx];exact h,hc⟩
  ·rw[AI hk];refine OG n0 r _ _ x hn (h.imp (fun h=>?_) id)
   rcases AD.mp h with z|z
   ·cases z;simp at hk
   ·exact z
theorem Yp{M:He}{A:AY}{E:Vq}{globals:Ah}{qual:Ai}{Q:Cd->Ar->Prop}(hQ:Q (newEnv scope s.heap.objs.size globals (CQ (s.heap.objs.size+1) scope.names cl) qual Ad .none (Aa env) IT) { s with heap:=Hm (s.heap.push { cls:=.type "dict", data:=.dict #[] }) scope.names }):Ax M A (IM scope globals cl [] qual Ad .none (Aa env)) Q E s:=by
 simp only[IM,Option.isSome_some,E7];refine Al (wpAny_alloc ?_);refine Al (wpAny_layCells _ (fun name kind cells=>by cases hkc:kind==BQ<;>simp[hkc]) _ _ _ _ ?_)
 rw[show ({ s with heap:=s.heap.push { cls:=.type "dict", data:=.dict #[] } }:Ar).heap.objs.size=s.heap.objs.size+1 from CU ..]
 rw[GY];exact Al (AC (AC hQ))
noncomputable def cxC(X:Cx)(scope:Co)(cl:Ac (Ai×Ah))(C:Ah)(N':Ac Ai)(s₀:Ar)(H₀:Hp)(fp:Ac Ah):Cx where
 prog:=X.prog
 w:=X.w
 K:=X.K
 mg:=X.mg
 base:=X.base
 A:=X.A
 N:=N'
 s₀:=s₀
 H₀:=H₀
 env:=compEnvC scope cl C X.env
 outer:=X.stack
 stack:=X.stack
 ex:=fp
 fn:=fun x=>scope.names.lookup x==Aa BQ
 calm:=X.calm
 pn:=[]
 xe:=fun _ _=>AW
theorem MR{env:Cd}:∀{names:Ac (Ai×Ep)}{x:Ai}{k:Ep},(names.map fun (n,k)=>if (k==D7&&env.scope.kind==.function&&env.kindOf n==Aa .cell) then (n,BQ) else (n,k)).lookup x=Aa k->names.lookup x=Aa k\/(k=.cell/\names.lookup x=Aa .free)
 |[],_,_,h=>by simp at h
 |(n,j)::r,x,k,h=>by
  have ih:=@MR env r x k;have h':Gb x ((if (j==D7&&env.scope.kind==.function&&env.kindOf n==Aa .cell)=Ab then (n,BQ) else (n,j))::(r.map fun (n,k)=>if (k==D7&&env.scope.kind==.function&&env.kindOf n==Aa .cell) then (n,BQ) else (n,k)))=Aa k:=h
  by_cases hc:(j==D7&&env.scope.kind==.function&&env.kindOf n==Aa .cell)=Ab
  ·rw[AG hc]at h';rw[Cc]at h' ⊢;cases hx:x==n with
   |true=>
    rw[hx]at h';cases h';simp only[Aj]at hc;exact .inr ⟨rfl,by rw[eq_of_beq hc.1.1]⟩
   |false=>rw[hx]at h';exact ih h'
  ·rw[AI hc]at h';rw[Cc]at h' ⊢;cases hx:x==n with
   |true=>rw[hx]at h';exact .inl h'
   |false=>rw[hx]at h';exact ih h'
structure BlockOk (X:Cx) (scope:Co) (N':Ac Ai) (ts:Ac Ag):Prop where
 kind:scope.kind=.function
 uniq:∀ y∈scope.names,scope.names.lookup y.1=Aa y.2
 names:∀ y∈scope.names,y.2=.local->scope.names.lookup y.1=Aa .local
 free:∀ y∈scope.names,y.2=.free->X.env.scope.names.lookup y.1=Aa .cell\/X.env.scope.names.lookup y.1=Aa .free
 len:N'.length=X.N.length
 same:∀ i x,N'[i]?=Aa x->scope.names.lookup x=Aa .free->i∉ts->X.N[i]?=Aa x
 loc:∀ i x,N'[i]?=Aa x->(scope.names.lookup x=Aa .local\/scope.names.lookup x=Aa .cell)->i∈ts
structure BCells (X:Cx) (scope:Co) (cl:Ac (Ai×Ah)) (C:Ah) (h:AF):Prop where
 own:∀ x c,cl.lookup x=Aa c->X.env.cells.lookup x=Aa c\/(scope.names.lookup x=Aa .cell/\C<c/\h.IsCell c Ad)
 inj:∀ x y c,cl.lookup x=Aa c->cl.lookup y=Aa c->x=y
 has:∀ x,scope.names.lookup x=Aa .cell->∃ c,cl.lookup x=Aa c/\C<c
 fr:∀ x,(x,D7)∈scope.names->∃ c,cl.lookup x=Aa c/\X.env.cells.lookup x=Aa c
section
variable{X:Cx}{pI:Pn}{σ:L2.St}{H:Hp}{s:Ar}
noncomputable def hideT(ts:Ac Ag)(σ:L2.St):L2.St:=ts.foldl (fun σ t=>σ.set t Ad) σ
theorem OW:∀(ts:Ac Ag)(σ:L2.St),(hideT ts σ).length=σ.length
 |[],_=>rfl
 |t::ts,σ=>by show (hideT ts (σ.set t Ad)).length=_;rw[OW ts,Bb]
theorem Rk:∀(ts:Ac Ag)(σ:L2.St){i:Ag}{v:V},(hideT ts σ)[i]?=Aa (Aa v)->σ[i]?=Aa (Aa v)/\i∉ts
 |[],_,_,_,h=>⟨h,by simp⟩
 |t::ts,σ,i,v,h=>by
  obtain⟨h1,h2⟩:=Rk ts (σ.set t Ad) (i:=i) (v:=v) h;by_cases e:t=i
  ·subst e;have:=G6 h1;cases this
  ·rw[Cf e]at h1;exact⟨h1,by simp only[AD,FQ];exact⟨fun z=>e z.symm,h2⟩⟩
theorem Yx{tk:Ag}{C:Ah}{m:Ai->An Ak}(I:Inv X pI σ H s)(B:BlockOk X scope N' ts)(hf:∀ b∈fp,Hc X pI H b)(hfo:∀ b∈fp,b<s.heap.objs.size)(hb:BCells X scope cl C h')(hk:∀ b o,s.heap.get? b=Aa o->h'.get? b=Aa o)(hC:s.heap.objs.size<=C)(hn:h'.Ns C m):Inv (cxC X scope cl C N' s H fp) [] (hideT ts σ) H {s with heap:=h',toks:=tk}:=by
 have stf:∀ b∈fp,b∉frs X.stack:=fun b hb z=>by
  rcases AD.mp (I.stkSub b z) with e|e
  ·exact(hf b hb).2.1 e
  ·exact(hf b hb).2.2.1 e
 have frOf:∀ x,((relabel scope X.env).names.lookup x=Aa .cell\/(relabel scope X.env).names.lookup x=Aa .free)->scope.names.lookup x=Aa .free\/scope.names.lookup x=Aa .cell:=fun x hx=>by
  rcases hx with z|z
  ·rcases MR z with z|⟨_,z⟩
   ·exact .inr z
   ·exact .inl z
  ·rcases MR z with z|⟨z,_⟩
   ·exact .inl z
   ·cases z
 have gtC:∀ c:Ah,C<c->s.heap.objs.size<=c:=fun c z=>BU hC (GJ z)
 have cellK:∀ c v,s.heap.IsCell c v->h'.IsCell c v:=fun c v ⟨o,ho,hd⟩=>⟨o,hk _ _ ho,hd⟩
 refine⟨⟨I.ok.mod,B.kind,I.ok.glob,I.ok.blt,hC,hb.inj,fun x hx=>?_,fun x c h e=>?_,I.ok.hd,I.ok.frames,.inl rfl,fun b hbb=>⟨?_,fun x c e=>?_⟩,I.bs,BU I.ok.bsz I.sz,fun b o e hbb=>?_,stf,I.stack,I.stkFree⟩,rfl,I.bare,Un.kept hk,⟨m,hn,fun i x v h1 h2 h3=>?_⟩,fun x c e=>?_,I.hok.fresh hC,fun x c e=>(hb.own x c e).elim (I.freeC x c) (fun z=>I.hok.fresh (gtC c z.2.1)),fun p hp=>absurd (show p∈([]:Pn) from hp) (by simp),I.hok.kept hk,?_⟩
 ·rcases frOf x hx with z|z
  ·obtain⟨c,q,_⟩:=hb.fr x (CF z);exact⟨c,q⟩
  ·obtain⟨c,q,_⟩:=hb.has x z;exact⟨c,q⟩
 ·obtain⟨c',q,z⟩:=hb.has x (eq_of_beq h);have e':cl.lookup x=Aa c:=e;rw[q]at e';cases e';exact gtC _ z
 ·intro z;have z':b=C:=z;have:=hfo b hbb;rw[z']at this;exact absurd (AN this hC) (BF _)
 ·rcases hb.own x c e with z|z
  ·exact(hf b hbb).2.2.2.2.1 x c z
  ·intro q;have:=hfo b hbb;have:=gtC c z.2.1;rw[q]at this;exact absurd ‹b<_› (Ww.mpr this)
 ·rcases (hf b hbb).2.2.2.1 with z|z
  ·exact I.ok.noex b o e z
  ·exact absurd (AN (AQ e) (BU I.ok.bsz z)) (BF _)
 ·obtain⟨h2,hts⟩:=Rk ts σ h2;have h3':(relabel scope X.env).names.lookup x=Aa .local\/(relabel scope X.env).names.lookup x=Aa .cell\/(relabel scope X.env).names.lookup x=Aa .free:=h3;have h1':N'[i]?=Aa x:=h1;rcases h3' with z|z
  ·rcases MR z with z|⟨z,_⟩
   ·exact absurd (B.loc i x h1' (.inl z)) hts
   ·cases z
  ·have fr:=(frOf x z).resolve_right fun q=>hts (B.loc i x h1' (.inr q))
   have hm:=CF fr;have hX:=B.same i x h1' fr hts;obtain⟨m0,hn0,hl0⟩:=I.loc;obtain⟨u,ru,lk⟩:=hl0 i x v hX h2 (by
    rcases B.free _ hm rfl with q|q
    ·exact .inr (.inl q)
    ·exact .inr (.inr q))
   refine⟨u,ru,?_⟩;obtain⟨c,hc,hcX⟩:=hb.fr x hm;rcases lk with ⟨q,_⟩|⟨_,c',hc',hcell⟩
   ·have q':X.env.scope.names.lookup x=Aa .local:=q;rcases B.free _ hm rfl with p|p
    ·rw[show X.env.scope.names.lookup x=_ from p]at q';cases q'
    ·rw[show X.env.scope.names.lookup x=_ from p]at q';cases q'
   ·have e:=hcX;rw[hc']at e;cases e;exact .inr ⟨z,c,hc,cellK _ _ hcell⟩
 ·rcases hb.own x c e with z|z
  ·obtain⟨v,q⟩:=I.cell x c z;exact⟨v,cellK _ _ q⟩
  ·exact⟨_,z.2.2⟩
 ·show (hideT ts σ).length=N'.length;rw[OW,I.len,B.len]
theorem RN{C D:Ah}{s':Ar}{σ':L2.St}{pins':Pn}{h'':AF}{ys:Ac Ak}(I:Inv X pI σ H s)(hf:∀ b∈fp,Hc X pI H b)(I':Inv (cxC X scope cl C N' s H fp) pins' σ' H' s')(hD:s.heap.objs.size<=D)(hDC:D≠C)(hC:s.heap.objs.size<=C)(hd:s'.heap.get? D=Aa { cls:=.type "list", data:=.seq ys.toArray n })(hDn:H' D=Ad)(rv:Bc xs ys)(hz:xs.length<=sizeLine)(hs:DU C s'.heap h''):Inv X pI σ (upd H' D (.lst xs)) {s' with heap:=h''}:=by
  have u:Un (frs X.stack) fp H H' s.heap s'.heap:=I'.base;have lt:∀ b o,s.heap.get? b=Aa o->b≠C/\b≠D:=fun b o e=>⟨fun z=>absurd (AN (AQ e) (z ▸ hC)) (BF _),fun z=>absurd (AN (AQ e) (z ▸ hD)) (BF _)⟩
  have HD:H D=Ad:=I.hok.fresh hD;have hCn:H' C=Ad:=I'.free;have kb:∀ b o,b≠C->s'.heap.get? b=Aa o->h''.get? b=Aa o:=fun b o hb e=>(hs.2 b hb).trans e
  have u2:Un (frs X.stack) fp H (upd H' D (.lst xs)) s.heap h'':=⟨fun b o e q hb hx=>kb b o (lt b o e).1 (u.keep b o e q hb hx),fun b o e q hb hx=>by
      obtain⟨sl,e1⟩:=u.slot b o e q hb hx;exact⟨sl,kb b _ (lt b o e).1 e1⟩,fun b o e q hx=>by rw[BG (lt b o e).2];exact u.free b o e q hx,fun b o e hx=>by
      obtain⟨o',e1⟩:=u.there b o e hx;exact⟨o',kb b _ (lt b o e).1 e1⟩,fun b zs q=>by rw[BG (F3 q HD)];exact u.tups b zs q,fun b o zs q=>by rw[BG (F3 q HD)];exact u.frzs b o zs q,fun b ps q=>by rw[BG (F3 q HD)];exact u.tbls b ps q⟩
  have hok:HOk X.prog X.w (upd H' D (.lst xs)) h'':=fun b o e=>by
    by_cases hb:b=D
    · subst hb;rw[FL]at e;cases e;exact⟨hz,ys,n,rv,kb _ _ hDC hd⟩
    · rw[BG hb]at e;refine(I'.hok b o e).stay (fun c v hc q=>kb c v ?_ q) (fun c q=>by rw[BG (F3 q hDn)];exact q) fun c zs q=>by rw[BG (F3 q hDn)];exact q
      rcases hc with rfl|hc
      · exact F3 e hCn
      · exact F3 hc hCn
  exact I.call' (s':={s' with heap:=h''}) (ch:=fp) I'.os u2 hok I'.bare fun b hb=>⟨(hf b hb).2.2.2.1,(hf b hb).2.1,(hf b hb).2.2.2.2.1,(hf b hb).2.2.2.2.2⟩
end
def PTs(X:Cx)(ifs:Ac Ap)(tt:TT):Prop:=∀(pI:Pn)(s:Ar)(σ:L2.St)(H:Hp)(Q:Ao->Hp->Prop),Inv X pI σ H s->tt σ H Q ->
 Ax (model X.prog X.w) X.A (forIn ifs Ab fun c r=>if r=Ab then do let ok <-IL c X.env (eval c X.env);pure (EE ok) else pure (EE r)) (TP X pI σ Q) X.xe s
theorem cP:PTs X [] (fun σ H Q=>Q Ab H):=fun pI s σ H Q I h=>wpAny_tests_nil ⟨H,I,h⟩
theorem cO{t:TT}(h:PT X c t):PTs X [c] t:=fun pI s σ H Q I q=>wpAny_tests_one (h pI s σ H Q I q)
theorem Y1{D:Ah}{ys:Ac Ak}{E:Vq}{Q:Vq}(I:Inv X ((D,{ cls:=.type "list", data:=.seq ys.toArray n })::pI) σ H s)(hD:X.s₀.heap.objs.size<=D)(hp:∀ p∈X.pn++pI,p.1≠D)(hc:∀ x c,X.env.cells.lookup x=Aa c->c≠D)(hz:ys.length<=sizeLine)(h:∀ s',Inv X ((D,{ cls:=.type "list", data:=.seq (ys++[y]).toArray (n+1) })::pI) σ H s'->(∀ b o,b≠D->s.heap.get? b=Aa o->s'.heap.get? b=Aa o)->Q .none s'):Ax (model X.prog X.w) X.A (call (.builtin "list.append") [.ref D,y]) Q E s:=by
 obtain⟨e,hn,hL,hfs,_⟩:=I.pin (D,{ cls:=.type "list", data:=.seq ys.toArray n }) (Br _ AE);refine append_at (hsz:=by rw[AM];exact hz) e fun h' hs hd=>?_
 have hd':h'.get? D=Aa { cls:=.type "list", data:=.seq (ys++[y]).toArray (n+1) }:=by rw[hd];simp
 have kb:∀ b o,b≠D->s.heap.get? b=Aa o->h'.get? b=Aa o:=fun b o hb q=>(hs.2 b hb).trans q
 have I0:Inv X pI σ H s:=I.pins_of fun p hp=>I.pin p (Br _ (AA _ hp))
 have I1:Inv X pI σ H {s with heap:=h'}:=I0.turned (t':=s.toks) kb hn hL (.inr hD) hc hp
 refine h _ (I1.pins_of fun p hp=>?_) kb
 rcases AD.mp hp with rfl|hp
 ·exact⟨hd',hn,hL,hfs,fun v z=>by
   have z':LR _ _=LJ v:=z;cases z'⟩
 ·exact I1.pin p (Br _ hp)
section
variable{prog:AS}{w:AB}{A:AY}{R:Js->Ar->Prop}{s:Ar}
theorem Yw{target:Ap}{it acc:Ak}(I:Ag->Ar->Prop)(turn:∀ n s,I n s->Ax (model prog w) A (IP it) (fun r s₁=>match r with
      |none=>R (.ok .next) s₁
      | some v=>Ax (model prog w) A (GP target it v) (fun _ s₁'=>Ax (model prog w) A (assign target env v) (fun _ s₂=>
          Ax (model prog w) A (forIn ifs Ab fun c r=>if r=Ab then do let ok <-IL c env (eval c env);pure (EE ok) else pure (EE r)) (fun ok s₃=>
            if ok=Ab then Ax (model prog w) A (eval elt env) (fun x s₄=>
              Ax (model prog w) A (call (.builtin "list.append") [acc,x]) (fun _ s₅=>∃ m,m<n/\I m s₅) (IN (model prog w) A env fun e s'=>R (.error e) s') s₄) (IN (model prog w) A env fun e s'=>R (.error e) s') s₃
            else ∃ m,m<n/\I m s₃) (IN (model prog w) A env fun e s'=>R (.error e) s') s₂) (IN (model prog w) A env fun e s'=>R (.error e) s') s₁') (IN (model prog w) A env fun e s'=>R (.error e) s') s₁) (IN (model prog w) A env fun e s'=>R (.error e) s') s)(n:Ag)(h:I n s):FU (model prog w) A (.compLoop (.ListComp elt [⟨target,iter,ifs,0⟩] scope pos) 0 it acc env) R s:=by
  refine codeAny_loop rfl I (fun n s hI=>?_) n h
  show Ax _ A ((compTurn (.ListComp elt [⟨target,iter,ifs,0⟩] scope pos) 0 it acc env).onRaise (fun x=>do Hl x env;theTreesLotGoes x)) _ _ s
  refine wpAny_noted ?_;rw[compTurn_list];refine Al (D8 (Al (Bl (turn n s hI) (fun r s₁ h₁=>?_) fun _ _ h'=>h')))
  cases r with
  |none=>exact AC h₁
  |some v=>
    refine Al (Bl h₁ (fun _ s₁' h₁'=>?_) fun _ _ h'=>h')
    refine Al (Bl h₁' (fun _ s₂ h₂=>Al (Bl h₂ (fun ok s₃ h₃=>?_) fun _ _ h'=>h')) fun _ _ h'=>h')
    cases ok with
    |false=>exact AC ⟨rfl,h₃⟩
    |true=>
      exact Al (Al (Bl h₃ (fun x s₄ h₄=>Al (Bl h₄ (fun _ s₅ h₅=>AC (AC ⟨rfl,h₅⟩)) fun _ _ h'=>h')) fun _ _ h'=>h'))
end
def Mi(J:It)(ts:Ac Ag)(g:TG)(tt:TT)(te:TE)(σ:L2.St)(H:Hp)(Q:VK):Prop:=∃ W:Ag->Ag->Ac V->L2.St->Hp->Prop,(∃ m,W 0 m [] (hideT ts σ) H)/\∀ i m xs σ H,W i m xs σ H ->
 (J.stop i H/\∀ p,H p=Ad->Q (.ref p) (upd H p (.lst xs))) \/
 (J.go i H/\xs.length<sizeLine/\∀ x H',J.yld i H x H'->g x σ H' fun σ2 H2=>tt σ2 H2 fun b H3=>if b=Ab then te σ2 H3 fun y H4=>∃ m',m'<m/\W (i+1) m' (xs++[y]) σ2 H4 else ∃ m',m'<m/\W (i+1) m' xs σ2 H3)
theorem R4{g:TG}{it:Ah}{tn:Ag->AF->Prop}{E:Vq}{RR:Ak->Ah->Js->Ar->Prop}(hc:X.calm=Ab)(B:BlockOk X scope N' ts)(I:Inv X pI σ H s)(T:Turn X.prog X.w X.K tg J fp it tn)(st:tn 0 s.heap)(hf:∀ b∈fp,Hc X pI H b)(hcl:∀ x c,cl.lookup x=Aa c->X.env.cells.lookup x=Aa c)(hcl2:∀ x,(x,D7)∈scope.names->∃ c,cl.lookup x=Aa c)(hg:∀ cl C s H,PG (cxC X scope cl C N' s H fp) tg g)(ht:∀ cl C s H,PTs (cxC X scope cl C N' s H fp) ifs tt)(he:∀ cl C s H,PE (cxC X scope cl C N' s H fp) elt te)(h:Mi J ts g tt te σ H Q)(hRR:∀ cl D C s' H' σ' pins' xs ys n m,Inv (cxC X scope cl C N' s H fp) pins' σ' H' s'->s'.heap.get? D=Aa { cls:=.type "list", data:=.seq (FF ys) n }->H' D=Ad->Bc xs ys->xs.length<=sizeLine->s.heap.objs.size<=D->D≠C->s.heap.objs.size<=C->s'.heap.Ns C m->Q (.ref D) (upd H' D (.lst xs))->RR (.ref D) C (.ok .next) s'):Ax (model X.prog X.w) X.A (newList []) (fun acc s₃=>Ax (model X.prog X.w) X.A (IM scope X.env.globals cl [] X.env.qual Ad .none (Aa X.env)) (fun cenv s₄=>FU (model X.prog X.w) X.A (.compStart (.ListComp elt [⟨tg,iter,ifs,0⟩] scope pos) 0 (.ref it) acc {cenv with scope:=relabel scope X.env}) (RR acc cenv.locals) s₄) E s₃) E s:=by
 refine C1 (Yp ?_);dsimp only;generalize hH2:s.heap.push { cls:=.type "list", dict:=Ad,data:=.seq ([]:Ac Ak).toArray }=H2;have hns₁:(Hm (H2.push { cls:=.type "dict", data:=.dict #[] }) scope.names).Ns H2.objs.size (fun _=>Ad):=(Heap.Ns.new H2 (.type "dict")).keeps (Iw _ _)
 have hkp₁:∀ b o,H2.get? b=Aa o->(Hm (H2.push { cls:=.type "dict", data:=.dict #[] }) scope.names).get? b=Aa o:=fun b o e=>Iw _ _ b o (Au _ e)
 have hown:=OE scope.names (H2.push { cls:=.type "dict", data:=.dict #[] }) cl;have hinj:=OF scope.names (H2.push { cls:=.type "dict", data:=.dict #[] }) cl;rw[CU]at hown hinj;generalize hcl':CQ (H2.objs.size+1) scope.names cl=cl' at hown hinj;have hcf:∀ x,(x,BQ)∉scope.names->cl'.lookup x=cl.lookup x:=fun x hx=>by rw[<-hcl'];exact Oz _ _ _ x hx
 have hch:∀ x,(x,BQ)∈scope.names->∃ c,cl'.lookup x=Aa c/\H2.objs.size+1<=c:=fun x hx=>by rw[<-hcl'];exact OG _ _ _ _ x (AU _) (.inl hx)
 generalize hh₁:Hm (H2.push { cls:=.type "dict", data:=.dict #[] }) scope.names=h₁ at hns₁ hkp₁ hown;have hC:H2.objs.size=s.heap.objs.size+1:=by rw[<-hH2,CU]
 have hCle:s.heap.objs.size<=H2.objs.size:=by rw[hC];exact Wt _
 have hDC:s.heap.objs.size≠H2.objs.size:=by rw[hC];exact Bo (Wu _)
 have below:∀ b,b<s.heap.objs.size->b≠H2.objs.size:=fun b hb=>by rw[hC];exact Bo (ES hb)
 have old:∀ b o,s.heap.get? b=Aa o->h₁.get? b=Aa o:=fun b o e=>hkp₁ b o (hH2 ▸ Au _ e)
 have hacc:h₁.get? s.heap.objs.size=Aa { cls:=.type "list", data:=.seq ([]:Ac Ak).toArray 0 }:=hkp₁ _ _ (hH2 ▸ AV _ rfl);have clt:∀ x c,cl.lookup x=Aa c->c<s.heap.objs.size:=fun x c e=>by
  obtain⟨v,q⟩:=I.cell x c (hcl x c e);exact q.lt
 have bc:BCells X scope cl' H2.objs.size h₁:=by
  refine⟨fun x c e=>?_,hinj (fun x y c e1 e2=>I.ok.inj x y c (hcl x c e1) (hcl y c e2)) (fun x c e=>ES (AN (clt x c e) hCle)),fun x hx=>?_,fun x hx=>?_⟩
  ·rcases hown x c e with q|⟨q1,q2,q3⟩
   ·exact .inl (hcl x c q)
   ·exact .inr ⟨B.uniq _ q1,q2,q3⟩
  ·have hm:=CF hx;obtain⟨c,e,hc⟩:=hch x hm;exact⟨c,e,hc⟩
  ·have hno:(x,BQ)∉scope.names:=fun z=>by
    have e1:=B.uniq _ hx;have e2:=B.uniq _ z;rw[show scope.names.lookup x=_ from e1]at e2
    cases e2
   obtain⟨c,e⟩:=hcl2 x hx;exact⟨c,by rw[hcf x hno];exact e,hcl x c e⟩
 have hfo:∀ b∈fp,b<s.heap.objs.size:=fun b hb=>by
  obtain⟨o,e,_⟩:=T.obj 0 _ st b hb;exact AQ e
 generalize hD:s.heap.objs.size=D at *;generalize hC':H2.objs.size=C at *;have I0:Inv (cxC X scope cl' C N' s H fp) [] (hideT ts σ) H {s with heap:=h₁,toks:=s.toks+([]:Ac (Ai×Ak)).length}:=Yx (tk:=s.toks+([]:Ac (Ai×Ak)).length) I B hf (fun b hb=>by rw[hD];exact hfo b hb) bc old (by rw[hD];exact hCle) hns₁
 have nD:H D=Ad:=I.hok.fresh (by rw[hD];exact AU _)
 have noD:∀ b∈fp,b≠D:=fun b hb=>Bo (hfo b hb)
 have noC:∀ b∈fp,b≠C:=fun b hb=>below b (hfo b hb)
 have stfs:D∉frs X.stack:=fun z=>by
  obtain⟨_,o,ho,_⟩:=I.stack.mem z;exact absurd (AQ ho) (by rw[hD];exact BF _)
 have cD:∀ x c,cl'.lookup x=Aa c->c≠D:=fun x c e z=>by
  rcases bc.own x c e with q|⟨_,q,_⟩
  ·obtain⟨v,q⟩:=I.cell x c q;exact absurd q.lt (by rw[z,hD];exact BF _)
  ·rw[z]at q;exact absurd (AN q hCle) (BF _)
 have I1:Inv (cxC X scope cl' C N' s H fp) [(D,{ cls:=.type "list", data:=.seq ([]:Ac Ak).toArray 0 })] (hideT ts σ) H {s with heap:=h₁,toks:=s.toks+([]:Ac (Ai×Ak)).length}:=I0.pins_of fun p hp=>by
  have e:=Bv.mp hp;subst e;exact⟨hacc,nD,hDC,stfs,fun v z=>by
   have z':LR _ _=LJ v:=z;cases z'⟩
 have st1:tn 0 h₁:=T.keep _ _ _ st fun b _ o e=>old b o e
 obtain⟨W,⟨m0,w0⟩,turn⟩:=h;have fpk:∀{pl:Pn}{H':Hp},(∀ p∈pl,p.1=D)->(∀ b∈fp,H' b=Ad)->∀ b∈fp,Hc (cxC X scope cl' C N' s H fp) pl H' b:=fun {pl H'} hp hn b hb=>
  ⟨hn b hb,noC b hb,fun z=>by
   rcases AD.mp (I.stkSub b z) with e|e
   ·exact(hf b hb).2.1 e
   ·exact(hf b hb).2.2.1 e,.inl hb,fun x c e=>(bc.own x c e).elim ((hf b hb).2.2.2.2.1 x c) (fun z q=>absurd (FG hCle z.2.1) (Ww.mpr (by rw[q];exact GJ (hfo b hb)))),fun p hp'=>by
   have hp2:p∈pl:=hp';rw[hp p hp2];exact(noD b hb).symm⟩
 have loop:∀ s₃:Ar,s₃={s with heap:=h₁,toks:=s.toks+([]:Ac (Ai×Ak)).length} ->
   FU (model X.prog X.w) X.A (.compLoop (.ListComp elt [⟨tg,iter,ifs,0⟩] scope pos) 0 (.ref it) (.ref D) (compEnvC scope cl' C X.env)) (RR (.ref D) C) s₃:=by
  rintro s₃ rfl;refine Yw (fun k s'=>∃ i σ' H' xs ys n,Inv (cxC X scope cl' C N' s H fp) [(D,{ cls:=.type "list", data:=.seq (FF ys) n })] σ' H' s'/\tn i s'.heap/\(∀ b∈fp,H' b=Ad)/\Bc xs ys/\xs.length<=sizeLine/\W i k xs σ' H') ?_ m0
   ⟨0,_,H,[],[],0,I1,st1,fun b hb=>(hf b hb).1,.nil,Hd _,w0⟩
  rintro k s' ⟨i,σ',H',xs,ys,n,I',st',fr',rv,hz,w'⟩;have one:∀ p∈[((D,{ cls:=.type "list", data:=.seq (FF ys) n }):Ah×Dl)],p.1=D:=fun p hp=>by rw[Bv.mp hp]
  rcases turn i k xs σ' H' w' with ⟨stop,q⟩|⟨go,hlt,step⟩
  ·refine Bl (T.done (cxC X scope cl' C N' s H fp) rfl rfl rfl hc i _ s' σ' H' (fun _ _=>AW) I' (fpk one fr') st' stop) (fun r s1 ⟨hr,J1⟩=>?_) fun _ _ f=>f.elim
   subst hr;obtain⟨e,hn,_⟩:=J1.pin _ (Br _ AE);obtain⟨m,hm,_⟩:=J1.loc;exact hRR cl' D C s1 H' σ' _ xs ys n m J1 e hn rv hz (AU _) hDC hCle hm (q D hn)
  ·refine Bl (T.item (cxC X scope cl' C N' s H fp) rfl rfl rfl hc i _ s' σ' H' (fun _ _=>AW) I' (fpk one fr') st' go) (fun r s1 ⟨u,hr,h4⟩=>?_) fun _ _ f=>f.elim
   subst hr;refine Bl h4 (fun _ s5 ⟨x,H5,I5,r5,y5,st5,fr5⟩=>?_) fun _ _ f=>f.elim
   have I5':=I5.pinned (fpk one fr5) (T.obj _ _ st5);refine Bl (hg cl' C s H _ s5 σ' H5 x u _ I5' r5 (step x H5 y5)) (fun _ s6 ⟨σ6,H6,I6,q6⟩=>?_) fun _ _ f=>f.elim
   refine Bl (ht cl' C s H _ s6 σ6 H6 _ I6 q6) (fun ok s7 ⟨H7,I7,q7⟩=>?_) fun _ _ f=>f.elim
   have again:∀{s8:Ar}{H8:Hp}{ys':Ac Ak}{n':Ag},Inv (cxC X scope cl' C N' s H fp) ((D,{ cls:=.type "list", data:=.seq (FF ys') n' })::Kl fp s5.heap) σ6 H8 s8->Inv (cxC X scope cl' C N' s H fp) [(D,{ cls:=.type "list", data:=.seq (FF ys') n' })] σ6 H8 s8/\tn (i+1) s8.heap/\∀ b∈fp,H8 b=Ad:=fun {s8 H8 ys' n'} I8=>
    ⟨I8.pins_of fun p hp=>I8.pin p (Br _ (by rw[Bv.mp hp];exact AE)),T.keep _ _ _ st5 fun b hb o e=>(I8.pin (b,o) (Br _ (AA _ (M3 hb e)))).1,fun b hb=>by
     obtain⟨o,e,d⟩:=T.obj _ _ st5 b hb;exact(I8.pin (b,o) (Br _ (AA _ (M3 hb e)))).2.1⟩
   cases ok with
   |false=>
    rw[AI (by decide)]at q7
    obtain⟨m',hm,w7⟩:=q7;obtain⟨a1,a2,a3⟩:=again I7;rw[AI (by decide)]
    exact⟨m',hm,i+1,σ6,H7,xs,ys,n,a1,a2,a3,rv,hz,w7⟩
   |true=>
    rw[AG rfl]at q7;rw[AG rfl];refine Bl (he cl' C s H _ s7 σ6 H7 _ I7 q7) (fun val s8 ⟨y,H8,I8,r8,m',hm,w8⟩=>?_) fun _ _ f=>f.elim
    have hl:=rv.length;refine Y1 (X:=cxC X scope cl' C N' s H fp) (ys:=ys) (n:=n) (pI:=Kl fp s5.heap) I8 (by show s.heap.objs.size<=D;rw[hD];exact AU _) (fun p hp=>?_) cD (by omega) fun s9 I9 kb=>?_
    ·have hp2:p∈Kl fp s5.heap:=hp;exact noD _ (Re hp2).1
    ·obtain⟨a1,a2,a3⟩:=again I9;exact⟨m',hm,i+1,σ6,H8,xs++[y],ys++[val],n+1,a1,a2,a3,rv.append (.cons r8 .nil),by rw[Bu];exact hlt,w8⟩
 exact codeAny_compStart_list (loop _ rfl) (T.self _ 0 _ _ _ st1 (loop _ rfl))
theorem gA{g:TG}(hc:X.calm=Ab)(B:BlockOk X scope N' ts)(hi:PI X tg iter wi)(hg:∀ cl C s H fp,PG (cxC X scope cl C N' s H fp) tg g)(ht:∀ cl C s H fp,PTs (cxC X scope cl C N' s H fp) ifs tt)(he:∀ cl C s H fp,PE (cxC X scope cl C N' s H fp) elt te)(hs:∀ x,CZ iter X.env x=pure x):PE X (.ListComp elt [⟨tg,iter,ifs,0⟩] scope pos) (fun σ H Q=>wi σ H fun J H1=>Mi J ts g tt te σ H1 Q):=by
 intro pI s σ H Q I h;obtain⟨cl,hclos,hcl,hcl2⟩:=Q8 (scope:=scope) (env:=X.env) fun x hx hk=>I.ok.has x.1 ((B.free x hx hk).imp id id)
 rw[eval_ListComp];refine Xs (use:=Ad) rfl hs hclos B.kind B.names (thn (hi pI s σ H _ I h) fun v s1 h1=>thn h1 fun itv s2 h2=>?_)
 obtain⟨it,fp,tn,J,H2,e,I2,T,st2,f2,h3⟩:=h2;subst e;refine R4 (RR:=fun acc C=>compPost (model X.prog X.w) X.A X.xe Ad (EP X pI σ Q) acc C) hc B I2 T st2 f2 hcl hcl2 (fun cl C s H=>hg cl C s H fp) (fun cl C s H=>ht cl C s H fp) (fun cl C s H=>he cl C s H fp) h3 fun cl' D C s' H' σ' pins' xs ys n m I' hd hDn rv hz hD hDC hC hm q=>?_
 exact⟨m,hm,fun h'' hs''=>⟨.ref D,_,RN I2 f2 I' hD hDC hC hd hDn rv hz hs'',rfl,q⟩⟩
theorem cT{n:Ai}{g:TG}(hc:X.calm=Ab)(B:BlockOk X scope N' ts)(hi:PI X tg iter wi)(hg:∀ cl C s H fp,PG (cxC X scope cl C N' s H fp) tg g)(ht:∀ cl C s H fp,PTs (cxC X scope cl C N' s H fp) ifs tt)(he:∀ cl C s H fp,PE (cxC X scope cl C N' s H fp) elt te)(hs:∀ x,CZ iter X.env x=pure x)(hN:X.N.Nodup)(hni:X.N[i]?=Aa n)(hx:X.env.scope.names.lookup n=Aa .local)(hsw:Cn (.ListComp elt [⟨tg,iter,ifs,0⟩] scope pos) (Aa (.Name n pos')) pos2.line X.env=pure Ab):PS X (.Assign [.Name n pos'] (.ListComp elt [⟨tg,iter,ifs,0⟩] scope pos) pos2) (NY (fun σ H Q=>wi σ H fun J H1=>Mi J ts g tt te σ H1 Q) (Fv i)):=by
 intro pI s σ H Dn I h;obtain⟨cl,hclos,hcl,hcl2⟩:=Q8 (scope:=scope) (env:=X.env) fun x hx hk=>I.ok.has x.1 ((B.free x hx hk).imp id id)
 rw[exec_Assign_Name_used _ _ _ _ hsw];refine Al (D8 (Al ?_));show Ax _ X.A (do let _ <-comprehension (.ListComp elt [⟨tg,iter,ifs,0⟩] scope pos) scope X.env _ (newList []) Ae (eval iter X.env) (Aa (assign (.Name n pos') X.env))) _ _ s
 refine Al (Bl (Xs (use:=Aa (assign (.Name n pos') X.env)) (Q:=fun _ s'=>SP X pI Dn .next s') rfl hs hclos B.kind B.names
  (thn (hi pI s σ H _ I h) fun v s1 h1=>thn h1 fun itv s2 h2=>?_)) (fun _ s' hq=>AC (AC hq)) fun _ _ e=>e)
 obtain⟨it,fp,tn,J,H2,e,I2,T,st2,f2,h3⟩:=h2;subst e;refine R4 (RR:=fun acc C=>compPost (model X.prog X.w) X.A X.xe (Aa (assign (.Name n pos') X.env)) (fun _ s'=>SP X pI Dn .next s') acc C) hc B I2 T st2 f2 hcl hcl2 (fun cl C s H=>hg cl C s H fp) (fun cl C s H=>ht cl C s H fp) (fun cl C s H=>he cl C s H fp) h3 fun cl' D C s' H' σ' pins' xs ys n' m I' hd hDn rv hz hD hDC hC hm q=>?_
 have J0:Inv X pI σ (upd H' D (.lst xs)) s':=RN I2 f2 I' hD hDC hC hd hDn rv hz (WY ..);refine Xr (Ro J0 hN hni (.inl hx) (show Bx (.ref D) (.ref D) from rfl) (fun s'' J1 ⟨a,sb,ha⟩=>?_) (.inr hx))
 have hC0:X.s₀.heap.objs.size<=C:=BU I2.sz hC;have hL:C≠X.env.locals:=fun z=>absurd (AN I2.lt (z ▸ hC)) (BF _)
 have hcC:∀ x c,X.env.cells.lookup x=Aa c->c≠C:=fun x c e z=>by
  obtain⟨v,q'⟩:=I2.cell x c e;exact absurd (AN q'.lt (by rw[z];exact hC)) (BF _)
 have hp:∀ p∈X.pn++pI,p.1≠C:=fun p hp z=>absurd (AN (AQ (I2.pin p hp).1) (by rw[z];exact hC)) (BF _)
 have hCn:upd H' D (.lst xs) C=Ad:=by rw[BG hDC.symm];exact I'.free
 have hCa:C≠a:=by
  rcases ha with rfl|ha
  ·exact hL
  ·exact fun z=>hcC n a ha z.symm
 refine⟨m,hm.sameBut sb hCa,fun h'' hs''=>⟨_,_,J1.turned (t':=s''.toks) (fun b o hb e=>(hs''.2 b hb).trans e) hCn hL (.inr hC0) hcC hp,q⟩⟩
theorem KS:∀(ts:Ac Ag)(ρ:Rho)(j:Ag),(FN ts ρ)[j]?=if j∈ts then (ρ[j]?).map (fun _=>Ad) else ρ[j]?
 |[],ρ,j=>by simp[FN]
 |t::ts,ρ,j=>by
  show (FN ts (ρ.set t Ad))[j]?=_;rw[KS ts];by_cases h1:j∈ts
  ·rw[AG h1,AG (AA _ h1)];by_cases h2:t=j
   ·subst h2;rw[FW];cases ρ[t]?<;>rfl
   ·rw[Cf h2]
  ·rw[AI h1];by_cases h2:t=j
   ·subst h2;rw[AG AE,FW];cases ρ[t]?<;>rfl
   ·rw[Cf h2,AI (by simp only[AD,FQ];exact⟨fun z=>h2 z.symm,h1⟩)]
theorem Ng:∀(ts:Ac Ag)(ρ:Rho),(FN ts ρ).length=ρ.length
 |[],_=>rfl
 |t::ts,ρ=>by show (FN ts (ρ.set t Ad)).length=_;rw[Ng ts,Bb]
theorem OD:∀(ts:Ac Ag)(σ:L2.St){i:Ag},i∉ts->(hideT ts σ)[i]?=σ[i]?
 |[],_,_,_=>rfl
 |t::ts,σ,i,h=>by
  simp only[AD,FQ]at h;show (hideT ts (σ.set t Ad))[i]?=_;rw[OD ts _ h.2,Cf (fun z=>h.1 z.symm)]
theorem QZ:∀(ts:Ac Ag)(ds:Ac D)(ρ1 ρ2:Rho),ρ1.length=ρ2.length->(∀ j,j∉ts->ρ1[j]?=ρ2[j]?)->DX ts ds ρ1=DX ts ds ρ2
 |[],[],ρ1,ρ2,hl,h=>congrArg Aa (Wd fun j=>h j (by simp))
 |[],_::_,_,_,_,_=>rfl
 |_::_,[],_,_,_,_=>rfl
 |t::ts,d::ds,ρ1,ρ2,hl,h=>by
  refine QZ ts ds _ _ (by rw[Bb,Bb];exact hl) fun j hj=>?_
  by_cases e:t=j
  ·subst e;rw[Hx,Hx,AG rfl,AG rfl,hl]
  ·rw[Cf e,Cf e];exact h j (by simp only[AD,FQ];exact⟨fun z=>e z.symm,hj⟩)
theorem Ra:∀(ts us:Ac Ag)(ds:Ac D)(ρ ρ':Rho),(∀ t∈ts,t∈us)->DX ts ds ρ=Aa ρ'->FN us ρ'=FN us ρ
 |[],us,[],ρ,ρ',_,e=>by cases e;rfl
 |t::ts,us,d::ds,ρ,ρ',hs,e=>by
  rw[Ra ts us ds _ ρ' (fun u hu=>hs u (AA _ hu)) e]
  refine Wd fun j=>?_
  rw[KS,KS];by_cases h:j∈us
  ·rw[AG h,AG h,Hx];split
   ·rename_i e2;subst e2;split
    ·rename_i h3;rw[B0 h3];rfl
    ·rename_i h3;rw[List.getElem?_eq_none (by omega)]
   ·rfl
  ·rw[AI h,AI h,Cf];rintro rfl;exact h (hs _ AE)
 |[],_,_::_,_,_,_,e=>by cases e
 |_::_,_,[],_,_,_,e=>by cases e
section
variable{K:Fg}{CL:ClA}{A:Ah->Prop}{ρ ρ':Rho}{σ:L2.St}{H:Hp}
theorem Good.less(g:Good K CL A ρ σ H)(hl:ρ'.length=ρ.length)(h:∀(i:Ag)(d:D)(o:Ao),ρ'[i]?=Aa (Aa (d,o))->ρ[i]?=Aa (Aa (d,o))):Good K CL A ρ' σ H:=⟨fun i d e=>g.sh i d (h i d Ae e),fun i d e=>g.ow i d (h i d Ab e),hl.trans g.len⟩
theorem Good.put(g:Good K CL A ρ σ H)(t:Ag)(r:Rep K CL H A v d):Good K CL A (ρ.set t (Aa (d,Ae))) (σ.set t (Aa v)) H:=by
 refine⟨fun j e h=>?_,fun j e h=>?_,by rw[Bb,Bb];exact g.len⟩
 ·by_cases hj:t=j
  ·subst hj;have e1:=G6 h;cases e1;have hl:t<σ.length:=by
    rw[<-g.len];have:=(Bg.mp h).1;simpa using this
   exact⟨v,by rw[Dc hl],r⟩
  ·rw[Cf hj]at h;obtain⟨w',q,rw'⟩:=g.sh j e h;exact⟨w',by rw[Cf hj];exact q,rw'⟩
 ·have hj:t≠j:=by
   rintro rfl;have:=G6 h;cases this
  rw[Cf hj]at h;obtain⟨a,xs,q,z⟩:=g.ow j e h;exact⟨a,xs,by rw[Cf hj];exact q,z⟩
theorem Good.hide(g:Good K CL A ρ σ H)(ts:Ac Ag):Good K CL A (FN ts ρ) σ H:=g.less (Ng _ _) fun i d o e=>by
 rw[KS]at e;split at e
 ·cases q:ρ[i]? with
  |none=>rw[q]at e;cases e
  |some x=>rw[q]at e;cases e
 ·exact e
theorem Good.hideT(g:Good K CL A ρ σ H)(ts:Ac Ag):Good K CL A (FN ts ρ) (hideT ts σ) H:=by
 have key:∀ i x,(FN ts ρ)[i]?=Aa (Aa x)->ρ[i]?=Aa (Aa x)/\i∉ts:=fun i x e=>by
  rw[KS]at e;split at e
  ·cases q:ρ[i]? with
   |none=>rw[q]at e;cases e
   |some x=>rw[q]at e;cases e
  ·exact⟨e,by assumption⟩
 refine⟨fun i d e=>?_,fun i d e=>?_,by rw[Ng,OW];exact g.len⟩
 ·obtain⟨e1,e2⟩:=key i _ e;obtain⟨v,q,r⟩:=g.sh i d e1;exact⟨v,by rw[OD _ _ e2];exact q,r⟩
 ·obtain⟨e1,e2⟩:=key i _ e;obtain⟨a,xs,q,r⟩:=g.ow i d e1;exact⟨a,xs,by rw[OD _ _ e2];exact q,r⟩
end
def GG(K:Fg)(CL:ClA)(ts:Ac Ag)(as:D->Rho->R Rho)(g:TG):Prop:=∀ A ρ σ H v d ρ' Q,Good K CL A (FN ts ρ) σ H->Rep K CL H A v d->as d ρ=.ok ρ'->(∀ σ',Good K CL A ρ' σ' H->Good K CL A (FN ts ρ) σ' H->Q σ' H)->g v σ H Q
theorem eU(i:Ag):GG K CL [i] (fun d ρ=>.ok (ρ.set i (Aa (d,Ae)))) (Fv i):=fun A ρ σ H v d ρ' Q g r e k=>by
 cases e;have g2:=g.put i r;have e1:(FN [i] ρ).set i (Aa (d,Ae))=ρ.set i (Aa (d,Ae)):=by
  show (ρ.set i Ad).set i (Aa (d,Ae))=_;rw[Wp]
 rw[e1]at g2;refine k _ g2 ?_;have:=g2.hide [i];have e2:FN [i] (ρ.set i (Aa (d,Ae)))=FN [i] ρ:=by
  show (ρ.set i _).set i Ad=ρ.set i Ad;rw[Wp]
 rw[e2]at this;exact this
theorem Th{K:Fg}{CL:ClA}{A:Ah->Prop}{H:Hp}:∀(ts:Ac Ag)(ds:Ac D)(vs:Ac V)(ρ ρ':Rho)(σ:L2.St)(Q:L2.St->Hp->Prop),Good K CL A ρ σ H->Reps K CL H A vs ds->DX ts ds ρ=Aa ρ'->(∀ σ',Good K CL A ρ' σ' H->Q σ' H)->(ts.foldr (fun t u=>Ib (Fv t) u) Ii) vs σ H Q
 |[],[],[],ρ,ρ',σ,Q,x,_,e,k=>by
  cases e;exact⟨rfl,k σ x⟩
 |t::ts,d::ds,v::vs,ρ,ρ',σ,Q,x,r,e,k=>⟨v,vs,rfl,Th ts ds vs _ ρ' _ Q (x.put t r.1) r.2 e k⟩
 |[],_::_,_,_,_,_,_,_,_,e,_=>by cases e
 |_::_,[],_,_,_,_,_,_,_,e,_=>by cases e
 |[],[],_::_,_,_,_,_,_,r,_,_=>r.elim
 |_::_,_::_,[],_,_,_,_,_,r,_,_=>r.elim
theorem pM(ts:Ac Ag):GG K CL ts (E3 ts) (LB K ts.length (ts.foldr (fun t u=>Ib (Fv t) u) Ii)):=fun A ρ σ H v d ρ' Q g r e k=>by
 cases d with
 |tup ds=>
  obtain⟨a,xs,rfl,na,sq,rs⟩:=r;rw[Rw]at e;cases e2:DX ts ds ρ with
  |none=>rw[e2]at e;cases e
  |some ρ2=>
   rw[e2]at e;cases e;have e3:DX ts ds (FN ts ρ)=Aa ρ':=by
    rw[<-e2];exact QZ ts ds _ _ (Ng _ _) fun j hj=>by rw[KS,AI hj]
   refine⟨a,xs,rfl,sq,by rw[rs.length];exact M0 _ _ _ _ e2,Th ts ds xs _ ρ' σ Q g rs e3 fun σ' g'=>k σ' g' ?_⟩
   have:=g'.hide ts;rw[Ra ts ts ds ρ ρ' (fun _ h=>h) e2]at this
   exact this
 |_=>cases e
noncomputable abbrev W0:XW:=fun _ _=>AW
def STs(X:Cx)(CL:ClA)(ifs:Ac Ap)(f:Rho->R Ao):Prop:=∀ A,PTs X ifs (fun σ H Q=>AOk H A/\∃ ρ,Good X.K CL A ρ σ H/\Dg W0 H (f ρ) Q)
theorem eE:STs X CL [] (fun _=>.ok Ab):=fun A pI s σ H Q I ⟨hA,ρ,g,p⟩=>cP pI s σ H Q I (p H (AH.refl H))
theorem eC(h:SB X CL W0 c f):STs X CL [c] f:=fun A pI s σ H Q I q=>cO (h A) pI s σ H Q I q
section
variable{X:Cx}{CL:ClA}{W:XW}{tg iter elt:Ap}{ifs:Ac Ap}{scope:Co}{pos:AO}{N':Ac Ai}{ts:Ac Ag}{fi:Rho->R (Ac D)}{fc:Rho->R Ao}{fe:Rho->R D}{as:D->Rho->R Rho}{g:TG}
theorem Ys{g:D->R Ao}{f:D->R D}{x:D}{xs ys:Ac D}(h:Cb g f (x::xs)=.ok ys):(g x=.ok Ae/\Cb g f xs=.ok ys)\/∃ y r,g x=.ok Ab/\f x=.ok y/\Cb g f xs=.ok r/\ys=y::r:=by
 unfold Cb at h;cases e:g x with
 |bad=>rw[e]at h;cases h
 |exn z=>rw[e]at h;cases h
 |ok b=>
  rw[e,R.bind_ok]at h;cases b with
  |false=>exact .inl ⟨rfl,h⟩
  |true=>
   rw[AG rfl]at h;cases e2:f x with
   |bad=>rw[e2]at h;cases h
   |exn z=>rw[e2]at h;cases h
   |ok y=>
    rw[e2,R.bind_ok]at h;cases e3:Cb g f xs with
    |bad=>rw[e3]at h;cases h
    |exn z=>rw[e3]at h;cases h
    |ok r=>
     rw[e3,R.bind_ok]at h;cases h;exact .inr ⟨y,r,rfl,rfl,rfl,rfl⟩
theorem Ka{β:Type}{r:R α}{f:α->R β}{b:β}(h:r.bind f=.ok b):∃ a,r=.ok a/\f a=.ok b:=by
 cases r with
 |ok a=>exact⟨a,rfl,h⟩
 |exn x=>cases h
 |bad=>cases h
theorem Y7{ds ys:Ac D}(hGG:GG K CL ts as g)(hA:AOk H1 A)(gd:Good K CL A ρ σ H1)(yl:Je K CL A ds J H1)(hz:ds.length<=sizeLine)(hcp:Cb (fun x=>(as x ρ).bind fc) (fun x=>(as x ρ).bind fe) ds=.ok ys)(q:∀ xs H2,AH H1 H2->Reps K CL H2 A xs ys->∀ p,H2 p=Ad->Q (.ref p) (upd H2 p (.lst xs))):Mi J ts g (fun σ H Q=>AOk H A/\∃ ρ,Good K CL A ρ σ H/\Dg W0 H (fc ρ) Q) (fun σ H Q=>AOk H A/\∃ ρ,Good K CL A ρ σ H/\Bf (fun H=>Rep K CL H A) W0 H (fe ρ) Q) σ H1 Q:=by
 refine⟨fun i m xs σ' H'=>m=ds.length-i/\i<=ds.length/\xs.length<=i/\AH H1 H'/\Good K CL A (FN ts ρ) σ' H'/\∃ outs rest,Reps K CL H' A xs outs/\Cb (fun x=>(as x ρ).bind fc) (fun x=>(as x ρ).bind fe) (ds.drop i)=.ok rest/\ys=outs++rest,
  ⟨ds.length,by simp,Hd _,AU _,AH.refl _,gd.hideT ts,[],ys,trivial,hcp,rfl⟩,?_⟩
 rintro i m xs σ' H' ⟨rfl,hi,hxl,sm,g',outs,rest,rs,hc,e⟩;obtain⟨yst,ygo⟩:=yl H' (Kp.of sm) i;by_cases hlt:i<ds.length
 ·have hd:ds[i]?=Aa ds[i]:=B0 hlt;obtain⟨hgo,hyl⟩:=ygo _ hd;refine .inr ⟨hgo,by omega,fun x H2 hx=>?_⟩
  obtain⟨s2,rx⟩:=hyl x H2 hx;have rx':=rx A (fun a ha=>.inl ha) (hA.same sm)
  rw[Fw hlt]at hc;have sm2:=sm.trans s2;rcases Ys hc with ⟨h1,h2⟩|⟨y,r,h1,h2,h3,h4⟩
  ·obtain⟨ρ',ea,ec⟩:=Ka h1;refine hGG A ρ σ' H2 x ds[i] ρ' _ (g'.same s2) rx' ea fun σ3 g3 g4=>⟨hA.same sm2,ρ',g3,?_⟩
   rw[ec];exact fun H3 s3=>by
    dsimp only;rw[AI (by decide)]
    exact⟨ds.length-(i+1),by omega,rfl,hlt,by omega,sm2.trans s3,g4.same s3,outs,rest,(rs.same s2).same s3,h2,e⟩
  ·obtain⟨ρ',ea,ec⟩:=Ka h1;obtain⟨ρ2,ea2,ee⟩:=Ka h2;rw[ea]at ea2;cases ea2;refine hGG A ρ σ' H2 x ds[i] ρ' _ (g'.same s2) rx' ea fun σ3 g3 g4=>⟨hA.same sm2,ρ',g3,?_⟩
   rw[ec];exact fun H3 s3=>by
    dsimp only;rw[AG rfl];refine⟨(hA.same sm2).same s3,ρ',g3.same s3,?_⟩;rw[ee];exact fun v H4 s4 r4=>⟨ds.length-(i+1),by omega,rfl,hlt,by rw[Bu,Do];omega,(sm2.trans s3).trans s4,(g4.same s3).same s4,outs++[y],r,(((rs.same s2).same s3).same s4).append ⟨r4,trivial⟩,h3,by rw[e,h4];simp⟩
 ·have hk':ds.length<=i:=by omega
  rw[Wb hk']at hc;have hr:rest=[]:=by cases hc;rfl
  subst hr;rw[Ca]at e;subst e;exact .inl ⟨yst hk',fun p hp=>q xs H' sm rs p hp⟩
theorem Fd.ok_of{r:R (Ac D)}{f:Ac D->R D}{Q':It->Hp->Prop}(h:Bf Rq W H (r.bind f) Q)(k:∀ ds J H',r=.ok ds->AH H H'->Je K CL A ds J H'->ds.length<=sizeLine->Bf Rq W H' (f ds) Q->Q' J H'):Fd K CL A W H r Q':=by
 cases r with
 |ok d=>exact fun J H2 s2 y z=>k d J H2 rfl s2 y z (Bf.same s2 h)
 |exn x=>exact h
 |bad=>exact h
theorem lB{r:R α}{a:α}(h:noX r=.ok a):r=.ok a:=by
 cases r with
 |ok b=>exact h
 |exn x=>cases h
 |bad=>cases h
theorem RM(hGG:GG X.K CL ts as g)(hA:AOk H A)(gd:Good X.K CL A ρ σ H)(p:Bf (DO X.K CL Ab H A) W H ((fi ρ).bind fun xs=>(noX (Cb (fun x=>(as x ρ).bind fc) (fun x=>(as x ρ).bind fe) xs)).bind fun ys=>.ok (.lst ys)) Q):Fd X.K CL A W H (fi ρ) (fun J H1=>Mi J ts g (fun σ H Q=>AOk H A/\∃ ρ,Good X.K CL A ρ σ H/\Dg W0 H (fc ρ) Q) (fun σ H Q=>AOk H A/\∃ ρ,Good X.K CL A ρ σ H/\Bf (fun H=>Rep X.K CL H A) W0 H (fe ρ) Q) σ H1 Q):=
 Fd.ok_of p fun ds J H1 e1 s1 yl hz p1=>by
  cases e2:noX (Cb (fun x=>(as x ρ).bind fc) (fun x=>(as x ρ).bind fe) ds) with
  |ok ys=>
   rw[e2]at p1;exact Y7 hGG (hA.same s1) (gd.same s1) yl hz (lB e2) fun xs H2 s2 rs q hq=>p1 _ _ (s2.trans (F2 hq _)) (KY (s1.trans s2) ((hA.same s1).same s2) hq rs)
  |exn x=>rw[e2]at p1;cases hq:Cb (fun x=>(as x ρ).bind fc) (fun x=>(as x ρ).bind fe) ds<;>rw[hq]at e2<;>cases e2
  |bad=>rw[e2]at p1;exact p1.elim
theorem cX(hc:X.calm=Ab)(B:BlockOk X scope N' ts)(hi:SI X CL W tg iter fi)(hGG:GG X.K CL ts as g)(hg:∀ cl C s H fp,PG (cxC X scope cl C N' s H fp) tg g)(ht:∀ cl C s H fp,STs (cxC X scope cl C N' s H fp) CL ifs fc)(he:∀ cl C s H fp,SE (cxC X scope cl C N' s H fp) CL W0 elt fe)(hs:∀ x,CZ iter X.env x=pure x):SC X CL W Ab (.ListComp elt [⟨tg,iter,ifs,0⟩] scope pos) (fun ρ=>(fi ρ).bind fun xs=>(noX (Cb (fun x=>(as x ρ).bind fc) (fun x=>(as x ρ).bind fe) xs)).bind fun ys=>.ok (.lst ys)):=fun A pI s σ H Q I ⟨hA,ρ,gd,p⟩=>
 gA hc B (hi A) hg (fun cl C s H fp=>ht cl C s H fp A) (fun cl C s H fp=>he cl C s H fp A) hs pI s σ H Q I ⟨hA,ρ,gd,RM hGG hA gd p⟩
end
section
variable{K:Fg}{CL:ClA}{Fz:Ah->HO->Prop}{B:Ah->Prop}{ρ:Rho}{σ:L2.St}{H H':Hp}
theorem C3.rep(h:C3 K CL H A a o d)(na:¬ A' a)(hh:H a=Aa o)(sub:∀ b,A' b->A b):Rep K CL H A' (.ref a) d:=by
 rcases h with ⟨xs,ds,rfl,rfl,r⟩|⟨es,ds,rfl,rfl,r⟩
 ·exact⟨a,xs,rfl,.inl na,SqL.of hh,Reps.sub sub _ r⟩
 ·exact⟨a,es,rfl,na,hh,Repk.sub sub _ r⟩
theorem Sx.setO(x:Sx K CL Fz B ρ σ H)(s:AH H H')(h0:H a=Ad)(h1:H' a=Aa u)(r:C3 K CL H' (fun b=>By B ρ σ b\/b=a) a u d):Sx K CL Fz B (ρ.set i (Aa (d,Ab))) (σ.set i (Aa (.ref a))) H':=by
 have nA:¬ By B ρ σ a:=x.aok.new h0;have own:∀(j:Ag)(e:D),(ρ.set i (Aa (d,Ab)))[j]?=Aa (Aa (e,Ab))->(i=j/\e=d)\/(i≠j/\ρ[j]?=Aa (Aa (e,Ab))):=fun j e h=>by
  by_cases hj:i=j
  ·subst hj;have:=G6 h;cases this;exact .inl ⟨rfl,rfl⟩
  ·exact .inr ⟨hj,by rw[Cf hj]at h;exact h⟩
 have atI:∀{j:Ag}{y:Sl},(ρ.set i (Aa (d,Ab)))[j]?=Aa y->i=j->(σ.set i (Aa (.ref a)))[j]?=Aa (Aa (.ref a)):=fun {j y} h e=>by
  subst e;have hl:i<σ.length:=by
   rw[<-x.len];have:=(Bg.mp h).1;simpa using this
  rw[Dc hl]
 have sub:∀ b,By B (ρ.set i (Aa (d,Ab))) (σ.set i (Aa (.ref a))) b->By B ρ σ b\/b=a:=fun b h=>by
  rcases h with h|⟨j,e,h1,h2⟩
  ·exact .inl (.inl h)
  ·rcases own j e h1 with ⟨hj,_⟩|⟨hj,h1'⟩
   ·rw[atI h1 hj]at h2;cases h2;exact .inr rfl
   ·rw[Cf hj]at h2;exact .inl (.inr ⟨j,e,h1',h2⟩)
 have wide:∀{v:V}{e:D},Rep K CL H (By B ρ σ) v e->Rep K CL H' (By B (ρ.set i (Aa (d,Ab))) (σ.set i (Aa (.ref a)))) v e:=fun r=>(Rep.wide (fun b hb=>(sub b hb).imp id fun e=>by rw[e];exact h0) _ r).same s
 have wides:∀{b:Ah}{o:HO}{e:D},C3 K CL H (By B ρ σ) b o e->C3 K CL H' (By B (ρ.set i (Aa (d,Ab))) (σ.set i (Aa (.ref a)))) b o e:=fun r=>(r.wide (fun b hb=>(sub b hb).imp id fun e=>by rw[e];exact h0)).same s
 refine⟨⟨fun j e h=>?_,fun j e h=>?_,by rw[Bb,Bb];exact x.len⟩,fun b h=>?_,fun j e b g1 g2=>?_,fun j k e f b g1 g2 g3 g4=>?_,fun b o z=>s _ _ (x.same b o z),by rw[Bb,Bb];exact x.len⟩
 ·have hj:i≠j:=by
   rintro rfl;have:=G6 h;cases this
  rw[Cf hj]at h;obtain⟨w',q,rw'⟩:=x.good.sh j e h;exact⟨w',by rw[Cf hj];exact q,wide rw'⟩
 ·rcases own j e h with ⟨hj,rfl⟩|⟨hj,h'⟩
  ·have q:=atI h hj;exact⟨a,u,q,.inr ⟨j,_,h,q⟩,h1,r.sub sub⟩
  ·obtain⟨b,o,q,ha,hh,rr⟩:=x.good.ow j e h';have q':(σ.set i (Aa (.ref a)))[j]?=Aa (Aa (.ref b)):=by rw[Cf hj];exact q
   exact⟨b,o,q',.inr ⟨j,e,h,q'⟩,s _ _ hh,wides rr⟩
 ·rcases sub b h with z|z
  ·obtain⟨ys,q,w⟩:=x.aok b z;exact⟨ys,s _ _ q,w⟩
  ·rw[z];exact⟨u,h1,r.owk⟩
 ·rcases own j e g1 with ⟨hj,_⟩|⟨hj,h'⟩
  ·rw[atI g1 hj]at g2;cases g2;refine⟨fun o z=>?_,fun z=>nA (.inl z)⟩
   have:=x.same a o z;rw[h0]at this;cases this
  ·rw[Cf hj]at g2;exact x.new j e b h' g2
 ·rcases own j e g1 with ⟨hj,_⟩|⟨hj,h'⟩
  ·rw[atI g1 hj]at g3;cases g3;rcases own k f g2 with ⟨hk,_⟩|⟨hk,h''⟩
   ·exact hj.symm.trans hk
   ·rw[Cf hk]at g4;exact absurd (.inr ⟨k,f,h'',g4⟩) nA
  ·rw[Cf hj]at g3;rcases own k f g2 with ⟨hk,_⟩|⟨hk,h''⟩
   ·rw[atI g2 hk]at g4;cases g4;exact absurd (.inr ⟨j,e,h',g3⟩) nA
   ·rw[Cf hk]at g4;exact x.dis j k e f b h' h'' g3 g4
theorem Sx.setF(x:Sx K CL Fz B ρ σ H)(s:AH H H'){ds:Ac D}(h0:H a=Ad)(h1:H' a=Aa (.lst xs))(r:Reps K CL H' (fun b=>By B ρ σ b\/b=a) xs ds):Sx K CL Fz B (ρ.set i (Aa (.lst ds,Ab))) (σ.set i (Aa (.ref a))) H':=x.setO s h0 h1 (.lst r)
theorem Sx.updO(x:Sx K CL Fz B ρ σ H){d':D}(hi:ρ[i]?=Aa (Aa (d,Ab)))(ha:σ[i]?=Aa (Aa (.ref a)))(r:C3 K CL H (By B ρ σ) a u d'):Sx K CL Fz B (ρ.set i (Aa (d',Ab))) σ (L2.upd H a u):=by
 have oa:By B ρ σ a:=.inr ⟨i,d,hi,ha⟩;have hil:i<ρ.length:=(Bg.mp hi).1;have get:∀(j:Ag)(e:D),(ρ.set i (Aa (d',Ab)))[j]?=Aa (Aa (e,Ab))↔(i=j/\e=d')\/(i≠j/\ρ[j]?=Aa (Aa (e,Ab))):=fun j e=>by
  by_cases hj:i=j
  ·subst hj;rw[Dc hil];simp;exact⟨fun z=>z.symm,fun z=>z.symm⟩
  ·rw[Cf hj];simp[hj]
 have same:∀ b,By B (ρ.set i (Aa (d',Ab))) σ b↔By B ρ σ b:=fun b=>by
  constructor
  ·rintro (h|⟨j,e,h1,h2⟩)
   ·exact .inl h
   ·rcases (get j e).mp h1 with ⟨rfl,_⟩|⟨_,h1⟩
    ·exact .inr ⟨i,d,hi,h2⟩
    ·exact .inr ⟨j,e,h1,h2⟩
  ·rintro (h|⟨j,e,h1,h2⟩)
   ·exact .inl h
   ·by_cases hj:i=j
    ·subst hj;exact .inr ⟨i,d',(get i _).mpr (.inl ⟨rfl,rfl⟩),h2⟩
    ·exact .inr ⟨j,e,(get j e).mpr (.inr ⟨hj,h1⟩),h2⟩
 have kp:Kp (By B ρ σ) H (L2.upd H a u):=fun b o e na=>by
  have hne:b≠a:=by
   rintro rfl;exact na oa
  rw[BG hne];exact e
 refine⟨⟨fun j e h=>?_,fun j e h=>?_,by rw[Bb];exact x.len⟩,fun b h=>?_,fun j e b g1 g2=>?_,fun j k e f b g1 g2 g3 g4=>?_,fun b o z=>?_,by rw[Bb];exact x.len⟩
 ·have hj:i≠j:=by
   rintro rfl;have:=G6 h;cases this
  rw[Cf hj]at h;obtain⟨w',q,rw'⟩:=x.good.sh j e h;exact⟨w',q,Rep.sub (fun b hb=>(same b).mp hb) _ (Rep.kp kp _ rw')⟩
 ·rcases (get j e).mp h with ⟨rfl,rfl⟩|⟨hj,h'⟩
  ·exact⟨a,u,ha,(same a).mpr oa,FL,(r.kp kp).sub fun b hb=>(same b).mp hb⟩
  ·obtain⟨b,o,q,hb,hh,rr⟩:=x.good.ow j e h';have hne:b≠a:=fun z=>hj (x.dis i j d e a hi h' ha (z ▸ q))
   exact⟨b,o,q,(same b).mpr hb,by rw[BG hne];exact hh,(rr.kp kp).sub fun b hb=>(same b).mp hb⟩
 ·obtain⟨ys,q,w⟩:=x.aok b ((same b).mp h);by_cases e:b=a
  ·rw[e];exact⟨u,FL,r.owk⟩
  ·exact⟨ys,by rw[BG e];exact q,w⟩
 ·rcases (get j e).mp g1 with ⟨rfl,_⟩|⟨_,h'⟩
  ·exact x.new i d b hi g2
  ·exact x.new j e b h' g2
 ·rcases (get j e).mp g1 with ⟨rfl,_⟩|⟨hj,h'⟩
  ·rcases (get k f).mp g2 with ⟨rfl,_⟩|⟨hk,h''⟩
   ·rfl
   ·exact x.dis i k d f b hi h'' g3 g4
  ·rcases (get k f).mp g2 with ⟨rfl,_⟩|⟨hk,h''⟩
   ·exact x.dis j i e d b h' hi g3 g4
   ·exact x.dis j k e f b h' h'' g3 g4
 ·have hne:b≠a:=fun e=>(x.new i d a hi ha).1 o (e ▸ z)
  rw[BG hne];exact x.same b o z
theorem Sx.upd(x:Sx K CL Fz B ρ σ H){ds:Ac D}(hi:ρ[i]?=Aa (Aa (d,Ab)))(ha:σ[i]?=Aa (Aa (.ref a)))(r:Reps K CL H (By B ρ σ) xs ds):Sx K CL Fz B (ρ.set i (Aa (.lst ds,Ab))) σ (L2.upd H a (.lst xs)):=x.updO hi ha (.lst r)
theorem Sx.rel(x:Sx K CL Fz B ρ σ H)(hi:ρ[i]?=Aa (Aa (d,Ab))):Sx K CL Fz B (ρ.set i (Aa (d,Ae))) σ H:=by
 obtain⟨a,u,q,oa,hh,rr⟩:=x.good.ow i d hi;have own:∀(j:Ag)(e:D),(ρ.set i (Aa (d,Ae)))[j]?=Aa (Aa (e,Ab))->i≠j/\ρ[j]?=Aa (Aa (e,Ab)):=fun j e h=>by
  by_cases hj:i=j
  ·subst hj;have:=G6 h;cases this
  ·exact⟨hj,by rw[Cf hj]at h;exact h⟩
 have sub:∀ b,By B (ρ.set i (Aa (d,Ae))) σ b->By B ρ σ b:=fun b h=>by
  rcases h with h|⟨j,e,h1,h2⟩
  ·exact .inl h
  ·exact .inr ⟨j,e,(own j e h1).2,h2⟩
 have na:¬ By B (ρ.set i (Aa (d,Ae))) σ a:=fun h=>by
  rcases h with h|⟨j,e,h1,h2⟩
  ·exact(x.new i _ a hi q).2 h
  ·obtain⟨hj,h1⟩:=own j e h1;exact hj (x.dis i j _ e a hi h1 q h2)
 refine⟨⟨fun j e h=>?_,fun j e h=>?_,by rw[Bb];exact x.len⟩,fun b h=>x.aok b (sub b h),fun j e b g1 g2=>x.new j e b (own j e g1).2 g2,fun j k e f b g1 g2 g3 g4=>x.dis j k e f b (own j e g1).2 (own k f g2).2 g3 g4,x.same,by rw[Bb];exact x.len⟩
 ·by_cases hj:i=j
  ·subst hj;have e1:=G6 h;cases e1;exact⟨_,q,rr.rep na hh sub⟩
  ·rw[Cf hj]at h;obtain⟨w',q',rw'⟩:=x.good.sh j e h;exact⟨w',q',Rep.sub sub _ rw'⟩
 ·obtain⟨hj,h'⟩:=own j e h;obtain⟨b,o,q',hb,hh',rr'⟩:=x.good.ow j e h';exact⟨b,o,q',.inr ⟨j,e,h,q'⟩,hh',rr'.sub sub⟩
end
section
variable{X:Cx}{CL:ClA}{W:XW}{pos:AO}{e:Ap}{fe:Rho->R D}{fr:Ao}
theorem BH.exC{f:D->O}(x:Sx X.K CL Fz B ρ σ H)(h:BH X.K CL Fz B W (O.of ρ r f) D')(k:∀ d v H',r=.ok d->AH H H'->DO X.K CL fr H A H' v d->Sx X.K CL Fz B ρ σ H'->BH X.K CL Fz B W (f d) D'->Q v H'):Bf (DO X.K CL fr H A) W H r Q:=by
 cases r with
 |ok d=>exact fun v H' s r=>k d v H' rfl s r (x.grow s) h
 |exn y=>exact fun H' s=>h H' fun b o z=>s _ _ (x.same b o z)
 |bad=>exact h
def SAs(X:Cx)(CL:ClA)(W:XW)(fr:Ao)(i:Ag)(st:Be)(f:Rho->R D):Prop:=∀ A,PS X st (NY (fun σ H Q=>AOk H A/\∃ ρ,Good X.K CL A ρ σ H/\Bf (DO X.K CL fr H A) W H (f ρ) Q) (Fv i))
theorem SC.sas{n:Ai}(hN:X.N.Nodup)(hi:X.N[i]?=Aa n)(hx:Loc X.env.scope n)(he:SC X CL W fr e fe)(hs:Cn e (Aa (.Name n pos')) pos.line X.env=pure Ae)(hf:X.fn n=Ab\/X.env.scope.names.lookup n=Aa .local):SAs X CL W fr i (.Assign [.Name n pos'] e pos) fe:=
 fun A=>Mx hN hi hx (he A) hs hf
theorem ZP{n:Ai}{fe:Rho->R D}{g:TG}(hc:X.calm=Ab)(B:BlockOk X scope N' ts)(hi:SI X CL W tg iter fi)(hGG:GG X.K CL ts as g)(hg:∀ cl C s H fp,PG (cxC X scope cl C N' s H fp) tg g)(ht:∀ cl C s H fp,STs (cxC X scope cl C N' s H fp) CL ifs fc)(he:∀ cl C s H fp,SE (cxC X scope cl C N' s H fp) CL W0 elt fe)(hs:∀ x,CZ iter X.env x=pure x)(hN:X.N.Nodup)(hni:X.N[i]?=Aa n)(hx:X.env.scope.names.lookup n=Aa .local)(hsw:Cn (.ListComp elt [⟨tg,iter,ifs,0⟩] scope pos) (Aa (.Name n pos')) pos2.line X.env=pure Ab):SAs X CL W Ab i (.Assign [.Name n pos'] (.ListComp elt [⟨tg,iter,ifs,0⟩] scope pos) pos2) (fun ρ=>(fi ρ).bind fun xs=>(noX (Cb (fun x=>(as x ρ).bind fc) (fun x=>(as x ρ).bind fe) xs)).bind fun ys=>.ok (.lst ys)):=fun A pI s σ H Dn I ⟨hA,ρ,gd,p⟩=>
 cT hc B (hi A) hg (fun cl C s H fp=>ht cl C s H fp A) (fun cl C s H fp=>he cl C s H fp A) hs hN hni hx hsw pI s σ H Dn I ⟨hA,ρ,gd,RM hGG hA gd p⟩
theorem TN{st:Be}(h:SAs X CL W fr i st fe):SS X CL W st (fun ρ=>O.of ρ (fe ρ) fun d=>.next (ρ.set i (Aa (d,Ae)))):=fun Fz B pI s σ H D I ⟨ρ,x,p⟩=>
 h (By B ρ σ) pI s σ H D I ⟨x.aok,ρ,x.good,BH.exC x p fun d v H' _ s r x' q=>q _ H' (x'.set i r.1)⟩
theorem SQ{st:Be}(h:SAs X CL W Ab i st fe):SS X CL W st (fun ρ=>O.of ρ (fe ρ) fun d=>setF ρ i d):=fun Fz B pI s σ H D I ⟨ρ,x,p⟩=>
 h (By B ρ σ) pI s σ H D I ⟨x.aok,ρ,x.good,BH.exC x p fun d v H' _ s r x' q=>by
  cases d with
  |lst ds=>
   obtain⟨a,xs,rfl,h0,h1,rs⟩:=r.2 rfl ds rfl;exact q _ H' (x.setF s h0 h1 rs)
  | _=>exact q.elim⟩
theorem eJ(he:SC X CL W Ab e fe):SS X CL W (.Return (Aa e) pos) (fun ρ=>O.of ρ (fe ρ) fun d=>.ret d Ab):=fun Fz B pI s σ H D I ⟨ρ,x,p⟩=>
 PD (he (By B ρ σ)) pI s σ H D I ⟨x.aok,ρ,x.good,BH.exC x p fun d v H' _ s r x' q=>q v H' x'.same (Rep.sub (fun a h=>.inl h) _ r.1) fun _ ds e=>by
  obtain⟨a,xs,h0,h1,h2,h3⟩:=r.2 rfl ds e;refine⟨a,xs,h0,fun o z=>?_,h2,Reps.sub (fun b hb=>hb.imp .inl id) _ h3⟩
  have:=x.same a o z;rw[h1]at this;cases this⟩
noncomputable def QP(ρ:Rho)(i:Ag):Ao:=match ρ[i]? with
  |some (Aa (_,o))=>o
  |_=>Ae
theorem SM(he:PE X e (E5 i)):SS X CL W (.Return (Aa e) pos) (fun ρ=>O.of ρ (Dm ρ i) fun d=>.ret d (QP ρ i)):=fun Fz B pI s σ H D I ⟨ρ,x,p⟩=>
 PD he pI s σ H D I (by
  dsimp only at p;cases e:Dm ρ i with
  |bad=>rw[e]at p;exact p.elim
  |exn z=>exact(RC e).elim
  |ok d=>
   rw[e]at p;obtain⟨o,e⟩:=S5 e;have eo:QP ρ i=o:=by unfold QP;rw[e]
   rw[O.of_ok,eo]at p;cases o with
   |false=>
    obtain⟨v,q,r⟩:=x.good.sh i d e;exact⟨v,q,p v H x.same (Rep.sub (fun a h=>.inl h) _ r) fun z=>nomatch z⟩
   |true=>
    obtain⟨a,u,q,ha,hh,r⟩:=x.good.ow i d e;obtain⟨n1,n2⟩:=x.new i _ a e q;refine⟨_,q,p _ H x.same (r.rep n2 hh fun a h=>.inl h) fun _ ds' e'=>?_⟩
    cases e';obtain⟨xs,rfl,r'⟩:=r.lst_of;exact⟨a,xs,rfl,n1,hh,Reps.sub (fun b hb=>hb.elim .inl fun z=>z ▸ ha) _ r'⟩)
theorem Mp{ds:Ac D}(h:Cv ρ i=.ok ds):ρ[i]?=Aa (Aa (.lst ds,Ab)):=by
 unfold Cv at h;split at h
 ·rename_i e;cases h;exact e
 ·cases h
theorem Md(h:Cv ρ i=.exn x):AW:=by
 unfold Cv at h;split at h<;>cases h
variable{o:Ap}{i:Ag}{apos cpos:AO}
theorem TQ(ho:PE X o (E5 i))(he:SE X CL W e fe)(hbase:Dk o "append" X.env (eval o X.env)=eval o X.env)(hfew:((Bz cpos (As [e] X.env)).all (fun x=>!x.1)&&(FJ cpos (Ei [] X.env)).all (fun x=>x.1.isSome)&&decide ([e].length+([]:Ac C9).length+(if ([]:Ac C9).isEmpty then 0 else 1)<30))=Ab)(hline:(apos.endLine==cpos.line)=Ab)(hs:As [e] X.env=[(Ae,eval e X.env)])(hsw:Cn (.Call (.Attribute o "append" apos) [e] [] cpos) Ad pos.line X.env=pure Ae):
  SS X CL W (.Expr (.Call (.Attribute o "append" apos) [e] [] cpos) pos) (fun ρ=>O.of ρ (Cv ρ i) fun xs=>O.of ρ (fe ρ) fun d=>if Ci (xs.length+1)=Ab then .next (ρ.set i (Aa (.lst (xs++[d]),Ab))) else .bad):=fun Fz B pI s σ H D I ⟨ρ,x,p⟩=>by
 refine IZ (NH EA PySem.F.slot_list_append PySem.F.type_list_append Zp ho (DH (he (By B ρ σ)) Ft hs) hbase hfew hline hs rfl) hsw pI s σ H D I ?_;dsimp only at p;cases e1:Cv ρ i with
 |bad=>rw[e1]at p;exact p.elim
 |exn z=>exact(Md e1).elim
 |ok ds=>
  rw[e1,O.of_ok]at p;have hi:=Mp e1;obtain⟨a,xs,ds',q,e2,ha,hh,r⟩:=x.good.owL hi;cases e2;refine⟨_,q,.inl ⟨rfl,xs,SqL.of hh⟩,x.aok,ρ,x.good,BH.ex x p fun d v H' _ s rv x' q'=>?_⟩
  split at q'
  ·rename_i hz;refine⟨a,xs,v,rfl,rfl,s _ _ hh,?_,q' _ _ (x'.upd hi q ((r.same s).append ⟨rv,trivial⟩))⟩;have:=G3 hz;rw[r.length];omega
  ·exact q'.elim
theorem kO(ho:PE X o (E5 i))(he:SC X CL W Ab e fe)(hbase:Dk o "extend" X.env (eval o X.env)=eval o X.env)(hfew:((Bz cpos (As [e] X.env)).all (fun x=>!x.1)&&(FJ cpos (Ei [] X.env)).all (fun x=>x.1.isSome)&&decide ([e].length+([]:Ac C9).length+(if ([]:Ac C9).isEmpty then 0 else 1)<30))=Ab)(hline:(apos.endLine==cpos.line)=Ab)(hs:As [e] X.env=[(Ae,eval e X.env)])(hsw:Cn (.Call (.Attribute o "extend" apos) [e] [] cpos) Ad pos.line X.env=pure Ae):
  SS X CL W (.Expr (.Call (.Attribute o "extend" apos) [e] [] cpos) pos) (fun ρ=>O.of ρ (Cv ρ i) fun xs=>O.of ρ (fe ρ) fun d=>O.of ρ (Lu d) fun ys=>if Ci (xs.length+ys.length)=Ab then .next (ρ.set i (Aa (.lst (xs++ys),Ab))) else .bad):=fun Fz B pI s σ H D I ⟨ρ,x,p⟩=>by
 refine IZ (NH EA EY WX Zo ho (DH (he (By B ρ σ)) Ft hs) hbase hfew hline hs rfl) hsw pI s σ H D I ?_;dsimp only at p;cases e1:Cv ρ i with
 |bad=>rw[e1]at p;exact p.elim
 |exn z=>exact(Md e1).elim
 |ok ds=>
  rw[e1,O.of_ok]at p;have hi:=Mp e1;obtain⟨a,xs,ds',q,e2,ha,hh,r⟩:=x.good.owL hi;cases e2;refine⟨_,q,.inl ⟨rfl,xs,SqL.of hh⟩,x.aok,ρ,x.good,BH.exC x p fun d v H' _ s rv x' q'=>?_⟩
  cases d with
  |lst es=>
   obtain⟨b,ys,rfl,h0,h1,rs⟩:=rv.2 rfl es rfl;rw[RT,O.of_ok]at q';split at q'
   ·rename_i hz;refine⟨a,b,xs,ys,rfl,rfl,s _ _ hh,h1,?_,q' _ _ (x'.upd hi q ((r.same s).append (Reps.sub (fun c hc=>.inl hc) _ rs)))⟩
    rw[r.length,rs.length];exact G3 hz
   ·exact q'.elim
  |_=>exact q'.elim
theorem kL{k:Ap}{fk:Rho->R Ov.D}(ho:PE X o (E5 i))(hk:ST X CL W k fk)(he:SE X CL W e fe)(ha:∀ v,assign (.Subscript o k spos) X.env v=(do
      let ov <-holding [v] (eval o X.env)
      let iv <-holding [v,ov] (eval k X.env)
      IQ spos
      holding [v,ov,iv] (JR ov iv v)
      release [v,ov,iv] []))(hs:Gm [.Subscript o k spos] e pos.line X.env=pure Ae)(hw:Fj [.Subscript o k spos] e X.env=pure Ad)(h1:(B5 [.Subscript o k spos] X.env).map (·.2)=[assign (.Subscript o k spos) X.env]):
    SS X CL W (.Assign [.Subscript o k spos] e pos) (fun ρ=>O.of ρ (fe ρ) fun d=>O.of ρ (Cv ρ i) fun xs=>O.of ρ ((fk ρ).bind EK) fun j=>match plD xs.length j with
      |some n=>.next (ρ.set i (Aa (.lst (xs.set n d),Ab)))
      | none=>.bad):=fun Fz B pI s σ H D I ⟨ρ,x,p⟩=>
  P6 (he (By B ρ σ)) (Ui ho (hk (By B ρ σ)) ZL ha) hs hw h1 pI s σ H D I ⟨x.aok,ρ,x.good,BH.ex x p fun d v H' _ s rv x' q'=>by
    cases e1:Cv ρ i with
    |bad=>rw[e1]at q';exact q'.elim
    |exn z=>exact(Md e1).elim
    |ok ds=>
      rw[e1,O.of_ok]at q';have hi:=Mp e1;obtain⟨a,xs,ds',q,e2,ha,hh,r⟩:=x'.good.owL hi;cases e2;refine⟨_,q,x'.aok,ρ,x'.good,?_⟩;cases e3:fk ρ with
      |bad=>rw[e3]at q';exact q'.elim
      |exn z=>rw[e3]at q';exact fun H2 s2=>q' H2 fun b o z=>s2 _ _ (x'.same b o z)
      |ok dk=>
        rw[e3]at q';intro y H2 s2 ry;cases dk with
        |int j=>
          have ey:=ry.int_of;subst ey;rw[R.bind_ok,L8,O.of_ok]at q';cases e4:plD ds.length j with
          |none=>rw[e4]at q';exact q'.elim
          |some n=>
            rw[e4]at q';refine⟨a,xs,j,n,rfl,rfl,s2 _ _ hh,?_,q' _ _ ((x'.grow s2).upd hi q (Reps.set (rv.same s2) n (r.same s2)))⟩;rw[r.length];exact e4
        | _=>exact q'.elim⟩
theorem eN{as:Ov.D->Rho->R Rho}{g:TG}(hGT:GT X.K CL as g)(hg:PG X tg g)(he:SE X CL W e fe)(hs:Gm [tg] e pos.line X.env=pure Ae)(hw:Fj [tg] e X.env=pure Ad)(h1:(B5 [tg] X.env).map (·.2)=[assign tg X.env])(hax:∀ d ρ x,as d ρ≠.exn x):SS X CL W (.Assign [tg] e pos) (fun ρ=>O.of ρ (fe ρ) fun d=>O.of ρ (as d ρ) fun ρ'=>.next ρ'):=fun Fz B pI s σ H D I ⟨ρ,x,p⟩=>
 P6 (he (By B ρ σ)) hg hs hw h1 pI s σ H D I ⟨x.aok,ρ,x.good,BH.ex x p fun d v H' _ s rv x' q'=>by
  cases ea:as d ρ with
  |bad=>rw[ea]at q';exact q'.elim
  |exn z=>exact absurd ea (hax _ _ z)
  |ok ρ2=>
   rw[ea,O.of_ok]at q';exact hGT Fz B ρ σ H' v d ρ2 _ x' rv ea fun σ' x3=>q' σ' H' x3⟩
theorem eI{rest:Ac Be}{f:Rho->O}(i:Ag)(h:SSs X CL W rest f):SSs X CL W rest (fun ρ=>(match ρ[i]? with
   |some (Aa (d,Ab))=>O.next (ρ.set i (Aa (d,Ae)))
   | _=>O.next ρ).seq f):=fun Fz B=>PSs.weak (h Fz B) fun D σ H ⟨ρ,x,p⟩=>by
 dsimp only at p;split at p
 ·rename_i d e;exact⟨_,x.rel e,p⟩
 ·exact⟨ρ,x,p⟩
end
section
variable{X:Cx}{pI:Pn}{σ:L2.St}{H:Hp}{s:Ar}{a ka:Ah}{k:Ac Af}{CL:ClA}{A:Ah->Prop}{es:Ac (Ac Af×Ah×V)}{kvs:Ac (Ac Af×D)}
noncomputable def sdD(kvs:Ac (Ac Af×D))(k:Ac Af)(d:D):Ac (Ac Af×D):=if (kvs.any fun p=>p.1==k)=Ab then kvs else Hs kvs k d
theorem YN{B:AY}{E:Vq}{v:Ak}{Q:Vq}(hu:(TK X.prog X.w).room B)(hkey:(TK X.prog X.w).is s.heap k ka)(hm:s.heap.DictOfH (TK X.prog X.w) a ys)(hsz:ys.length<=sizeLine)(q1:∀ p,Hf ys k=Aa p->Q p.2 {s with toks:=s.toks+(TK X.prog X.w).draws k})(q2:Hf ys k=Ad->∀ h',h'.DictOfH (TK X.prog X.w) a (ys++[(k,ka,v)])->DU a s.heap h'->Q v {s with heap:=h',toks:=s.toks+(TK X.prog X.w).draws k}):Ax (model X.prog X.w) B (IK a (.ref ka) v) Q E s:=by
  obtain⟨o,es,ep,ho,hc,hd,he,his,hn⟩:=hm;unfold IK
  try with_reducible refine BX ?_
  refine Al ((TK X.prog X.w).pyHash hu hkey ?_);refine Al (wpAny_dictFind_heap (knd:=TK X.prog X.w) (s:={s with toks:=s.toks+(TK X.prog X.w).draws k}) hu hkey ho hd he his hn ?_ ?_)
  · intro hno;have hnot:k∉ys.map (·.1):=not_mem_keys_of_get hno;refine Al (HA (Al (wpAny_updateDictKeys (hz:=by have e:=size_of_entries he;omega) (s:={s with toks:=s.toks+(TK X.prog X.w).draws k}) ho hd (AC (q2 (atKey_none_of_get hno) _ ⟨_,_,ep+1,Cp _ ho (Obj.isFreed_of_dict (W4 hd _)),
      hc.mapDictKeys _,W4 hd _,?_,?_,?_⟩ (Ez ..))))))
    · simp[he,IV]
    · intro x hx;rcases C5.mp hx with hx|hx
      · exact(TK X.prog X.w).keeps (his x hx) ho hd (Ez ..)
      · simp only[Bv]at hx;subst hx;exact(TK X.prog X.w).keeps hkey ho hd (Ez ..)
    · rw[FA,ER];refine⟨hn,by simp,?_⟩
      intro x hx y hy;simp only[BE,Jp,Bv]at hy;subst hy;exact fun e=>hnot (e ▸ hx)
  · intro j p hj;refine Al (Xu (s:={s with toks:=s.toks+(TK X.prog X.w).draws k}) ho hd ?_)
    have ej:es[j]?=Aa (IV (TK X.prog X.w) (k,p)):=by
      rw[<-Array.getElem?_toList,he,Eb,hj];rfl
    rw[ej];exact Al (HA (AC (q1 p (atKey_of_get hn hj))))
theorem Yo(hd:(a==Ef)=Ae)(v:Ak):MeetsIn X.prog X.w (Builtin.«dict.setdefault» ⟨[.ref a,.ref ka,v],[]⟩) (fun B R s=>(TK X.prog X.w).room B.in1/\∃ k ys,(TK X.prog X.w).is s.heap k ka/\s.heap.DictOfH (TK X.prog X.w) a ys/\ys.length<=sizeLine/\(∀ p,Hf ys k=Aa p->R (.ok (.ret p.2)) {s with toks:=s.toks+(TK X.prog X.w).draws k})/\(Hf ys k=Ad->∀ h',h'.DictOfH (TK X.prog X.w) a (ys++[(k,ka,v)])->DU a s.heap h'->R (.ok (.ret v)) {s with heap:=h',toks:=s.toks+(TK X.prog X.w).draws k})):=
 .of_wp fun B R s ⟨hu,k,ys,hkey,hm,hz,h1,h2⟩=>by
  unfold Builtin.«dict.setdefault»;refine Al ?_;unfold Builtin.Dict.keyAndDefault;refine Al (wpAny_notOrdered_dict hm.typeIs ?_);show Ax _ _ (pure (a,Ck ka,Aa v)) _ _ s;refine AC ?_;show Ax _ _ (if (a==Ef)=Ab then _ else (IK a (.ref ka) v >>= _)) _ _ s
  rw[AI (by rw[hd];exact Aq)]
  exact Al (YN hu hkey hm hz (fun p hp=>AC ⟨p.2,rfl,h1 p hp⟩) fun hn h' hm' hs'=>AC ⟨v,rfl,h2 hn h' hm' hs'⟩)
theorem oC{x:V}{v:Ak}{E:Vq}(hu:X.A.units+1<BD)(I:Inv X pI σ H s)(hH:H a=Aa (.ext (Dx a es)))(r:Repk X.K CL H A es kvs)(hk:DP X.K H A ka k)(rx:Bx x v)(rd:Rep X.K CL H A x d)(hz:kvs.length<=sizeLine)(q:∀ x' es',Repk X.K CL H A es' (sdD kvs k d)->Q x' (upd H a (.ext (Dx a es')))):Ax (model X.prog X.w) X.A (call (.builtin "dict.setdefault") [.ref a,.ref ka,v]) (EP X pI σ Q) E s:=by
 obtain⟨ys,ve,hs,m⟩:=dic_of I hH r;have zz:ys.length<=sizeLine:=by rw[<-ve.length,r.length];exact hz
 refine Jv F.slot_dict_setdefault m.typeIs F.entry_dict_setdefault (F.args_dict_setdefault_3 _ _ _) (Yo hs v) ⟨DV hu,k,ys,Ko I hk,m,zz,fun p hp=>?_,fun hp h' m' sb=>?_⟩
 ·rcases Kk ve k r with ⟨z1,_⟩|⟨p',x',d',z1,z2,z3,z4,z5⟩
  ·rw[hp]at z1;cases z1
  ·rw[hp]at z1;cases z1;have e1:sdD kvs k d=kvs:=AG z3;have I2:Inv X pI σ (upd H a (.ext (Dx a es))) {s with toks:=s.toks+(TK X.prog X.w).draws k}:=by
    have e:upd H a (.ext (Dx a es))=H:=by
     funext b
     unfold upd;split
     ·rename_i e;rw[e,hH]
     ·rfl
    rw[e];exact I.kept fun b o e=>e
   exact⟨x',_,I2,z4,q x' es (by rw[e1];exact r)⟩
 ·rcases Kk ve k r with ⟨z1,z2,z3⟩|⟨p',_,_,z1,_⟩
  ·obtain⟨es',ve',r'⟩:=Sz ve hk rx rd r;have e1:sdD kvs k d=kvs++[(k,d)]:=by
    unfold sdD Hs;rw[AI (by rw[z3];exact Aq),AI (by rw[z3];exact Aq)]
   obtain⟨o,_,_,h1,_⟩:=id m';exact⟨x,upd H a (.ext (Dx a es')),I.write (x:=a) (e:=a) (by rw[hH];exact trivial) (.inl rfl) (fun b u hb hu=>(sb.2 b hb).trans hu) ⟨o,h1⟩ ⟨⟨_,ve',(GU.to hs m').any⟩,⟨o,h1⟩,fun h1 h2 d k=>d.keep k⟩,rx,q x es' (by rw[e1];exact r')⟩
  ·rw[hp]at z1;cases z1
theorem iZ{x:V}{v:Ak}{E:Vq}(hu:X.A.units+1<BD)(I:Inv X pI σ H s)(hH:H a=Aa (.ext (Dx a es)))(r:Repk X.K CL H A es kvs)(hk:DP X.K H A ka k)(rx:Bx x v)(rd:Rep X.K CL H A x d)(q:∀ x',Rep X.K CL H A x' ((Fu kvs k).getD d)->Q x' H):Ax (model X.prog X.w) X.A (call (.builtin "dict.get") [.ref a,.ref ka,v]) (EP X pI σ Q) E s:=by
 obtain⟨ys,ve,hs,m⟩:=dic_of I hH r;refine Jv F.slot_dict_get m.typeIs F.entry_dict_get (F.args_dict_get_3 _ _ _) (meetsH_dict_get_default (TK X.prog X.w) a ka hs v) ⟨DV hu,k,ys,Ko I hk,m,?_⟩;rcases Kk ve k r with ⟨z1,z2,_⟩|⟨p',x',d',z1,z2,z3,z4,z5⟩
 ·rw[z1];rw[z2]at q;exact⟨x,H,I.kept fun b o e=>e,rx,q x rd⟩
 ·rw[z1];rw[z2]at q;exact⟨x',H,I.kept fun b o e=>e,z4,q x' z5⟩
end
section
variable{X:Cx}{o e:Ap}{es:Ac Ap}{t:TA}{name:Ai}{apos cpos:AO}{id:CY}{r:V->Ac V->Hp->VK->Prop}{to:TE}
theorem Ul(slot:Slot "dict" name id)(hty:typeOf (.builtin id)=pure (.type "method_descriptor"))(hm:MtR X id r)(ho:PE X o to)(ha:PA X (e::es) t)(hbase:Dk o name X.env (eval o X.env)=eval o X.env)(hfew:((Bz cpos (As (e::es) X.env)).all (fun x=>!x.1)&&(FJ cpos (Ei [] X.env)).all (fun x=>x.1.isSome)
   && decide ((e::es).length+([]:Ac C9).length+(if ([]:Ac C9).isEmpty then 0 else 1)<30))=Ab)(hline:(apos.endLine==cpos.line)=Ab)(hs:As (e::es) X.env=(Ae,eval e X.env)::As es X.env)(hplain:(Bz cpos (As es X.env)).any (·.1)=Ae):PE X (.Call (.Attribute o name apos) (e::es) [] cpos) (fun σ H Q=>to σ H fun x H1=>(∃ a es,x=.ref a/\H1 a=Aa (.ext (Dx a es)))/\t σ H1 fun xs H2=>r x xs H2 Q):=by
 intro pI s σ H Q I h;refine Xq hbase hfew hline rfl (thn (ho pI s σ H _ I h) fun v s1 ⟨x,H1,I1,r1,⟨a,xs,e0,hH⟩,q1⟩=>?_)
 subst e0;obtain⟨ys,_,d⟩:=(I1.hok a _ hH).1;obtain⟨_,ob,_,_,h1,h2,h3,_⟩:=d X.prog X.w;cases r1;have ty:s1.TypeIs (.ref a) "dict" := ⟨ob,h1,h2.1⟩;refine⟨"dict", id,F.plainAttrs_dict,slot,hty,ty,fun b e=>by cases e;exact⟨ob,h1,h2.2.1⟩,?_⟩
 have hA:=ha cpos pI s1 σ H1 _ I1 q1;rw[hs]at hA ⊢;refine Ge (by show (Ae||(Bz cpos (As es X.env)).any (·.1))=Ae;rw[hplain]<;>rfl) (Ed ?_)
 exact thn hA fun us s2 ⟨vs,H2,I2,r2,q2⟩=>hm pI s2 σ H2 (.ref a) vs _ us Q I2 rfl r2 q2
end
section
variable{X:Cx}{CL:ClA}{W:XW}{pos:AO}{e k o:Ap}{fe fk:Rho->R D}{i:Ag}{apos cpos:AO}
noncomputable def tN(K:Fg)(CL:ClA)(A:Ah->Prop):N5:=fun o i v H Q=>∃ a ka es kvs k d,o=.ref a/\i=.ref ka/\H a=Aa (.ext (Dx a es))/\Repk K CL H A es kvs/\DP K H A ka k/\Rep K CL H A v d/\kvs.length<=sizeLine/\∀ es',Repk K CL H A es' (Hs kvs k d)->Q (upd H a (.ext (Dx a es')))
theorem cU(hu:X.A.units+1<BD):QW X (tN X.K CL A):=by
 intro pI s σ H o i v ov iv u Q I ro ri rv h;obtain⟨a,ka,es,kvs,k,d,rfl,rfl,hH,r,hk,rd,hz,q⟩:=h;cases ro;cases ri;exact iV hu I hH r hk rv rd hz fun s' es' r' I'=>⟨_,I',q es' r'⟩
theorem Tp{ds:Ac (Ac Af×D)}(h:Hv ρ i=.ok ds):ρ[i]?=Aa (Aa (.dic ds,Ab)):=by
 unfold Hv at h;split at h
 ·rename_i e;cases h;exact e
 ·cases h
theorem Sh(h:Hv ρ i=.exn x):AW:=by
 unfold Hv at h;split at h<;>cases h
theorem O6{j:Ac Af}(h:FM d=.ok j):DI d=Aa j:=by
 unfold FM at h;split at h
 ·rename_i e;cases h;exact e
 ·cases h
theorem OK(h:FM d=.exn x):AW:=by
 unfold FM at h;split at h<;>cases h
theorem jQ{n:Ai}{dpos:AO}(hN:X.N.Nodup)(hi:X.N[i]?=Aa n)(hx:Loc X.env.scope n)(hs:Cn (.Dict [] [] dpos) (Aa (.Name n pos')) pos.line X.env=pure Ae)(hf:X.fn n=Ab\/X.env.scope.names.lookup n=Aa .local):SS X CL W (.Assign [.Name n pos'] (.Dict [] [] dpos) pos) (fun ρ=>.next (ρ.set i (Aa (.dic [],Ab)))):=fun Fz B pI s σ H D I ⟨ρ,x,p⟩=>
 Mx hN hi hx iX hs hf pI s σ H D I fun a ha=>p _ _ (x.setO (F2 ha _) ha FL (.dic trivial))
theorem eM(hu:X.A.units+1<BD)(ho:PE X o (E5 i))(hk:ST X CL W k fk)(he:SE X CL W e fe)(ha:∀ v,assign (.Subscript o k spos) X.env v=(do
   let ov <-holding [v] (eval o X.env)
   let iv <-holding [v,ov] (eval k X.env)
   IQ spos
   holding [v,ov,iv] (JR ov iv v)
   release [v,ov,iv] []))(hs:Gm [.Subscript o k spos] e pos.line X.env=pure Ae)(hw:Fj [.Subscript o k spos] e X.env=pure Ad)(h1:(B5 [.Subscript o k spos] X.env).map (·.2)=[assign (.Subscript o k spos) X.env]):SS X CL W (.Assign [.Subscript o k spos] e pos) (fun ρ=>O.of ρ (fe ρ) fun d=>O.of ρ (Hv ρ i) fun xs=>O.of ρ ((fk ρ).bind FM) fun j=>if Ci (xs.length+1)=Ab then .next (ρ.set i (Aa (.dic (Hs xs j d),Ab))) else .bad):=fun Fz B pI s σ H D I ⟨ρ,x,p⟩=>
 P6 (he (By B ρ σ)) (Ui ho (hk (By B ρ σ)) (cU (A:=By B ρ σ) hu) ha) hs hw h1 pI s σ H D I ⟨x.aok,ρ,x.good,BH.ex x p fun d v H' _ s rv x' q'=>by
  cases e1:Hv ρ i with
  |bad=>rw[e1]at q';exact q'.elim
  |exn z=>exact(Sh e1).elim
  |ok ds=>
   rw[e1,O.of_ok]at q';have hi:=Tp e1;obtain⟨a,xs,q,ha,hh,r⟩:=x'.good.owK hi;refine⟨_,q,x'.aok,ρ,x'.good,?_⟩;cases e3:fk ρ with
   |bad=>rw[e3]at q';exact q'.elim
   |exn z=>rw[e3]at q';exact fun H2 s2=>q' H2 fun b o z=>s2 _ _ (x'.same b o z)
   |ok dk=>
    rw[e3,R.bind_ok]at q';intro y H2 s2 ry;cases e4:FM dk with
    |bad=>rw[e4]at q';exact q'.elim
    |exn z=>exact(OK e4).elim
    |ok j=>
     rw[e4,O.of_ok]at q';split at q'
     ·rename_i hz;have hz:=G3 hz;obtain⟨ka,rfl,kr⟩:=KW ry (O6 e4);exact⟨a,ka,xs,ds,j,d,rfl,rfl,s2 _ _ hh,Repk.kp (Kp.of s2) _ r,kr,rv.same s2,by omega,fun es' r'=>q' _ _ ((x'.grow s2).updO hi q (.dic r'))⟩
     ·exact q'.elim⟩
theorem rM(hu:X.A.units+1<BD):MtR X "dict.setdefault" (fun x xs H Q=>∃ a ka es kvs k v d,x=.ref a/\xs=[.ref ka,v]/\H a=Aa (.ext (Dx a es))/\Repk X.K CL H A es kvs/\DP X.K H A ka k/\Rep X.K CL H A v d/\kvs.length<=sizeLine/\∀ x' es',Repk X.K CL H A es' (sdD kvs k d)->Q x' (upd H a (.ext (Dx a es')))):=by
 intro pI s σ H x xs v us Q I rx rs h;obtain⟨a,ka,es,kvs,k,v',d,rfl,rfl,hH,r,hk,rd,hz,q⟩:=h;cases rx;cases rs with
 |cons r1 r2=>
  cases r1;cases r2 with
  |cons r3 r4=>
   cases r4;exact oC hu I hH r hk r3 rd hz q
theorem lE(hu:X.A.units+1<BD):MtR X "dict.get" (fun x xs H Q=>∃ a ka es kvs k v d,x=.ref a/\xs=[.ref ka,v]/\H a=Aa (.ext (Dx a es))/\Repk X.K CL H A es kvs/\DP X.K H A ka k/\Rep X.K CL H A v d/\∀ x',Rep X.K CL H A x' ((Fu kvs k).getD d)->Q x' H):=by
 intro pI s σ H x xs v us Q I rx rs h;obtain⟨a,ka,es,kvs,k,v',d,rfl,rfl,hH,r,hk,rd,q⟩:=h;cases rx;cases rs with
 |cons r1 r2=>
  cases r1;cases r2 with
  |cons r3 r4=>
   cases r4;exact iZ hu I hH r hk r3 rd q
theorem jP(hu:X.A.units+1<BD)(ho:PE X o (E5 i))(hk:ST X CL W k fk)(he:SE X CL W e fe)(hbase:Dk o "setdefault" X.env (eval o X.env)=eval o X.env)(hfew:((Bz cpos (As [k,e] X.env)).all (fun x=>!x.1)&&(FJ cpos (Ei [] X.env)).all (fun x=>x.1.isSome)&&decide ([k,e].length+([]:Ac C9).length+(if ([]:Ac C9).isEmpty then 0 else 1)<30))=Ab)(hline:(apos.endLine==cpos.line)=Ab)(hs:As [k,e] X.env=(Ae,eval k X.env)::As [e] X.env)(hs2:As [e] X.env=[(Ae,eval e X.env)])(hpl:(Bz cpos (As [e] X.env)).any (·.1)=Ae)(hsw:Cn (.Call (.Attribute o "setdefault" apos) [k,e] [] cpos) Ad pos.line X.env=pure Ae):
  SS X CL W (.Expr (.Call (.Attribute o "setdefault" apos) [k,e] [] cpos) pos) (fun ρ=>O.of ρ (Hv ρ i) fun xs=>O.of ρ ((fk ρ).bind FM) fun j=>O.of ρ (fe ρ) fun d=>if Ci (xs.length+1)=Ab then .next (ρ.set i (Aa (.dic (if (xs.any fun p=>p.1==j)=Ab then xs else Hs xs j d),Ab))) else .bad):=fun Fz B pI s σ H D I ⟨ρ,x,p⟩=>by
 refine IZ (Ul PySem.F.slot_dict_setdefault PySem.F.type_dict_setdefault (rM (A:=By B ρ σ) (CL:=CL) hu) ho (DH (hk (By B ρ σ)) (DH (he (By B ρ σ)) Ft hs2) hs) hbase hfew hline hs hpl) hsw pI s σ H D I ?_;dsimp only at p;cases e1:Hv ρ i with
 |bad=>rw[e1]at p;exact p.elim
 |exn z=>exact(Sh e1).elim
 |ok ds=>
  rw[e1,O.of_ok]at p;have hi:=Tp e1;obtain⟨a,xs,q,ha,hh,r⟩:=x.good.owK hi;refine⟨_,q,⟨a,xs,rfl,hh⟩,x.aok,ρ,x.good,?_⟩;cases e3:fk ρ with
  |bad=>rw[e3]at p;exact p.elim
  |exn z=>rw[e3]at p;exact fun H2 s2=>p H2 fun b o z=>s2 _ _ (x.same b o z)
  |ok dk=>
   rw[e3,R.bind_ok]at p;intro y H1 s1 ry;cases e4:FM dk with
   |bad=>rw[e4]at p;exact p.elim
   |exn z=>exact(OK e4).elim
   |ok j=>
    rw[e4,O.of_ok]at p;have x1:=x.grow s1;refine⟨x1.aok,ρ,x1.good,BH.ex x1 p fun d v H' _ s2 rv x' q'=>?_⟩
    split at q'
    ·rename_i hz;have hz:=G3 hz;obtain⟨ka,rfl,kr⟩:=KW ry (O6 e4);exact⟨a,ka,xs,ds,j,v,d,rfl,rfl,s2 _ _ (s1 _ _ hh),Repk.kp (Kp.of (s1.trans s2)) _ r,kr.kp (Kp.of s2),rv,by omega,fun x2 es' r'=>q' _ _ (x'.updO hi q (.dic r'))⟩
    ·exact q'.elim
theorem cW(hu:X.A.units+1<BD)(ho:PE X o (E5 i))(hk:ST X CL W k fk)(he:SE X CL W e fe)(hbase:Dk o "get" X.env (eval o X.env)=eval o X.env)(hfew:((Bz cpos (As [k,e] X.env)).all (fun x=>!x.1)&&(FJ cpos (Ei [] X.env)).all (fun x=>x.1.isSome)&&decide ([k,e].length+([]:Ac C9).length+(if ([]:Ac C9).isEmpty then 0 else 1)<30))=Ab)(hline:(apos.endLine==cpos.line)=Ab)(hs:As [k,e] X.env=(Ae,eval k X.env)::As [e] X.env)(hs2:As [e] X.env=[(Ae,eval e X.env)])(hpl:(Bz cpos (As [e] X.env)).any (·.1)=Ae):
  SE X CL W (.Call (.Attribute o "get" apos) [k,e] [] cpos) (fun ρ=>(Dm ρ i).bind fun d=>(QB d).bind fun kvs=>(fk ρ).bind fun a=>(FM a).bind fun j=>(fe ρ).bind fun y=>.ok ((Fu kvs j).getD y)):=fun A pI s σ H Q I ⟨hA,ρ,gd,p⟩=>by
 refine Ul PySem.F.slot_dict_get PySem.F.type_dict_get (lE (A:=A) (CL:=CL) hu) (JH (CL:=CL) (W:=W) ho A) (DH (hk A) (DH (he A) Ft hs2) hs) hbase hfew hline hs hpl pI s σ H Q I ⟨hA,ρ,gd,Bf.bind p fun d v H1 _ s1 r1 p1=>?_⟩
 cases d with
 |dic kvs=>
  have p1:Bf (fun H=>Rep X.K CL H A) W H1 ((fk ρ).bind fun a=>(FM a).bind fun j=>(fe ρ).bind fun y=>.ok ((Fu kvs j).getD y)) Q:=p1
  obtain⟨a,es,rfl,hH,rk⟩:=r1.dic_of;refine⟨⟨a,es,rfl,hH⟩,hA.same s1,ρ,gd.same s1,Bf.bind p1 fun dk y H2 _ s2 r2 p2=>?_⟩
  cases e4:FM dk with
  |bad=>rw[e4]at p2;exact p2.elim
  |exn z=>exact(OK e4).elim
  |ok j=>
   rw[e4,R.bind_ok]at p2;obtain⟨ka,rfl,kr⟩:=KW r2 (O6 e4);refine⟨(hA.same s1).same s2,ρ,(gd.same s1).same s2,Bf.bind p2 fun d v H3 _ s3 r3 p3=>?_⟩
   exact⟨a,ka,es,kvs,j,v,d,rfl,rfl,s3 _ _ (s2 _ _ hH),Repk.kp (Kp.of (s2.trans s3)) _ rk,kr.kp (Kp.of s3),r3,fun x' r'=>p3 x' H3 (AH.refl H3) r'⟩
 |_=>exact p1.elim
end
section
variable{X:Cx}{CL:ClA}{W:XW}{pos:AO}{e k o:Ap}{fe fk:Rho->R D}{i:Ag}{apos cpos:AO}
def Yg:V->Ac V->Hp->VK->Prop:=fun x vs H Q=>∃ l xs j y,x=.ref l/\vs=[.int j,y]/\H l=Aa (.lst xs)/\xs.length+1<=sizeLine/\0<=j/\j.toNat<=xs.length/\Q .non (upd H l (.lst (xs.take j.toNat++y::xs.drop j.toNat)))
theorem Bc.take{its:Ac Ak}(r:Bc xs its):∀ n,Bc (xs.take n) (its.take n):=by
 induction r with
 |nil=>intro n;simp;exact .nil
 |cons h _ ih=>
  intro n;cases n with
  |zero=>exact .nil
  |succ n=>exact .cons h (ih n)
theorem Bc.drop{its:Ac Ak}(r:Bc xs its):∀ n,Bc (xs.drop n) (its.drop n):=by
 induction r with
 |nil=>intro n;simp;exact .nil
 |cons h t ih=>
  intro n;cases n with
  |zero=>exact .cons h t
  |succ n=>exact ih n
theorem lD:MtM X "list.insert" Yg:=by
 intro pI s σ H x vs v us Q I rx rv h;obtain⟨l,xs,j,y,rfl,rfl,hH,hz,j0,j1,q⟩:=h;cases rx;cases rv with
 |cons rj rv=>
  obtain⟨t,rfl⟩:=rj;obtain⟨u,rfl,ru⟩:=Bc.one rv;obtain⟨z,its,n,r,hl,e⟩:=I.lstM hH;have ln:=r.length;have hn:=JI;have fit:¬ (!Builtin.List.listFitsIndex j)=Ab:=by
   unfold Builtin.List.listFitsIndex;simp;constructor<;>omega
  refine IU F.slot_list_insert ⟨_,e,rfl⟩ F.entry_list_insert (F.args_list_insert_3 _ _ _) (PySem.AutoListH.list_insert_list_int_val_1 l its.toArray n j t u fit (by rw[AM];omega)) ⟨e,?_⟩
  refine⟨.non,_,I.lset (its':=its.take j.toNat++u::its.drop j.toNat) hH e ?_ ((r.take _).append (.cons ru (r.drop _))) ?_,rfl,q⟩
  ·have hk:(if j<0 then (j+((its.toArray.size:Ag):Af)).toNat else min j.toNat its.toArray.size)=j.toNat:=by
    rw[AI (by omega),AM,Ip (by omega)]
   show (its.toArray.extract 0 _).push u++its.toArray.extract _=_;rw[hk]
   apply Array.ext'
   simp;exact DS (by rw[E9];exact AU _)
  ·simp only[Bu,Em,Bs,E9];omega
theorem kM(ho:PE X o (E5 i))(hk:ST X CL W k fk)(he:SE X CL W e fe)(hbase:Dk o "insert" X.env (eval o X.env)=eval o X.env)(hfew:((Bz cpos (As [k,e] X.env)).all (fun x=>!x.1)&&(FJ cpos (Ei [] X.env)).all (fun x=>x.1.isSome)&&decide ([k,e].length+([]:Ac C9).length+(if ([]:Ac C9).isEmpty then 0 else 1)<30))=Ab)(hline:(apos.endLine==cpos.line)=Ab)(hs:As [k,e] X.env=(Ae,eval k X.env)::As [e] X.env)(hs2:As [e] X.env=[(Ae,eval e X.env)])(hpl:(Bz cpos (As [e] X.env)).any (·.1)=Ae)(hsw:Cn (.Call (.Attribute o "insert" apos) [k,e] [] cpos) Ad pos.line X.env=pure Ae):
  SS X CL W (.Expr (.Call (.Attribute o "insert" apos) [k,e] [] cpos) pos) (fun ρ=>O.of ρ (Cv ρ i) fun xs=>O.of ρ ((fk ρ).bind EK) fun j=>O.of ρ (fe ρ) fun d=>if (Ci (xs.length+1)&&decide (0<=j)&&decide (j<=xs.length))=Ab then .next (ρ.set i (Aa (.lst (xs.take j.toNat++d::xs.drop j.toNat),Ab))) else .bad):=fun Fz B pI s σ H D I ⟨ρ,x,p⟩=>by
 refine IZ (NH EA PySem.F.slot_list_insert PySem.F.type_list_insert lD ho (DH (hk (By B ρ σ)) (DH (he (By B ρ σ)) Ft hs2) hs) hbase hfew hline hs hpl) hsw pI s σ H D I ?_;dsimp only at p;cases e1:Cv ρ i with
 |bad=>rw[e1]at p;exact p.elim
 |exn z=>exact(Md e1).elim
 |ok ds=>
  rw[e1,O.of_ok]at p;have hi:=Mp e1;obtain⟨a,xs,ds',q,e2,ha,hh,r⟩:=x.good.owL hi;cases e2;refine⟨_,q,.inl ⟨rfl,xs,SqL.of hh⟩,x.aok,ρ,x.good,?_⟩;cases e3:fk ρ with
  |bad=>rw[e3]at p;exact p.elim
  |exn z=>rw[e3]at p;exact fun H2 s2=>p H2 fun b o z=>s2 _ _ (x.same b o z)
  |ok dk=>
   rw[e3,R.bind_ok]at p;intro y H1 s1 ry;cases dk with
   |int j=>
    have ey:=ry.int_of;subst ey;rw[L8,O.of_ok]at p;have x1:=x.grow s1;refine⟨x1.aok,ρ,x1.good,BH.ex x1 p fun d v H' _ s2 rv x' q'=>?_⟩
    split at q'
    ·rename_i hz;simp only[Aj,AT]at hz;obtain⟨⟨h1,h2⟩,h3⟩:=hz;have h1:=G3 h1;have r':=r.same (s1.trans s2);have ln:=r.length;exact⟨a,xs,j,v,rfl,rfl,s2 _ _ (s1 _ _ hh),by omega,h2,by omega,q' _ _ (x'.upd hi q ((Reps.take _ r').append ⟨rv,Reps.drop _ r'⟩))⟩
    ·exact q'.elim
   |_=>exact p.elim
end
section
variable{prog:AS}{w:AB}{A:AY}{E:Vq}{s:Ar}
theorem kY{t:Ah}{k:Ag}{x:Ak}{Q:Vq}(st:s.heap.IsTupleIter j t k)(sq:s.heap.IsTuple t its)(at_:its[k]?=Aa x)(go:∀ h2,h2.IsTupleIter j t (k+1)->DU j s.heap h2->Q x {s with heap:=h2}):Ax (model prog w) A (BK (.ref j)) Q E s:=by
 obtain⟨oj,gj,cj,dj⟩:=id st;obtain⟨ot,gt,_,nt,dt⟩:=sq;show Ax _ _ (HQ _ _ >>= _) _ _ _;refine Al (CW st.typeIs D6 (Fc D6 st.typeIs WS ?_ (WN _)));show Ax _ _ (field (.ref j) 0 >>= _) _ _ _;refine Al (BP gj dj (x:=.ref t) rfl ?_);show Ax _ _ (field (.ref j) 1 >>= _) _ _ _;refine Al (BP gj dj (x:=.int k 0) rfl ?_);refine Al (DN gt dt ?_);simp only[EQ,at_];exact Al (FV gj dj (by simp) (AC ⟨x,rfl,AC (go _ ⟨_,Cp _ gj (E1 (Dr dj _)),(W3 ..).trans cj,by rw[Dr dj];simp[Er]⟩ (Ez ..))⟩))
theorem Zl{t:Ah}{k:Ag}{Q:Vq}(calm:A.handled=Ad)(st:s.heap.IsTupleIter j t k)(sq:s.heap.IsTuple t its)(at_:its[k]?=Ad)(up:∀ h2 e,Iz j s.heap h2->(∃ o,h2.get? e=Aa o/\o.cls=.type "StopIteration")->E (.ref e) {s with heap:=h2}):Ax (model prog w) A (BK (.ref j)) Q E s:=by
 obtain⟨oj,gj,cj,dj⟩:=id st;obtain⟨ot,gt,_,nt,dt⟩:=sq;show Ax _ _ (HQ _ _ >>= _) _ _ _;refine Al (CW st.typeIs D6 (Fc D6 st.typeIs WS ?_ (WN _)));show Ax _ _ (field (.ref j) 0 >>= _) _ _ _;refine Al (BP gj dj (x:=.ref t) rfl ?_);show Ax _ _ (field (.ref j) 1 >>= _) _ _ _;refine Al (BP gj dj (x:=.int k 0) rfl ?_);refine Al (DN gt dt ?_);simp only[EQ,at_];refine Al (HA (Al (FV gj dj (by simp) ?_)))
 refine Al ?_;simp only[newExc,newTuple];refine Al (C1 ?_ (by size_fits))
 refine Al (m:=Xm _ _) (JV (a:=.none) (by first|rfl|(simp only[Xm];rfl)) (C1 ?_ (by size_fits)))
 simp only[raiseNew];refine Al (wpAny_handled ?_)
 first|rw[show A.in1.handled=Ad from calm]|rw[calm]
 exact Al (AC (wpAny_throw (up _ _ (((Ez ..).extBut.push _).push _) ⟨_,AV _ rfl,rfl⟩)))
end
structure Dw (prog:AS) (w:AB) (A:AY) (j:Ah) (fp:Ac Ah) (n:Ag) (P:Ag->Ak->Prop) (S:Ag->AF->Prop):Prop where
 frame:∀ i h h2,S i h->(∀ c∈fp,∀ o,h.get? c=Aa o->h2.get? c=Aa o)->S i h2
 item:∀ i (s:Ar) (Q:Vq) (E:Vq),i<n->S i s.heap->(∀ x h2 tk,P i x->S (i+1) h2->DU j s.heap h2->Q x {s with heap:=h2,toks:=tk})->Ax (model prog w) A (BK (.ref j)) Q E s
 done:∀ i (s:Ar) (Q:Vq) (E:Vq),n<=i->S i s.heap->(∀ h2 e,Iz j s.heap h2->(∃ o,h2.get? e=Aa o/\o.cls=.type "StopIteration")->E (.ref e) {s with heap:=h2})->Ax (model prog w) A (BK (.ref j)) Q E s
def EO(t:Ao)(h:AF)(j l:Ah)(i:Ag):Prop:=match t with
  |true=>h.IsTupleIter j l i
  |false=>h.IsListIter j l i
def ED(t:Ao)(h:AF)(l:Ah)(its:Bj Ak):Prop:=match t with
  |true=>h.IsTuple l its
  |false=>h.IsList l its
theorem Lo{A:AY}(calm:A.handled=Ad)(t:Ao)(j l:Ah)(ne:l≠j)(its:Bj Ak):Dw prog w A j [j,l] its.size (fun i v=>its[i]?=Aa v) (fun i h=>EO t h j l i/\ED t h l its):=by
 cases t with
 |true=>exact⟨fun _ _ _ z k=>⟨z.1.at fun o e=>k j (by simp) o e,z.2.at fun o e=>k l (by simp) o e⟩,fun i s Q E hi z q=>kY z.1 z.2 (x:=its[i]) (by simp[hi]) fun h2 z2 sb=>q _ h2 s.toks (by simp[hi]) ⟨z2,z.2.extBut sb.extBut ne⟩ sb,fun i s Q E hi z q=>Zl calm z.1 z.2 (by simp[hi]) q⟩
 |false=>exact⟨fun _ _ _ z k=>⟨z.1.at fun o e=>k j (by simp) o e,z.2.at fun o e=>k l (by simp) o e⟩,fun i s Q E hi z q=>wpAny_nextOf_list_item z.1 z.2 (x:=its[i]) (by simp[hi]) fun h2 z2 sb=>q _ h2 s.toks (by simp[hi]) ⟨z2,z.2.extBut sb.extBut ne⟩ sb,fun i s Q E hi z q=>wpAny_nextOf_list_end calm z.1 z.2 (by simp[hi]) q⟩
theorem nb1{I l c:Ag}(b:l<I)(h:c∈[I,l])(j:Ag):c≠I+(j+1):=by
 have h':c=I\/c=l:=by simpa using h
 omega
theorem nb2{I l c:Ag}(b:l<I)(h:c∈[I+1,l]):c≠I/\c≠I+3/\c≠I+4:=by
 have h':c=I+1\/c=l:=by simpa using h
 omega
theorem nij{I i j:Ag}(h:i≠j):I+i≠I+j:=by omega
theorem ni0{I i:Ag}(h:i≠0):I+i≠I:=by omega
section
variable{prog:AS}{w:AB}{A:AY}{E:Vq}{s:Ar}
theorem Z1{I l1 l2 n1 n2 k:Ag}{P1 P2:Ag->Ak->Prop}{S1 S2:Ag->AF->Prop}{a b:Ak}{Q:Vq}(b1:l1<I)(b2:l2<I)(D1:Dw prog w A I [I,l1] n1 P1 S1)(D2:Dw prog w A (I+1) [I+1,l2] n2 P2 S2)(hz:GM s.heap (I+4) (I+2) (I+3) .none)(hI:EZ s.heap (I+2) (.ref I) (.ref (I+1)))(hO:EZ s.heap (I+3) a b)(g1:S1 k s.heap)(g2:S2 k s.heap)(k1:k<n1)(k2:k<n2)(go:∀ x y h2 tk,P1 k x->P2 k y->GM h2 (I+4) (I+2) (I+3) (Er s.heap.objs.size)->EZ h2 (I+3) x y->S1 (k+1) h2->S2 (k+1) h2->EZ h2 s.heap.objs.size x y ->
   (∀ c o,c∉[I,I+1,I+3,I+4]->s.heap.get? c=Aa o->h2.get? c=Aa o)->Q (.ref s.heap.objs.size) {s with heap:=h2,toks:=tk}):Ax (model prog w) A (Builtin.«zip.__next__» ⟨[.ref (I+4)],[]⟩) (fun fin s'=>∃ v,fin=.done (.ret v)/\Q v s') E s:=by
 refine Al (m:=field (.ref (I+4)) 2) (BP hz rfl (x:=.bool Ae) rfl ?_);refine Al (m:=field (.ref (I+4)) 3) (BP hz rfl (x:=.ref (I+2)) rfl (Al (DN hI rfl ?_)));refine Al (m:=CT (.ref (I+4))) ?_;simp only[CT];refine Al (BP hz rfl (x:=.none) rfl (AC ?_));rw[AG rfl];refine Al (HA (Al (BP hz rfl (x:=.ref (I+3)) rfl (Al (DW hz (by simp) fun p1 z1 e1=>Al ?_)))))
 have z1':GM p1 (I+4) (I+2) (I+3) .ellipsis:=z1;simp only[Wr,Ws,Io,GY];refine Al (Al (Gn (Al (m:=BK (.ref I)) (D1.item k _ _ _ k1 (D1.frame _ _ _ g1 fun c hc o q=>e1.extBut c o (nb1 b1 hc 3) q) fun x p2 t2 px s2 e2=>AC ?_))))
 have o2:EZ p2 (I+3) a b:=e2.extBut _ _ (ni0 (by decide)) (e1.extBut _ _ (nij (by decide)) hO)
 refine Al (DN o2 rfl (Al (GR o2 fun p3 o3 e3=>Al (IA (AC ?_)))))
 have o3':EZ p3 (I+3) x b:=o3;have g2':S2 k p3:=D2.frame _ _ _ g2 fun c hc o q=>e3.extBut c o (nb2 b2 hc).2.1 (e2.extBut c o (nb2 b2 hc).1 (e1.extBut c o (nb2 b2 hc).2.2 q))
 refine Al (Al (Gn (Al (m:=BK (.ref (I+1))) (D2.item k _ _ _ k2 g2' fun y p4 t4 py s4 e4=>AC ?_))))
 have o4:EZ p4 (I+3) x b:=e4.extBut _ _ (nij (by decide)) o3'
 refine Al (DN o4 rfl (Al (GR o4 fun p5 o5 e5=>Al (IA (AC (AC ?_))))))
 have o5':EZ p5 (I+3) x y:=o5;have sz:p5.objs.size=s.heap.objs.size:=by rw[e5.1,e4.1,e3.1,e2.1,e1.1]
 have z5:GM p5 (I+4) (I+2) (I+3) .ellipsis:=e5.extBut _ _ (nij (by decide)) (e4.extBut _ _ (nij (by decide)) (e3.extBut _ _ (nij (by decide)) (e2.extBut _ _ (ni0 (by decide)) z1')))
 refine Al (DN o5' rfl (Al (wpAny_newTuple ?_)));refine Al (m:=WH (.ref (I+4)) (.ref p5.objs.size)) ?_;simp only[WH];have z6:GM (p5.push { cls:=.type "tuple", data:=.seq #[x,y] }) (I+4) (I+2) (I+3) .ellipsis:=Au _ z5;refine Al (DW z6 (by simp) fun p7 z7 e7=>?_)
 have z7':GM p7 (I+4) (I+2) (I+3) (Er p5.objs.size):=z7;refine DW z7' (by simp) fun p8 z8 e8=>AC ⟨_,rfl,?_⟩
 have z8':GM p8 (I+4) (I+2) (I+3) (Er p5.objs.size):=z8;have lt5:I+4<p5.objs.size:=AQ z5;have up:∀ c o,c≠I+4->p5.get? c=Aa o->p8.get? c=Aa o:=fun c o nc q=>e8.extBut _ _ nc (e7.extBut _ _ nc (Au _ q))
 have t8:EZ p8 p5.objs.size x y:=e8.extBut _ _ (EW lt5) (e7.extBut _ _ (EW lt5) (AV _ rfl));have a1:S1 (k+1) p8:=D1.frame _ _ _ s2 fun c hc o q=>up c o (nb1 b1 hc 3) (e5.extBut c o (nb1 b1 hc 2) (e4.extBut c o (nb1 b1 hc 0) (e3.extBut c o (nb1 b1 hc 2) q)))
 have a2:S2 (k+1) p8:=D2.frame _ _ _ s4 fun c hc o q=>up c o (nb2 b2 hc).2.2 (e5.extBut c o (nb2 b2 hc).2.1 q)
 have kp:∀ c o,c∉[I,I+1,I+3,I+4]->s.heap.get? c=Aa o->p8.get? c=Aa o:=fun c o nc q=>by
  simp only[AD,Bt,C4,FQ]at nc;exact up c o nc.2.2.2 (e5.extBut c o nc.2.2.1 (e4.extBut c o nc.2.1 (e3.extBut c o nc.2.2.1 (e2.extBut c o nc.1 (e1.extBut c o nc.2.2.2 q)))))
 have q:=go x y p8 t4 px py (by rw[<-sz];exact z8') (up _ _ (nij (by decide)) o5') a1 a2 (by rw[<-sz];exact t8) kp
 rw[<-sz]at q;exact q
theorem bM{I l1 l2 n1 n2 k:Ag}{P1 P2:Ag->Ak->Prop}{S1 S2:Ag->AF->Prop}{a b:Ak}{Q:Fin->Ar->Prop}(b1:l1<I)(b2:l2<I)(D1:Dw prog w A I [I,l1] n1 P1 S1)(D2:Dw prog w A (I+1) [I+1,l2] n2 P2 S2)(hz:GM s.heap (I+4) (I+2) (I+3) .none)(hI:EZ s.heap (I+2) (.ref I) (.ref (I+1)))(hO:EZ s.heap (I+3) a b)(g1:S1 k s.heap)(g2:S2 k s.heap)(hk:n1<=k\/(k<n1/\n2<=k))(up:∀ h2 e tk,(∀ c o,c∉[I,I+1,I+3,I+4]->s.heap.get? c=Aa o->h2.get? c=Aa o)->(∃ o,h2.get? e=Aa o/\o.cls=.type "StopIteration")->E (.ref e) {s with heap:=h2,toks:=tk}):Ax (model prog w) A (Builtin.«zip.__next__» ⟨[.ref (I+4)],[]⟩) Q E s:=by
 refine Al (m:=field (.ref (I+4)) 2) (BP hz rfl (x:=.bool Ae) rfl ?_);refine Al (m:=field (.ref (I+4)) 3) (BP hz rfl (x:=.ref (I+2)) rfl (Al (DN hI rfl ?_)));refine Al (m:=CT (.ref (I+4))) ?_;simp only[CT];refine Al (BP hz rfl (x:=.none) rfl (AC ?_));rw[AG rfl];refine Al (HA (Al (BP hz rfl (x:=.ref (I+3)) rfl (Al (DW hz (by simp) fun p1 z1 e1=>Al ?_)))))
 have z1':GM p1 (I+4) (I+2) (I+3) .ellipsis:=z1;simp only[Wr,Ws,Io,GY];have g1':S1 k p1:=D1.frame _ _ _ g1 fun c hc o q=>e1.extBut c o (nb1 b1 hc 3) q
 rcases hk with k1|⟨k1,k2⟩
 ·refine Al (Al (Gn (Al (m:=BK (.ref I)) (D1.done _ _ _ _ k1 g1' fun p2 e e2 he=>?_))))
  obtain⟨oe,hoe,hce⟩:=he;have z2:GM p2 (I+4) (I+2) (I+3) .ellipsis:=e2 _ _ (ni0 (by decide)) z1'
  have ne:e≠I+4:=fun x=>by subst x;rw[z2]at hoe;cases hoe;simp at hce
  refine DW z2 (by simp) fun p3 _ e3=>up p3 e s.toks (fun c o nc q=>?_) ⟨oe,e3.extBut _ _ ne hoe,hce⟩
  simp only[AD,Bt,C4,FQ]at nc;exact e3.extBut c o nc.2.2.2 (e2 c o nc.1 (e1.extBut c o nc.2.2.2 q))
 ·refine Al (Al (Gn (Al (m:=BK (.ref I)) (D1.item k _ _ _ k1 g1' fun x p2 t2 px s2 e2=>AC ?_))))
  have o2:EZ p2 (I+3) a b:=e2.extBut _ _ (ni0 (by decide)) (e1.extBut _ _ (nij (by decide)) hO)
  refine Al (DN o2 rfl (Al (GR o2 fun p3 o3 e3=>Al (IA (AC ?_)))))
  have g2':S2 k p3:=D2.frame _ _ _ g2 fun c hc o q=>e3.extBut c o (nb2 b2 hc).2.1 (e2.extBut c o (nb2 b2 hc).1 (e1.extBut c o (nb2 b2 hc).2.2 q))
  refine Al (Al (Gn (Al (m:=BK (.ref (I+1))) (D2.done _ _ _ _ k2 g2' fun p4 e e4 he=>?_))))
  obtain⟨oe,hoe,hce⟩:=he;have z4:GM p4 (I+4) (I+2) (I+3) .ellipsis:=e4 _ _ (nij (by decide)) (e3.extBut _ _ (nij (by decide)) (e2.extBut _ _ (ni0 (by decide)) z1'))
  have ne:e≠I+4:=fun x=>by subst x;rw[z4]at hoe;cases hoe;simp at hce
  refine DW z4 (by simp) fun p5 _ e5=>up p5 e t2 (fun c o nc q=>?_) ⟨oe,e5.extBut _ _ ne hoe,hce⟩
  simp only[AD,Bt,C4,FQ]at nc;exact e5.extBut c o nc.2.2.2 (e4 c o nc.2.1 (e3.extBut c o nc.2.2.1 (e2.extBut c o nc.1 (e1.extBut c o nc.2.2.2 q))))
end
def SqX(t:Ao)(K:Fg)(H:Hp)(a:Ah)(xs:Ac V):Prop:=match t with
  |true=>SqT K H a xs
  |false=>SqL K H a xs
theorem Jc(I:Inv X pI σ H s)(h:SqX t X.K H a xs):∃ its:Ac Ak,Bc xs its/\ED t s.heap a its.toArray/\xs.length<=sizeLine:=by
 cases t with
 |true=>
  obtain⟨its,rv,p,z⟩:=I.tuple h;exact⟨its,rv,p,z⟩
 |false=>
  obtain⟨its,rv,p,z⟩:=I.list h;exact⟨its,rv,p.isList,z⟩
theorem OC{ys:Ac V}(I:Inv X pI σ H s)(h:SqX t X.K H a xs)(h2:SqX t X.K H a ys):xs=ys:=by
 cases t with
 |true=>exact I.tuple_inj h h2
 |false=>exact I.list_inj h h2
noncomputable def Itz(K:Fg)(t1 t2:Ao)(a b:Ah):It:=
  ⟨fun i H=>∃ xs ys x y,SqX t1 K H a xs/\SqX t2 K H b ys/\xs[i]?=Aa x/\ys[i]?=Aa y,
   fun i H v H'=>∃ p x y,H p=Ad/\v=.ref p/\(∀ xs,SqX t1 K H a xs->xs[i]?=Aa x)/\(∀ ys,SqX t2 K H b ys->ys[i]?=Aa y)/\H'=upd H p (.tup [x,y]),
   fun i H=>∃ xs ys,SqX t1 K H a xs/\SqX t2 K H b ys/\(xs.length<=i\/(i<xs.length/\ys.length<=i))⟩
theorem Inv.turnedL{t':Ag}(ch:Ac Ah)(I:Inv X pI σ H s)(k:∀ b o,b∉ch->s.heap.get? b=Aa o->h'.get? b=Aa o)(hf:∀ b∈ch,Hc X pI H b):Inv X pI σ H {s with heap:=h',toks:=t'}:=by
 have nit:∀ b u,H b=Aa u->b∉ch:=fun b u e z=>by rw[(hf b z).1]at e;cases e
 refine I.step (g':=s.gens) (d':=s.drawn) (ch:=ch) (fun b hb=>⟨(hf b hb).2.2.2.1,(hf b hb).2.1,(hf b hb).2.2.2.2.1,(hf b hb).2.2.2.2.2⟩) (fun b o _ _ hc e _=>k b o hc e) (fun b o _ _ hc e _=>⟨o.slots,k b o hc e⟩) (fun _ _ _ _ n=>n)
  (fun b o hc e=>⟨o,k b o hc e⟩) (fun _ _ e=>e) (fun _ _ _ e=>e) (fun b ps e=>⟨#[],by rw[e];simp⟩) (fun m ⟨o,es,ep,ho,r⟩=>⟨o,es,ep,k _ o (fun z=>(hf _ z).2.1 rfl) ho,r⟩) (fun b u e=>(I.hok b u e).stay (fun c v hc q=>k c v ?_ q) (fun _ q=>q) fun _ _ q=>q) I.bare
 rcases hc with z|z
 ·rw[z];exact nit b u e
 ·exact nit c _ z
def zTn(t1 t2:Ao)(I l1 l2:Ag)(i:Ag)(h:AF):Prop:=GM h (I+4) (I+2) (I+3) .none/\EZ h (I+2) (.ref I) (.ref (I+1))/\(∃ a b,EZ h (I+3) a b)/\EO t1 h I l1 i/\EO t2 h (I+1) l2 i
noncomputable def zFp(I:Ag):Ac Ah:=[I,I+1,I+2,I+3,I+4]
theorem EO.obj(z:EO t h j l i):∃ o,h.get? j=Aa o/\∀ v,o.data≠.cell v:=by
 cases t with
 |true=>obtain⟨o,e,c,d⟩:=z;exact⟨o,e,fun v z=>by rw[d]at z;cases z⟩
 |false=>obtain⟨o,e,c,d⟩:=z;exact⟨o,e,fun v z=>by rw[d]at z;cases z⟩
theorem EO.at'(z:EO t h j l i)(k:∀ o,h.get? j=Aa o->h2.get? j=Aa o):EO t h2 j l i:=by
 cases t with
 |true=>exact PySem.Heap.IsTupleIter.at z k
 |false=>exact PySem.Heap.IsListIter.at z k
theorem ZD(t1 t2:Ao)(I l1 l2:Ag)(b1:l1<I)(b2:l2<I):Turn P w K (.Tuple es n pos) (Itz K t1 t2 l1 l2) (zFp I) (I+4) (zTn t1 t2 I l1 l2) where
  mem:=by simp[zFp]
  obj:=fun i h ⟨z1,z2,⟨a,b,z3⟩,z4,z5⟩ c hc=>by
    simp only[zFp,AD,Bt,C4]at hc;rcases hc with rfl|rfl|rfl|rfl|rfl
    · exact z4.obj
    · exact z5.obj
    · exact⟨_,z2,fun v z=>by cases z⟩
    · exact⟨_,z3,fun v z=>by cases z⟩
    · exact⟨_,z1,fun v z=>by cases z⟩
  keep:=fun i h h2 ⟨z1,z2,⟨a,b,z3⟩,z4,z5⟩ k=>⟨k _ (by simp[zFp]) _ z1,k _ (by simp[zFp]) _ z2,⟨a,b,k _ (by simp[zFp]) _ z3⟩,z4.at' fun o e=>k _ (by simp[zFp]) o e,z5.at' fun o e=>k _ (by simp[zFp]) o e⟩
  item:=by
    intro X hP hw hK hc i pI s σ H E Iv hf ⟨z1,z2,⟨a,b,z3⟩,z4,z5⟩ ⟨xs,ys,x,y,q1,q2,hx,hy⟩;subst hP hw hK;obtain⟨us,rx,sx,_⟩:=Jc Iv q1;obtain⟨vs,ry,sy,_⟩:=Jc Iv q2;obtain⟨u,hu,ru⟩:=rx.get hx;obtain⟨v,hv,rv⟩:=ry.get hy;have hT:s.TypeIs (.ref (I+4)) "zip" := ⟨_,z1,rfl⟩;have calm:X.A.in1.handled=Ad:=Iv.ok.hd hc;show Ax _ _ (IP _) _ _ _;simp only[IP];refine Al (wpAny_attempt (CW hT GL (Fc GL hT WT (Z1 (k:=i) b1 b2 (Lo calm t1 I l1 (Bo b1) us.toArray) (Lo calm t2 (I+1) l2 (Bo (ES b2)) vs.toArray) z1 z2 z3 ⟨z4,sx⟩ ⟨z5,sy⟩
      (by have:=(Bg.mp hu).1;simpa using this) (by have:=(Bg.mp hv).1;simpa using this) fun x' y' h2 tk px py c1 c2 c3 c4 c5 kp=>AC ?_) (WO _))))
    have ex:x'=u:=by
      have px':us[i]?=Aa x':=by simpa using px
      rw[hu]at px';exact(Bw px').symm
    have ey:y'=v:=by
      have py':vs[i]?=Aa y':=by simpa using py
      rw[hv]at py';exact(Bw py').symm
    subst ex ey;refine⟨_,rfl,wpAny_letOwnedTupleGo_zip c1 fun h3 d1 sb=>?_⟩
    have lt4:I+4<s.heap.objs.size:=AQ z1;have kp3:∀ c o,c∉zFp I->s.heap.get? c=Aa o->h3.get? c=Aa o:=fun c o nc q=>by
      simp only[zFp,AD,Bt,C4,FQ]at nc;exact sb.extBut c o nc.2.2.2.2 (kp c o (by simp only[AD,Bt,C4,FQ];exact⟨nc.1,nc.2.1,nc.2.2.2.1,nc.2.2.2.2⟩) q)
    have nT:∀ c∈zFp I,c≠s.heap.objs.size:=fun c hc z=>by
      have:c<=I+4:=by
        simp only[zFp,AD,Bt,C4]at hc;rcases hc with z|z|z|z|z<;>rw[z]<;>simp
      exact absurd (z ▸ FG this lt4) (BF _)
    have I1:Inv X pI σ (upd H s.heap.objs.size (.tup [x,y])) { s with heap:=s.heap.push { cls:=.type "tuple", data:=.seq #[x',y'] },toks:=s.toks }:=
      Iv.laid (fun _ _ q=>Au _ q) (AU _) ⟨(by decide:2<=sizeLine),[x',y'],.cons ru (.cons rv .nil),⟨_,AV _ rfl,rfl,_,rfl⟩⟩
    have hf':∀ b∈zFp I,Hc X pI (upd H s.heap.objs.size (.tup [x,y])) b:=fun b hb=>⟨by rw[BG (nT b hb)];exact(hf b hb).1,(hf b hb).2⟩
    have I2:Inv X pI σ (upd H s.heap.objs.size (.tup [x,y])) {s with heap:=h3,toks:=tk}:=Inv.turnedL (s:={ s with heap:=s.heap.push { cls:=.type "tuple", data:=.seq #[x',y'] },toks:=s.toks }) (zFp I) I1 (fun c o nc q=>by
      rcases W1 q with ⟨e1,e2⟩|e1
      · subst e1 e2;exact sb.extBut _ _ (EW lt4) c5
      · exact kp3 c o nc e1) hf'
    refine⟨.ref s.heap.objs.size,_,I2,rfl,⟨s.heap.objs.size,x,y,Iv.fresh,rfl,fun zs hz=>by rw[OC Iv hz q1];exact hx,fun zs hz=>by rw[OC Iv hz q2];exact hy,rfl⟩,⟨d1,sb.extBut _ _ (nij (by decide)) (kp _ _ (by simp) z2),⟨_,_,sb.extBut _ _ (nij (by decide)) c2⟩,c3.1.at' fun o q=>sb.extBut _ o (DZ (ni0 (by decide))) q,c4.1.at' fun o q=>sb.extBut _ o (nij (by decide)) q⟩,fun b hb=>(hf' b hb).1⟩
  done:=by
    intro X hP hw hK hc i pI s σ H E Iv hf ⟨z1,z2,⟨a,b,z3⟩,z4,z5⟩ ⟨xs,ys,q1,q2,hk⟩;subst hP hw hK;obtain⟨us,rx,sx,_⟩:=Jc Iv q1;obtain⟨vs,ry,sy,_⟩:=Jc Iv q2;have hT:s.TypeIs (.ref (I+4)) "zip" := ⟨_,z1,rfl⟩;have calm:X.A.in1.handled=Ad:=Iv.ok.hd hc;have e1:=rx.length;have e2:=ry.length;simp only[IP];refine Al (wpAny_attempt (CW hT GL (Fc GL hT WT (bM (k:=i) b1 b2 (Lo calm t1 I l1 (Bo b1) us.toArray) (Lo calm t2 (I+1) l2 (Bo (ES b2)) vs.toArray) z1 z2 z3 ⟨z4,sx⟩ ⟨z5,sy⟩
      (by simp only[AM];omega) fun h2 e tk kp he=>?_) (WO _))))
    obtain⟨o,ho,hcl⟩:=he;refine Al (wpAny_isInstance (T := "StopIteration") (b:=Ab) ⟨o,ho,hcl⟩ isSubtype_stop (AC ⟨rfl,Inv.turnedL [I,I+1,I+3,I+4] Iv (fun c o nc q=>kp c o nc q) fun c hc=>hf c ?_⟩))
    simp only[AD,Bt,C4]at hc;simp only[zFp,AD,Bt,C4];rcases hc with rfl|rfl|rfl|rfl<;>simp
  self:=fun _ _ _ _ _ st h=>Xy st.1 h
section
variable{prog:AS}{w:AB}{A:AY}{E:Vq}{s:Ar}
noncomputable def itO(t:Ao)(l:Ah):Dl:=match t with
  |true=>{ cls:=.type "tuple_iterator", data:=.fields #[.ref l,.int 0 0] }
  |false=>{ cls:=.type "list_iterator", data:=.fields #[.ref l,.int 0 0] }
theorem MF{Q:Vq}(h:ED t s.heap l its)(q:Q (.ref s.heap.objs.size) {s with heap:=s.heap.push (itO t l)}):Ax (model prog w) A (LV (.ref l)) Q E s:=by
 cases t with
 |true=>exact Xx h q
 |false=>exact Hz h q
theorem ED.push(z:ED t h l its)(o:Dl):ED t (h.push o) l its:=by
 cases t with
 |true=>exact PySem.Heap.IsTuple.at z fun _ e=>Au _ e
 |false=>exact PySem.Heap.IsList.at z fun _ e=>Au _ e
theorem PZ(e:h.get? j=Aa (itO t l)):EO t h j l 0:=by
 cases t with
 |true=>exact⟨_,e,rfl,rfl⟩
 |false=>exact⟨_,e,rfl,rfl⟩
theorem Pb(t:Ao)(l:Ah):(itO t l).isFreed=Ae:=by cases t<;>rfl
noncomputable abbrev zh2(t1 t2:Ao)(h:AF)(l1 l2:Ah):AF:=(h.push (itO t1 l1)).push (itO t2 l2)
noncomputable abbrev zh3(t1 t2:Ao)(h:AF)(l1 l2:Ah):AF:=(zh2 t1 t2 h l1 l2).push { cls:=.type "tuple", data:=.seq #[.ref h.objs.size,.ref (h.push (itO t1 l1)).objs.size] }
noncomputable abbrev zh4(t1 t2:Ao)(h:AF)(l1 l2:Ah):AF:=(zh3 t1 t2 h l1 l2).push { cls:=.type "tuple", data:=.seq #[.none,.none] }
noncomputable abbrev zh5(t1 t2:Ao)(h:AF)(l1 l2:Ah):AF:=(zh4 t1 t2 h l1 l2).push { cls:=.type "zip", data:=.fields #[.none,.bool Ae,.bool Ae,.ref (zh2 t1 t2 h l1 l2).objs.size,.ref (zh3 t1 t2 h l1 l2).objs.size] }
theorem bL(t1 t2:Ao)(l1 l2:Ah)(xs ys:Bj Ak):Meets (Builtin.«zip.__new__» ⟨[.type "zip", .ref l1,.ref l2],[]⟩) (fun _ R s=>ED t1 s.heap l1 xs/\ED t2 s.heap l2 ys/\R (.ok (.ret (.ref (zh4 t1 t2 s.heap l1 l2).objs.size))) {s with heap:=zh5 t1 t2 s.heap l1 l2}):=
 .of_wp fun prog w A R s h=>by
  obtain⟨hp,g,d,tk,os⟩:=s;obtain⟨a1,a2,q⟩:=h;have hsub:=sub_zip;have L1:ED t1 (JT ⟨hp,g,d,tk,os⟩) l1 xs:=a1;have L2:ED t2 (JT ⟨hp.push (itO t1 l1),g,d,tk,os⟩) l2 ys:=a2.push _
  wp_walk using MF L1,MF L2
  exact⟨_,rfl,q⟩
theorem Z2{t1 t2:Ao}{l1 l2:Ah}{xs ys:Bj Ak}{Q:Vq}(a1:ED t1 s.heap l1 xs)(a2:ED t2 s.heap l2 ys)(q:∀ h2,zTn t1 t2 s.heap.objs.size l1 l2 0 h2->(∀ c o,s.heap.get? c=Aa o->h2.get? c=Aa o)->Q (.ref (s.heap.objs.size+4)) {s with heap:=h2}):Ax (model prog w) A (call (.type "zip") [.ref l1,.ref l2]) Q E s:=by
 refine callType_new F.called_zip (by decide) (F.typeCall_zip_2 _ _) (F.newCall_zip_2 _ _) (fun obj=>F.args_object_init_3 obj _ _) F.entry_zip_new (bL t1 t2 l1 l2 xs ys) ⟨a1,a2,?_⟩
 have s1:(s.heap.push (itO t1 l1)).objs.size=s.heap.objs.size+1:=CU ..;have s2:(zh2 t1 t2 s.heap l1 l2).objs.size=s.heap.objs.size+2:=by rw[CU,s1]
 have s3:(zh3 t1 t2 s.heap l1 l2).objs.size=s.heap.objs.size+3:=by rw[CU,s2]
 have s4:(zh4 t1 t2 s.heap l1 l2).objs.size=s.heap.objs.size+4:=by rw[CU,s3]
 have u5:∀ {c o},(zh4 t1 t2 s.heap l1 l2).get? c=Aa o->(zh5 t1 t2 s.heap l1 l2).get? c=Aa o:=fun e=>Au _ e
 have u4:∀ {c o},(zh3 t1 t2 s.heap l1 l2).get? c=Aa o->(zh5 t1 t2 s.heap l1 l2).get? c=Aa o:=fun e=>u5 (Au _ e)
 have u3:∀ {c o},(zh2 t1 t2 s.heap l1 l2).get? c=Aa o->(zh5 t1 t2 s.heap l1 l2).get? c=Aa o:=fun e=>u4 (Au _ e)
 have u2:∀ {c o},(s.heap.push (itO t1 l1)).get? c=Aa o->(zh5 t1 t2 s.heap l1 l2).get? c=Aa o:=fun e=>u3 (Au _ e)
 have g5:(zh5 t1 t2 s.heap l1 l2).get? (zh4 t1 t2 s.heap l1 l2).objs.size=Aa _:=AV _ rfl;have g4:(zh5 t1 t2 s.heap l1 l2).get? (zh3 t1 t2 s.heap l1 l2).objs.size=Aa _:=u5 (AV _ rfl);have g3:(zh5 t1 t2 s.heap l1 l2).get? (zh2 t1 t2 s.heap l1 l2).objs.size=Aa _:=u4 (AV _ rfl);have g2:(zh5 t1 t2 s.heap l1 l2).get? (s.heap.push (itO t1 l1)).objs.size=Aa _:=u3 (AV _ (Pb _ _));have g1:(zh5 t1 t2 s.heap l1 l2).get? s.heap.objs.size=Aa _:=u2 (AV _ (Pb _ _));show _/\_;rw[s2,s3,s4]at g5;rw[s3]at g4;rw[s1,s2]at g3;rw[s1]at g2;rw[s4];exact⟨⟨_,g5,rfl⟩,q _ ⟨g5,g3,⟨_,_,g4⟩,PZ g1,PZ g2⟩ fun c o e=>u2 (Au _ e)⟩
end
def XI(K:Fg)(ta:TA):TI:=fun σ H R=>ta σ H fun vs H1=>∃ t1 t2 a b xs ys,vs=[.ref a,.ref b]/\SqX t1 K H1 a xs/\SqX t2 K H1 b ys/\(xs.length<=sizeLine->R (Itz K t1 t2 a b) H1)
theorem ED.lt(z:ED t h a its):a<h.objs.size:=by
 cases t with
 |true=>obtain⟨o,e,_⟩:=z;exact AQ e
 |false=>obtain⟨o,e,_⟩:=z;exact AQ e
theorem lS{a b:Ap}(hg:Gl X "zip")(hm:X.mg "zip" = Ad)(ha:PA X [a,b] ta)(hs:As [a,b] X.env=[(Ae,eval a X.env),(Ae,eval b X.env)])(hs2:As [b] X.env=[(Ae,eval b X.env)]):
  PI X (.Tuple es n tpos) (.Call (.Name "zip" p) [a,b] [] pos) (XI X.K ta):=by
 intro pI s σ H R I h;refine Call_ (Kn I hg hm PyProof.Rows.boot_zip (C7 (thn (ha pos pI s σ H _ I h) fun us s1 ⟨vs,H1,I1,r1,q1⟩=>?_) (by rw[hs,hs2]) (by rw[hs2];rfl)))
 obtain⟨t1,t2,c,d,xs,ys,e,sx,sy,q⟩:=q1;subst e;cases r1 with
 |cons r rr=>
  cases rr with
  |cons r' rr=>
   cases rr;cases r;cases r';obtain⟨us,ru,iu,zu⟩:=Jc I1 sx;obtain⟨vs,rv,iv,_⟩:=Jc I1 sy;refine Z2 iu iv fun h2 z kp=>Xy z.1 ?_
   refine⟨s1.heap.objs.size+4,zFp s1.heap.objs.size,_,_,H1,rfl,I1.kept (t':=s1.toks) kp,ZD t1 t2 s1.heap.objs.size c d iu.lt iv.lt,z,fun b hb=>?_,q zu⟩
   have hb':s1.heap.objs.size<=b:=by
    simp only[zFp,AD,Bt,C4]at hb;rcases hb with z|z|z|z|z<;>rw[z]<;>simp
   exact I1.fpOk hb' (I1.hok.fresh hb')
theorem Qm{ds:Ac D}(r:Rep K CL H A v d)(e:De d=.ok ds):∃ t a xs,v=.ref a/\(∀ H2,Kp A H H2->SqX t K H2 a xs)/\Reps K CL H A xs ds:=by
 cases d with
 |lst es=>
  cases e;obtain⟨q,xs,rfl,na,sq,r⟩:=r;exact⟨Ae,q,xs,rfl,fun H2 k=>Nu k na sq,r⟩
 |tup es=>
  cases e;obtain⟨q,xs,rfl,na,sq,r⟩:=r;exact⟨Ab,q,xs,rfl,fun H2 k=>Mv k na sq,r⟩
 |_=>cases e
theorem O7:∀(xs ys:Ac D),(F7 xs ys).length=min xs.length ys.length
 |[],_=>by simp[F7]
 |_::_,[]=>by simp[F7]
 |x::xs,y::ys=>by
  rw[F7,Bs,O7 xs ys];simp only[Bs];omega
theorem RG:∀(xs ys:Ac D)(i:Ag)(d:D),(F7 xs ys)[i]?=Aa d->∃ x y,xs[i]?=Aa x/\ys[i]?=Aa y/\d=.tup [x,y]
 |[],_,i,d,h=>by simp[F7]at h
 |_::_,[],i,d,h=>by simp[F7]at h
 |x::xs,y::ys,0,d,h=>by
  rw[F7]at h;simp only[Wg,CD]at h;exact⟨x,y,rfl,rfl,h.symm⟩
 |x::xs,y::ys,i+1,d,h=>by
  rw[F7]at h;simp only[Wf]at h ⊢;exact RG xs ys i d h
theorem Z4{t1 t2:Ao}{ys:Ac V}{ds es:Ac D}(s1:∀ H2,Kp A H1 H2->SqX t1 K H2 a xs)(s2:∀ H2,Kp A H1 H2->SqX t2 K H2 b ys)(r1:Reps K CL H1 A xs ds)(r2:Reps K CL H1 A ys es) :Je K CL A (F7 ds es) (Itz K t1 t2 a b) H1:=fun H k i=>by
 refine⟨fun hi=>⟨xs,ys,s1 H k,s2 H k,?_⟩,fun d hd=>?_⟩
 ·rw[O7]at hi;rw[r1.length,r2.length];omega
 ·obtain⟨x,y,hx,hy,rfl⟩:=RG _ _ _ _ hd;obtain⟨u,hu,ru⟩:=r1.get hx;obtain⟨v,hv,rv⟩:=r2.get hy;refine⟨⟨xs,ys,u,v,s1 H k,s2 H k,hu,hv⟩,?_⟩;rintro w' H' ⟨p,x',y',hp,rfl,c1,c2,rfl⟩;have ex:x'=u:=Bw ((c1 xs (s1 H k)).symm.trans hu);have ey:y'=v:=Bw ((c2 ys (s2 H k)).symm.trans hv);subst ex ey;have sm:=F2 hp (.tup [x',y']);exact⟨sm,fun B hB aB=>Ld aB hp ⟨L9 ru k hB,L9 rv k hB,trivial⟩⟩
section
variable{X:Cx}{CL:ClA}{W:XW}{pos p:AO}{a b:Ap}{fa fb:Rho->R D}
theorem jU(ha:SE X CL W a fa)(hb:SE X CL W b fb)(hg:Gl X "zip")(hm:X.mg "zip" = Ad)(hs:As [a,b] X.env=[(Ae,eval a X.env),(Ae,eval b X.env)])(hs2:As [b] X.env=[(Ae,eval b X.env)]):
  SI X CL W (.Tuple es n tpos) (.Call (.Name "zip" p) [a,b] [] pos) (fun ρ=>(fa ρ).bind fun x=>(fb ρ).bind fun y=>(De x).bind fun xs=>(De y).bind fun ys=>.ok (F7 xs ys)):=
 fun A=>PI.weak (lS hg hm (DH (ha A) (DH (hb A) Ft hs2) (by rw[hs,hs2])) hs hs2) fun σ H R ⟨hA,ρ,g,q⟩=>⟨hA,ρ,g,Fd.ex q fun d v H1 _ s1 r1 p1=>⟨hA.same s1,ρ,g.same s1,Fd.ex p1 fun d2 v2 H2 _ s2 r2 p2=>by
  cases e1:De d with
  |bad=>rw[e1]at p2;exact p2.elim
  |exn z=>exact absurd e1 (by cases d<;>simp[De])
  |ok ds=>
   cases e2:De d2 with
   |bad=>rw[e1,e2]at p2;exact p2.elim
   |exn z=>exact absurd e2 (by cases d2<;>simp[De])
   |ok es=>
    rw[e1,e2]at p2;obtain⟨t1,c1,xs,rfl,k1,rs1⟩:=Qm (r1.same s2) e1;obtain⟨t2,c2,ys,rfl,k2,rs2⟩:=Qm r2 e2;refine⟨t1,t2,c1,c2,xs,ys,rfl,k1 H2 (Kp.of (AH.refl H2)),k2 H2 (Kp.of (AH.refl H2)),fun hz=>p2 _ H2 (AH.refl H2) (Z4 k1 k2 rs1 rs2) ?_⟩
    rw[O7,<-rs1.length];omega⟩⟩
end
theorem EO.live{j l:Ag}(z:EO t h j l i):∃ o,h.get? j=Aa o/\∀ v,o.data≠.cell v:=by
 cases t with
 |true=>obtain⟨o,e,c,d⟩:=z;exact⟨o,e,fun v z=>by rw[d]at z;cases z⟩
 |false=>obtain⟨o,e,c,d⟩:=z;exact⟨o,e,fun v z=>by rw[d]at z;cases z⟩
theorem EO.keep{j l:Ag}(z:EO t h j l i)(k:∀ o,h.get? j=Aa o->h2.get? j=Aa o):EO t h2 j l i:=by
 cases t with
 |true=>exact PySem.Heap.IsTupleIter.at z k
 |false=>exact PySem.Heap.IsListIter.at z k
theorem oB{A:AY}(calm:A.handled=Ad)(t:Ao)(j l:Ah)(ne:l≠j)(its:Bj Ak):Draws prog w A j [j,l] its.size (fun i v=>its[i]?=Aa v) (fun i h=>EO t h j l i/\ED t h l its):=
 have d:=Lo (prog:=prog) (w:=w) calm t j l ne its
 ⟨fun i h z=>let ⟨o,e,_⟩:=z.1.live;⟨o,e⟩,d.frame,d.item,fun s Q E h q=>d.done _ s Q E (AU _) h q⟩
theorem iT{A:AY}(calm:A.handled=Ad)(t:Ao)(j l:Ah)(ne:l≠j)(its:Bj Ak)(i:Ag)(hi:its.size<=i):Draws prog w A j [j,l] i (fun _ _=>AW) (fun k h=>k=i/\EO t h j l i/\ED t h l its):=
 have d:=Lo (prog:=prog) (w:=w) calm t j l ne its
 ⟨fun _ h z=>let ⟨o,e,_⟩:=z.2.1.live;⟨o,e⟩,fun k h h' z q=>⟨z.1,d.frame i h h' z.2 q⟩,fun k s Q E lt z=>absurd z.1 (Bo lt),fun s Q E h q=>d.done i s Q E hi h.2 q⟩
noncomputable def Ite(K:Fg)(t:Ao)(a:Ah):It:=
 ⟨fun i H=>∃ xs x,SqX t K H a xs/\xs[i]?=Aa x,fun i H v H'=>∃ p x,H p=Ad/\v=.ref p/\(∀ xs,SqX t K H a xs->xs[i]?=Aa x)/\H'=upd H p (.tup [.int i,x]),fun i H=>∃ xs,SqX t K H a xs/\xs.length<=i⟩
def eTn(t:Ao)(I l:Ag)(i:Ag)(h:AF):Prop:=(∃ old,IsEnum h (I+1) I i old)/\EO t h I l i
theorem YV(t:Ao)(I l:Ag)(b:l<I):Turn P w K (.Tuple es n pos) (Ite K t l) [I,I+1] (I+1) (eTn t I l) where
  mem:=by simp
  obj:=fun i h ⟨⟨old,z1⟩,z2⟩ c hc=>by
    simp only[AD,Bt,C4]at hc;rcases hc with rfl|rfl
    · exact z2.live
    · exact⟨_,z1,fun v z=>by cases z⟩
  keep:=fun i h h2 ⟨⟨old,z1⟩,z2⟩ k=>⟨⟨old,k _ (by simp) _ z1⟩,z2.keep fun o e=>k _ (by simp) o e⟩
  item:=by
    intro X hP hw hK hc i pI s σ H E Iv hf ⟨⟨old,z1⟩,z2⟩ ⟨xs,x,q1,hx⟩;subst hP hw hK;obtain⟨us,rx,px,_⟩:=Jc Iv q1;obtain⟨u,hu,ru⟩:=rx.get hx;have lu:i<us.toArray.size:=by
      have:=(Bg.mp hu).1;simpa using this
    refine wpAny_pyNext_enum_itemD (oB (A:=X.A.in1) (Iv.ok.hd hc) t I l (Bo b) us.toArray) z1 ⟨z2,px⟩ lu (ni0 (by decide)) (by simp only[AD,Bt,C4,FQ];exact⟨ni0 (by decide),EW (AN b (Nat.le_add_right _ _))⟩) fun u' h2 tk hu' ho it2 hT sz kp=>⟨_,rfl,wpAny_letOwnedTupleGo_enum ho fun h3 d1 sb=>?_⟩
    have eu:u'=u:=by
      rw[List.getElem?_toArray,hu]at hu';exact(Bw hu').symm
    subst eu;have lt:I+1<s.heap.objs.size:=AQ z1;have kp3:∀ c o,c∉[I,I+1]->s.heap.get? c=Aa o->h3.get? c=Aa o:=fun c o nc q=>by
      simp only[AD,Bt,C4,FQ]at nc;exact sb.extBut c o nc.2 (kp c o nc.2 nc.1 q)
    have nT:∀ c∈[I,I+1],c≠s.heap.objs.size:=fun c hc z=>by
      have:c<=I+1:=by
        simp only[AD,Bt,C4]at hc;rcases hc with z|z<;>rw[z]<;>simp
      exact absurd (z ▸ FG this lt) (BF _)
    have I1:Inv X pI σ (upd H s.heap.objs.size (.tup [.int i,x])) { s with heap:=s.heap.push { cls:=.type "tuple", data:=.seq #[.int i tk,u'] },toks:=s.toks }:=
      Iv.laid (fun _ _ q=>Au _ q) (AU _) ⟨(by decide:2<=sizeLine),[.int i tk,u'],.cons ⟨_,rfl⟩ (.cons ru .nil),⟨_,AV _ rfl,rfl,_,rfl⟩⟩
    have hf':∀ b∈[I,I+1],Hc X pI (upd H s.heap.objs.size (.tup [.int i,x])) b:=fun b hb=>⟨by rw[BG (nT b hb)];exact(hf b hb).1,(hf b hb).2⟩
    have I2:Inv X pI σ (upd H s.heap.objs.size (.tup [.int i,x])) {s with heap:=h3,toks:=tk+1}:=Inv.turnedL (s:={ s with heap:=s.heap.push { cls:=.type "tuple", data:=.seq #[.int i tk,u'] },toks:=s.toks }) [I,I+1] I1 (fun c o nc q=>by
      rcases W1 q with ⟨e1,e2⟩|e1
      · subst e1 e2;exact sb.extBut _ _ (EW lt) hT
      · exact kp3 c o nc e1) hf'
    exact⟨.ref s.heap.objs.size,_,I2,rfl,⟨s.heap.objs.size,x,Iv.fresh,rfl,fun zs hz=>by rw[OC Iv hz q1];exact hx,rfl⟩,⟨⟨u',by simpa using d1⟩,it2.1.keep fun o q=>sb.extBut _ o (DZ (ni0 (by decide))) q⟩,fun b hb=>(hf' b hb).1⟩
  done:=by
    intro X hP hw hK hc i pI s σ H E Iv hf ⟨⟨old,z1⟩,z2⟩ ⟨xs,q1,hk⟩;subst hP hw hK;obtain⟨us,rx,px,_⟩:=Jc Iv q1;have e1:=rx.length;have e2:us.toArray.size<=i:=by rw[AM,<-e1];exact hk
    refine wpAny_pyNext_enum_endD (iT (A:=X.A.in1) (Iv.ok.hd hc) t I l (Bo b) us.toArray i e2) z1 ⟨rfl,z2,px⟩ fun h2 eb=>⟨rfl,Inv.turnedL [I] Iv (t':=s.toks) (fun c o nc q=>eb c o (fun z=>nc (by simp[z])) q) fun c hc=>hf c ?_⟩
    have:c=I:=by simpa using hc
    subst this;simp
  self:=fun _ _ _ _ _ st h=>Xv st.1.choose_spec h
section
variable{prog:AS}{w:AB}{A:AY}{E:Vq}{s:Ar}
theorem aA(t:Ao)(l:Ah)(xs:Bj Ak):Meets (Builtin.«enumerate.__new__» ⟨[.type "enumerate", .ref l],[]⟩) (fun _ R s=>ED t s.heap l xs /\
   R (.ok (.ret (.ref (s.heap.push (itO t l)).objs.size))) { s with heap:=(s.heap.push (itO t l)).push { cls:=.type "enumerate", data:=.fields #[.none,.bool Ae,.ref s.heap.objs.size,Er 0,.none,.none] } }):=
 .of_wp fun prog w A R s h=>by
  obtain⟨hp,g,d,tk,os⟩:=s;obtain⟨hl,h⟩:=h;have hsub:=sub_enumerate;have hL:ED t (JT ⟨hp,g,d,tk,os⟩) l xs:=hl
  wp_walk
  refine wpAny_stack_any fun st=>AC ?_
  split
  ·rename_i c _ _ _ _ _;cases (c==Kz "enumerate")
   ·wp_walk using MF hL
    exact⟨_,rfl,h⟩
   ·wp_walk using MF hL
    exact⟨_,rfl,h⟩
  ·wp_walk using MF hL
   exact⟨_,rfl,h⟩
theorem Y5{xs:Bj Ak}{Q:Vq}(hL:ED t s.heap l xs)(h:∀ h',IsEnum h' (s.heap.objs.size+1) s.heap.objs.size 0 .none->EO t h' s.heap.objs.size l 0->(∀ b o,s.heap.get? b=Aa o->h'.get? b=Aa o)->Q (.ref (s.heap.objs.size+1)) {s with heap:=h'}):
    Ax (model prog w) A (call (.type "enumerate") [.ref l]) Q E s:=by
  refine callType_new F.called_enumerate (by decide) (F.typeCall_enumerate_1 _) (F.newCall_enumerate_1 _) (fun obj=>F.args_object_init_2 obj _) F.entry_enumerate_new (aA t l xs) ⟨hL,?_⟩
  have hz:(s.heap.push (itO t l)).objs.size=s.heap.objs.size+1:=CU ..;show _/\_;rw[hz];have he:IsEnum ((s.heap.push (itO t l)).push { cls:=.type "enumerate", data:=.fields #[.none,.bool Ae,.ref s.heap.objs.size,Er 0,.none,.none] }) (s.heap.objs.size+1) s.heap.objs.size 0 .none:=by
    have:=AV (s.heap.push (itO t l)) (o:={ cls:=.type "enumerate", data:=.fields #[.none,.bool Ae,.ref s.heap.objs.size,Er 0,.none,.none] }) rfl;rw[hz]at this;exact this
  exact⟨⟨_,he,rfl⟩,h _ he (PZ (Au _ (AV _ (Pb _ _)))) fun b o x=>Au _ (Au _ x)⟩
end
def XJ(K:Fg)(ta:TA):TI:=fun σ H R=>ta σ H fun vs H1=>∃ t a xs,vs=[.ref a]/\SqX t K H1 a xs/\(xs.length<=sizeLine->R (Ite K t a) H1)
theorem fY{a:Ap}(hg:Gl X "enumerate")(hm:X.mg "enumerate" = Ad)(ha:PA X [a] ta)(hs:As [a] X.env=[(Ae,eval a X.env)]):
  PI X (.Tuple es n tpos) (.Call (.Name "enumerate" p) [a] [] pos) (XJ X.K ta):=by
 intro pI s σ H R I h;refine Call_ (Kn I hg hm PyProof.Rows.boot_enumerate (C7 (thn (ha pos pI s σ H _ I h) fun us s1 ⟨vs,H1,I1,r1,q1⟩=>?_) hs rfl))
 obtain⟨t,c,xs,e,sx,q⟩:=q1;subst e;cases r1 with
 |cons r rr=>
  cases rr;cases r;obtain⟨us,ru,pu,zu⟩:=Jc I1 sx;refine Y5 pu fun h2 z1 z2 kp=>Xv z1 ?_
  refine⟨s1.heap.objs.size+1,[s1.heap.objs.size,s1.heap.objs.size+1],_,_,H1,rfl,I1.kept (t':=s1.toks) kp,YV t s1.heap.objs.size c pu.lt,⟨⟨_,z1⟩,z2⟩,fun b hb=>?_,q zu⟩
  have hb':s1.heap.objs.size<=b:=by
   simp only[AD,Bt,C4]at hb;rcases hb with z|z<;>rw[z]<;>simp
  exact I1.fpOk hb' (I1.hok.fresh hb')
theorem O4:∀(j:Af)(xs:Ac D),(Fe j xs).length=xs.length
 |_,[]=>rfl
 |j,x::xs=>by rw[Fe,Bs,O4,Bs]
theorem R1:∀(xs:Ac D)(j:Af)(i:Ag)(d:D),(Fe j xs)[i]?=Aa d->∃ x,xs[i]?=Aa x/\d=.tup [.int (j+i),x]
 |[],j,i,d,h=>by simp[Fe]at h
 |x::xs,j,0,d,h=>by
  rw[Fe]at h;simp only[Wg,CD]at h;exact⟨x,rfl,by rw[<-h];simp⟩
 |x::xs,j,i+1,d,h=>by
  rw[Fe]at h;simp only[Wf]at h ⊢;obtain⟨y,h1,h2⟩:=R1 xs (j+1) i d h;exact⟨y,h1,by rw[h2];congr 3;omega⟩
theorem Y2{ds:Ac D}(sq:∀ H2,Kp A H1 H2->SqX t K H2 a xs)(r1:Reps K CL H1 A xs ds):Je K CL A (Fe 0 ds) (Ite K t a) H1:=fun H k i=>by
 have s1:=sq H k;refine⟨fun hi=>⟨xs,s1,?_⟩,fun d hd=>?_⟩
 ·rw[O4]at hi;rw[r1.length];exact hi
 ·obtain⟨x,hx,rfl⟩:=R1 _ _ _ _ hd;obtain⟨u,hu,ru⟩:=r1.get hx;refine⟨⟨xs,u,s1,hu⟩,?_⟩;rintro w' H' ⟨p,x',hp,rfl,c1,rfl⟩;have ex:x'=u:=Bw ((c1 xs s1).symm.trans hu);subst ex;rw[Ek];exact⟨F2 hp (.tup [.int i,x']),fun B hB aB=>Ld aB hp ⟨rfl,L9 ru k hB,trivial⟩⟩
section
variable{X:Cx}{CL:ClA}{W:XW}{pos p:AO}{a:Ap}{fa:Rho->R D}
theorem eT(ha:SE X CL W a fa)(hg:Gl X "enumerate")(hm:X.mg "enumerate" = Ad)(hs:As [a] X.env=[(Ae,eval a X.env)]):
  SI X CL W (.Tuple es n tpos) (.Call (.Name "enumerate" p) [a] [] pos) (fun ρ=>(fa ρ).bind fun x=>(De x).bind fun xs=>.ok (Fe 0 xs)):=
 fun A=>PI.weak (fY hg hm (DH (ha A) Ft hs) hs) fun σ H R ⟨hA,ρ,g,q⟩=>⟨hA,ρ,g,Fd.ex q fun d v H1 _ s1 r1 p1=>by
  cases e1:De d with
  |bad=>rw[e1]at p1;exact p1.elim
  |exn z=>exact absurd e1 (by cases d<;>simp[De])
  |ok ds=>
   rw[e1]at p1;obtain⟨t,c,xs,rfl,k1,rs⟩:=Qm r1 e1;exact⟨t,c,xs,rfl,k1 H1 (Kp.of (AH.refl H1)),fun hz=>p1 _ H1 (AH.refl H1) (Y2 k1 rs) (by rw[O4,<-rs.length];exact hz)⟩⟩
end
noncomputable abbrev VD(h:AF)(z TI TO:Ah)(f0 f1:Ak):Prop:=h.get? z=Aa { cls:=.type "zip", dict:=Ad,data:=.fields #[f0,f1,.bool Ae,.ref TI,.ref TO],slots:=#[] }
noncomputable abbrev VE(h:AF)(T:Ah)(a b c:Ak):Prop:=h.get? T=Aa { cls:=.type "tuple", data:=.seq #[a,b,c] }
section
variable{prog:AS}{w:AB}{A:AY}{E:Vq}{s:Ar}
def Z3(t1 t2 t3:Ao)(I l1 l2 l3 i:Ag)(h:AF):Prop:=VE h (I+3) (.ref (I+0)) (.ref (I+1)) (.ref (I+2))/\EO t1 h (I+0) l1 i/\EO t2 h (I+1) l2 i/\EO t3 h (I+2) l3 i/\(∃ a b c,VE h (I+4) a b c) /\
 (VD h (I+5) (I+3) (I+4) .none (.bool Ae)\/∃(T1:Ag)(f1:Ao),VD h (I+5) (I+3) (I+4) (Er T1) (.bool f1))
end
section
variable{prog:AS}{w:AB}{A:AY}{R:Js->Ar->Prop}
theorem ED.at'(z:ED t h l its)(k:∀ o,h.get? l=Aa o->h2.get? l=Aa o):ED t h2 l its:=by
 cases t with
 |true=>exact PySem.Heap.IsTuple.at z k
 |false=>exact PySem.Heap.IsList.at z k
theorem Z3.at'{t1 t2 t3:Ao}{I l1 l2 l3 i:Ag}{h h2:AF}(z:Z3 t1 t2 t3 I l1 l2 l3 i h)(k:∀ j,j<=5->∀ o,h.get? (I+j)=Aa o->h2.get? (I+j)=Aa o):Z3 t1 t2 t3 I l1 l2 l3 i h2:=by
 obtain⟨zI,i1,i2,i3,⟨a,b,c,hO⟩,zz⟩:=z;exact⟨k 3 (by decide) _ zI,i1.at' fun o q=>k 0 (by decide) o q,i2.at' fun o q=>k 1 (by decide) o q,i3.at' fun o q=>k 2 (by decide) o q,⟨a,b,c,k 4 (by decide) _ hO⟩,zz.imp (k 5 (by decide) _) fun ⟨T1,f1,hz⟩=>⟨T1,f1,k 5 (by decide) _ hz⟩⟩
end
section
variable{prog:AS}{w:AB}{A:AY}{E:Vq}{s:Ar}
end
theorem Z3.ty{t1 t2 t3:Ao}{I l1 l2 l3 i:Ag}(z:Z3 t1 t2 t3 I l1 l2 l3 i s.heap):s.TypeIs (.ref (I+5)) "zip" := by
 obtain⟨_,_,_,_,_,hz|⟨_,_,hz⟩⟩:=z
 ·exact⟨_,hz,rfl⟩
 ·exact⟨_,hz,rfl⟩
theorem Z3.lt{t1 t2 t3:Ao}{I l1 l2 l3 i:Ag}(z:Z3 t1 t2 t3 I l1 l2 l3 i s.heap):I+5<s.heap.objs.size:=by
 obtain⟨o,h,_⟩:=z.ty;exact AQ h
section
variable{prog:AS}{w:AB}{A:AY}{E:Vq}{s:Ar}
end
section
variable{X:Cx}{CL:ClA}{W:XW}{pos p pos' p':AO}{a b c:Ap}{fa fb fc:Rho->R D}
end
section
variable{X:Cx}{CL:ClA}{W:XW}{pos p tpos:AO}{a b c:Ap}{fa fb fc:Rho->R D}{x:Ai}
end
section
variable{X:Cx}{CL:ClA}{W:XW}{a:Ap}{fa:Rho->R D}
end
section
variable{X:Cx}{CL:ClA}{W:XW}{o o' e:Ap}{fe:Rho->R D}{i j:Ag}{apos cpos apos' cpos' pos:AO}
end
section
variable{X:Cx}{CL:ClA}{W:XW}
end
section
variable{X:Cx}
variable{CL:ClA}{W:XW}{pos p pos' p':AO}{a b:Ap}{fa fb:Rho->R D}
end
section
variable{X:Cx}{CL:ClA}{W:XW}{e o o' k l:Ap}{fe:Rho->R Ov.D}{i ik il:Ag}{pos spos spos' tpos:AO}{kt:Ag}
end
section
variable{prog:AS}{w:AB}{A:AY}{E:Vq}{s:Ar}
theorem RK{it t:Ah}{items:Bj Ak}(hne:t≠it):∀(n i:Ag)(s:Ar)(Q:Ac Ak->Ar->Prop),s.heap.IsListIter it t i->s.heap.IsList t items->i+n<=items.size->(∀ h',h'.IsListIter it t (i+n)->DU it s.heap h'->Q ((items.toList.drop i).take n) {s with heap:=h'})->Ax (model prog w) A (draw (.ref it) n) Q E s
 |0,i,s,Q,hit,_,_,hQ=>by
  show Ax _ _ (pure []) Q E s;exact AC (by simpa using hQ s.heap hit (WY ..))
 |n+1,i,s,Q,hit,ht,hle,hQ=>by
  have hlt:i<items.size:=by omega
  show Ax _ _ (IP (.ref it) >>= _) Q E s;refine Al (XA hit ht (x:=items[i]) (by simp[hlt]) fun h₁ hit₁ hs₁=>?_)
  refine Al (BX (RK hne n (i+1) _ _ hit₁ (ht.extBut hs₁.extBut hne) (by omega) fun h₂ hit₂ hs₂=>AC ?_))
  have hd:items.toList.drop i=items[i]::items.toList.drop (i+1):=by simp[Fw,hlt]
  have:=hQ h₂ (by rw[show i+(n+1)=i+1+n by omega];exact hit₂) (hs₁.trans hs₂)
  rw[hd,List.take_succ_cons]at this;exact this
theorem Ym{t:Ah}{Q:Ac Ak->Ar->Prop}(hh:A.handled=Ad)(ht:s.heap.IsList t items)(hQ:∀ h',Iz s.heap.objs.size s.heap h'->Q items.toList {s with heap:=h'}):Ax (model prog w) A (unpackItems (.ref t) items.size Ad) Q E s:=by
 have hlt:t≠s.heap.objs.size:=by obtain⟨o,ho,_⟩:=ht;exact Bo (AQ ho)
 have htp:(s.heap.push { cls:=.type "list_iterator", data:=.fields #[.ref t,.int 0 0] }).IsList t items:=by
  obtain⟨o,ho,r⟩:=ht;exact⟨o,Au _ ho,r⟩
 unfold unpackItems;refine Al ?_
 ·unfold notIterableAtAll;refine Al (wpAny_specialOf ht.typeIs slot_list_iter.lookup ?_);refine AC ?_;simp only[VY,Jl];refine Al (BX (Hz ht ?_));refine Al (BX (RK hlt items.size 0 _ _ ⟨_,AV _ rfl,rfl,rfl⟩ htp (by omega) fun h₁ hit₁ hs₁=>?_))
  have hall:List.take items.size (List.drop 0 items.toList)=items.toList:=by
   rw[Wc];exact DS (by simp)
  rw[hall];rw[AI (by simp)]
  have ht₁:h₁.IsList t items:=htp.extBut hs₁.extBut hlt;refine Al (BX (Xz hh hit₁ ht₁ (by simp) fun h₂ he₂=>?_))
  simp only[Option.isSome_none,VY,Jl];refine AC (hQ h₂ fun b o hb e=>he₂ b o hb (hs₁.extBut b o hb (Au _ e)))
theorem Yl{elts:Ac Ap}{x1}{t:Ah}{Q:FZ->Ar->Prop}(hh:A.handled=Ad)(ht:s.heap.IsList t items) (hn:(B5 elts env).length=items.size) (hstar:(B5 elts env).findIdx? (·.1)=Ad) (h:∀ h',Iz s.heap.objs.size s.heap h'->Ax (model prog w) A (assignInOrder ((B5 elts env).map (·.2)) items.toList) Q E {s with heap:=h'}):Ax (model prog w) A (assign (.Tuple elts x1 pos) env (.ref t)) Q E s:=by
 rw[assign_Tuple];refine Al (D8 ?_);unfold unpack;rw[hn,hstar];exact Al (BX (Ym hh ht h))
end
section
variable{X:Cx}{pos:AO}{CL:ClA}
def gSq(K:Fg)(n:Ag)(t:TGs):TG:=fun v σ H Q=>LB K n t v σ H Q\/∃ a xs,v=.ref a/\SqL K H a xs/\xs.length=n/\t xs σ H Q
theorem rV{k:Ag}{t:TGs}(hc:X.calm=Ab)(h:PGs X es t)(hn:(B5 es X.env).length=n)(hst:(B5 es X.env).findIdx? (·.1)=Ad):PG X (.Tuple es k pos) (gSq X.K n t):=by
 intro pI s σ H v u Q I r hw;rcases hw with hw|hw
 ·exact P8 hc h hn hst pI s σ H v u Q I r hw
 ·obtain⟨a,xs,e1,hq,hl,hw⟩:=hw;subst e1;cases r;obtain⟨its,rv,ht,hz⟩:=I.list hq;refine Yl (I.ok.hd hc) ht.isList (by simp[hn,<-hl,rv.length]) hst fun h' hx=>?_
  have I1:Inv X pI σ H {s with heap:=h'}:=I.kept (t':=s.toks) fun b o e=>hx b o (Bo (AQ e)) e
  exact h pI _ σ H xs _ Q I1 (by simpa using rv) hw
theorem uB(ts:Ac Ag):GT K CL (H9 ts) (gSq K ts.length (ts.foldr (fun t u=>Ib (Fv t) u) Ii)):=fun Fz B ρ σ H v d ρ' Q x r e k=>by
 cases d with
 |lst ds=>
  obtain⟨a,xs,rfl,na,sq,rs⟩:=r;rw[Z0]at e;cases e2:DX ts ds ρ with
  |none=>rw[e2]at e;cases e
  |some ρ2=>
   rw[e2]at e;cases e;exact .inr ⟨a,xs,rfl,sq,by rw[rs.length];exact M0 _ _ _ _ e2,P5 ts ds xs ρ _ σ Q x rs e2 k⟩
 |_=>exact .inl (Up ts Fz B ρ σ H v _ ρ' Q x r e k)
end
section
variable{X:Cx}{CL:ClA}{W:XW}
end
end Ov
namespace Ov
open PySem PySem.W PyProof.Rows
variable{p:Bj Ag}{m:Ag}
def Kr{α:Type}(lt:Ag->Ag->Ao)(n:Ag):KasT α->(α->Prop)->Prop
 |.ret a,Q=>Q a
 |.ask i j k,Q=>i<n/\j<n/\Kr lt n (k (lt i j)) Q
theorem Kr.mono{α:Type}{lt:Ag->Ag->Ao}{n:Ag}{Q Q':α->Prop}:∀{t:KasT α},Kr lt n t Q->(∀ a,Q a->Q' a)->Kr lt n t Q'
 |.ret _,h,k=>k _ h
 |.ask i j f,h,k=>⟨h.1,h.2.1,Kr.mono (t:=f (lt i j)) h.2.2 k⟩
theorem Kr.bind{α β:Type}{lt:Ag->Ag->Ao}{n:Ag}{f:α->KasT β}{Q:β->Prop}:∀{t:KasT α},Kr lt n t (fun a=>Kr lt n (f a) Q)->Kr lt n (t.bind f) Q
 |.ret _,h=>h
 |.ask i j k,h=>⟨h.1,h.2.1,Kr.bind (t:=k (lt i j)) h.2.2⟩
structure Sto (lt:Ag->Ag->Ao) (n:Ag):Prop where
 tr:∀ i j k,i<n->j<n->k<n->lt i j=Ab->lt j k=Ab->lt i k=Ab
 tot:∀ i j,i<n->j<n->i≠j->lt i j=Ae->lt j i=Ab
 asy:∀ i j,i<n->j<n->lt i j=Ab->lt j i=Ae
noncomputable def at0(p:Bj Ag)(x:Ag):Ag:=p.getD x 0
structure Pm (n:Ag) (p:Bj Ag):Prop where
 sz:p.size=n
 lt:∀ x,x<n->at0 p x<n
 inj:∀ x y,x<n->y<n->at0 p x=at0 p y->x=y
section
variable{lt:Ag->Ag->Ao}{n:Ag}
def QV(lt:Ag->Ag->Ao)(p:Bj Ag)(m:Ag):Prop:=∀ x y,x<y->y<m->lt (at0 p x) (at0 p y)=Ab
def QY(lt:Ag->Ag->Ao)(p:Bj Ag)(m:Ag):Prop:=∀ x y,x<y->y<m->lt (at0 p y) (at0 p x)=Ab
theorem QV.succ(S:Sto lt n)(hp:Pm n p)(h1:1<=m)(hm:m<n)(h:QV lt p m)(e:lt (at0 p (m-1)) (at0 p m)=Ab):QV lt p (m+1):=fun x y hxy hy=>by
 by_cases hym:y<m
 ·exact h x y hxy hym
 ·have:y=m:=by omega
  subst this;by_cases hx:x=y-1
  ·rw[hx];exact e
  ·exact S.tr _ _ _ (hp.lt _ (by omega)) (hp.lt _ (by omega)) (hp.lt _ hm) (h x (y-1) (by omega) (by omega)) e
theorem QY.succ(S:Sto lt n)(hp:Pm n p)(h1:1<=m)(hm:m<n)(h:QY lt p m)(e:lt (at0 p m) (at0 p (m-1))=Ab):QY lt p (m+1):=fun x y hxy hy=>by
 by_cases hym:y<m
 ·exact h x y hxy hym
 ·have:y=m:=by omega
  subst this;by_cases hx:x=y-1
  ·rw[hx];exact e
  ·exact S.tr _ _ _ (hp.lt _ hm) (hp.lt _ (by omega)) (hp.lt _ (by omega)) e (h x (y-1) (by omega) (by omega))
end
section
variable{prog:AS}{w:AB}{A:AY}{E:Vq}{κ:SortKind}{it:Bj Keyed}
end
section
variable{lt:Ag->Ag->Ao}{n:Ag}
end
def Py(h:AF)(v:Ak)(r:Ac Af):Prop:=∃ a its,v=.ref a/\Ku h a its/\IH its.toList r/\r≠[]
theorem Py.kept{h h':AF}{v:Ak}{r:Ac Af}(t:Py h v r)(k:∀ b o,h.get? b=Aa o->h'.get? b=Aa o):Py h' v r:=by
 obtain⟨a,its,e,⟨o,ho,q⟩,i,n⟩:=t;exact⟨a,its,e,⟨o,k _ _ ho,q⟩,i,n⟩
section
variable{prog:AS}{w:AB}{A:AY}{E:Vq}{s:Ar}
end
end Ov
namespace Ov
open PySem PySem.Spec PyProof.Rows L2
variable{h h':AF}{P:AS}{w:AB}{H H':Hp}{a T' C C' OV:Ah}{oe:Dl}{vs:Bj Ak}{Q:FZ->Ar->Prop}{a0 oc:Ak}{X:Cx}{pI:Pn}{σ σ0:L2.St}{K:Fg}{m:Ai->An Ak}{x n g name qual z x0 x1:Ai}{v:An Ak}{M:He}{tk:CN}{fill expr fr:Ao}{φ:AF->Prop}{CL:ClA}{Fz:Ah->HO->Prop}{B A:Ah->Prop}{ρ:Rho}{W:XW}{hs body:Ac Be}{h0:Be}{p1 pos p pos' np cpos:AO}{fh:Rho->O}{dx an od:An Ah}{y:Ex}{up:Ag->Ac Ag}{CX:CXT}{k c kk l:Ag}{fd:BV}{ps:Ac Ai}{sp:Sp}{F:Ac D->R D}{fs:Rho->R (Ac D)}{Xw:Vq}{xn:Ag->Ac D->R Ex}{d:D}{scope:Co}{osl:Bj (An Ak)}{α:Type}{xs ys:Ac Ap}{env:Cd}{ts:Ac Ag}{as:Es}
section
variable{X:Cx}{CL:ClA}{W:XW}
end
section
variable{X:Cx}
variable{CL:ClA}{W:XW}{pos p pos' p':AO}{a:Ap}{fa:Rho->R D}
end
section
theorem eY(l:Ah)(items:Bj Ak)(n:Ag)(b:Ah)(items2:Bj Ak)(n2:Ag)(dd:An Ah)(sl:Bj (An Ak))(hs0:¬(!items.isEmpty&&DA (items.size+items2.size))=Ab)(hs1:items.size<=sizeLine)(hs2:items.size+items2.size<=sizeLine+1):
  Meets (Builtin.«list.extend» ⟨[.ref l,.ref b],[]⟩) (fun _ R s=>s.heap.get? l=Aa { cls:=.type "list", dict:=Ad,data:=.seq items n,slots:=#[] }/\s.heap.get? b=Aa { cls:=.type "tuple", dict:=dd,data:=.seq items2 n2,slots:=sl }/\R (.ok (.ret DC)) {s with heap:=s.heap.update l (GN fun x=>x++items2),toks:=s.toks}):=
 .of_wp fun prog w A R s h=>by
  obtain⟨hp,g,d,tk,os⟩:=s;obtain⟨hl,hb,h⟩:=h;have f1:=AutoSeq1.idx_int;have f2:=AutoSeq1.sub_tuple_tuple;have f3:=AutoSeq1.sub_list_list;have f4:=AutoSeq1.sub_tuple_list;have f5:=AutoSeq1.sub_list_tuple;
  have hz':(items++items2).size<=sizeLine+1:=by rw[Array.size_append];exact hs2
  wp_walk using (wpAny_updateSeq hl rfl (hz:=hs1) (_hz':=hz')),WD hl,WD hb;exact⟨_,rfl,h⟩
end
section
variable{X:Cx}
def tO(K:Fg):V->Ac V->Hp->VK->Prop:=fun x vs H Q=>∃ l b xs zs,x=.ref l/\vs=[.ref b]/\H l=Aa (.lst xs)/\SqT K H b zs/\xs.length+zs.length<=sizeLine/\Q .non (upd H l (.lst (xs++zs)))
theorem fF:MtM X "list.extend" (tO X.K):=by
 intro pI s σ H x vs v us Q I rx rv h;obtain⟨l,b,xs,zs,rfl,rfl,hH,hB,hz,q⟩:=h;cases rx;obtain⟨u,rfl,ru⟩:=rv.one;cases ru;obtain⟨z,its,n,r,hl,e⟩:=I.lstM hH;obtain⟨its2,r2,⟨o,e2,c2,n2,d2⟩,z2⟩:=I.tuple hB;have hl2:=r2.length;obtain⟨oc,od,oda,os⟩:=o;dsimp only at c2 d2;subst c2 d2;have hsz:its.toArray.size+its2.toArray.size<=sizeLine:=by rw[AM,AM];omega
 have hlong:¬ (!its.toArray.isEmpty&&DA (its.toArray.size+its2.toArray.size))=Ab:=by
  rw[Sj hsz,FR];exact Aq
 refine IU EY ⟨_,e,rfl⟩ WQ (WL _ _)
  (eY l its.toArray n b its2.toArray n2 od os hlong (by rw[AM];omega) (by omega)) ⟨e,e2,?_⟩
 refine⟨.non,_,I.lset (its':=its++its2) hH e (by simp) (r.append r2) ?_,rfl,q⟩
 rw[Bu];omega
variable{CL:ClA}{W:XW}{o e:Ap}{fe:Rho->R D}{i:Ag}{apos cpos pos:AO}
theorem eK(ho:PE X o (E5 i))(he:ST X CL W e fe)(hbase:Dk o "extend" X.env (eval o X.env)=eval o X.env)(hfew:((Bz cpos (As [e] X.env)).all (fun x=>!x.1)&&(FJ cpos (Ei [] X.env)).all (fun x=>x.1.isSome)&&decide ([e].length+([]:Ac C9).length+(if ([]:Ac C9).isEmpty then 0 else 1)<30))=Ab)(hline:(apos.endLine==cpos.line)=Ab)(hs:As [e] X.env=[(Ae,eval e X.env)])(hsw:Cn (.Call (.Attribute o "extend" apos) [e] [] cpos) Ad pos.line X.env=pure Ae):
  SS X CL W (.Expr (.Call (.Attribute o "extend" apos) [e] [] cpos) pos) (fun ρ=>O.of ρ (Cv ρ i) fun xs=>O.of ρ (fe ρ) fun x=>O.of ρ ((CV .Add x (.tup [])).bind fun y=>biD .list [y]) fun d=>O.of ρ (Lu d) fun ys=>if Ci (xs.length+ys.length)=Ab then .next (ρ.set i (Aa (.lst (xs++ys),Ab))) else .bad):=fun Fz B pI s σ H D I ⟨ρ,x,p⟩=>by
 refine IZ (NH EA EY WX fF ho (DH (he (By B ρ σ)) Ft hs) hbase hfew hline hs rfl) hsw pI s σ H D I ?_;dsimp only at p;cases e1:Cv ρ i with
 |bad=>rw[e1]at p;exact p.elim
 |exn z=>exact(Md e1).elim
 |ok ds=>
  rw[e1,O.of_ok]at p;have hi:=Mp e1;obtain⟨a,xs,ds',q,e2,ha,hh,r⟩:=x.good.owL hi;cases e2;refine⟨_,q,.inl ⟨rfl,xs,SqL.of hh⟩,x.aok,ρ,x.good,BH.ex x p fun d v H' _ s rv x' q'=>?_⟩
  cases d with
  |tup es=>
   obtain⟨b,ys,rfl,h0,h1,rs⟩:=CG.tup_of rv;have eb:CV .Add (.tup es) (.tup [])=if (!es.isEmpty&&Ci (es.length+0))=Ab then .ok (.tup (es++[])) else .bad:=rfl
   rw[eb]at q';split at q'
   ·rw[R.bind_ok,show biD .list [.tup (es++[])]=.ok (.lst (es++[])) from rfl,O.of_ok,RT,O.of_ok,Ca]at q'
    split at q'
    ·rename_i hz;refine⟨a,b,xs,ys,rfl,rfl,s _ _ hh,h1,?_,q' _ _ (x'.upd hi q ((r.same s).append rs))⟩;rw[r.length,rs.length];exact G3 hz
    ·exact q'.elim
   ·exact q'.elim
  |_=>exact q'.elim
end
section
open PySem.AutoSeq1 (wpAny_loadPart')
end
section
variable{prog:AS}{w:AB}{A:AY}{R:Js->Ar->Prop}{I S T:Ah}{u v:Ak}{c:Ag}{P:Ag->Ak->Prop}{St:Ag->AF->Prop}{s:Ar}{r q:Ac Af}
end
section
variable{X:Cx}{CL:ClA}{W:XW}
end
def N6(e T:Ah)(cls:Ak)(dx:An Ah)(fl:Ak)(h:AF):Prop:=∃ oe vs oT ts a0,h.get? e=Aa oe/\oe.cls=cls/\oe.dict=dx/\vs[0]?=Aa a0/\oe.data=.fields vs/\vs[1]?=Aa (.ref T)/\T≠e/\h.get? T=Aa oT/\oT.data=.fields ts/\ts[3]?=Aa fl
noncomputable abbrev Fly(e T:Ah)(cls:Ak)(dx:An Ah)(h:AF):Prop:=N6 e T cls dx DC h
noncomputable def Gr(C:Ah)(dx:An Ah)(t:Ah):Dl:={cls:=.ref C,dict:=dx,data:=.fields #[.ref t,.none,.none,.none,.bool Ae,.none]}
structure Shift (ex fs:Ac Ah) (h h':AF):Prop where
 keep:∀ b o,h.get? b=Aa o->b∉ex->b∉fs->h'.get? b=Aa o
 slot:∀ b o,h.get? b=Aa o->b∈fs->∃ sl,h'.get? b=Aa {o with slots:=sl}
theorem Shift.trans{ex fs:Ac Ah}{h1 h2:AF}(a:Shift ex fs h h1)(b:Shift ex fs h1 h2):Shift ex fs h h2:=
 ⟨fun c o q n m=>b.keep c o (a.keep c o q n m) n m,fun c o q m=>by
  obtain⟨sl,e1⟩:=a.slot c o q m;obtain⟨sl',e2⟩:=b.slot c _ e1 m;exact⟨sl',e2⟩⟩
theorem ObjOk.isThere:∀(o:HO),L2.ObjOk P w H h a o->∃ ob,h.get? a=Aa ob
 |.lst _,x=>by obtain⟨_,_,_,_,e⟩:=x;exact⟨_,e⟩
 |.tup _,x=>by obtain⟨_,_,_,p⟩:=x;obtain⟨o,e,_⟩:=p;exact⟨_,e⟩
 |.dK _,x=>by obtain⟨_,_,_,_,o,_,_,e,_⟩:=x;exact⟨_,e⟩
 |.dT _,x=>by obtain⟨_,_,_,_,o,_,_,e,_⟩:=x;exact⟨_,e⟩
 |.set _ _,x=>by obtain⟨o,_,_,_,e,_⟩:=x;exact⟨_,e⟩
 |.ins _ _ _,x=>by obtain⟨_,_,_,e,_⟩:=x;exact⟨_,e⟩
 |.own _,x=>x
 |.xd _,x=>by obtain⟨_,⟨_,_,_,e,_⟩,_⟩:=x;exact⟨_,e⟩
 |.met _ _,x=>⟨_,x⟩
 |.rng _ _,x=>by obtain⟨_,_,_,e⟩:=x;exact⟨_,e⟩
 |.frz _ _,x=>⟨_,x.1⟩
 |.tbl _,x=>⟨_,x⟩
 |.ext _,x=>x.2.1
theorem K4(x:HOk P w H h)(e:h.get? a=Ad):H a=Ad:=by
 cases q:H a with
 |none=>rfl
 |some o=>
  obtain⟨ob,z⟩:=ObjOk.isThere o (x a o q);rw[e]at z;cases z
theorem HOk.shift{ex fs:Ac Ah}(x:HOk P w H h)(sh:Shift ex fs h h')(h1:∀ b∈ex,H b=Ad)(h2:∀ b∈fs,H b=Ad):HOk P w H h':=fun a o e=>
 (x a o e).stay (fun b u hb q=>by
  have hs:∃ v,H b=Aa v:=by
   rcases hb with rfl|hb
   ·exact⟨_,e⟩
   ·exact⟨_,hb⟩
  obtain⟨v,hv⟩:=hs;exact sh.keep b u q (fun z=>by rw[h1 b z]at hv;cases hv) (fun z=>by rw[h2 b z]at hv;cases hv)) (fun _ q=>q) fun _ _ q=>q
theorem Un.shift{fs0 fs ex:Ac Ah}{h0:AF}(u:Un fs0 [] H H' h0 h)(sh:Shift ex fs h h')(h1:∀ b∈ex,h0.get? b=Ad)(h2:∀ b∈fs,b∈fs0\/h0.get? b=Ad):Un fs0 [] H H' h0 h' where
 keep:=fun b o q n hb hx=>sh.keep b o (u.keep b o q n hb hx) (fun z=>by rw[h1 b z]at q;cases q) fun z=>(h2 b z).elim hb fun e=>by rw[e]at q;cases q
 slot:=fun b o q n hb hx=>by
  obtain⟨sl,e1⟩:=u.slot b o q n hb hx;by_cases hf:b∈fs
  ·obtain⟨sl',e2⟩:=sh.slot b _ e1 hf;exact⟨sl',e2⟩
  ·exact⟨sl,sh.keep b _ e1 (fun z=>by rw[h1 b z]at q;cases q) hf⟩
 free:=u.free
 there:=fun b o q hx=>by
  obtain⟨o',e1⟩:=u.there b o q hx;by_cases hf:b∈fs
  ·obtain⟨sl',e2⟩:=sh.slot b _ e1 hf;exact⟨_,e2⟩
  ·exact⟨o',sh.keep b _ e1 (fun z=>by rw[h1 b z]at q;cases q) hf⟩
 tups:=u.tups
 frzs:=u.frzs
 tbls:=u.tbls
theorem iU(f:Bj Ak->Bj Ak)(o:Dl):(Gk f o).dict=o.dict:=by
 obtain⟨c,d,dt,sl⟩:=o;cases dt<;>rfl
section
variable{M:He}{A:AY}{E:Vq}{s:Ar}{env:Cd}{outer:Ac Cd}{L e T:Ah}{cls:Ak}{dx:An Ah}{base h:AF}
theorem Rt{hd:Ak}{nx:Ao}(hfr:A.frames=Aa (env::outer))(hf:env.frame=Aa L)(ff:s.heap.FunFrames base (env::outer))(he:s.heap.get? e=Aa oe)(dt:oe.data=.fields vs)(hz:1<vs.size)(hQ:∀ h' T' oT ts,h'.get? e=Aa (Gk (·.setIfInBounds 1 (.ref T')) oe)->T'≠e->s.heap.get? T'=Ad->h'.get? T'=Aa oT->oT.data=.fields ts->ts[3]?=Aa (Er L)->Shift [e] (frs (env::outer)) s.heap h'->Q () {s with heap:=h'}):
  Ax M A (do
   let fr <-frameOf env
   let pl <-entryPlaceOf L nx
   let en <-WK hd fr .none (Er L) .none pl
   setField (.ref e) 1 en) Q E s:=by
 have nf:e∉frs (env::outer):=fun z=>by
  obtain⟨_,o,q,n⟩:=ff.mem z;rw[he]at q;cases q;exact n vs dt
 refine Al (wpAny_frameOf_fun hfr ff hf fun k1 so=>Al (wpAny_entryPlaceOf fun pl ip=>?_))
 obtain⟨sz,sm,sl⟩:=so;have e1:k1.get? e=Aa oe:=(sm e nf).trans he;unfold WK;unfold newFields;refine Al (C1 ?_ (ip.sizeOk5 _ _ _ _ _));generalize hX:({ cls:=.type "traceback", dict:=Ad,data:=.fields ([hd,.ref L,.none,Er L,.none]++(if pl.isEmpty then G0 6 DC else pl)).toArray }:Dl)=ob
 have od:ob.data=.fields ([hd,.ref L,.none,Er L,.none]++(if pl.isEmpty then G0 6 DC else pl)).toArray:=by rw[<-hX]
 have nl:k1.objs.size≠e:=EW (AQ e1);have e2:=Au ob e1;refine FV e2 dt hz ?_;have up:∀ b,b≠e->((k1.push ob).update e (Gk (·.setIfInBounds 1 (.ref k1.objs.size)))).get? b=(k1.push ob).get? b:=fun b nb=>CC _ _ (DZ nb)
 have lf:ob.isFreed=Ae:=by rw[<-hX];rfl
 refine hQ _ k1.objs.size ob _ (Cp _ e2 (E1 (Dr dt _))) nl ?_ ((up _ nl).trans (AV k1 lf)) od ?_ ⟨fun b o q n1 n2=>?_,fun b o q hb=>?_⟩
 ·rw[sz];exact DB (AU _)
 ·simp
 ·have nb:b≠e:=fun z=>n1 (by rw[z];exact AE)
  rw[up b nb];exact Au ob ((sm b n2).trans q)
 ·obtain⟨sl',q'⟩:=sl b o q;have nb:b≠e:=fun z=>nf (z ▸ hb)
  exact⟨sl',(up b nb).trans (Au ob q')⟩
theorem RJ{oT:Dl}{ts:Bj Ak}{fl:Ak}(hc:oe.cls=cls)(hx:oe.dict=dx)(h0:vs[0]?=Aa a0)(dt:oe.data=.fields vs)(hz:1<vs.size)(g:h'.get? e=Aa (Gk (·.setIfInBounds 1 (.ref T')) oe))(ne:T'≠e)(gT:h'.get? T'=Aa oT)(dT:oT.data=.fields ts)(f3:ts[3]?=Aa fl):N6 e T' cls dx fl h':=
 ⟨_,_,oT,ts,a0,g,(W3 _ _).trans hc,(iU _ _).trans hx,by rw[Array.getElem?_setIfInBounds_ne (by decide)];exact h0,Dr dt _,by simp[hz],ne,gT,dT,f3⟩
theorem KR{i:Ag}{v:Ak}(q:vs[i]?=Aa v):i<vs.size:=(Array.getElem?_eq_some_iff.mp q).1
theorem Sy(hfr:A.frames=Aa (env::outer))(hf:env.frame=Aa L)(ff:s.heap.FunFrames base (env::outer))(fl:Fly e T cls dx s.heap)(hQ:∀ h' T',N6 e T' cls dx (Er L) h'->Shift [e,T] (frs (env::outer)) s.heap h'->s.heap.get? T'=Ad->Q () {s with heap:=h'}):Ax M A (Hl (.ref e) env) Q E s:=by
 obtain⟨oe,vs,oT,ts,a0,he,hc,hx,h0,dt,h1,ne,hT,dT,h3⟩:=fl;have z3:=KR h3;unfold Hl;simp only[hf];refine Al (BP he dt h1 ?_);rw[AG (by simp:(Ck T != DC)=Ab)]
 refine Al (BP hT dT h3 ?_);rw[AI (by simp[Er]:¬ (DC==Er L)=Ab)]
 refine Al (FV hT dT z3 ?_);have up:∀ b,b≠T->(s.heap.update T (Gk (·.setIfInBounds 3 DC))).get? b=s.heap.get? b:=fun b nb=>CC _ _ (DZ nb)
 have rcd:∀ b o,s.heap.get? b=Aa o->(∀ us,o.data≠.fields us)->b≠T:=fun b o q n z=>by
  rw[z,hT]at q;cases q;exact n ts dT
 refine Rt (base:=base) hfr hf (ff.of_keeps fun b o q n=>⟨o,(up b (rcd b o q n)).trans q,rfl⟩) ((up e (DZ ne)).trans he) dt (KR h1) fun h' T' oT' ts' g nT gn gT dT' f3 sh=>?_
 have T0:s.heap.get? T'=Ad:=by
  by_cases z:T'=T
  ·rw[z]at gn;rw[Cp _ hT (E1 (Dr dT _))]at gn;cases gn
  ·rw[<-up T' z];exact gn
 refine hQ h' T' (RJ hc hx h0 dt (KR h1) g nT gT dT' f3) ⟨fun b o q n1 n2=>?_,fun b o q hb=>?_⟩ T0
 ·simp only[AD,Bt,C4,FQ]at n1;exact sh.keep b o ((up b n1.2).trans q) (by simp[n1.1]) n2
 ·obtain⟨_,o',q',n⟩:=ff.mem hb;rw[q]at q';cases q';exact sh.slot b o ((up b (rcd b o q n)).trans q) hb
theorem Nj{fv:Ak}(fl:N6 e T cls dx fv s.heap)(hQ:∀ h',Fly e T cls dx h'->(∀ b o,b≠T->s.heap.get? b=Aa o->h'.get? b=Aa o)->Q () {s with heap:=h'}):Ax M A (Ix (.ref e) Ad) Q E s:=by
 obtain⟨oe,vs,oT,ts,a0,he,hc,hx,h0,dt,h1,ne,hT,dT,h3⟩:=fl;have z3:=KR h3;unfold Ix;refine Al (BP he dt h1 ?_);rw[AG (by simp:(Ck T != DC)=Ab)]
 refine FV hT dT z3 (hQ _ ?_ fun b o nb q=>(CC _ _ (DZ nb)).trans q)
 exact⟨oe,vs,_,_,a0,(CC _ _ ne).trans he,hc,hx,h0,dt,h1,ne,Cp _ hT (E1 (Dr dT _)),Dr dT _,by simp[z3]⟩
theorem OP{h1 h2:AF}{ex:Ac Ah}(ff:s.heap.FunFrames base (env::outer))(sh:Shift ex (frs (env::outer)) s.heap h1)(hT:s.heap.get? T'=Ad)(k:∀ b o,b≠T'->h1.get? b=Aa o->h2.get? b=Aa o):Shift ex (frs (env::outer)) s.heap h2:=
 ⟨fun b o q n1 n2=>k b o (fun z=>by rw[z,hT]at q;cases q) (sh.keep b o q n1 n2),fun b o q hb=>let ⟨sl,q'⟩:=sh.slot b o q hb;⟨sl,k b _ (fun z=>by rw[z,hT]at q;cases q) q'⟩⟩
theorem Ze(hfr:A.frames=Aa (env::outer))(hf:env.frame=Aa L)(ff:s.heap.FunFrames base (env::outer))(fl:Fly e T cls dx s.heap)(hQ:∀ h' T',Fly e T' cls dx h'->Shift [e,T] (frs (env::outer)) s.heap h'->(T'=T\/s.heap.get? T'=Ad)->Q () {s with heap:=h'}):Ax M A (leaving env (.ref e)) Q E s:=by
 unfold leaving;exact Al (Sy hfr hf ff fl fun h1 T' f1 sh hT=>Nj f1 fun h2 f2 k=>hQ h2 T' f2 (OP ff sh hT k) (.inr hT))
theorem YG(hfr:A.frames=Aa (env::outer))(hf:env.frame=Aa L)(ff:s.heap.FunFrames base (env::outer))(he:s.heap.get? e=Aa oe)(hc:oe.cls=cls)(hx:oe.dict=dx)(dt:oe.data=.fields vs)(h0:vs[0]?=Aa a0)(h1:vs[1]?=Aa .none)(hQ:∀ h' T',Fly e T' cls dx h'->Shift [e] (frs (env::outer)) s.heap h'->s.heap.get? T'=Ad->Q () {s with heap:=h'}):Ax M A (leaving env (.ref e)) Q E s:=by
 unfold leaving Hl;simp only[hf];refine Al (Al (BP he dt h1 ?_));rw[AI (by decide)]
 exact Rt (base:=base) hfr hf ff he dt (KR h1) fun h' T' oT ts g nT gn gT dT f3 sh=>Nj (RJ hc hx h0 dt (KR h1) g nT gT dT f3) fun h2 f2 k=>hQ h2 T' f2 (OP ff sh gn k) gn
theorem aW(hfr:A.frames=Aa (env::outer))(hf:env.frame=Aa L)(ff:s.heap.FunFrames base (env::outer))(fl:Fly e T cls dx s.heap)(hQ:∀ h' T',Fly e T' cls dx h'->Shift [e,T] (frs (env::outer)) s.heap h'->(T'=T\/s.heap.get? T'=Ad)->Q () {s with heap:=h'}):Ax M A (Hl (.ref e) env) (fun _ s2=>Ax M A (Ix (.ref e) Ad) Q E s2) E s:=
 Sy hfr hf ff fl fun h1 T' f1 sh hT=>Nj f1 fun h2 f2 k=>hQ h2 T' f2 (OP ff sh hT k) (.inr hT)
theorem Zf{l:Ac Cd}{A':AY}(ff:s.heap.FunFrames base l)(fl:Fly e T cls dx s.heap)(hQ:∀ h' T',Fly e T' cls dx h'->Shift [e,T] (frs l) s.heap h'->(T'=T\/s.heap.get? T'=Ad)->Q () {s with heap:=h'}):Ax M A' (Ix (.ref e) Ad) Q E s:=by
 obtain⟨oe,vs,oT,ts,a0,he,hc,hx,h0,dt,h1,ne,hT,dT,h3⟩:=id fl;refine Nj fl fun h' f' k=>hQ h' T f' ⟨fun b o q n1 n2=>k b o (fun z=>n1 (by rw[z];simp)) q,fun b o q hb=>⟨o.slots,k b o (fun z=>?_) q⟩⟩ (.inl rfl)
 obtain⟨_,o',q',n⟩:=ff.mem hb;rw[z,hT]at q';cases q';exact n ts dT
end
def CXR(P:AS)(w:AB):CXT:=fun outer H s E ev s'=>∃ e T cls dx H',ev=.ref e/\s'.os=s.os/\FT s'.gens/\Un (frs outer) [] H H' s.heap s'.heap/\HOk P w H' s'.heap/\Fly e T cls dx s'.heap/\H' e=Ad/\H' T=Ad/\s.heap.get? e=Ad/\s.heap.get? T=Ad/\E cls dx H'
def ML(X:Cx)(CL:ClA)(W:XW):Prop:=∀ pI σ H s e C dx t x,Inv X pI σ H s->(X.ex=[]->X.s₀.heap.get? e=Ad)->H e=Ad->s.heap.get? e=Aa (Gr C dx t)->Gs X.K CL H (.ref C) dx x->W x H->X.xe (.ref e) s
section
variable{P:AS}{w:AB}{K:Fg}{mg:Ai->An Ak}{base:AF}{N:Ac Ai}{qual:Ai}{scope:Co}{f:Ah}{cd:Ak}{A:AY}{outer:Ac Cd}{s:Ar}{H:Hp}{E:XK}{CL:ClA}{W:XW}
theorem Pv{s:Ar}(I:Inv X pI σ H s):∀ b∈frs X.stack,b∈X.fs\/X.s₀.heap.get? b=Ad:=fun b hb=>by
 rcases AD.mp (I.stkSub b hb) with z|z
 ·exact .inr (by rw[z];exact DB I.ok.above)
 ·exact .inl z
theorem J6{s:Ar}{b:Ah}(I:Inv X pI σ H s)(hx:X.ex=[])(h:s.heap.get? b=Ad):X.s₀.heap.get? b=Ad:=by
 cases q:X.s₀.heap.get? b with
 |none=>rfl
 |some o=>
  obtain⟨o',z⟩:=I.base.there b o q (by rw[hx];simp)
  rw[h]at z;cases z
theorem sD(hE:∀ x cls dx H',W x H'->Gs K CL H' cls dx x->E cls dx H'):∀ A',Lm (CXR P w) (E6 (CXR P w) P w K mg base N qual scope f cd A outer s H E) (EKW K CL A' W):=by
 intro A' pI σ H1 s1 ev s2 I h;obtain⟨e,T,cls,dx,H',rfl,os,bare,un,hok,fl,he,hT,ne,nT,x,xr,wx⟩:=h;have I':=I.call' (s':=s2) (ch:=[]) os un hok bare (fun b z=>absurd z (by simp))
 have hb0:Un (frs outer) [] H H' s.heap s2.heap:=I'.base;show Ax (model P w) (A.deeper (EX qual scope s.heap.objs.size f cd)) (leaving (EX qual scope s.heap.objs.size f cd) (.ref e)) _ _ s2;refine Ze (L:=s.heap.objs.size) I'.ok.frames rfl I'.stack fl fun h' T' fl' sh hT'=>?_
 have e0:s.heap.get? e=Ad:=J6 I rfl ne;have T0:s.heap.get? T=Ad:=J6 I rfl nT;refine⟨e,T',cls,dx,H',rfl,I'.os,bare,Un.shift hb0 sh ?_ (Pv I'),HOk.shift hok sh ?_ I'.stkFree,fl',he,?_,e0,?_,?_⟩
 ·intro b hb;rcases AD.mp hb with rfl|hb
  ·exact e0
  ·rw[Bv.mp hb];exact T0
 ·intro b hb;rcases AD.mp hb with rfl|hb
  ·exact he
  ·rw[Bv.mp hb];exact hT
 ·rcases hT' with rfl|z
  ·exact hT
  ·exact K4 hok z
 ·rcases hT' with rfl|z
  ·exact T0
  ·exact J6 I' rfl z
 ·exact hE x cls dx H' wx xr
theorem rzR(hE:∀ x cls dx H',W x H'->Gs K CL H' cls dx x->E cls dx H'):ML (E6 (CXR P w) P w K mg base N qual scope f cd A outer s H E) CL W:=by
 intro pI σ H1 s1 e C dx t x I e0 he ge xr hw;have hb0:Un (frs outer) [] H H1 s.heap s1.heap:=I.base;have e0':s.heap.get? e=Ad:=e0 rfl;show Ax (model P w) (A.deeper (EX qual scope s.heap.objs.size f cd)) (leaving (EX qual scope s.heap.objs.size f cd) (.ref e)) _ _ s1;refine YG (cls:=.ref C) (dx:=dx) (L:=s.heap.objs.size) I.ok.frames rfl I.stack ge rfl rfl rfl (a0:=.ref t) rfl rfl fun h' T' fl' sh hT'=>?_
 have one:∀{Z:Ah->Prop},Z e->∀ b∈[e],Z b:=fun {Z} z b hb=>by rw[Bv.mp hb];exact z
 exact⟨e,T',.ref C,dx,H1,rfl,I.os,I.bare,Un.shift hb0 sh (one e0') (Pv I),HOk.shift I.hok sh (one (Z:=fun b=>H1 b=Ad) he) I.stkFree,fl',he,K4 I.hok hT',e0',J6 I rfl hT',hE x _ dx H1 hw xr⟩
theorem ownR:EG (model P w) (E6 (CXR P w) P w K mg base N qual scope f cd A outer s H E).A (E6 (CXR P w) P w K mg base N qual scope f cd A outer s H E).env (E6 (CXR P w) P w K mg base N qual scope f cd A outer s H E).xe:=W6
end
noncomputable def veB:Ac Ak:=[.type "ValueError", .type "Exception", .type "BaseException", .type "object"]
noncomputable def Eh(K:Fg)(C:Ah)(v:An Ak):Ao:=match K.lookup C with
  | some ⟨.type "type", _,.cls c,z⟩=>(match c.mro,z.toList with
    |.ref c0::tl,[_,_,_,_,Aa (.builtin nw),_]=>c0==C&&(nw == "ValueError.__new__" && (!c.hasDel&&(PySem.W.tailIn K veB tl&&(Xk K c.ns&&BB K c.ns "__init__" == Aa v))))
    | _,_=>Ae)
  |_=>Ae
theorem Nm(q:Fi K C veB "ValueError.__new__" = Ab):Eh K C Ad=Ab:=by
 unfold Fi at q;unfold Eh;split at q
 ·rename_i dd cd sl ho;split at q
  ·rename_i C' bm k0 k1 k2 k3 n k5 hm hs;simp only[Aj]at q;obtain⟨⟨⟨⟨⟨h1,h2⟩,h3⟩,h4⟩,h5⟩,h6⟩:=q;simp only[ho,hm,hs,Aj];exact⟨h1,h2,h3,h4,h5,h6⟩
  ·cases q
 ·cases q
structure XcOk (K:Fg) (C:Ah):Prop where
 exc:∃ v,Eh K C v=Ab
 ga:Aw K (.ref C) "__getattribute__" = Aa (Aa (.builtin "BaseException.__getattribute__"))
 gt:Aw K (.ref C) "__getattr__" = Aa Ad
 cl:Aw K (.ref C) "__class__" = Aa (Aa (.builtin "object.__class__"))
 ob:BR K C (.type "object")=Aa Ab
 be:Az K (.ref C) (.type "BaseException")=Aa Ab
 cs:(DG K C).isSome=Ab
 ve:Ds K (.ref C) (.type "ValueError")=Aa Ab
def XAt(e C:Ah)(h:AF):Prop:=∃ o,h.get? e=Aa o/\o.cls=.ref C
theorem kZ{N:Ah}{v:Ak}(X:K.In h)(G:h.Ns N m)(q:BB K N x=Aa (Aa v)):m x=Aa v:=by
 obtain⟨ob,es,ep,g,dt,_,fd⟩:=G;unfold BB at q;split at q
 ·rename_i es' n' sl lk;have g':=X _ _ lk;rw[g]at g';cases g';cases dt;split at q
  ·rename_i hf;cases q;rw[<-fd];unfold nsFind findBy;rw[<-Array.find?_toList,hf];rfl
  ·by_cases z:(es.toList.any fun y=>y.refKey)=Ab
   ·rw[AG z]at q;cases q
   ·rw[AI z]at q;cases q
 ·cases q
theorem O1{h0:AF}(X0:K.In h0)(q:Eh K C v=Ab):
  ∃ bm N nm qn bs hd sn sub ab col dd k0 k1 k2 k3 k5 mN,(∀ h:AF,K.In h->h.get? C=Aa (Ce nm qn C N bs bm hd sn sub ab col dd k0 k1 k2 k3 k5 "ValueError.__new__")/\h.Ns N mN/\Ej h veB bm)/\mN "__init__" = v/\bm.contains (.type "BaseException")=Ab:=by
 unfold Eh at q;split at q
 ·rename_i dd cd sl ho;split at q
  ·rename_i C' bm k0 k1 k2 k3 n k5 hm hs;simp only[Aj,AR,Bp]at q;obtain⟨rfl,rfl,hdel,ht,hok,hni⟩:=q;obtain⟨nm,bs,mro,ns,qn,hd,sn,sub,ab,col,del⟩:=cd;dsimp only at hm hdel hok hni;subst hm hdel;have hsl:sl=#[k0,k1,k2,k3,Aa (.builtin "ValueError.__new__"),k5]:=by
    obtain⟨l⟩:=sl;simp only at hs;rw[hs]
   subst hsl;have kN:∃ o,K.lookup ns=Aa o:=by
    unfold Xk at hok;split at hok
    ·rename_i z;exact⟨_,z⟩
    ·cases hok
   obtain⟨oN,hoN⟩:=kN;have nsAt:∀ h:AF,K.In h->h.Ns ns (h0.nsMap ns):=fun h X=>by
    obtain⟨o,es,ep,e1,r⟩:=Heap.Ns.of_isNs (Xg X0 hok);have e2:=X0 _ _ hoN;rw[e1]at e2;cases e2;exact⟨_,es,ep,X _ _ hoN,r⟩
   refine⟨bm,ns,nm,qn,bs,hd,sn,sub,ab,col,dd,k0,k1,k2,k3,k5,h0.nsMap ns,fun h X=>⟨X _ _ ho,nsAt h X,Xl X ht⟩,?_,(Xl X0 ht).hasType (by decide)⟩
   cases v with
   |none=>exact PySem.W.nsMap_none_of_in X0 hok hni
   |some u=>exact kZ X0 (.of_isNs (Xg X0 hok)) hni
  ·cases q
 ·cases q
theorem eZ(X:K.In h)(q:Eh K C v=Ab):
  ∃ bm N nm qn bs hd sn sub ab col dd k0 k1 k2 k3 k5 mN,h.get? C=Aa (Ce nm qn C N bs bm hd sn sub ab col dd k0 k1 k2 k3 k5 "ValueError.__new__")/\h.Ns N mN/\mN "__init__" = v/\Ej h veB bm:=by
 obtain⟨bm,N,nm,qn,bs,hd,sn,sub,ab,col,dd,k0,k1,k2,k3,k5,mN,ho,hi,_⟩:=O1 X q;obtain⟨o1,o2,o3⟩:=ho h X;exact⟨bm,N,nm,qn,bs,hd,sn,sub,ab,col,dd,k0,k1,k2,k3,k5,mN,o1,o2,hi,o3⟩
section
variable{prog:AS}{w:AB}{A:AY}{E:Vq}{h:AF}{g:Bj FI}{d:Ir}{t:Ag}{os:HC}{K:Fg}{e C:Ah}
theorem JG(p:XAt e C h):PySem.W.Looks M h (typeOf (.ref e)) (.ref C):=by
 obtain⟨o,h1,h2⟩:=p;exact h2 ▸ (PySem.W.Looks.ld h1).andThen .now
theorem Z8{R:Js->Ar->Prop}{tp:Ak}(X:K.In h)(p:XAt e C h)(hm:BR K C (.type "object")=Aa Ab)(hq:R (.ok (.ret (.ref C))) ⟨h,g,d,t,os⟩):
  FU (model prog w) A (.call (.builtin "getset_descriptor.__get__") ⟨[.builtin "object.__class__", .ref e,tp],[]⟩) R ⟨h,g,d,t,os⟩:=by
 have L0:=JG (M:=model prog w) p;have L1:=PySem.W.looks_mroIn (M:=model prog w) X hm;refine Ee PySem.W.KF.slot_gs.plain PySem.W.KF.entry_gs (PySem.W.KF.slot_gs.check _ _ _ _ _ _ _ _ PySem.W.KF.type_class (PySem.W.KF.args_gs _ _ _) ?_);unfold Builtin.«getset_descriptor.__get__» Builtin.Getset_descriptor.descrGet;rw[PySem.W.dga_obj];refine Al (AC ?_);unfold Builtin.Getset_descriptor.descrGetter Builtin.Getset_descriptor.descrCheckInstance Builtin.Getset_descriptor.descrNameAndClass IW;simp only[PySem.W.KF.owner_class]
 repeat lk
 refine⟨Hi _ (by decide +kernel),codeAny_builtin PySem.W.KF.entry_class ?_⟩
 unfold Builtin.«object.__class__» shownTypeOf
 repeat lk
 exact hq
theorem YK{Q:Fin->Ar->Prop}(X:K.In h)(x:XcOk K C)(p:XAt e C h)(hq:Q (.done (.ret (.ref C))) ⟨h,g,d,t,os⟩):
  Ax (model prog w) A (Builtin.«object.__getattribute__» ⟨[.ref e,.str "__class__" tk],[]⟩) Q E ⟨h,g,d,t,os⟩:=by
 have L0:=JG (M:=model prog w) p;have L1:=Cw (M:=model prog w) X x.cl;have hT5:(⟨h,g,d,t,os⟩:Ar).TypeIs (.builtin "object.__class__") "getset_descriptor" := WW;have f5:=WW;have f6:=F.slot_gs_get.lookup;have f7:=F.slot_gs_set.lookup
 repeat (any_goals (first|assumption|with_reducible refine L0.at ?_|with_reducible refine L1.at ?_|wp_step))
 refine Z8 X p x.ob ?_
 repeat (any_goals (first|assumption|wp_step))
theorem Q9{nameV:Ak}(X:K.In h)(x:XcOk K C)(p:XAt e C h)(hq:Q () ⟨h,g,d,t,os⟩):Ax M A (Gp "BaseException.__getattribute__" ⟨[.ref e,nameV],[]⟩) Q E ⟨h,g,d,t,os⟩:=by
 have hk:builtinKind "BaseException.__getattribute__" = Aa .slot:=by decide +kernel
 have hsplit:splitId "BaseException.__getattribute__" = Aa ("BaseException", "__getattribute__"):=by decide +kernel
 have L0:=JG (M:=M) p;have L1:=Xj (M:=M) X x.be;have ha:=F.args_bexc_ga (.ref e) nameV;simp only[Gp,hk,hsplit];refine Al ?_
 ·unfold IW
  repeat (first|(with_reducible refine Al (L0.at ?_))|(with_reducible refine L1.at ?_)|wp_step)
  exact hq
theorem bP{Q:Vq}(X:K.In h)(x:XcOk K C)(p:XAt e C h)(hq:Q (.ref C) ⟨h,g,d,t,os⟩):Ax (model prog w) A (getAttrBy (.ref e) (.str "__class__" tk) fill expr) Q E ⟨h,g,d,t,os⟩:=by
 have L0:=JG (M:=model prog w) p;have L1:=Cw (M:=model prog w) X x.ga;have L2:=Cw (M:=model prog w) X x.gt;have f3:=FY.ga.bind (.ref e);have hx0:(expr&&Jz (Dj "BaseException.__getattribute__"))=Ae:=by cases expr<;>rfl
 have hx2:(Dj "BaseException.__getattribute__" == Dj "object.__getattribute__")=Ae:=by decide +kernel
 have hx1:(Jz (Ck C)&&Dj "BaseException.__getattribute__" == Dj "object.__getattribute__")=Ae:=by rw[hx2];rfl
 repeat (any_goals (first|assumption|with_reducible refine L0.at ?_|with_reducible refine L1.at ?_|with_reducible refine L2.at ?_|wp_step))
 refine Ee FY.ga.plain WP (Q9 X x p (YK X x p ?_))
 repeat (any_goals (first|assumption|wp_step))
theorem Y4{Q:An Ak->Ar->Prop}(X:K.In h)(x:XcOk K C)(p:XAt e C h)(hq:Q (Aa (.ref C)) ⟨h,g,d,t+1,os⟩):Ax (model prog w) A (getAttr? (.ref e) "__class__") Q E ⟨h,g,d,t,os⟩:=by
 unfold getAttr? getAttrBy?
 repeat (any_goals (first|assumption|with_reducible apply bP X x p|wp_step))
end
theorem Sq{e C:Ah}(x:XcOk K C):PySem.W.KitX K (.ref e) (.ref C) (XAt e C) where
 ty:=fun M h _ p=>JG p
 it:=fun M h X _=>by
  obtain⟨cd,hc⟩:=En.mp x.cs;unfold DG at hc;split at hc
  ·rename_i c' d' cd' sl' ho;intro A' Q' E' s' k q;unfold isType loadHead;exact Al (wpAny_loadPart (k _ _ (X _ _ ho)) (AC q))
  ·cases hc
 ne:=fun h tp dd its n sl X htp=>by
  obtain⟨cd,hc⟩:=En.mp x.cs;refine Bool.eq_false_iff.mpr fun q=>?_
  have e:C=tp:=Jm (AR.mp q);subst e;unfold DG at hc;split at hc
  ·rename_i c' d' cd' sl' ho;have z:=(X _ _ ho).symm.trans htp;cases z
  ·cases hc
 ca:=fun {_ _ _ _ _ s} X p k=>by
  obtain⟨h,g,d,t,os⟩:=s;exact Y4 X x p k
theorem Z9{A:AY}{E:Vq}{g:Bj FI}{d:Ir}{t:Ag}{os:HC}{e C C':Ah}{b:Ao}{Q:Ao->Ar->Prop}(X:K.In h)(p:XAt e C h)(x':XcOk K C')(hs:Az K (.ref C) (.ref C')=Aa b)(hq:Q b ⟨h,g,d,t,os⟩):Ax M A (excMatches (.ref e) (.ref C')) Q E ⟨h,g,d,t,os⟩:=by
 obtain⟨bm,N,nm,qn,bs,hd,sn,sub,ab,col,dd,k0,k1,k2,k3,k5,mN,hC',_,_,T⟩:=eZ X x'.exc.choose_spec;have hcB:(Ck C'::bm).contains (.type "BaseException")=Ab:=by rw[Hg,T.hasType (show veB.contains (.type "BaseException")=Ab by decide),HH]
 have L0:=JG (M:=M) p;have L1:=Xj (M:=M) X hs;have f:=tc_notTuple;unfold excMatches
 repeat (first|(with_reducible refine Al (L0.at ?_))|(with_reducible refine L1.at ?_)|(with_reducible refine Al (L1.at ?_))|with_reducible refine B6 hC' ?_|(with_reducible refine Fq hC' ?_;rw[hcB])|wp_step)
 all_goals first|exact hq|(cases b<;>(wp_walk;exact hq))
def Hu(X:Cx)(pI:Pn)(e:Ah):Prop:=e≠X.env.locals/\(∀ x c,X.env.cells.lookup x=Aa c->c≠e)/\(∀ p∈X.pn++pI,p.1≠e)/\X.s₀.heap.get? e=Ad
section
variable{X:Cx}{pI:Pn}{σ:L2.St}{H:Hp}{s:Ar}{e:Ah}
theorem Mh(I:Inv X pI σ H s)(hx:X.ex=[])(h:s.heap.get? e=Ad):Hu X pI e:=by
 refine⟨?_,fun x c q z=>?_,fun p hp z=>?_,J6 I hx h⟩
 ·rintro rfl;obtain⟨m,⟨o,_,_,ho,_⟩,_⟩:=I.loc;rw[h]at ho;cases ho
 ·obtain⟨v,o,ho,_⟩:=I.cell x c q;rw[z,h]at ho;cases ho
 ·obtain⟨q,_⟩:=I.pin p hp;rw[z,h]at q;cases q
theorem Ri{ex:Ac Ah}(I:Inv X pI σ H s)(hx:X.ex=[])(sh:Shift ex (frs X.stack) s.heap h')(ha:∀ b∈ex,Hu X pI b)(hH:∀ b∈ex,H b=Ad):Inv X pI σ H {s with heap:=h'}:=by
 have kp:∀ b o,s.heap.get? b=Aa o->b∉ex->∃ sl,h'.get? b=Aa {o with slots:=sl}:=fun b o q n=>by
  by_cases hb:b∈frs X.stack
  ·exact sh.slot b o q hb
  ·exact⟨o.slots,sh.keep b o q n hb⟩
 have cellK:∀ x c,X.env.cells.lookup x=Aa c->∀ v,s.heap.IsCell c v->h'.IsCell c v:=fun x c q v ⟨o,ho,hd⟩=>by
  obtain⟨sl,z⟩:=kp c o ho fun z=>(ha c z).2.1 x c q rfl
  exact⟨_,z,hd⟩
 refine⟨I.ok,I.os,I.bare,?_,?_,fun x c q=>?_,I.free,I.freeC,fun p hp=>?_,HOk.shift I.hok sh hH I.stkFree,I.len⟩
 ·have b0:=I.base;rw[hx]at b0 ⊢;exact Un.shift b0 sh (fun b hb=>(ha b hb).2.2.2) (Pv I)
 ·obtain⟨m,⟨o,es,ep,ho,r⟩,hl⟩:=I.loc;obtain⟨sl,z⟩:=kp _ o ho fun z=>(ha _ z).1 rfl
  refine⟨m,⟨_,es,ep,z,r⟩,fun i x v e1 e2 e3=>?_⟩
  obtain⟨u,ru,l⟩:=hl i x v e1 e2 e3;refine⟨u,ru,?_⟩;rcases l with l|⟨k,c,q,z⟩
  ·exact .inl l
  ·exact .inr ⟨k,c,q,cellK x c q _ z⟩
 ·obtain⟨v,z⟩:=I.cell x c q;exact⟨v,cellK x c q v z⟩
 ·obtain⟨q,n,ne,nf,d⟩:=I.pin p hp;exact⟨sh.keep p.1 p.2 q (fun z=>(ha p.1 z).2.2.1 p hp rfl) (fun z=>(AD.mp (I.stkSub p.1 z)).elim ne nf),n,ne,nf,d⟩
theorem Zb(I:Inv X pI σ H s)(hx:X.ex=[])(ha:Hu X pI e)(hH:H e=Ad)(ho:∃ o,s.heap.get? e=Aa o)(p:φ s.heap)(hφ:∀ h1 h2:AF,φ h1->(∀ o,h1.get? e=Aa o->h2.get? e=Aa o)->φ h2):Inv X pI σ (upd H e (.ext φ)) s:=by
 have ne:∀ b o,H b=Aa o->b≠e:=fun b o q z=>by rw[z,hH]at q;cases q
 refine⟨I.ok,I.os,I.bare,⟨I.base.keep,I.base.slot,fun b o q n hb=>?_,I.base.there,fun b xs q=>?_,fun b o u q=>?_,fun b ps q=>?_⟩,I.loc,I.cell,?_,fun x c q=>?_,fun p hp=>?_,fun b o q=>?_,I.len⟩
 ·rw[BG fun z=>by rw[z,ha.2.2.2]at q;cases q]
  exact I.base.free b o q n hb
 ·have:=I.base.tups b xs q;rw[BG (ne _ _ this)];exact this
 ·have:=I.base.frzs b o u q;rw[BG (ne _ _ this)];exact this
 ·obtain⟨more,this⟩:=I.base.tbls b ps q;exact⟨more,by rw[BG (ne _ _ this)];exact this⟩
 ·rw[BG fun z=>ha.1 z.symm];exact I.free
 ·rw[BG (ha.2.1 x c q)];exact I.freeC x c q
 ·obtain⟨q,n,r⟩:=I.pin p hp;exact⟨q,by rw[BG (ha.2.2.1 p hp)];exact n,r⟩
 ·by_cases hb:b=e
  ·subst hb;rw[FL]at q;cases q;exact⟨p,ho,hφ⟩
  ·rw[BG hb]at q;exact(I.hok b o q).stay (fun c v hc z=>z) (fun c z=>by rw[BG (ne _ _ z)];exact z) fun c zs z=>by rw[BG (ne _ _ z)];exact z
theorem Za{i:Ag}{tk:Ag}(I:Inv X pI σ H s)(hN:X.N.Nodup)(hi:X.N[i]?=Aa n)(hn:s.heap.Ns X.env.locals m)(hn':h'.Ns X.env.locals (fun x=>if x=n then v else m x))(hs:DU X.env.locals s.heap h'):Inv X pI (σ.set i Ad) H {s with heap:=h',toks:=tk}:=by
 obtain⟨m0,hn0,hl⟩:=I.loc;have em:m0=m:=by
  obtain⟨o,es,ep,h1,h2,_,h3⟩:=hn0;obtain⟨o',es',ep',h1',h2',_,h3'⟩:=hn;rw[h1]at h1';cases h1';rw[h2]at h2';cases h2'
  funext y
  rw[<-h3,<-h3']
 subst em;obtain⟨oL,_,_,hoL,_⟩:=id hn;have lt:∀ b o,X.s₀.heap.get? b=Aa o->b≠X.env.locals:=fun b o q=>Bo (AN (AQ q) I.ok.above)
 refine⟨I.ok,I.os,I.bare,⟨fun b o q n hb hx=>?_,fun b o q n hb hx=>?_,I.base.free,fun b o q hx=>?_,I.base.tups,I.base.frzs,I.base.tbls⟩,⟨_,hn',fun j y v' e1 e2 e3=>?_⟩,fun y c q=>?_,I.free,I.freeC,fun p hp=>?_,fun b ob q=>?_,by rw[Bb];exact I.len⟩
 ·exact(hs.2 b (lt b o q)).trans (I.base.keep b o q n hb hx)
 ·obtain⟨sl,e1⟩:=I.base.slot b o q n hb hx;exact⟨sl,(hs.2 b (lt b o q)).trans e1⟩
 ·obtain⟨o',e1⟩:=I.base.there b o q hx;exact⟨o',(hs.2 b (lt b o q)).trans e1⟩
 ·by_cases hj:i=j
  ·subst hj;have:=G6 e2;cases this
  ·rw[Cf hj]at e2;obtain⟨u',r',q⟩:=hl j y v' e1 e2 e3;refine⟨u',r',?_⟩;rcases q with ⟨k,e⟩|⟨k,c,e,z⟩
   ·refine .inl ⟨k,?_⟩;have:y≠n:=fun e=>hj (Pa hN hi (e ▸ e1))
    simp[this,e]
   ·exact .inr ⟨k,c,e,z.sameBut hs (I.cne y c e)⟩
 ·obtain⟨w',z⟩:=I.cell y c q;exact⟨w',z.sameBut hs (I.cne y c q)⟩
 ·obtain⟨q,n,ne,nf,d⟩:=I.pin p hp;exact⟨(hs.2 p.1 ne).trans q,n,ne,nf,d⟩
 ·refine(I.hok b ob q).stay (fun c w' hc z=>(hs.2 c ?_).trans z) (fun _ q=>q) fun _ _ q=>q
  rintro rfl;have hfree:=I.free;rcases hc with z|hc
  ·rw[<-z,hfree]at q;cases q
  ·rw[hfree]at hc;cases hc
end
noncomputable def Cx.hot(X:Cx)(e:Ah):Cx:={X with A:=X.A.mark (Aa (.ref e)),calm:=Ae,xe:=fun _ _=>AW}
section
variable{X:Cx}{pI:Pn}{σ:L2.St}{H:Hp}{s:Ar}{e:Ah}
theorem mI(ok:X.Ok):(Cx.hot X e).Ok:=⟨ok.mod,ok.kind,ok.glob,ok.blt,ok.above,ok.inj,ok.has,ok.cab,fun z=>(nomatch z),ok.frames,ok.stk,ok.exf,ok.bs,ok.bsz,ok.noex,ok.exfs,ok.funs,ok.frf⟩
theorem Pt(I:Inv X pI σ H s)(e:Ah):Inv (Cx.hot X e) pI σ H s:=⟨mI I.ok,I.os,I.bare,I.base,I.loc,I.cell,I.free,I.freeC,I.pin,I.hok,I.len⟩
theorem aQ(ok:X.Ok)(I:Inv (Cx.hot X e) pI σ H s):Inv X pI σ H s:=⟨ok,I.os,I.bare,I.base,I.loc,I.cell,I.free,I.freeC,I.pin,I.hok,I.len⟩
theorem Sx.unset(x:Sx K CL Fz B ρ σ H)(i:Ag):Sx K CL Fz B (ρ.set i Ad) (σ.set i Ad) H:=by
 have get:∀(j:Ag)(y:D×Ao),(ρ.set i Ad)[j]?=Aa (Aa y)->i≠j/\ρ[j]?=Aa (Aa y):=fun j y h=>by
  by_cases hj:i=j
  ·subst hj;have:=G6 h;cases this
  ·exact⟨hj,by rw[Cf hj]at h;exact h⟩
 have sub:∀ a,By B (ρ.set i Ad) (σ.set i Ad) a->By B ρ σ a:=fun a h=>by
  rcases h with h|⟨j,d,h1,h2⟩
  ·exact .inl h
  ·obtain⟨hj,h1⟩:=get j _ h1;rw[Cf hj]at h2;exact .inr ⟨j,d,h1,h2⟩
 refine⟨⟨fun j d h=>?_,fun j d h=>?_,by rw[Bb,Bb];exact x.len⟩,fun a h=>x.aok a (sub a h),fun j d a h1 h2=>?_,fun j k d f a h1 h2 h3 h4=>?_,x.same,by rw[Bb,Bb];exact x.len⟩
 ·obtain⟨hj,h1⟩:=get j _ h;obtain⟨v,q,r⟩:=x.good.sh j d h1;exact⟨v,by rw[Cf hj];exact q,Rep.sub sub _ r⟩
 ·obtain⟨hj,h1⟩:=get j _ h;obtain⟨a,o,q,ha,hh,rr⟩:=x.good.ow j d h1;exact⟨a,o,by rw[Cf hj];exact q,.inr ⟨j,d,h,by rw[Cf hj];exact q⟩,hh,rr.sub sub⟩
 ·obtain⟨hj,h1⟩:=get j _ h1;rw[Cf hj]at h2;exact x.new j d a h1 h2
 ·obtain⟨hj,h1⟩:=get j _ h1;obtain⟨hk,h2⟩:=get k _ h2;rw[Cf hj]at h3;rw[Cf hk]at h4;exact x.dis j k d f a h1 h2 h3 h4
end
def Jf(e C:Ah)(dx:An Ah)(h:AF):Prop:=∃ o,h.get? e=Aa o/\o.cls=.ref C/\o.dict=dx/\∃ us,o.data=.fields us
noncomputable def Kq(X:Cx)(CL:ClA)(pI:Pn)(σ:L2.St)(H:Hp)(y:Ex)(Xw:Vq):Prop:=
 ∀ s' H' e T cls dx,Inv X pI σ H' s'->AH H H'->Fly e T cls dx s'.heap->H' e=Ad->H' T=Ad->Hu X pI e->Hu X pI T->Gs X.K CL H' cls dx y->Xw (.ref e) s'
def STB(X:Cx)(CL:ClA)(body:Ac Be)(f:Rho->O):Prop:=∀ Fz B pI s σ H D ρ (Xw:Vq),EG (model X.prog X.w) X.A X.env Xw->Inv X pI σ H s->Sx X.K CL Fz B ρ σ H ->
  (match f ρ with
   |.exn y ρ'=>ρ'=ρ->Kq X CL pI σ H y Xw
   | o=>BH X.K CL Fz B (fun _ _=>AW) o D)->(∀ y ρ',f ρ=.exn y ρ'->ρ'=ρ)->Ax (model X.prog X.w) X.A (execs body X.env) (SP X pI D) Xw s
noncomputable def Vl(up:Ag->Ac Ag)(c i:Ag)(o:O)(fh:Rho->O):O:=match o with
  | .exn y ρ'=>if (up y.c).contains c=Ab then (match fh (ρ'.set i (Aa (.exc y.c y.fs,Ae))) with
      |.next ρ''=>.next (ρ''.set i Ad)
      |.ret d f=>.ret d f
      | _=>.bad) else .bad
  |o=>o
theorem fU{i:Ag}{hp:AO}{b:Ao}{rest:Ac Ff}{s1:Ar}{ρ':Rho}{D:Ends}{e T1:Ah}(hx:X.ex=[])(hN:X.N.Nodup)(hi:X.N[i]?=Aa n)(hl:X.env.scope.names.lookup n=Aa .local)(hg:Gl X g)(hm:X.mg g=Aa (.ref C'))(hdb:(g==("__debug__" : Ai))=Ae)(xc:XcOk X.K C')(hsu:Az X.K (.ref C) (.ref C')=Aa b)(hh:∀ e,SSs (Cx.hot X e) CL (fun _ _=>AW) (h0::hs) fh)(I1:Inv X pI σ H' s1)(fl1:Fly e T1 (.ref C) dx s1.heap)(ae:Hu X pI e)(aT1:Hu X pI T1)(he:H' e=Ad)(HT1:H' T1=Ad)(gx:Sx X.K CL Fz B ρ' σ H')(hcl:CL y.c=Aa C)(xr:Gs X.K CL H' (.ref C) dx y)(p2:b=Ab->BH X.K CL Fz B W (hdO i y ρ' fh) D)(p3:b=Ae->Ax (model X.prog X.w) X.A (JX (.ref e) X.env rest) (SP X pI D) X.xe s1):Ax (model X.prog X.w) X.A (JX (.ref e) X.env (.ExceptHandler (Aa (.Name g p1)) (Aa n) (h0::hs) hp::rest)) (SP X pI D) X.xe s1:=by
 obtain⟨Cx0,hcl0,ecl,hfs⟩:=xr (By B ρ' σ) gx.aok;have xat:∀{h:AF}{T:Ah},Fly e T (.ref C) dx h->XAt e C h:=fun {h T} z=>by
  obtain⟨oe,_,_,_,_,z1,z2,_⟩:=z;exact⟨oe,z1,z2⟩
 have xad:∀{h:AF}{T:Ah},Fly e T (.ref C) dx h->Jf e C dx h:=fun {h T} z=>by
  obtain⟨oe,vs,_,_,_,z1,z2,z3,_,z4,_⟩:=z;exact⟨oe,z1,z2,z3,vs,z4⟩
 have two:∀{T:Ah}{Z:Ah->Prop},Z e->Z T->∀ b∈[e,T],Z b:=fun {T Z} h1 h2 b hb=>by
  rcases AD.mp hb with rfl|hb
  ·exact h1
  ·rw[Bv.mp hb];exact h2
 refine wpAny_handleBy_cons (codeAny_handlers_test (JC (X:=Cx.hot X e) (Pt I1 e) hg hm ?_ hdb)) (by intro q;cases q)
 refine Z9 (K:=X.K) I1.kIn (xat fl1) xc hsu ?_;cases b with
 |false=>exact p3 rfl
 |true=>
 have p2:=p2 rfl;refine codeAny_handlers_suite_as ?_;refine Zf (base:=X.base) (l:=X.stack) I1.stack fl1 fun h3 T3 fl3 sh3 hT3=>?_
 have I3:=Ri I1 hx sh3 (two ae aT1) (two (Z:=fun b=>H' b=Ad) he HT1)
 obtain⟨oe,oeg,oec⟩:=xad fl3;have I3':=Zb (φ:=Jf e C dx) I3 hx ae he ⟨oe,oeg⟩ ⟨oe,oeg,oec⟩ fun h1 h2 ⟨o,q1,q2⟩ k=>⟨o,k o q1,q2⟩
 have sm3:AH H' (upd H' e (.ext (Jf e C dx))):=fun b o q=>by rw[BG fun z=>by rw[z,he]at q;cases q];exact q
 refine O8 (X:=Cx.hot X e) (i:=i) (v:=.ref e) (Pt I3' e) hN hi (.inl hl) rfl (fun s4 I4=>?_) (.inr hl)
 have x3:=gx.grow sm3;have nA:¬ By B ρ' σ e:=gx.aok.new he;have rp:Rep X.K CL (upd H' e (.ext (Jf e C dx))) (By B ρ' σ) (.ref e) (.exc y.c y.fs):=by
  refine⟨e,C,Jf e C dx,rfl,nA,hcl,FL,fun h ⟨o,z1,z2,_⟩=>⟨o,z1,z2⟩,?_⟩
  rcases hfs with z|⟨d,vs,ed,nd,hd,rf⟩
  ·exact .inl z
  ·exact .inr ⟨d,vs,nd,sm3 _ _ hd,Repf.kp (Kp.of sm3) _ rf,fun h ⟨o,z1,_,z3,z4⟩=>⟨o,z1,z3.trans ed,z4⟩⟩
 have x4:=x3.set i rp;have fin:∀{s5:Ar}{σ5:L2.St}{H5:Hp}{Q:FZ->Ar->Prop},Inv (Cx.hot X e) pI σ5 H5 s5->(∀ s6,Inv X pI (σ5.set i Ad) H5 s6->Q () s6)->Ax (model X.prog X.w) X.A (do bindName X.env n .none;unbindBehindTheSuite X.env n hp) Q X.xe s5:=fun {s5 σ5 H5 Q} I5 k=>by
  have I5':=aQ I1.ok I5;obtain⟨m,hn,_⟩:=id I5'.loc;refine wpAny_nameGoes_keeps hl hn (by rw[I1.ok.kind];rfl) fun h6 v6 hn6 sb6=>?_
  exact k _ (Za I5' hN hi hn hn6 sb6)
 refine Bl (hh e Fz B pI s4 _ _ {nx:=fun σ5 H5=>D.nx (σ5.set i Ad) H5,rt:=D.rt} I4 ⟨_,x4,?_⟩) (fun f s5 hf=>?_) fun _ _ z=>Bi z
 ·unfold hdO at p2;cases ef:fh (ρ'.set i (Aa (.exc y.c y.fs,Ae))) with
  |next ρ''=>rw[ef]at p2;exact fun σ5 H5 x5=>p2 _ _ (x5.unset i)
  |ret d b=>rw[ef]at p2;exact p2
  |brk _=>rw[ef]at p2;exact p2.elim
  |cont _=>rw[ef]at p2;exact p2.elim
  |exn _ _=>rw[ef]at p2;exact p2.elim
  |bad=>rw[ef]at p2;exact p2.elim
 ·cases f with
  |next=>
   obtain⟨σ5,H5,I5,q⟩:=hf;exact fin I5 fun s6 I6=>⟨_,H5,I6,q⟩
  |ret u=>
   obtain⟨v,σ5,H5,I5,r,q⟩:=hf;exact fin I5 fun s6 I6=>⟨v,_,H5,I6,r,q⟩
  |brk=>obtain⟨_,_,_,q⟩:=hf;exact Bi q
  |cont=>obtain⟨_,_,_,q⟩:=hf;exact Bi q
def VF(X:Cx)(CL:ClA)(up:Ag->Ac Ag)(g:Ai)(c:Ag):Prop:=∃ C',Gl X g/\X.mg g=Aa (.ref C')/\(g==("__debug__" : Ai))=Ae/\XcOk X.K C'/\∀ c' C,CL c'=Aa C->Az X.K (.ref C) (.ref C')=Aa ((up c').contains c)
theorem ZE{Q:Flow->Ar->Prop}{hd:Ac Ff}(hx:X.ex=[])(hst:X.stack=X.env::X.outer)(hfm:X.env.frame=Aa X.env.locals)(k:∀ e T1 cls dx H' s1,Inv X pI σ H' s1->AH H H'->Fly e T1 cls dx s1.heap->Hu X pI e->Hu X pI T1->H' e=Ad->H' T1=Ad->Gs X.K CL H' cls dx y->Ax (model X.prog X.w) X.A (JX (.ref e) X.env hd) Q X.xe s1):Kq X CL pI σ H y (fun ev s1=>Ax (model X.prog X.w) X.A (Hl ev X.env) (fun _ s2=>Ax (model X.prog X.w) X.A (Ix ev Ad) (fun _ s3=>Ax (model X.prog X.w) X.A (JX ev X.env hd) Q X.xe s3) X.xe s2) X.xe s1):=by
 intro s' H' e T cls dx I' sm fl he hT ae aT xr;have two:∀{T:Ah}{Z:Ah->Prop},Z e->Z T->∀ b∈[e,T],Z b:=fun {T Z} h1 h2 b hb=>by
  rcases AD.mp hb with rfl|hb
  ·exact h1
  ·rw[Bv.mp hb];exact h2
 have hfr:X.A.frames=Aa (X.env::X.outer):=by rw[<-hst];exact I'.ok.frames
 refine aW (base:=X.base) hfr hfm (by rw[<-hst];exact I'.stack) fl fun h1 T1 fl1 sh1 hT1=>?_
 rw[<-hst]at sh1;exact k e T1 cls dx H' _ (Ri I' hx sh1 (two ae aT) (two (Z:=fun b=>H' b=Ad) he hT)) sm fl1 ae (hT1.elim (fun z=>z ▸ aT) fun z=>Mh I' hx z) he (hT1.elim (fun z=>z ▸ hT) fun z=>K4 I'.hok z) xr
theorem kJ{c i:Ag}{hp:AO}{fb:Rho->O}(hx:X.ex=[])(hst:X.stack=X.env::X.outer)(hfm:X.env.frame=Aa X.env.locals)(hN:X.N.Nodup)(hi:X.N[i]?=Aa n)(hl:X.env.scope.names.lookup n=Aa .local)(h1:VF X CL up g c)(hb:STB X CL body fb)(hρ:∀ ρ y ρ',fb ρ=.exn y ρ'->ρ'=ρ)(hh:∀ e,SSs (Cx.hot X e) CL (fun _ _=>AW) (h0::hs) fh):SS X CL W (.Try body [.ExceptHandler (Aa (.Name g p1)) (Aa n) (h0::hs) hp] [] [] pos) (fun ρ=>Vl up c i (fb ρ) fh):=fun Fz B pI s σ H D I ⟨ρ,x,p⟩=>by
 refine wpAny_Try_except (Bl (hb Fz B pI s σ H D ρ _ PassesOwn.looking I x ?_ (hρ ρ)) (fun f s1 hf=>?_) fun _ _ z=>z)
 ·dsimp only at p;cases eb:fb ρ with
  |exn y ρ'=>
   rw[eb]at p;intro e0;subst e0;have p2:BH X.K CL Fz B W (if (up y.c).contains c=Ab then hdO i y ρ' fh else .bad) D:=p
   refine ZE hx hst hfm fun e T1 cls dx H' s1 I1 sm fl1 ae aT1 he HT1 xr=>?_
   have gx:=x.grow sm;obtain⟨C,hcl,rfl,_⟩:=xr (By B ρ' σ) gx.aok;obtain⟨C',hg,hm,hdb,xc,hup⟩:=h1;refine fU (W:=W) hx hN hi hl hg hm hdb xc (hup y.c C hcl) hh I1 fl1 ae aT1 he HT1 gx hcl xr (fun hc=>?_) (fun hc=>?_)
   ·rw[AG hc]at p2;exact p2
   ·rw[AI (by rw[hc];exact Aq)]at p2;exact p2.elim
  |next ρ'=>rw[eb]at p;exact p
  |ret d b=>rw[eb]at p;exact p
  |brk ρ'=>rw[eb]at p;exact p
  |cont ρ'=>rw[eb]at p;exact p
  |bad=>rw[eb]at p;exact p.elim
 ·cases f with
  |next=>exact EI hf
  |ret u=>exact hf
  |brk=>exact hf
  |cont=>exact hf
theorem Sf{f:Ah}{E:XK}{e:Ap}{es:Ac Ap}{t:TA}(F:FnOk X.prog X.w X.K X.mg X.base CX k f fd ps sp)(hr:Room k X.A)(hg:Gl X x)(hm:X.mg x=Aa (.ref f))(hk:B8 X.K (.ref f)=Ab)(hb:F6 X.K fd ps [])(hx:∀ pI H s e s',Inv X pI σ0 H s->CX X.stack H s E e s'->X.xe e s')(ha:PA X (e::es) t)(hdb:(x==("__debug__" : Ai))=Ae)(he:As (e::es) X.env=(Ae,eval e X.env)::As es X.env)(hpl:(Bz pos (As es X.env)).any (·.1)=Ae):PE X (.Call (.Name x p) (e::es) [] pos) (fun σ H Q=>σ=σ0/\t σ H fun vs H1=>sp vs H1 Q E):=by
 intro pI s σ H Q I ⟨e0,h⟩;subst e0;refine EH (JC I hg hm ?_ hdb);refine Hj (h₀:=X.base) I.ok.mod.kin hk (thn (ha pos pI s σ H _ I h) fun us s1 ⟨vs,H1,I1,r,q⟩=>⟨I1.kIn,?_⟩) he hpl
 have hl:us.length=ps.length:=by rw[<-r.length];exact F.len _ _ _ _ q
 have hb':Gz s1 fd ⟨us,[]⟩ (ps.zip us):=by
  have:=hb s1 us I1.kIn (by rw[Ca];exact hl)
  rw[Ca]at this;exact this
 refine GQ (FK (F.run X.A X.stack s1 H1 ⟨us,[]⟩ us vs Q E hr I1.env0 hb' r q) fun r s' hq=>?_)
 cases r with
 |error e=>exact hx pI H1 s1 e s' I1 hq
 |ok fl=>
  cases fl with
  |ret u=>exact I1.after hq
  |next=>exact Bi hq
  |brk=>exact Bi hq
  |cont=>exact Bi hq
def Qv(K:Fg)(CL:ClA)(Rp:Hp->V->D->Prop)(E0:XK)(H:Hp)(r:R D)(Q:VK):Prop:=match r with
  |.ok d=>∀ v H',AH H H'->Rp H' v d->Q v H'
  |.exn y=>∀ cls dx H',AH H H'->Gs K CL H' cls dx y->E0 cls dx H'
  |.bad=>AW
theorem M7{n:Ag}{f:Ah}{e:Ap}{es:Ac Ap}{ft:Rho->R (Ac D)}{sh:Rho->Ao}{E0:XK}(G:FnOk X.prog X.w X.K X.mg X.base CX k f fd ps (spD X.K CL n fr F))(hr:Room k X.A)(hg:Gl X x)(hm:X.mg x=Aa (.ref f))(hk:B8 X.K (.ref f)=Ab)(hb:F6 X.K fd ps [])(hx:∀ pI H s e s',Inv X pI σ0 H s->CX X.stack H s E0 e s'->X.xe e s')(ha:SA X CL (fun _ _=>AW) (e::es) fs)(hat:SAT X CL (fun _ _=>AW) (e::es) ft)(hst:∀ ρ,sh ρ=Ab->ft ρ=fs ρ)(hn:∀ ρ ds,ft ρ=.ok ds->ds.length=n)(hnx:∀ ρ y,ft ρ≠.exn y)(hdb:(x==("__debug__" : Ai))=Ae)(he:As (e::es) X.env=(Ae,eval e X.env)::As es X.env)(hpl:∀ pos,(Bz pos (As es X.env)).any (·.1)=Ae)(A:Ah->Prop):PE X (.Call (.Name x p) (e::es) [] pos) (fun σ H Q=>σ=σ0/\AOk H A/\∃ ρ,Good X.K CL A ρ σ H/\Qv X.K CL (DO X.K CL fr H A) E0 H ((ft ρ).bind fun ds=>(F ds).bind fun d=>if sh ρ=Ab then .ok d else if Ea fr d=Ab then .ok d else .bad) Q):=fun pI s σ H Q I ⟨e0,hA,ρ,gd,q⟩=>by
 by_cases hs:sh ρ=Ab
 ·rw[hst ρ hs]at q;refine Sf G hr hg hm hk hb hx (ha A) hdb he (hpl _) pI s σ H Q I ⟨e0,hA,ρ,gd,?_⟩;cases e1:fs ρ with
  |bad=>rw[e1]at q;exact q
  |exn y=>exact absurd (by rw[hst ρ hs];exact e1) (hnx ρ y)
  |ok ds=>
   rw[e1]at q;intro vs H1 s1 r1;refine⟨ds,A,by rw[r1.length];exact hn ρ ds (by rw[hst ρ hs];exact e1),hA.same s1,r1,?_⟩
   have q':Qv X.K CL (DO X.K CL fr H A) E0 H ((F ds).bind fun d=>if sh ρ=Ab then .ok d else if Ea fr d=Ab then .ok d else .bad) Q:=q
   cases e2:F ds with
   |ok d=>
    rw[e2,R.bind_ok,AG hs]at q';exact fun v H2 s2 r2=>q' v H2 (s1.trans s2) ⟨r2.1,fun z ds' e'=>let ⟨a,xs,z1,z2,z3⟩:=r2.2 z ds' e';⟨a,xs,z1,s1.free z2,z3⟩⟩
   |exn y=>
    rw[e2]at q';exact fun cls dx H2 s2 xr=>q' cls dx H2 (s1.trans s2) xr
   |bad=>rw[e2]at q';exact q'.elim
 ·refine Sf G hr hg hm hk hb hx (hat A) hdb he (hpl _) pI s σ H Q I ⟨e0,hA,ρ,gd,?_⟩;cases e1:ft ρ with
  |bad=>rw[e1]at q;exact q
  |exn y=>exact absurd e1 (hnx ρ y)
  |ok ds=>
   rw[e1]at q;intro vs H1 s1 r1;refine⟨ds,A0,by rw[r1.plain.length];exact hn ρ ds e1,fun _ z=>z.elim,r1.plain,?_⟩
   have q':Qv X.K CL (DO X.K CL fr H A) E0 H ((F ds).bind fun d=>if sh ρ=Ab then .ok d else if Ea fr d=Ab then .ok d else .bad) Q:=q
   cases e2:F ds with
   |ok d=>
    rw[e2,R.bind_ok,AI hs]at q';split at q'
    ·rename_i hc;exact fun v H2 s2 r2=>q' v H2 (s1.trans s2) (PY hA (s1.trans s2) hc ⟨r2.1,fun z ds' e'=>let ⟨a,xs,z1,z2,z3⟩:=r2.2 z ds' e';⟨a,xs,z1,s1.free z2,z3⟩⟩)
    ·exact q'.elim
   |exn y=>
    rw[e2]at q';exact fun cls dx H2 s2 xr=>q' cls dx H2 (s1.trans s2) xr
   |bad=>rw[e2]at q';exact q'.elim
noncomputable def Cx.pw(X:Cx)(pI:Pn)(Xw:Vq):Cx:={X with pn:=X.pn++pI,xe:=Xw}
section
variable{X:Cx}{pI pins':Pn}{σ:L2.St}{H:Hp}{s:Ar}{Xw:Vq}
theorem sJ(ok:X.Ok):(Cx.pw X pI Xw).Ok:=⟨ok.mod,ok.kind,ok.glob,ok.blt,ok.above,ok.inj,ok.has,ok.cab,ok.hd,ok.frames,ok.stk,ok.exf,ok.bs,ok.bsz,ok.noex,ok.exfs,ok.funs,ok.frf⟩
theorem Mt(I:Inv X pI σ H s)(Xw:Vq):Inv (Cx.pw X pI Xw) [] σ H s:=⟨sJ I.ok,I.os,I.bare,I.base,I.loc,I.cell,I.free,I.freeC,fun p hp=>I.pin p (by
 rcases C5.mp hp with z|z
 ·exact z
 ·exact absurd z (by simp)),I.hok,I.len⟩
theorem K2(ok:X.Ok)(I:Inv (Cx.pw X pI Xw) pins' σ H s):Inv X pI σ H s:=⟨ok,I.os,I.bare,I.base,I.loc,I.cell,I.free,I.freeC,fun p hp=>I.pin p (GF _ hp),I.hok,I.len⟩
theorem Nn(ok:X.Ok){D:Ends}{f:Flow}{s':Ar}(h:SP (Cx.pw X pI Xw) pins' D f s'):SP X pI D f s':=by
 cases f with
 |next=>obtain⟨σ',H',I,q⟩:=h;exact⟨σ',H',K2 ok I,q⟩
 |brk=>obtain⟨σ',H',I,q⟩:=h;exact⟨σ',H',K2 ok I,q⟩
 |cont=>obtain⟨σ',H',I,q⟩:=h;exact⟨σ',H',K2 ok I,q⟩
 |ret u=>obtain⟨v,σ',H',I,r,q⟩:=h;exact⟨v,σ',H',K2 ok I,r,q⟩
end
section
variable{X:Cx}{CL:ClA}{k n:Ag}{fr:Ao}{f:Ah}{fd:BV}{ps:Ac Ai}{F:Ac D->R D}{x:Ai}{p pos pos2:AO}{e:Ap}{es:Ac Ap}{fs ft:Rho->R (Ac D)}{sh:Rho->Ao}
theorem S0(hx:X.ex=[])(ok:X.Ok)(q:Kq X CL pI σ H y Xw):∀ pins' H1 s1 e s',Inv (Cx.pw X pI Xw) pins' σ H1 s1->CXR X.prog X.w (Cx.pw X pI Xw).stack H1 s1 (fun cls dx H'=>Gs X.K CL H' cls dx y/\AH H H') e s'->(Cx.pw X pI Xw).xe e s':=by
 intro pins' H1 s1 ev s' J h;obtain⟨e,T,cls,dx,H',rfl,os,bare,un,hok,fl,he,hT,ne,nT,xr,sm⟩:=h;have J':=K2 ok J;have J2:=J'.call' (s':=s') (ch:=[]) os un hok bare (fun b z=>absurd z (by simp))
 exact q s' H' e T cls dx J2 sm fl he hT (Mh J' hx ne) (Mh J' hx nT) xr
theorem S3:∀ pins' H1 s1 e s',Inv (Cx.pw X pI Xw) pins' σ H1 s1->CXR X.prog X.w (Cx.pw X pI Xw).stack H1 s1 (fun _ _ _=>AW) e s'->(Cx.pw X pI Xw).xe e s':=by
 intro pins' H1 s1 ev s' J h;obtain⟨e,T,cls,dx,H',rfl,os,bare,un,hok,fl,he,hT,ne,nT,w⟩:=h;exact w.elim
variable(hx0:X.ex=[])(G:FnOk X.prog X.w X.K X.mg X.base (CXR X.prog X.w) k f fd ps (spD X.K CL n fr F))(hr:Room k X.A)(hg:Gl X x)(hm:X.mg x=Aa (.ref f))
    (hk:B8 X.K (.ref f)=Ab) (hb:F6 X.K fd ps []) (hst:∀ ρ,sh ρ=Ab->ft ρ=fs ρ) (hn:∀ ρ ds,ft ρ=.ok ds->ds.length=n) (hnx:∀ ρ y,ft ρ≠.exn y)
    (hdb:(x==("__debug__" : Ai))=Ae) (he:As (e::es) X.env=(Ae,eval e X.env)::As es X.env) (hpl:∀ pos,(Bz pos (As es X.env)).any (·.1)=Ae)
    (ha:∀ pI Xw,EG (model X.prog X.w) X.A X.env Xw->SA (Cx.pw X pI Xw) CL (fun _ _=>AW) (e::es) fs/\SAT (Cx.pw X pI Xw) CL (fun _ _=>AW) (e::es) ft)
include hx0 G hr hg hm hk hb hst hn hnx hdb he hpl ha
theorem ZG(hs:Cn (.Call (.Name x p) (e::es) [] pos) Ad pos2.line X.env=pure Ae):STB X CL [.Expr (.Call (.Name x p) (e::es) [] pos) pos2] (fun ρ=>O.of ρ ((ft ρ).bind fun ds=>(F ds).bind fun d=>if sh ρ=Ab then .ok d else if Ea fr d=Ab then .ok d else .bad) fun _=>.next ρ):=by
 intro Fz B pI s σ H D ρ Xw own I sx q _;obtain⟨ha1,ha2⟩:=ha pI Xw own;dsimp only at q;cases er:(ft ρ).bind fun ds=>(F ds).bind fun d=>if sh ρ=Ab then .ok d else if Ea fr d=Ab then .ok d else .bad with
 |bad=>rw[er]at q;exact q.elim
 |exn y=>
  rw[er]at q;have key:=M7 (X:=Cx.pw X pI Xw) (p:=p) (pos:=pos) (σ0:=σ) (fr:=fr) (F:=F) (n:=n) (sh:=sh) G hr hg hm hk hb (S0 hx0 I.ok (q rfl)) ha1 ha2 hst hn hnx hdb he hpl (By B ρ σ);refine Bl (Mn (IZ (pos:=pos2) key hs) [] s σ H D (Mt I Xw) ⟨rfl,sx.aok,ρ,sx.good,?_⟩) (fun _ _ z=>Nn I.ok z) fun _ _ z=>z
  rw[er];exact fun cls dx H' sm xr=>⟨xr,sm⟩
 |ok d=>
  rw[er]at q;have key:=M7 (X:=Cx.pw X pI Xw) (p:=p) (pos:=pos) (σ0:=σ) (fr:=fr) (F:=F) (n:=n) (sh:=sh) (E0:=fun _ _ _=>AW) G hr hg hm hk hb S3 ha1 ha2 hst hn hnx hdb he hpl (By B ρ σ)
  refine Bl (Mn (IZ (pos:=pos2) key hs) [] s σ H D (Mt I Xw) ⟨rfl,sx.aok,ρ,sx.good,?_⟩) (fun _ _ z=>Nn I.ok z) fun _ _ z=>z
  rw[er];exact fun v H' sm r=>q σ H' (sx.grow sm)
theorem eG{i:Ag}{m:Ai}(hN:X.N.Nodup)(hi:X.N[i]?=Aa m)(hl:Loc X.env.scope m)(hf:X.fn m=Ab\/X.env.scope.names.lookup m=Aa .local)(hs:Cn (.Call (.Name x p) (e::es) [] pos) (Aa (.Name m pos')) pos2.line X.env=pure Ae):STB X CL [.Assign [.Name m pos'] (.Call (.Name x p) (e::es) [] pos) pos2] (fun ρ=>O.of ρ ((ft ρ).bind fun ds=>(F ds).bind fun d=>if sh ρ=Ab then .ok d else if Ea fr d=Ab then .ok d else .bad) fun d=>.next (ρ.set i (Aa (d,Ae)))):=by
 intro Fz B pI s σ H D ρ Xw own I sx q _;obtain⟨ha1,ha2⟩:=ha pI Xw own;dsimp only at q;cases er:(ft ρ).bind fun ds=>(F ds).bind fun d=>if sh ρ=Ab then .ok d else if Ea fr d=Ab then .ok d else .bad with
 |bad=>rw[er]at q;exact q.elim
 |exn y=>
  rw[er]at q;have key:=M7 (X:=Cx.pw X pI Xw) (p:=p) (pos:=pos) (σ0:=σ) (fr:=fr) (F:=F) (n:=n) (sh:=sh) G hr hg hm hk hb (S0 hx0 I.ok (q rfl)) ha1 ha2 hst hn hnx hdb he hpl (By B ρ σ);refine Bl (Mn (Mx (X:=Cx.pw X pI Xw) (i:=i) (pos:=pos2) hN hi hl key hs hf) [] s σ H D (Mt I Xw) ⟨rfl,sx.aok,ρ,sx.good,?_⟩) (fun _ _ z=>Nn I.ok z) fun _ _ z=>z
  rw[er];exact fun cls dx H' sm xr=>⟨xr,sm⟩
 |ok d=>
  rw[er]at q;have key:=M7 (X:=Cx.pw X pI Xw) (p:=p) (pos:=pos) (σ0:=σ) (fr:=fr) (F:=F) (n:=n) (sh:=sh) (E0:=fun _ _ _=>AW) G hr hg hm hk hb S3 ha1 ha2 hst hn hnx hdb he hpl (By B ρ σ)
  refine Bl (Mn (Mx (X:=Cx.pw X pI Xw) (i:=i) (pos:=pos2) hN hi hl key hs hf) [] s σ H D (Mt I Xw) ⟨rfl,sx.aok,ρ,sx.good,?_⟩) (fun _ _ z=>Nn I.ok z) fun _ _ z=>z
  rw[er];exact fun v H' sm r=>q _ H' ((sx.grow sm).set i r.1)
end
section
variable{X:Cx}{CL:ClA}{W:XW}
theorem ZI{e:Ap}{es:Ac Ap}(hcalm:X.calm=Ab)(rz:ML X CL W)(hg:Gl X g)(hm:X.mg g=Aa (.ref C))(hdb:(g==("__debug__" : Ai))=Ae)(xc:Eh X.K C Ad=Ab)(hcl:CL c=Aa C)(ha:SA X CL W (e::es) fs)(hxn:∀ ds,xn c ds=.bad\/xn c ds=.ok ⟨c,[]⟩)(he:As (e::es) X.env=(Ae,eval e X.env)::As es X.env)(hpl:∀ pos,(Bz pos (As es X.env)).any (·.1)=Ae)(hz:∀ ρ ds,fs ρ=.ok ds->ds.length<=100000):SS X CL W (.Raise (Aa (.Call (.Name g np) (e::es) [] cpos)) Ad pos) (fun ρ=>O.of ρ (noX (fs ρ)) fun xs=>O.of ρ (xn c xs) fun x=>.exn x ρ):=fun Fz B pI s σ H D I ⟨ρ,x,p⟩=>by
 dsimp only at p;cases e1:fs ρ with
 |bad=>rw[e1]at p;exact p.elim
 |exn y=>rw[e1]at p;exact p.elim
 |ok ds=>
  rw[e1]at p;have p2:BH X.K CL Fz B W (O.of ρ (xn c ds) fun x=>.exn x ρ) D:=p
  rcases hxn ds with e2|e2
  ·rw[e2]at p2;exact p2.elim
  ·rw[e2]at p2;have p3:∀ H,(∀ b o,Fz b o->H b=Aa o)->W ⟨c,[]⟩ H:=p2;obtain⟨bm,N,nm,qn,bs,hd,sn,sub,ab,col,dd,k0,k1,k2,k3,k5,mN,hob,hni,hbase⟩:=O1 I.kIn xc;refine wpAny_Raise_call_subT (bmB:=veB) (nm:=nm) (q:=qn) (C:=C) (N:=N) (bs:=bs) (bm:=bm) (hdct:=hd) (sn:=sn) (sub:=sub) (ab:=ab) (col:=col) (dd:=dd) (k0:=k0) (k1:=k1) (k2:=k2) (k3:=k3) (k5:=k5) (mN:=mN) Fh hbase (I.ok.hd hcalm) (by rw[he];show (Ae||(Bz cpos (As es X.env)).any (·.1))=Ae;rw[hpl];rfl) hni ?_
   refine JC I hg hm ⟨rfl,?_⟩ hdb;have q1:=ha (By B ρ σ) cpos pI s σ H (fun vs H1=>AH H H1/\vs.length=ds.length) I ⟨x.aok,ρ,x.good,by rw[e1];exact fun vs H1 s1 r1=>⟨s1,r1.length⟩⟩
   rw[he]at q1 ⊢;refine Ed (Bl q1 (fun us s2 ⟨vs,H2,I2,r2,s2',hl⟩=>⟨rfl,?_⟩) fun _ _ z=>z)
   obtain⟨o1,o2,o3⟩:=hob _ I2.kIn;refine⟨?_,o1,o2,o3,fun h' ev hmade=>?_⟩
   ·rw[<-r2.length,hl,DT];have:=hz ρ ds e1;omega
   ·obtain⟨t,ge,_⟩:=hmade.there;have I3:Inv X pI σ H2 {s2 with heap:=h'}:=I2.kept (t':=s2.toks) hmade.keeps
    exact rz pI σ H2 _ ev C Ad t ⟨c,[]⟩ I3 (fun hx=>J6 I2 hx hmade.new) (K4 I2.hok hmade.new) ge (fun A _=>⟨C,hcl,rfl,.inl rfl⟩) (p3 H2 fun b o z=>s2' _ _ (x.same b o z))
def MB(K:Fg)(CL:ClA)(up:Ag->Ac Ag)(c':Ag)(C':Ah):Prop:=∀ c C,CL c=Aa C->Ds K (.ref C) (.ref C')=Aa ((up c).contains c')
theorem Sr{s:Ar}{cv:Ak}{b:Ao}{Q:VK}(I:Inv X pI σ H s)(ha:H a=Aa (.ext φ))(hφ:∀ h,φ h->∃ o,h.get? a=Aa o/\o.cls=.ref C)(xc:XcOk X.K C)(e:Ds X.K (.ref C) cv=Aa b)(q:Q (.bl b) H):
  Ax (model X.prog X.w) X.A (call (.builtin "isinstance") [.ref a,cv]) (EP X pI σ Q) X.xe s:=by
 have p:XAt a C s.heap:=hφ _ (I.hok a _ ha).1;exact PySem.W.kia_one (Sq xc) I.kIn p e (by intro z;cases z) fun tk=>⟨.bl b,H,I.tok tk,rfl,q⟩
theorem Rm:∀(Cs:Ac Ah){its:Ac Ak},Bc (Cs.map V.ref) its->its=Cs.map Ck
 |[],_,rv=>by cases rv;rfl
 |c::cs,_,rv=>by
  cases rv with
  |cons h1 h2=>rw[Rm cs h2];cases h1;rfl
theorem fL{s:Ar}{tp:Ah}{Cs:Ac Ah}{b:Ao}{Q:VK}(I:Inv X pI σ H s)(ha:H a=Aa (.ext φ))(hφ:∀ h,φ h->∃ o,h.get? a=Aa o/\o.cls=.ref C)(xc:XcOk X.K C)(ht:H tp=Aa (.tup (Cs.map V.ref)))(e:IJ X.K (.ref C) (Cs.map Ck)=Aa b)(q:Q (.bl b) H):
  Ax (model X.prog X.w) X.A (call (.builtin "isinstance") [.ref a,.ref tp]) (EP X pI σ Q) X.xe s:=by
 have p:XAt a C s.heap:=hφ _ (I.hok a _ ha).1;obtain⟨_,its,rv,⟨o,ho,hc,n,hd⟩⟩:=I.hok tp _ ht;have ei:its=Cs.map Ck:=Rm Cs rv;subst ei;obtain⟨cls,dd,dat,sl⟩:=o;have hc':cls=.type "tuple" := hc;have hd':dat=.seq (FF (Cs.map Ck)) n:=hd;subst hc' hd';exact PySem.W.kia_tup (Sq xc) I.kIn p ho e (by intro z;cases z) fun tk=>⟨.bl b,H,I.tok tk,rfl,q⟩
theorem Tv{K:Fg}{up:Ag->Ac Ag}{c:Ag}{C:Ah}(h:CL c=Aa C):∀(cs:Ac (Ag×Ah)),(∀ p∈cs,MB K CL up p.1 p.2)->IJ K (.ref C) ((cs.map fun q:Ag×Ah=>q.2).map Ck)=Aa (cs.any fun p=>(up c).contains p.1)
  |[],_=>rfl
  |p::cs,hk=>by
    have h1:=hk p AE c C h;have h2:=Tv h cs fun q hq=>hk q (AA _ hq)
    show (match Ds K (.ref C) (.ref p.2) with
      |some Ab=>Aa Ab
      |some Ae=>IJ K (.ref C) ((cs.map fun q:Ag×Ah=>q.2).map Ck)
      | none=>Ad)=_
    rw[h1,Gj];cases (up c).contains p.1 with
    |true=>rfl
    |false=>rw[h2];rfl
theorem Pc{ks:Ac Ki}{Rp:Hp->V->D->Prop}{Q:VK}(hk:ks.all Ev=Ab)(hne:ks≠[])(p:Bf Rp W H (EL up ks d) Q):∃ c fs,d=.exc c fs/\Bf Rp W H (.ok (.bl (ks.any fun k=>kiD up k d))) Q:=by
 have ha:ks.any Ev=Ab:=by
  cases ks with
  |nil=>exact absurd rfl hne
  |cons k ks=>simp only[Gi,Aj]at hk;simp[Gj,hk.1]
 cases d with
 | exc c fs=>exact⟨c,fs,rfl,by
   have p':Bf Rp W H (if ks.all Ev=Ab then .ok (.bl (ks.any fun k=>kiD up k (.exc c fs))) else .bad) Q:=p
   rw[AG hk]at p';exact p'⟩
 |obj c fs=>exact Bi p
 |dic _=>exact Bi p
 |non=>simp only[EL,ha,E7]at p;exact Bi p
 |bl _=>simp only[EL,ha,E7]at p;exact Bi p
 |int _=>simp only[EL,ha,E7]at p;exact Bi p
 |str _=>simp only[EL,ha,E7]at p;exact Bi p
 |tup _=>simp only[EL,ha,E7]at p;exact Bi p
 |lst _=>simp only[EL,ha,E7]at p;exact Bi p
theorem Pl{v:V}{fs:Ac (Ai×D)}(r:CG K CL H A v (.exc c fs)):∃ a C φ,v=.ref a/\CL c=Aa C/\H a=Aa (.ext φ)/\∀ h,φ h->∃ o,h.get? a=Aa o/\o.cls=.ref C:=by
 rcases r with ⟨a,C,φ,e,_,hc,hH,hφ,_⟩|⟨_,_,_,_,⟨_,_,_,z,_⟩|⟨_,_,_,z,_⟩⟩
 ·exact⟨a,C,φ,e,hc,hH,hφ⟩
 ·cases z
 ·cases z
variable{a:Ap}{fa:Rho->R D}{up:Ag->Ac Ag}{x:Ai}{p p2 pos:AO}
theorem mO{c':Ag}(hxc:∀ c C,CL c=Aa C->XcOk X.K C)(hg:Gl X "isinstance")(hm:X.mg "isinstance" = Ad)(hg2:Gl X x)(hm2:X.mg x=Aa (.ref C'))(hkit:MB X.K CL up c' C')(hdb:(x==("__debug__" : Ai))=Ae)(ha:ST X CL W a fa)(he:As [a,.Name x p2] X.env=(Ae,eval a X.env)::As [.Name x p2] X.env):SE X CL W (.Call (.Name "isinstance" p) [a,.Name x p2] [] pos) (fun ρ=>(fa ρ).bind fun x=>EL up [.cls c'] x):=fun A=>
 PE.weak (Mc (r:=fun xs H Q=>∃ a C φ c,xs=[.ref a,.ref C']/\CL c=Aa C/\H a=Aa (.ext φ)/\(∀ h,φ h->∃ o,h.get? a=Aa o/\o.cls=.ref C)/\Q (.bl ((up c).contains c')) H) (fun pI s σ H xs us Q I r ⟨b,C,φ,c,e,hc,hH,hφ,q⟩=>by
   subst e;obtain⟨u,w',rfl,r1,r2⟩:=MD r;cases r1;cases r2;exact Sr I hH hφ (hxc c C hc) (hkit c C hc) q)
  hg hm GK (DH (ha A) (DH (Po (v:=.ref C') hg2 hm2 rfl hdb) Ft rfl) he) (by decide) (by decide) he rfl) fun σ H Q ⟨hA,ρ,g,q⟩=>⟨hA,ρ,g,Bf.bind q fun d v H1 _ s1 r1 p1=>by
   obtain⟨c,fs,rfl,p2⟩:=Pc (by rfl) (by simp) p1
   obtain⟨b,C,φ,rfl,hc,hH,hφ⟩:=Pl r1;refine⟨b,C,φ,c,rfl,hc,hH,hφ,p2 _ H1 (AH.refl H1) ?_⟩;show V.bl _=V.bl _;simp[kiD]⟩
theorem mK(hxc:∀ c C,CL c=Aa C->XcOk X.K C)(hg:Gl X "isinstance")(hm:X.mg "isinstance" = Ad)(hg2:Gl X "ValueError")(hm2:X.mg "ValueError" = Ad)(ha:ST X CL W a fa)(he:As [a,.Name "ValueError" p2] X.env=(Ae,eval a X.env)::As [.Name "ValueError" p2] X.env):SE X CL W (.Call (.Name "isinstance" p) [a,.Name "ValueError" p2] [] pos) (fun ρ=>(fa ρ).bind fun x=>EL up [.verr] x):=fun A=>
 PE.weak (Mc (r:=fun xs H Q=>∃ a C φ c,xs=[.ref a,.ty "ValueError"]/\CL c=Aa C/\H a=Aa (.ext φ)/\(∀ h,φ h->∃ o,h.get? a=Aa o/\o.cls=.ref C)/\Q (.bl Ab) H) (fun pI s σ H xs us Q I r ⟨b,C,φ,c,e,hc,hH,hφ,q⟩=>by
   subst e;obtain⟨u,w',rfl,r1,r2⟩:=MD r;cases r1;cases r2;exact Sr I hH hφ (hxc c C hc) (hxc c C hc).ve q)
  hg hm GK (DH (ha A) (DH (To (v:=.ty "ValueError") hg2 hm2 PyProof.Rows.Boot.«ValueError» rfl (by decide) (by decide)) Ft rfl) he) (by decide) (by decide) he rfl) fun σ H Q ⟨hA,ρ,g,q⟩=>⟨hA,ρ,g,Bf.bind q fun d v H1 _ s1 r1 p1=>by
   obtain⟨c,fs,rfl,p2⟩:=Pc (by rfl) (by simp) p1
   obtain⟨b,C,φ,rfl,hc,hH,hφ⟩:=Pl r1;refine⟨b,C,φ,c,rfl,hc,hH,hφ,p2 _ H1 (AH.refl H1) ?_⟩;show V.bl _=V.bl _;simp[kiD]⟩
def Vp(Cs:Ac Ah):TA:=fun _ H Q=>Q (Cs.map V.ref) H
theorem mL{ts:Ac Ap}{cs:Ac (Ag×Ah)}(hxc:∀ c C,CL c=Aa C->XcOk X.K C)(hg:Gl X "isinstance")(hm:X.mg "isinstance" = Ad)(hts:PA X ts (Vp (cs.map fun q:Ag×Ah=>q.2)))(hne:cs≠[])(hl:cs.length<=1000)(hkit:∀ q∈cs,MB X.K CL up q.1 q.2)(ha:ST X CL W a fa)(he:As [a,.Tuple ts kk p2] X.env=(Ae,eval a X.env)::As [.Tuple ts kk p2] X.env):SE X CL W (.Call (.Name "isinstance" p) [a,.Tuple ts kk p2] [] pos) (fun ρ=>(fa ρ).bind fun x=>EL up (cs.map fun q=>.cls q.1) x):=fun A=>
 PE.weak (Mc (r:=fun xs H Q=>∃ a C φ c tp,xs=[.ref a,.ref tp]/\CL c=Aa C/\H a=Aa (.ext φ)/\(∀ h,φ h->∃ o,h.get? a=Aa o/\o.cls=.ref C)/\H tp=Aa (.tup ((cs.map fun q:Ag×Ah=>q.2).map V.ref))/\Q (.bl (cs.any fun q=>(up c).contains q.1)) H) (fun pI s σ H xs us Q I r ⟨b,C,φ,c,tp,e,hc,hH,hφ,ht,q⟩=>by
   subst e;obtain⟨u,w',rfl,r1,r2⟩:=MD r;cases r1;cases r2;exact fL I hH hφ (hxc c C hc) ht (Tv hc cs hkit) q)
  hg hm GK (DH (ha A) (DH (Uj hts) Ft rfl) he) (by decide) (by decide) he rfl) fun σ H Q ⟨hA,ρ,g,q⟩=>⟨hA,ρ,g,Bf.bind q fun d v H1 _ s1 r1 p1=>by
   have hk:(cs.map fun q=>Ki.cls q.1).all Ev=Ab:=by simp[V7,Ev]
   obtain⟨c,fs,rfl,p2⟩:=Pc hk (by simpa using hne) p1
   obtain⟨b,C,φ,rfl,hc,hH,hφ⟩:=Pl r1;refine⟨by rw[Bm,Bm,DT];omega,fun t ht=>?_⟩
   have hbt:b≠t:=F3 hH ht;refine⟨b,C,φ,c,t,rfl,hc,by rw[BG hbt];exact hH,hφ,FL,p2 _ _ (F2 ht _) ?_⟩
   show V.bl _=V.bl _;simp[kiD,V8,FX]⟩
end
theorem Uv(q:Eh K C v=Ab):∃ dd cd sl bm,K.lookup C=Aa ⟨.type "type", dd,.cls cd,sl⟩/\cd.mro=.ref C::bm:=by
 unfold Eh at q;split at q
 ·rename_i dd cd sl ho;split at q
  ·rename_i C' bm k0 k1 k2 k3 n k5 hm hs;simp only[Aj,AR,Bp]at q;obtain⟨rfl,_⟩:=q;exact⟨dd,cd,sl,bm,ho,hm⟩
  ·cases q
 ·cases q
theorem Nk(q:Eh K C v=Ab):∃ cd bm,DG K C=Aa cd/\cd.mro=.ref C::bm:=by
 obtain⟨dd,cd,sl,bm,h1,h2⟩:=Uv q;exact⟨cd,bm,by unfold DG;rw[h1],h2⟩
theorem nY(q:Eh K C v=Ab):Dt K (.ref C)=Aa (.type "type"):=by
 obtain⟨dd,cd,sl,bm,h1,h2⟩:=Uv q;show (K.lookup C).map _=_;rw[h1];rfl
theorem Eg{v:Ao}{i i':An Ak}(q:Eh K C i=Ab)(q':Eh K C' i'=Ab)(su:Az K (.ref C) (.ref C')=Aa v):Ds K (.ref C) (.ref C')=Aa v:=by
 unfold Ds;by_cases e:C=C'
 ·subst e;obtain⟨cd,bm,h1,h2⟩:=Nk q;have su':BR K C (.ref C)=Aa v:=su;have:v=Ab:=by
   unfold BR at su';rw[h1,Wx,h2,AI (by simp)]at su'
   rw[<-Bw su'];simp
  rw[AG (by simp),this]
 ·rw[AI (fun z=>e (Jm (AR.mp z)))]
  obtain⟨cd,bm,h1,h2⟩:=Nk q';show (if ((DG K C').isSome&&Dt K (.ref C')==Aa (.type "type"))=Ab then Az K (.ref C) (.ref C') else Ad)=_
  rw[h1,nY q',AG (by simp),su]
theorem Lq(exc:Eh K C v=Ab)(ga:Aw K (.ref C) "__getattribute__" = Aa (Aa (.builtin "BaseException.__getattribute__")))(gt:Aw K (.ref C) "__getattr__" = Aa Ad)(cl:Aw K (.ref C) "__class__" = Aa (Aa (.builtin "object.__class__")))(ob:BR K C (.type "object")=Aa Ab)(be:Az K (.ref C) (.type "BaseException")=Aa Ab)(sv:Az K (.ref C) (.type "ValueError")=Aa Ab):XcOk K C:=by
 obtain⟨cd,bm,h1,h2⟩:=Nk exc;refine⟨⟨v,exc⟩,ga,gt,cl,ob,be,by rw[h1];rfl,?_⟩
 unfold Ds;rw[AI (fun z=>by cases AR.mp z)]
 have hm:Xi "ValueError" = Ab:=by decide +kernel
 show (if Xi "ValueError" = Ab then Az K (.ref C) (.type "ValueError") else Ad)=_
 rw[AG hm,sv]
noncomputable abbrev Jg:CXT:=fun _ _ _ _ _ _=>AW
structure HotOk (P:AS) (w:AB) (K:Fg) (mg:Ai->An Ak) (base:AF) (k:Ag) (f:Ah) (fd:BV) (ps:Ac Ai) (sp:Sp):Prop where
 len:∀ vs H Q E,sp vs H Q E->vs.length=ps.length
 run:∀(A:AY)(ev:Ah)(outer:Ac Cd)(s:Ar)(H:Hp)(args:Args)(us:Ac Ak)(vs:Ac V)(Q:VK)(E:XK),Room k A->Env0 P w K mg base (A.mark (Aa (.ref ev))) outer s H->Gz s fd args (ps.zip us)->Bc vs us->sp vs H Q E ->
  FU (model P w) (A.mark (Aa (.ref ev))) (.call (.ref f) args) (CR Jg outer P w H s Q E) s
theorem pF{mg:Ai->An Ak}{base:AF}{f:Ah}{params:LI}{dV kV doc pm cdv ct oc:Ak}{N ps:Ac Ai}(lk:K.lookup f=Aa ⟨oc,od,.func (CO name qual params body scope dV kV doc pm an cdv ct),osl⟩)(hcd:E2 K cdv qual=Ab)(S:FnScope N ps scope)(len:∀ vs H Q E,sp vs H Q E->vs.length=ps.length)(hbody:∀(A:AY)(ev:Ah)(outer:Ac Cd)(s:Ar)(H:Hp)(vs:Ac V)(Q:VK)(E:XK),Room k (A.deeper (EX qual scope s.heap.objs.size f cdv))->sp vs H Q E ->
   ∃ t,PSs (Cx.hot (E6 Jg P w K mg base N qual scope f cdv A outer s H E) ev) body t/\t {nx:=fun _ H'=>Q .non H',rt:=Q} (start N vs) H):HotOk P w K mg base (k+1) f (CO name qual params body scope dV kV doc pm an cdv ct) ps sp:=by
 refine⟨len,fun A ev outer s H args us vs Q E hr e0 hb r hsp=>?_⟩
 have hl:=len _ _ _ _ hsp;have e1:Env0 P w K mg base A outer s H:=⟨e0.frames,e0.mod,e0.bs,e0.bsz,e0.funs,e0.frf,e0.hok,e0.bare⟩;have KX:K.In s.heap:=e0.mod.kin.keeps fun b o e=>(e0.bs b o e).1
 have lim:s.heap.NoLimit:=e0.mod.nolimit.keeps fun b o e=>(e0.bs b o e).1
 have hkind:∀ y∈ps.zip us,scope.names.lookup y.1=Aa .local\/(scope.names.lookup y.1=Aa .cell/\((CQ (s.heap.objs.size+1) scope.names []).lookup y.1).isSome=Ab):=fun ⟨n,v⟩ hy=>by
  rcases S.par n (GI hy).1 with q|q
  ·exact .inl q
  ·exact .inr ⟨q,Gg _ _ _ (.inl q)⟩
 have hdp:(A.mark (Aa (.ref ev))).depth<G2:=hr.depth;refine GA hdp (KX _ _ lk) rfl S.co S.gen rfl (Hk KX hcd) (hb _ _ _ _ ?_);refine Fk S.kind hkind fun env he s1 x=>?_
 subst he;refine⟨lim.keeps x.toInCall.keep,Jw ?_⟩;obtain⟨t,ht,hq⟩:=hbody A ev outer s H vs Q E (hr.deeper _) hsp;have I:Inv (E6 Jg P w K mg base N qual scope f cdv A outer s H E) [] (start N vs) H s1:=OU S hr.hd e1 hl r x;refine Bl (ht [] s1 (start N vs) H _ (Pt I ev) hq) (fun fl s' hs=>?_) fun e s' hs=>hs.elim
 have fin:∀{σ':L2.St}{H':Hp}{v:V}{u:Ak},Inv (Cx.hot (E6 Jg P w K mg base N qual scope f cdv A outer s H E) ev) [] σ' H' s'->Bx v u->Q v H'->CE outer P w H s Q u s':=
  fun {σ' H' v u} J rv q=>⟨v,H',J.os,J.bare,J.base,J.hok,rv,q⟩
 cases fl with
 |ret u=>
  obtain⟨v,σ',H',J,rv,q⟩:=hs;exact fin J rv q
 |next=>
  obtain⟨σ',H',J,q⟩:=hs;exact fin (v:=V.non) (u:=DC) J rfl q
 |brk=>
  obtain⟨_,_,_,q⟩:=hs;exact Bi q
 |cont=>
  obtain⟨_,_,_,q⟩:=hs;exact Bi q
theorem K0{v:Ao}{i:An Ak}(q:Eh K C i=Ab)(mr:BR K C' (.type "object")=Aa Ab)(ty:Dt K (.ref C')=Aa (.type "type"))(su:Az K (.ref C) (.ref C')=Aa v):Ds K (.ref C) (.ref C')=Aa v:=by
 unfold Ds;by_cases e:C=C'
 ·subst e;obtain⟨cd,bm,h1,h2⟩:=Nk q;have su':BR K C (.ref C)=Aa v:=su;have:v=Ab:=by
   unfold BR at su';rw[h1,Wx,h2,AI (by simp)]at su'
   rw[<-Bw su'];simp
  rw[AG (by simp),this]
 ·rw[AI (fun z=>e (Jm (AR.mp z)))]
  show (if ((DG K C').isSome&&Dt K (.ref C')==Aa (.type "type"))=Ab then Az K (.ref C) (.ref C') else Ad)=_
  have cs:(DG K C').isSome=Ab:=by
   unfold BR at mr;cases e1:DG K C' with
   |none=>rw[e1]at mr;cases mr
   |some cd=>rfl
  rw[cs,ty,AG (by simp),su]
def spH(K:Fg)(CL:ClA)(n:Ag)(fr:Ao)(F:Ac D->R D):Sp:=fun vs H Q _=>∃(ds:Ac D)(A:Ah->Prop),vs.length=n/\AOk H A/\Reps K CL H A vs ds/\(match F ds with
  |.ok d=>∀ v H',AH H H'->DO K CL fr H A H' v d->Q v H'
  |.exn _=>AW
  | .bad=>AW)
section
variable{X:Cx}{CL:ClA}{ev:Ah}
theorem Sg{f:Ah}{E:XK}{e:Ap}{es:Ac Ap}{t:TA}(F:HotOk X.prog X.w X.K X.mg X.base k f fd ps sp)(hr:Room k X.A)(hg:Gl X x)(hm:X.mg x=Aa (.ref f))(hk:B8 X.K (.ref f)=Ab)(hb:F6 X.K fd ps [])(ha:PA (Cx.hot X ev) (e::es) t)(hdb:(x==("__debug__" : Ai))=Ae)(he:As (e::es) X.env=(Ae,eval e X.env)::As es X.env)(hpl:(Bz pos (As es X.env)).any (·.1)=Ae):PE (Cx.hot X ev) (.Call (.Name x p) (e::es) [] pos) (fun σ H Q=>t σ H fun vs H1=>sp vs H1 Q E):=by
 intro pI s σ H Q I h;refine EH (JC (X:=Cx.hot X ev) I hg hm ?_ hdb);refine Hj (h₀:=X.base) I.ok.mod.kin hk (thn (ha pos pI s σ H _ I h) fun us s1 ⟨vs,H1,I1,r,q⟩=>⟨I1.kIn,?_⟩) he hpl
 have hl:us.length=ps.length:=by rw[<-r.length];exact F.len _ _ _ _ q
 have hb':Gz s1 fd ⟨us,[]⟩ (ps.zip us):=by
  have:=hb s1 us I1.kIn (by rw[Ca];exact hl)
  rw[Ca]at this;exact this
 refine GQ (FK (F.run X.A ev X.stack s1 H1 ⟨us,[]⟩ us vs Q E hr I1.env0 hb' r q) fun r s' hq=>?_)
 cases r with
 |error e=>exact Bi hq
 |ok fl=>
  cases fl with
  |ret u=>exact I1.after hq
  |next=>exact Bi hq
  |brk=>exact Bi hq
  |cont=>exact Bi hq
theorem ZN{n:Ag}{f:Ah}{e:Ap}{es:Ac Ap}{ft:Rho->R (Ac D)}{sh:Rho->Ao}(G:HotOk X.prog X.w X.K X.mg X.base k f fd ps (spH X.K CL n fr F))(hr:Room k X.A)(hg:Gl X x)(hm:X.mg x=Aa (.ref f))(hk:B8 X.K (.ref f)=Ab)(hb:F6 X.K fd ps [])(ha:SA (Cx.hot X ev) CL (fun _ _=>AW) (e::es) fs)(hat:SAT (Cx.hot X ev) CL (fun _ _=>AW) (e::es) ft)(hst:∀ ρ,sh ρ=Ab->ft ρ=fs ρ)(hn:∀ ρ ds,ft ρ=.ok ds->ds.length=n)(hdb:(x==("__debug__" : Ai))=Ae)(he:As (e::es) X.env=(Ae,eval e X.env)::As es X.env)(hpl:∀ pos,(Bz pos (As es X.env)).any (·.1)=Ae):SC (Cx.hot X ev) CL (fun _ _=>AW) fr (.Call (.Name x p) (e::es) [] pos) (fun ρ=>(ft ρ).bind fun ds=>(F ds).bind fun d=>if sh ρ=Ab then .ok d else if Ea fr d=Ab then .ok d else .bad):=fun A pI s σ H Q I ⟨hA,ρ,gd,q⟩=>by
 dsimp only at q;by_cases hs:sh ρ=Ab
 ·rw[hst ρ hs]at q;refine Sg (E:=fun _ _ _=>AW) G hr hg hm hk hb (ha A) hdb he (hpl _) pI s σ H Q I ⟨hA,ρ,gd,?_⟩
  cases e1:fs ρ with
  |bad=>rw[e1]at q;exact q
  |exn y=>rw[e1]at q;exact q
  |ok ds=>
   rw[e1]at q;intro vs H1 s1 r1;refine⟨ds,A,by rw[r1.length];exact hn ρ ds (by rw[hst ρ hs];exact e1),hA.same s1,r1,?_⟩
   have q':Bf (DO X.K CL fr H A) (fun _ _=>AW) H ((F ds).bind fun d=>if sh ρ=Ab then .ok d else if Ea fr d=Ab then .ok d else .bad) Q:=q
   cases e2:F ds with
   |ok d=>
    rw[e2,R.bind_ok,AG hs]at q';exact fun v H2 s2 r2=>q' v H2 (s1.trans s2) ⟨r2.1,fun z ds' e'=>let ⟨a,xs,z1,z2,z3⟩:=r2.2 z ds' e';⟨a,xs,z1,s1.free z2,z3⟩⟩
   |exn y=>rw[e2]at q';exact(q' H (AH.refl H)).elim
   |bad=>rw[e2]at q';exact q'.elim
 ·refine Sg (E:=fun _ _ _=>AW) G hr hg hm hk hb (hat A) hdb he (hpl _) pI s σ H Q I ⟨hA,ρ,gd,?_⟩
  cases e1:ft ρ with
  |bad=>rw[e1]at q;exact q
  |exn y=>rw[e1]at q;exact q
  |ok ds=>
   rw[e1]at q;intro vs H1 s1 r1;refine⟨ds,A0,by rw[r1.plain.length];exact hn ρ ds e1,fun _ z=>z.elim,r1.plain,?_⟩
   have q':Bf (DO X.K CL fr H A) (fun _ _=>AW) H ((F ds).bind fun d=>if sh ρ=Ab then .ok d else if Ea fr d=Ab then .ok d else .bad) Q:=q
   cases e2:F ds with
   |ok d=>
    rw[e2,R.bind_ok,AI hs]at q';split at q'
    ·rename_i hc;exact fun v H2 s2 r2=>q' v H2 (s1.trans s2) (PY hA (s1.trans s2) hc ⟨r2.1,fun z ds' e'=>let ⟨a,xs,z1,z2,z3⟩:=r2.2 z ds' e';⟨a,xs,z1,s1.free z2,z3⟩⟩)
    ·exact q'.elim
   |exn y=>rw[e2]at q';exact(q' H (AH.refl H)).elim
   |bad=>rw[e2]at q';exact q'.elim
theorem eF{t:Ap}{xs ys:Ac Be}{fc:Rho->R Ao}{fx fy:Rho->O}(hc:∀ pI Xw,EG (model X.prog X.w) X.A X.env Xw->SB (Cx.pw X pI Xw) CL (fun _ _=>AW) t fc)(hnx:∀ ρ y,fc ρ≠.exn y)(hx:STB X CL xs fx)(hy:STB X CL ys fy):STB X CL [.If t xs ys pos] (fun ρ=>O.of ρ (fc ρ) fun b=>if b=Ab then fx ρ else fy ρ):=by
  intro Fz B pI s σ H D ρ Xw own I sx q hρ;dsimp only at q hρ;cases ec:fc ρ with
  |bad=>rw[ec]at q;exact q.elim
  |exn y=>exact absurd ec (hnx ρ y)
  |ok b=>
    rw[ec]at q hρ;have key:=hc pI Xw own (By B ρ σ) [] s σ H (fun b' H'=>b'=b/\AH H H') (Mt I Xw) ⟨sx.aok,ρ,sx.good,by rw[ec];exact fun H' sm=>⟨rfl,sm⟩⟩
    refine HR (thn (wpAny_If (Q:=SP X pI D) (thn key fun b' s1 ⟨H1,I1,e,sm⟩=>?_)) (fun f s1 z=>by
      cases f with
      |next=>exact EI z
      |ret v=>exact z
      |brk=>exact z
      | cont=>exact z))
    subst e;have J:=K2 I.ok I1;have up:∀{y:Ex},Kq X CL pI σ H y Xw->Kq X CL pI σ H1 y Xw:=fun {y} w s' H' e T cls dx a1 a2=>w s' H' e T cls dx a1 (sm.trans a2)
    have lift:∀{o:O},(match o with
       |.exn y ρ'=>ρ'=ρ->Kq X CL pI σ H y Xw
       |o=>BH X.K CL Fz B (fun _ _=>AW) o D)->(match o with
       |.exn y ρ'=>ρ'=ρ->Kq X CL pI σ H1 y Xw
       | o=>BH X.K CL Fz B (fun _ _=>AW) o D):=fun {o} z=>by
      cases o with
      |exn y ρ'=>exact fun e=>up (z e)
      |next _=>exact z
      |ret _ _=>exact z
      |brk _=>exact z
      |cont _=>exact z
      |bad=>exact z
    cases b' with
    |true=>exact hx Fz B pI s1 σ H1 D ρ Xw own J (sx.grow sm) (lift q) hρ
    |false=>exact hy Fz B pI s1 σ H1 D ρ Xw own J (sx.grow sm) (lift q) hρ
end
section
variable{M:He}{A:AY}{E:Vq}{s:Ar}{env:Cd}{nm q:Ai}{C N:Ah}{bs bm bmB:Ac Ak}{hdct:Ao}{sn:Ac Ai}{sub:Ac Ak}{ab:Ao}{col:An Ao}{dd:An Ah}{k0 k1 k2 k3 k5:An Ak}{B newId initId:CY}
theorem cZ{x:Sem Ak}{Q:Flow->Ar->Prop}(hb:bm.contains (.type "BaseException")=Ab)(hh:A.handled=Ad)(h:Ax M A x (fun v s'=>∃ e t dx,v=.ref e/\s'.heap.get? C=Aa (Ce nm q C N bs bm hdct sn sub ab col dd k0 k1 k2 k3 k5 newId)/\s'.heap.get? e=Aa (Gr C dx t)/\E (.ref e) s') E s):Ax M A (raiseStmt env (Aa x) Ad) Q E s:=by
 have hB:(Ck C::bm).contains (.type "BaseException")=Ab:=by rw[Hg,hb,HH]
 unfold raiseStmt;refine Al (Bl h (fun v s' z=>?_) fun _ _ z=>z)
 obtain⟨e,t,dx,rfl,gC,ge,hE⟩:=z;obtain⟨hp,g,d,tk,os⟩:=s';unfold Gr at ge
 repeat (first|(with_reducible refine B6 ge ?_)|(with_reducible refine B6 gC ?_)|(with_reducible refine Fq gC ?_;rw[hB])|wp_step)
 exact wpAny_raiseNew_none hh hE
end
section
variable{prog:AS}{w:AB}{A:AY}{E:Vq}{h:AF}{g:Bj FI}{d:Ir}{t:Ag}{os:HC}
variable{nm q:Ai}{C N fI:Ah}{bs bm bmB:Ac Ak}{hdct:Ao}{sn:Ac Ai}{sub:Ac Ak}{ab:Ao}{col:An Ao}{dd:An Ah}{k0 k1 k2 k3 k5:An Ak}{B newId initId:CY}{mN:Ai->An Ak}{rest:Ac Ak}{oI:Dl}
theorem bN{Q:Fin->Ar->Prop}(F:HM B newId initId bmB)(T:Ej h bmB bm)(gC:h.get? C=Aa (Ce nm q C N bs bm hdct sn sub ab col dd k0 k1 k2 k3 k5 newId))(hn:h.Ns N mN)(hi:mN "__init__" = Aa (.ref fI))(gI:h.get? fI=Aa oI)(cI:oI.cls=.type "function")(hl:rest.length<=sizeLine)(hq:∀ h' e,II h h' e (.ref C) rest->Ax (model prog w) A (call (.ref fI) (.ref e::rest)) (fun r s'=>r=.none/\Q (.done (.ret (.ref e))) s') E ⟨h',g,d,t,os⟩):Ax (model prog w) A (Builtin.«type.__call__» ⟨.ref C::rest,[]⟩) Q E ⟨h,g,d,t,os⟩:=by
 repeat (first|(with_reducible refine B6 gC ?_)|(with_reducible refine wpAny_madeBy_exc gC ?_)|wp_step)
 refine codeAny_call_builtin_code (Hi _ F.quiet) (wpAny_check_new_subT F T gC (codeAny_exc_new_subT F T gC ?_ hl));show Ax _ _ _ _ _ _;have kp:∀ b o,h.get? b=Aa o->((h.push { cls:=.type "tuple", data:=.seq rest.toArray }).push {cls:=.ref C,data:=.fields #[.ref h.objs.size,.none,.none,.none,.bool Ae,.none]}).get? b=Aa o:=fun b o z=>Au _ (Au _ z)
 have ge:((h.push { cls:=.type "tuple", data:=.seq rest.toArray }).push {cls:=.ref C,data:=.fields #[.ref h.objs.size,.none,.none,.none,.bool Ae,.none]}).get? (h.objs.size+1)=Aa {cls:=.ref C,data:=.fields #[.ref h.objs.size,.none,.none,.none,.bool Ae,.none]}:=by heap_get
 have gt:((h.push { cls:=.type "tuple", data:=.seq rest.toArray }).push {cls:=.ref C,data:=.fields #[.ref h.objs.size,.none,.none,.none,.bool Ae,.none]}).get? h.objs.size=Aa { cls:=.type "tuple", data:=.seq rest.toArray }:=Au _ (WZ rfl rfl);generalize (h.push { cls:=.type "tuple", data:=.seq rest.toArray }).push {cls:=.ref C,data:=.fields #[.ref h.objs.size,.none,.none,.none,.bool Ae,.none]}=h2 at *;have gC2:=kp _ _ gC;have gI2:=kp _ _ gI;have hn2:h2.Ns N mN:=let ⟨o,es,ep,z,r⟩:=hn;⟨o,es,ep,kp _ _ z,r⟩
 have T2:=T.keeps (h':=h2) kp;have cC:(Ck C::bm).contains (.ref C)=Ab:=by simp
 unfold IW
 repeat (first|(with_reducible refine B6 ge ?_)|(with_reducible refine Fq gC2 ?_;rw[cC])|wp_step)
 show Ax _ _ (typeLookup (.ref C) _) _ _ _;refine wpAny_typeLookup_tail gC2 hn2 T2 F.mroIs F.init.lookup ?_;rw[hi];refine BX (Al ?_);unfold bindSpecial;refine Al (wpAny_typeOf (T := "function") ⟨_,gI2,cI⟩ ?_);rw[AG (by decide)]
 refine AC (Al (Bl (hq h2 (h.objs.size+1) ⟨kp,DB (Wt _),h.objs.size,ge,DB (AU _),gt⟩) (fun r s' z=>?_) fun _ _ z=>z))
 obtain⟨rfl,z⟩:=z
 wp_walk
 exact z
theorem bO{Q:Vq}(F:HM B newId initId bmB)(T:Ej h bmB bm)(gC:h.get? C=Aa (Ce nm q C N bs bm hdct sn sub ab col dd k0 k1 k2 k3 k5 newId))(hn:h.Ns N mN)(hi:mN "__init__" = Aa (.ref fI))(gI:h.get? fI=Aa oI)(cI:oI.cls=.type "function")(hl:rest.length<=sizeLine)(hq:∀ h' e,II h h' e (.ref C) rest->Ax (model prog w) (A.under (.builtin "type.__call__" ⟨.ref C::rest,[]⟩)) (call (.ref fI) (.ref e::rest)) (fun r s'=>r=.none/\Q (.ref e) s') E ⟨h',g,d,t,os⟩):Ax (model prog w) A (call (.ref C) rest) Q E ⟨h,g,d,t,os⟩:=by
 have l1:=tc_lookup;have l2:=tc_bind (.ref C);have ty:(⟨h,g,d,t,os⟩:Ar).TypeIs (.ref C) "type" := ⟨_,gC,rfl⟩;refine GQ (codeAny_of_tree ?_);show Ax _ _ (callAny (.ref C) _) _ _ _
 repeat (any_goals (first|assumption|(with_reducible refine B6 gC ?_)|wp_step))
 refine⟨rfl,codeAny_call_builtin_at (Hi _ (by decide +kernel)) entry_typeCall (wpAny_check_type_call_sub gC (bN F T gC hn hi gI cI hl fun h' e m=>?_))⟩
 exact hq h' e m
end
section
variable{prog:AS}{w:AB}{A:AY}{E:Vq}{s:Ar}{env:Cd}
variable{nm q:Ai}{C N fI:Ah}{bs bm bmB:Ac Ak}{hdct:Ao}{sn:Ac Ai}{sub:Ac Ak}{ab:Ao}{col:An Ao}{dd:An Ah}{k0 k1 k2 k3 k5:An Ak}{B newId initId:CY}{mN:Ai->An Ak}
theorem Z6{Q:Flow->Ar->Prop}{args:Ac Ap}(F:HM B newId initId bmB)(hb:bm.contains (.type "BaseException")=Ab)(hh:A.handled=Ad)(hp:(Bz cpos (As args env)).any (·.1)=Ae)(hi:mN "__init__" = Aa (.ref fI))(h:Ax (model prog w) A (eval (.Name x np) env) (fun f s1=>f=.ref C/\Ax (model prog w) A (evalArgs (.ref C) Ab (Bz cpos (As args env)) [])
   (fun a s2=>a.kw=[]/\a.pos.length<=sizeLine/\s2.heap.get? C=Aa (Ce nm q C N bs bm hdct sn sub ab col dd k0 k1 k2 k3 k5 newId)/\s2.heap.Ns N mN/\Ej s2.heap bmB bm/\(∃ oI,s2.heap.get? fI=Aa oI/\oI.cls=.type "function") /\
    ∀ h' e,II s2.heap h' e (.ref C) a.pos->Ax (model prog w) (A.under (.builtin "type.__call__" ⟨.ref C::a.pos,[]⟩)) (call (.ref fI) (.ref e::a.pos)) (fun r s'=>r=.none/\∃ t dx,s'.heap.get? C=Aa (Ce nm q C N bs bm hdct sn sub ab col dd k0 k1 k2 k3 k5 newId)/\s'.heap.get? e=Aa (Gr C dx t)/\E (.ref e) s') E {s2 with heap:=h'}) E s1) E s):Ax (model prog w) A (exec (.Raise (Aa (.Call (.Name x np) args [] cpos)) Ad pos) env) Q E s:=by
 rw[arm_exec_Raise]
 try simp only[evalOpt,FS]
 refine Al (D8 (cZ (nm:=nm) (q:=q) (C:=C) (N:=N) (bs:=bs) (bm:=bm) (hdct:=hdct) (sn:=sn) (sub:=sub) (ab:=ab) (col:=col) (dd:=dd) (k0:=k0) (k1:=k1) (k2:=k2) (k3:=k3) (k5:=k5) (newId:=newId) hb hh ?_));refine Al (Bl (wpAny_Call_ofName (Bl h (fun f s1 z=>?_) fun _ _ z=>z)) (fun v s3 z=>Al (D8 (AC z))) fun _ _ z=>z)
 obtain⟨rfl,z⟩:=z;unfold callWith;refine Al (BX (Bl z (fun a s2 y=>Al (D8 ?_)) fun _ _ y=>y))
 obtain⟨us,kw⟩:=a;obtain⟨hk,hl,gC,hn,T,⟨oI,gI,cI⟩,k⟩:=y;obtain rfl:kw=[]:=hk;obtain⟨hp2,g,d,tk,os⟩:=s2;simp only[hp];refine Al (wpAny_keeperOf_exc gC (Al (bO F T gC hn hi gI cI hl fun h' e m=>Bl (k h' e m) (fun r s' y=>?_) fun _ _ y=>y)))
 obtain⟨rfl,t,dx,c1,c2,c3⟩:=y;exact⟨rfl,Al (BX (wpAny_point (AC ⟨e,t,dx,rfl,c1,c2,c3⟩)))⟩
end
section
variable{prog:AS}{w:AB}{A:AY}{E:Vq}{h:AF}{g:Bj FI}{d:Ir}{tk0:Ag}{os:HC}
variable{nm q:Ai}{C N e t:Ah}{dx:An Ah}{bs bm bmB:Ac Ak}{hdct:Ao}{sn:Ac Ai}{sub:Ac Ak}{ab:Ao}{col:An Ao}{dd:An Ah}{k0 k1 k2 k3 k5:An Ak}{B newId initId:CY}
theorem jX{Q:Vq}(F:HM B newId initId bmB)(T:Ej h bmB bm)(gC:h.get? C=Aa (Ce nm q C N bs bm hdct sn sub ab col dd k0 k1 k2 k3 k5 newId))(ge:h.get? e=Aa (Gr C dx t))(hq:∀ h' t',(∀ b o,b≠e->h.get? b=Aa o->h'.get? b=Aa o)->h'.get? e=Aa (Gr C dx t')->Q .none ⟨h',g,d,tk0,os⟩):Ax (model prog w) A (call (.builtin initId) [.ref e,.str z tk]) Q E ⟨h,g,d,tk0,os⟩:=by
 refine GQ (Ee F.init.plain F.initEntry (wpAny_check_init_subT F T gC ge rfl ?_));unfold Gr at ge
 wp_walk
 refine hq _ h.objs.size (fun b o nb z=>(CC _ _ (DZ nb)).trans (Au _ z)) ?_
 rw[Cp _ (Au _ ge) rfl];rfl
end
noncomputable def xbd:Ag->Ag
 |0=>4
 |n+1=>8*xbd n+19
theorem fN:∀ n:Fin 100,(Bh (toString ((n.val:Ag):Af))).length<=4:=by decide +kernel
theorem TH{α:Type}(f:α->Ag){m:Ag}:∀ l:Ac α,(∀ x∈l,f x<=m)->(l.map f).sum<=l.length*m
 |[],_=>by simp
 |x::l,h=>by
  have h1:=h x AE;have h2:=TH f l fun y hy=>h y (AA _ hy)
  rw[BE,List.sum_cons,Bs,Nat.succ_mul];omega
section
variable{X:Cx}{CL:ClA}{pI:Pn}{σ:L2.St}{H:Hp}{s:Ar}
structure Shw (h:AF) (n:Ag) (u:Ak) (pd:Kv):Prop where
 rd:Reads h u pd []
 sh:pd.showable=Ab
 nd:pd.hasDict=Ae
 dp:pd.depth<=n
 ln:pd.shown.length<=xbd n
inductive ShwA (h:AF) (n:Ag):Ac Ak->Ac Kv->Prop where
 |nil:ShwA h n [] []
 |cons {u:Ak} {pd:Kv} {us:Ac Ak} {pds:Ac Kv}:Shw h n u pd->ShwA h n us pds->ShwA h n (u::us) (pd::pds)
theorem SU{h:AF}{n:Ag}:∀{us:Ac Ak}{pds:Ac Kv},ShwA h n us pds->ReadsAll h us pds []/\W8 pds=Ab/\W7 pds=Ae/\Iu pds<=n/\(∀ t∈D0 pds,t.length<=xbd n)/\(D0 pds).length=us.length
 |[],[],_=>⟨.nil,rfl,rfl,Hd _,(fun _ h=>nomatch h),rfl⟩
 |u::us,pd::pds,.cons h1 h2=>by
  obtain⟨a,b,c,d,e,f⟩:=SU h2;refine⟨.cons h1.rd a,?_,?_,?_,?_,?_⟩
  ·show (pd.showable&&W8 pds)=Ab;rw[h1.sh,b];rfl
  ·show (pd.hasDict||W7 pds)=Ae;rw[h1.nd,c];rfl
  ·show max pd.depth (Iu pds)<=n;exact Nat.max_le.mpr ⟨h1.dp,d⟩
  ·intro t ht;rcases AD.mp ht with rfl|ht
   ·exact h1.ln
   ·exact e t ht
  ·show (D0 pds).length+1=us.length+1;rw[f]
theorem pZ(I:Inv X pI σ H s):∀(n:Ag){d:D}{v:V}{u:Ak},xfD n d=Ab->Rep X.K CL H A v d->Bx v u->∃ pd,Shw s.heap n u pd:=by
 intro n
 induction n with
 |zero=>
  intro d v u hx r rv;cases d with
  |int i=>
   have e:v=.int i:=r;subst e;obtain⟨t,rfl⟩:=rv;simp only[xfD,Aj,AT]at hx;refine⟨.int i,.int i t,?_,rfl,AU _,?_⟩
   ·show decide (i.natAbs.log2<1920)=Ab;refine DR (FG (Nat.log2_le_self _) (by omega))
   ·have:=fN ⟨i.toNat,by omega⟩
    rw[show ((i.toNat:Ag):Af)=i by omega]at this
    exact this
  |_=>exact absurd (show Ae=Ab from hx) Aq
 |succ n ih0=>
  intro d v u hx r rv;cases d with
  |tup ds=>
   obtain⟨a,xs,rfl,_,sq,rs⟩:=r;cases rv;obtain⟨its,vs,⟨o,ho,hc,m,hd⟩,hz⟩:=I.tuple sq;simp only[xfD,Aj,CM]at hx;have key:∀{xs:Ac V}{ds:Ac D}{its:Ac Ak},(∀ d∈ds,xfD n d=Ab)->Reps X.K CL H A xs ds->Bc xs its->∃ pds,ShwA s.heap n its pds:=fun {xs}=>by
    induction xs with
    |nil=>
     intro ds its _ rs vs;cases vs;exact⟨[],.nil⟩
    |cons x xs ih=>
     intro ds its hd rs vs;cases ds with
     |nil=>exact rs.elim
     |cons d ds=>
      cases vs with
      |cons v1 v2=>
       obtain⟨pd,h1⟩:=ih0 (hd d AE) rs.1 v1;obtain⟨pds,h2⟩:=ih (fun e he=>hd e (AA _ he)) rs.2 v2
       exact⟨pd::pds,.cons h1 h2⟩
   obtain⟨pds,hf⟩:=key hx.2 rs vs;obtain⟨p1,p2,p3,p4,p5,p6⟩:=SU hf;have l8:its.length<=8:=by
    have h8:=Nat.ble_eq.mp hx.1;rw[<-vs.length,rs.length];exact h8
   refine⟨.tuple pds,.tuple ho hc hd (by simpa using p1),p2,p3,?_,?_⟩
   ·show Iu pds+1<=n+1;omega
   ·show (tupleText (D0 pds)).length<=8*xbd n+19;have h1:=tupleText_len_le (D0 pds);have h2:=TH (fun t:Ai=>t.length) (D0 pds) p5
    have h3:(D0 pds).length*xbd n<=8*xbd n:=Nat.mul_le_mul_right _ (by omega)
    omega
  |_=>exact absurd (show Ae=Ab from hx) Aq
end
section
variable{X:Cx}{CL:ClA}
def tFs(K:Fg)(CL:ClA)(i:Ag):TE:=fun σ H Q=>∃ v d A n,σ[i]?=Aa (Aa v)/\Rep K CL H A v d/\xfD (n+1) d=Ab/\n<=1/\∀ t:Ai,Q (.str t) H
theorem fZ{e:Ap}{i:Ag}{p2 p3:AO}(hu:X.A.units+64<BD)(hg:X.A.guards=Aa [])(hz:z.length<=1000)(he:PE X e (E5 i)):PE X (.JoinedStr [.FormattedValue e (-1) Ad p1,.Constant (.str z) k p2] p3) (tFs X.K CL i):=by
 intro pI s σ H Q I ⟨v,d,A,n,hv,r,hx,hn,q⟩;refine wpAny_JoinedStr ?_;show Ax (model X.prog X.w) X.A (eval (.FormattedValue e (-1) Ad p1) X.env) (fun v s1=>∃ y t,v=.str y t/\(Ju++y).length<=sizeLine/\Joins (model X.prog X.w) X.A X.xe [eval (.Constant (.str z) k p2) X.env] (Ju++y) _ s1) X.xe s
 refine wpAny_FormattedValue_plain (thn (he pI s σ H (fun x H1=>x=v/\H1=H) I ⟨v,hv,rfl,rfl⟩) fun u s1 ⟨x,H1,I1,r1,e1,e2⟩=>?_)
 subst e1 e2;have zl:sizeLine ≥ 2000:=by decide
 obtain⟨pd,sw⟩:=pZ I1 (n+1) hx r r1;cases d with
 |tup ds=>
  obtain⟨a,xs,rfl,_,sq,rs⟩:=r;cases r1;have xb:xbd (n+1)<=500:=by
   have:n=0\/n=1:=by omega
   rcases this with rfl|rfl<;>decide
  have ln:=sw.ln;have dp:=sw.dp;refine formatField_of_reads sw.rd sw.sh (fun z=>by rw[sw.nd]at z;cases z) hg (by omega) (fun _ _ z=>z) (fun h' tk1 tk2 kp=>?_) (by omega)
  have l0:(Ju++pd.shown).length<=500:=by
   rw[strLen_append];have:Str.empty.length=0:=rfl;omega
  refine⟨pd.shown,tk1,rfl,by omega,?_⟩
  have I2:Inv X pI σ H1 {s1 with heap:=h',toks:=tk2}:=I1.kept kp
  show Ax (model X.prog X.w) X.A (eval (.Constant (.str z) k p2) X.env) _ X.xe {s1 with heap:=h',toks:=tk2}
  refine thn (Uk (X:=X) pI _ σ H1 (fun x H2=>x=.str z/\H2=H1) I2 ⟨rfl,rfl⟩) fun u2 s2 ⟨x2,H2,I3,r3,e3,e4⟩=>?_
  subst e3 e4;obtain⟨t3,rfl⟩:=r3;have l1:(Ju++pd.shown++z).length<=sizeLine:=by
   rw[strLen_append];omega
  exact⟨z,t3,rfl,l1,l1,⟨.str _,H2,I3.tok _,⟨_,rfl⟩,q _⟩⟩
 |_=>cases hx
end
def XEx(e C:Ah)(dx:An Ah)(t:Ah):AF->Prop:=fun h=>h.get? e=Aa (Gr C dx t)
theorem PR{e C:Ah}{t:Ah}:∀ h1 h2:AF,XEx e C dx t h1->(∀ o,h1.get? e=Aa o->h2.get? e=Aa o)->XEx e C dx t h2:=fun _ _ p k=>k _ p
section
variable{X:Cx}{CL:ClA}{C:Ah}{nm q:Ai}{N:Ah}{bs bm:Ac Ak}{hdct:Ao}{sn:Ac Ai}{sub:Ac Ak}{ab:Ao}{col:An Ao}{dd:An Ah}{k0 k1 k2 k3 k5:An Ak}
theorem Zy{apos:AO}{es ej:Ap}{i j:Ag}(hob:∀ h:AF,X.K.In h->h.get? C=Aa (Ce nm q C N bs bm hdct sn sub ab col dd k0 k1 k2 k3 k5 "ValueError.__new__")/\Ej h veB bm)(hg:Gl X g)(hm:X.mg g=Aa (.ref OV))(hdb:(g==("__debug__" : Ai))=Ae)(s1:ET X.K (.ref OV) "__getattribute__" = Aa (Aa (.builtin "type.__getattribute__")))(s2:FD X.K OV (.type "type")=Ab)(s3:FC X.K (.ref OV) (.type "type") "__init__" = Aa (.val (.builtin "ValueError.__init__")))(hline:(apos.endLine==cpos.line)=Ab)(he:PE X es (E5 i))(hj:PE X ej (tFs X.K CL j))(sA:As [es,ej] X.env=(Ae,eval es X.env)::As [ej] X.env)(sB:As [ej] X.env=[(Ae,eval ej X.env)]):
  PE X (.Call (.Attribute (.Name g np) "__init__" apos) [es,ej] [] cpos) (fun σ H Q=>∃ e dx t v d A n,σ[i]?=Aa (Aa (.ref e))/\H e=Aa (.ext (XEx e C dx t))/\σ[j]?=Aa (Aa v)/\Rep X.K CL H A v d/\xfD (n+1) d=Ab/\n<=1/\∀ t',Q .non (upd H e (.ext (XEx e C dx t')))):=by
 have st1:As [es,ej] X.env=[(Ae,eval es X.env),(Ae,eval ej X.env)]:=by rw[sA,sB]
 intro pI s σ H Q I ⟨e,dx,t,v,d,A,n,h1,h2,h3,r,hx,hn,hq⟩;rw[arm_eval_Call];refine Al (show Ax (model X.prog X.w) X.A (eval (.Name g np) X.env) _ X.xe s from JC I hg hm ?_ hdb)
 refine Al (D8 ?_);have form:methodCallForm ([es,ej].length+([]:Ac C9).length) (Bz cpos (As [es,ej] X.env)) (FJ cpos (Ei [] X.env))=Ab:=by
  rw[st1];rfl
 have mpos:methodCallPos Ab (.Name g np) X.env apos cpos=pure cpos:=by
  unfold methodCallPos;simp[hline]
 unfold methodCall;rw[form];refine Al (BX (PySem.W.method_cls I.kIn s1 (PySem.W.cls_value I.kIn s2 s3 rfl ?_)));refine Al (JV mpos ?_);have I1:=I.tok (s.toks+1);have pa:PA X [es,ej] _:=DH he (DH hj Ft sB) sA;have hA:=pa cpos pI {s with toks:=s.toks+1} σ H (fun xs H'=>H'=H/\∃ z,xs=[.ref e,.str z]) I1 ⟨_,h1,⟨v,d,A,n,h3,r,hx,hn,fun z=>⟨rfl,z,rfl⟩⟩⟩
 rw[st1]at hA ⊢;refine Ge rfl (Ed (thn hA fun us s2 ⟨xs,H2,I2,rv,e2,z,ex⟩=>?_))
 subst e2 ex;obtain⟨u1,u2,rfl,ru1,ru2⟩:=MD rv;cases ru1;obtain⟨tk,rfl⟩:=ru2;obtain⟨gC,T⟩:=hob _ I2.kIn;have ge:XEx e C dx t s2.heap:=(I2.hok e _ h2).1;obtain⟨hp,g2,d2,tk2,os2⟩:=s2;refine jX Fh T gC ge fun h' t' kp ge'=>?_
 refine⟨.non,_,I2.write (x:=e) (e:=e) (o:=.ext (XEx e C dx t')) (t':=tk2) (by rw[h2];exact trivial) (.inl rfl) kp ⟨_,ge'⟩ ⟨ge',⟨_,ge'⟩,PR⟩,rfl,hq t'⟩
end
theorem Yv{bmB bm:Ac Ak}(T:Ej h bmB bm){self:Ak}{what:Ai}(hb:refuseLoop self what bmB=pure ()):refuseLoop self what bm=pure ():=by
 induction T with
 |base=>exact hb
 |own _ _ _ _ ih=>rw[Xo];exact ih
section
variable{prog:AS}{w:AB}{A:AY}{E:Vq}{h:AF}{g:Bj FI}{d:Ir}{tk0:Ag}{os:HC}{K:Fg}
variable{nm q:Ai}{C N e t:Ah}{bs bm bmB:Ac Ak}{sn:Ac Ai}{sub:Ac Ak}{ab:Ao}{col:An Ao}{dd:An Ah}{k0 k1 k2 k3 k5:An Ak}{B newId sa owner:CY}
theorem bQ{Q:Fin->Ar->Prop}{v:Ak}(X:K.In h)(SF:Kx B bmB sa owner)(T:Ej h bmB bm)(gC:h.get? C=Aa (Ce nm q C N bs bm Ab sn sub ab col dd k0 k1 k2 k3 k5 newId))(hf:Aw K (.ref C) name=Aa Ad)(ge:h.get? e=Aa (Gr C Ad t))(hq:∀ h' dx tk',(∀ b o,b≠e->h.get? b=Aa o->h'.get? b=Aa o)->h'.get? e=Aa (Gr C (Aa dx) t)->h.get? dx=Ad->h'.Ns1 dx (fun y=>if y=name then Aa v else Ad)->Q (.done (.ret .none)) ⟨h',g,d,tk',os⟩):Ax (model prog w) A (Builtin.«object.__setattr__» ⟨[.ref e,.str name tk,v],[]⟩) Q E ⟨h,g,d,tk0,os⟩:=by
  have pass:=Yv T (SF.passes (.ref e));have L1:=Cw (M:=model prog w) X hf;obtain⟨o,ho⟩:∃ o,Gr C Ad t=o:=⟨_,rfl⟩;rw[ho]at ge;have oc:o.cls=.ref C:=by rw[<-ho];rfl
  unfold Builtin.«object.__setattr__»
  repeat (first|rw[refuse_eq]|(rw[Xo,pass])|(with_reducible refine B6 ge ?_;rw[oc])|(with_reducible refine wpAny_mroOf_exc gC ?_)|(with_reducible refine L1.at ?_)|(with_reducible refine Al (L1.at ?_))|wp_step)
  have od:o.dict=Ad:=by rw[<-ho];rfl
  have odt:o.data=.fields #[.ref t,.none,.none,.none,.bool Ae,.none]:=by rw[<-ho];rfl
  rw[od,odt,AI (by simp[typeHasDict])]
  let D:Dl:={ cls:=.type "dict", data:=.dict #[] }
  have g1:(h.push D).get? e=Aa o:=Au _ ge;have ne:e≠h.objs.size:=Bo (AQ ge);refine Al (wpAny_alloc' ?_);refine Al (wpAny_update' g1 ?_);refine AC ?_
  let U:Dl->Dl:=fun o=>{cls:=o.cls,dict:=Aa h.objs.size,data:=o.data,slots:=o.slots}
  have gD:((h.push D).update e U).get? h.objs.size=Aa D:=(W2 _ _ _ _ ne.symm).trans (WZ rfl rfl);have nD:((h.push D).update e U).Ns h.objs.size (fun _=>Ad):=⟨_,#[],_,gD,rfl,fun z hz=>absurd hz (by simp),fun _=>rfl⟩
  change Ax _ _ (WF h.objs.size (.str name tk) name v) _ _ _;unfold WF Builtin.ObjectAttr.newKeyGuard;refine Al (AC (Al (wpAny_nsSet1 (Heap.Ns1.of_empty nD) fun k hk hs=>?_)))
  obtain⟨oD,eD,pD,q1,q2,q3⟩:=hk.count (Within.cons name v Within.nil);have le:oD.data.pastItsLine=Ad:=by
    rw[q2];refine pastItsLine_dict (BU q3 ?_);rw[Bs,List.length_nil,DT];omega
  refine Al (wpAny_lookBehind q1 le ?_)
  wp_walk
  refine hq k h.objs.size _ (fun b ob nb hb=>?_) ?_ (DB (AU _)) hk
  · rw[hs.2 b (Bo (AQ hb)),W2 _ _ _ _ nb];exact Au _ hb
  · rw[hs.2 e ne];have:Aa (Gr C (Aa h.objs.size) t)=Aa (U o):=by rw[<-ho];rfl
    rw[this];exact Cp _ g1 (by rw[<-ho];rfl)
end
section
variable{prog:AS}{w:AB}{A:AY}{E:Vq}{h:AF}{g:Bj FI}{d:Ir}{tk0:Ag}{os:HC}{K:Fg}
variable{nm q:Ai}{C N e t:Ah}{bs bm bmB:Ac Ak}{sn:Ac Ai}{sub:Ac Ak}{ab:Ao}{col:An Ao}{dd:An Ah}{k0 k1 k2 k3 k5:An Ak}{B newId sa owner:CY}
theorem bR{o:Dl}{a b:Ak}(SF:Kx B bmB sa owner)(T:Ej h bmB bm)(gC:h.get? C=Aa (Ce nm q C N bs bm Ab sn sub ab col dd k0 k1 k2 k3 k5 newId))(ge:h.get? e=Aa o)(hc:o.cls=.ref C)(hq:Q () ⟨h,g,d,tk0,os⟩):Ax M A (Gp sa ⟨[.ref e,a,b],[]⟩) Q E ⟨h,g,d,tk0,os⟩:=by
 have hb:(Ck C::bm).contains (.type owner)=Ab:=by rw[Hg,T.hasType SF.hasOwner,HH]
 have ha:=SF.args (.ref e) a b;simp only[Gp,SF.kind,SF.split];refine Al ?_;unfold IW
 repeat (first|(with_reducible refine B6 ge ?_;rw[hc])|(with_reducible refine Fq gC ?_;rw[hb])|wp_step)
 unfold argsOk at ha;split
 ·rename_i sig hs;rw[hs]at ha;refine JV ha ?_;exact hq
 ·exact AC hq
theorem kR{v:Ak}(X:K.In h)(SF:Kx B bmB sa owner)(T:Ej h bmB bm)(gC:h.get? C=Aa (Ce nm q C N bs bm Ab sn sub ab col dd k0 k1 k2 k3 k5 newId))(hf:Aw K (.ref C) name=Aa Ad)(hs:Aw K (.ref C) "__setattr__" = Aa (Aa (.builtin sa)))(ge:h.get? e=Aa (Gr C Ad t))(hq:∀ h' dx tk',(∀ b o,b≠e->h.get? b=Aa o->h'.get? b=Aa o)->h'.get? e=Aa (Gr C (Aa dx) t)->h.get? dx=Ad->h'.Ns1 dx (fun y=>if y=name then Aa v else Ad)->Q () ⟨h',g,d,tk',os⟩):Ax (model prog w) A (setAttr (.ref e) name v) Q E ⟨h,g,d,tk0,os⟩:=by
 have f3:=SF.slot.bind (.ref e);have L1:=Cw (M:=model prog w) X hs;obtain⟨o,ho⟩:∃ o,Gr C Ad t=o:=⟨_,rfl⟩;have oc:o.cls=.ref C:=by rw[<-ho];rfl
 have ge':=ge;rw[ho]at ge';unfold setAttr HQ specialOf
 repeat (any_goals (first|assumption|(with_reducible refine B6 ge' ?_;rw[oc])|(with_reducible refine Al (L1.at ?_))|(with_reducible refine L1.at ?_)|wp_step))
 refine Ee SF.slot.plain SF.entry (bR SF T gC ge' oc (bQ X SF T gC hf ge fun h' dx tk' k1 k2 k3 k4=>?_))
 repeat (any_goals (first|assumption|wp_step))
 exact hq h' dx tk' k1 k2 k3 k4
end
section
variable{X:Cx}{pI:Pn}{σ:L2.St}{H:Hp}{s:Ar}{e:Ah}
theorem Tf{o:HO}(I:Inv X pI σ H s)(ha:Hu X pI e)(hH:H e=Ad)(ho:ObjOk X.prog X.w (upd H e o) s.heap e o):Inv X pI σ (upd H e o) s:=by
 have ne:∀ b o,H b=Aa o->b≠e:=fun b o q z=>by rw[z,hH]at q;cases q
 refine⟨I.ok,I.os,I.bare,⟨I.base.keep,I.base.slot,fun b o q n hb=>?_,I.base.there,fun b xs q=>?_,fun b o u q=>?_,fun b ps q=>?_⟩,I.loc,I.cell,?_,fun x c q=>?_,fun p hp=>?_,fun b o q=>?_,I.len⟩
 ·rw[BG fun z=>by rw[z,ha.2.2.2]at q;cases q]
  exact I.base.free b o q n hb
 ·have:=I.base.tups b xs q;rw[BG (ne _ _ this)];exact this
 ·have:=I.base.frzs b o u q;rw[BG (ne _ _ this)];exact this
 ·obtain⟨more,this⟩:=I.base.tbls b ps q;exact⟨more,by rw[BG (ne _ _ this)];exact this⟩
 ·rw[BG fun z=>ha.1 z.symm];exact I.free
 ·rw[BG (ha.2.1 x c q)];exact I.freeC x c q
 ·obtain⟨q,n,r⟩:=I.pin p hp;exact⟨q,by rw[BG (ha.2.2.1 p hp)];exact n,r⟩
 ·by_cases hb:b=e
  ·subst hb;rw[FL]at q;cases q;exact ho
  ·rw[BG hb]at q;exact(I.hok b o q).stay (fun c v hc z=>z) (fun c z=>by rw[BG (ne _ _ z)];exact z) fun c zs z=>by rw[BG (ne _ _ z)];exact z
theorem aP(I:Inv X pI σ H s)(hH:H e=Aa (.ext φ))(h0:X.s₀.heap.get? e=Ad)(h1:X.ex=[]->HS):Inv X pI σ (fun b=>if b=e then Ad else H b) s:=by
 have get:∀ b o,(if b=e then Ad else H b)=Aa o->b≠e/\H b=Aa o:=fun b o q=>by
  by_cases z:b=e
  ·rw[AG z]at q;cases q
  ·rw[AI z]at q;exact⟨z,q⟩
 have put:∀ b o,H b=Aa o->o≠.ext φ->(if b=e then Ad else H b)=Aa o:=fun b o q n=>by
  by_cases z:b=e
  ·rw[z,hH]at q;cases q;exact absurd rfl n
  ·rw[AI z];exact q
 have non:∀ b,H b=Ad->(if b=e then Ad else H b)=Ad:=fun b q=>by
  by_cases z:b=e
  ·rw[AG z]
  ·rw[AI z];exact q
 refine⟨I.ok,I.os,I.bare,⟨fun b o q n hb hx=>?_,I.base.slot,fun b o q n hb=>?_,I.base.there,fun b xs q=>?_,fun b o u q=>?_,fun b ps q=>?_⟩,I.loc,I.cell,non _ I.free,fun x c q=>non _ (I.freeC x c q),fun p hp=>?_,fun b o q=>?_,I.len⟩
 ·exact I.base.keep b o q n hb hx
 ·exact non b (I.base.free b o q n hb)
 ·exact put b _ (I.base.tups b xs q) (by intro z;cases z)
 ·exact put b _ (I.base.frzs b o u q) (by intro z;cases z)
 ·obtain⟨more,this⟩:=I.base.tbls b ps q;exact⟨more,put b _ this (by intro z;cases z)⟩
 ·obtain⟨q,n,r⟩:=I.pin p hp;exact⟨q,non _ n,r⟩
 ·obtain⟨nb,q⟩:=get b o q;exact(I.hok b o q).stay (fun c v hc z=>z) (fun c z=>put c _ z (by intro z;cases z)) fun c zs z=>put c _ z (by intro z;cases z)
end
section
variable{X:Cx}{C:Ah}{nm q:Ai}{N:Ah}{bs bm:Ac Ak}{sn:Ac Ai}{sub:Ac Ak}{ab:Ao}{col:An Ao}{dd:An Ah}{k0 k1 k2 k3 k5:An Ak}
theorem cS{i j:Ag}{f:Ai}{eo ev:Ap}{p8 p10:AO}(hob:∀ h:AF,X.K.In h->h.get? C=Aa (Ce nm q C N bs bm Ab sn sub ab col dd k0 k1 k2 k3 k5 "ValueError.__new__")/\Ej h veB bm)(hx:X.ex=[])(hf:Aw X.K (.ref C) f=Aa Ad)(hs:Aw X.K (.ref C) "__setattr__" = Aa (Aa (.builtin "object.__setattr__")))(he:PE X eo (E5 i))(hv:PE X ev (E5 j))(sw:Cn ev (Aa (.Attribute eo f p8)) p10.line X.env=pure Ae):PS X (.Assign [.Attribute eo f p8] ev p10) (fun D σ H=>∃ e t v,σ[i]?=Aa (Aa (.ref e))/\H e=Aa (.ext (XEx e C Ad t))/\σ[j]?=Aa (Aa v)/\∀ dx,H dx=Ad->dx≠e->D.nx σ (upd (upd H e (.ext (XEx e C (Aa dx) t))) dx (.xd [(f,v)]))):=by
 intro pI s σ H D I ⟨e,t,v,h1,h2,h3,hq⟩;refine plainObj_wpAny_Assign_Attribute (thn (hv pI s σ H (fun x H1=>x=v/\H1=H) I ⟨v,h3,rfl,rfl⟩) fun u s1 ⟨x,H1,I1,r1,e1,e2⟩=>?_) sw
 subst e1 e2;refine thn (he pI s1 σ H1 (fun x H2=>x=.ref e/\H2=H1) I1 ⟨_,h1,rfl,rfl⟩) fun u2 s2 ⟨x2,H2,I2,r2,e3,e4⟩=>?_
 subst e3 e4;cases r2;obtain⟨gC,T⟩:=hob _ I2.kIn;have ge:XEx e C Ad t s2.heap:=(I2.hok e _ h2).1;obtain⟨hp,g2,d2,tk2,os2⟩:=s2;refine kR I2.kIn PySem.F.store_ValueError T gC hf hs ge fun h' dx tk' kp ge' nd ns=>?_
 have nH:H2 dx=Ad:=K4 I2.hok nd;have nde:dx≠e:=fun z=>by rw[z,h2]at nH;cases nH
 have ap:Hu X pI dx:=Mh I2 hx nd;have I3:=I2.write (x:=e) (e:=e) (o:=.ext (XEx e C (Aa dx) t)) (t':=tk') (by rw[h2];exact trivial) (.inl rfl) kp ⟨_,ge'⟩ ⟨ge',⟨_,ge'⟩,PR⟩
 have I4:=Tf (o:=.xd [(f,x)]) I3 ap (by rw[BG nde];exact nH) ⟨_,ns,fun y=>by
  by_cases z:y=f
  ·subst z;rw[AG rfl];simp only[Gb,Cy];exact r1
  ·rw[AI z];have:(y==f)=Ae:=by simp[z]
   simp only[Gb,this]
   trivial⟩
 exact⟨σ,_,I4,hq dx nH nde⟩
end
noncomputable def FO(K:Fg)(C:Ah):Ao:=match K.lookup C with
  |some ⟨_,_,.cls c,_⟩=>c.hasDict
  |_=>Ae
noncomputable def QS(g par f z:Ai)(k:Ag)(np apos p1 p2 p3 p4 p5 cpos p6 p7 p8 p9 p10:AO):Ac Be:=
 [.Expr (.Call (.Attribute (.Name g np) "__init__" apos) [.Name "self" p1,.JoinedStr [.FormattedValue (.Name par p2) (-1) Ad p3,.Constant (.str z) k p4] p5] [] cpos) p6,.Assign [.Attribute (.Name "self" p7) f p8] (.Name par p9) p10]
inductive XIn (K:Fg) (mg:Ai->An Ak) (C:Ah) (f:Ai):Prop
 |mk {fI OV:Ah} {x qual g par z:Ai} {st:Be} {fd:BV} {k:Ag} {np apos p1 p2 p3 p4 p5 cpos p6 p7 p8 p9 p10:AO} (xc:Eh K C (Aa (.ref fI))=Ab) (dc:FO K C=Ab) (fn:Fun K x qual st fI fd) (ty:Dt K (.ref fI)=Aa (.type "function"))
  (S:FnScope ["self", par] ["self", par] (CB st)) (l1:(CB st).names.lookup ("self" : Ai)=Aa .local) (l2:(CB st).names.lookup par=Aa .local) (bd:F6 K fd ["self", par] []) (body:F1 st=QS g par f z k np apos p1 p2 p3 p4 p5 cpos p6 p7 p8 p9 p10)
  (gl:(CB st).names.lookup g=Aa .globalImplicit) (mo:mg g=Aa (.ref OV)) (dg:(g==("__debug__" : Ai))=Ae) (dp:(par==("__debug__" : Ai))=Ae) (dq:(par==("__classdict__" : Ai))=Ae)
  (s1:ET K (.ref OV) "__getattribute__" = Aa (Aa (.builtin "type.__getattribute__"))) (s2:FD K OV (.type "type")=Ab) (s3:FC K (.ref OV) (.type "type") "__init__" = Aa (.val (.builtin "ValueError.__init__")))
  (hl:(apos.endLine==cpos.line)=Ab) (hz:z.length<=1000) (hf:Aw K (.ref C) f=Aa Ad) (hs:Aw K (.ref C) "__setattr__" = Aa (Aa (.builtin "object.__setattr__"))):XIn K mg C f
section
variable{P:AS}{w:AB}{K:Fg}{mg:Ai->An Ak}{base:AF}{CL:ClA}{C fI OV:Ah}{x qual g par z f:Ai}{st:Be}{fd:BV}{k:Ag}{np apos p1 p2 p3 p4 p5 cpos p6 p7 p8 p9 p10:AO}
variable{nm q:Ai}{N:Ah}{bs bm:Ac Ak}{sn:Ac Ai}{sub:Ac Ak}{ab:Ao}{col:An Ao}{dd:An Ah}{k0 k1 k2 k3 k5:An Ak}
theorem fO(hob:∀ h:AF,K.In h->h.get? C=Aa (Ce nm q C N bs bm Ab sn sub ab col dd k0 k1 k2 k3 k5 "ValueError.__new__")/\Ej h veB bm)(fn:Fun K x qual st fI fd)(S:FnScope ["self", par] ["self", par] (CB st))(l1:(CB st).names.lookup ("self" : Ai)=Aa .local)(l2:(CB st).names.lookup par=Aa .local)(bd:F6 K fd ["self", par] [])(body:F1 st=QS g par f z k np apos p1 p2 p3 p4 p5 cpos p6 p7 p8 p9 p10)(gl:(CB st).names.lookup g=Aa .globalImplicit)(mo:mg g=Aa (.ref OV))(dg:(g==("__debug__" : Ai))=Ae)(dp:(par==("__debug__" : Ai))=Ae)(dq:(par==("__classdict__" : Ai))=Ae)(s1:ET K (.ref OV) "__getattribute__" = Aa (Aa (.builtin "type.__getattribute__")))(s2:FD K OV (.type "type")=Ab)(s3:FC K (.ref OV) (.type "type") "__init__" = Aa (.val (.builtin "ValueError.__init__")))(hl:(apos.endLine==cpos.line)=Ab)(hz:z.length<=1000)(hf:Aw K (.ref C) f=Aa Ad)(hs:Aw K (.ref C) "__setattr__" = Aa (Aa (.builtin "object.__setattr__"))){A:AY}{outer:Ac Cd}{s:Ar}{E:XK}{e t:Ah}{v:V}{u:Ak}{n:Ag}(hh:A.handled=Ad)(hdp:A.depth<G2)(hun:A.units+70<BD)(hgd:A.guards=Aa [])(e0:Env0 P w K mg base A outer s H)(he:H e=Aa (.ext (XEx e C Ad t)))(rp:Rep K CL H B v d)(hx:xfD (n+1) d=Ab)(hn:n<=1)(r:Bx v u):FU (model P w) A (.call (.ref fI) ⟨[.ref e,u],[]⟩) (CR Jg outer P w H s (fun y H'=>y=.non/\∃ t' dx,H dx=Ad/\dx≠e/\H'=upd (upd H e (.ext (XEx e C (Aa dx) t'))) dx (.xd [(f,v)])) E) s:=by
 obtain⟨oc,od,kV,doc,pm,an,cdv,ct,osl,rfl,lk,hcd⟩:=fn.ex;have KX:K.In s.heap:=e0.mod.kin.keeps fun b o e=>(e0.bs b o e).1
 have lim:s.heap.NoLimit:=e0.mod.nolimit.keeps fun b o e=>(e0.bs b o e).1
 have hkind:∀ y∈(["self", par]:Ac Ai).zip [Ck e,u],(CB st).names.lookup y.1=Aa .local\/((CB st).names.lookup y.1=Aa .cell/\((CQ (s.heap.objs.size+1) (CB st).names []).lookup y.1).isSome=Ab):=fun y hy=>by
  refine .inl ?_;rcases AD.mp hy with rfl|hy
  ·exact l1
  ·rw[Bv.mp hy];exact l2
 have rv:Bc [.ref e,v] [.ref e,u]:=.cons rfl (.cons r .nil);refine GA hdp (KX _ _ lk) rfl S.co S.gen rfl (Hk KX hcd) (bd s [.ref e,u] KX rfl _ _ _ _ ?_);refine Fk S.kind hkind fun env hen s1' x=>?_
 subst hen;refine⟨lim.keeps x.toInCall.keep,Jw ?_⟩;have I:Inv (E6 Jg P w K mg base ["self", par] qual (CB st) fI cdv A outer s H E) [] (start ["self", par] [.ref e,v]) H s1':=OU S hh e0 rfl rv x;generalize hX:E6 Jg P w K mg base ["self", par] qual (CB st) fI cdv A outer s H E=X at I;have pself:∀ p,PE X (.Name "self" p) (E5 0):=fun p=>by rw[<-hX];exact NB rfl (.inl l1)
 have ppar:∀ p,PE X (.Name par p) (E5 1):=fun p=>by rw[<-hX];exact NB rfl (.inl l2) dp dq
 have st1:=Zy (X:=X) (CL:=CL) (C:=C) (g:=g) (np:=np) (apos:=apos) (cpos:=cpos) (i:=0) (j:=1) (OV:=OV) (by rw[<-hX];exact hob) (by rw[<-hX];exact gl) (by rw[<-hX];exact mo) dg (by rw[<-hX];exact s1) (by rw[<-hX];exact s2) (by rw[<-hX];exact s3) hl (pself p1)
  (fZ (k:=k) (p1:=p3) (p2:=p4) (p3:=p5) (by rw[<-hX];show A.units+3+64<BD;omega) (by rw[<-hX];exact hgd) hz (ppar p2)) rfl rfl
 have st2:=cS (X:=X) (p8:=p8) (p10:=p10) (by rw[<-hX];exact hob) (by rw[<-hX];rfl) (by rw[<-hX];exact hf) (by rw[<-hX];exact hs) (pself p7) (ppar p9) rfl
 have all:=Sd (IZ (pos:=p6) st1 rfl) (Mn st2);have hk:=all [] s1' _ H {nx:=fun _ H'=>∃ t' dx,H dx=Ad/\dx≠e/\H'=upd (upd H e (.ext (XEx e C (Aa dx) t'))) dx (.xd [(f,v)]),rt:=fun _ _=>AW} I ⟨e,Ad,t,v,d,B,n,rfl,he,rfl,by rw[<-hX];exact rp,hx,hn,fun t'=>⟨e,t',v,rfl,FL,rfl,fun dx h1 h2=>⟨t',dx,by rw[BG h2]at h1;exact h1,h2,by rw[SG]⟩⟩⟩
 rw[body];refine Bl (by rw[<-hX]at hk;exact hk) (fun fl s' hfl=>?_) fun ev s' hev=>hev
 cases fl with
 |next=>
  obtain⟨σ',H',J,w'⟩:=hfl;exact⟨.non,H',J.os,J.bare,J.base,J.hok,rfl,rfl,w'⟩
 |ret y=>obtain⟨_,_,_,_,_,w'⟩:=hfl;exact w'.elim
 |brk=>obtain⟨_,_,_,w'⟩:=hfl;exact w'.elim
 |cont=>obtain⟨_,_,_,w'⟩:=hfl;exact w'.elim
end
theorem UK:∀(n m:Ag)(d:D),xfD n d=Ab->n+1<=m->nlD m d=Ab
 |0,m+1,.int i,_,_=>rfl
 |n+1,m+1,.tup ds,h,hm=>by
  have h':(C8 ds.length 8&&ds.all (xfD n))=Ab:=h;rw[Aj]at h';show ds.all (nlD m)=Ab;rw[CM]at h' ⊢;exact fun x hx=>UK n m x (h'.2 x hx) (by omega)
 |0,_,.tup _,h,_=>nomatch h
 |n+1,_,.int _,h,_=>nomatch h
section
variable{X:Cx}{CL:ClA}{W:XW}
def NO(xn:Ag->Ac D->R Ex)(c:Ag)(f:Ai)(ds:Ac D):Prop:=∃ d n,ds=[d]/\xfD (n+1) d=Ab/\n<=1/\xn c ds=.ok ⟨c,[(f,d)]⟩
theorem YX{e:Ap}{es:Ac Ap}(hcalm:X.calm=Ab)(hx:X.ex=[])(hr:Room k X.A)(rz:ML X CL W)(hg:Gl X g)(hm:X.mg g=Aa (.ref C))(hdb:(g==("__debug__" : Ai))=Ae)(hcl:CL c=Aa C)(ha:SA X CL W (e::es) fs)(hxn:∀ ds,xn c ds=.bad\/(xn c ds=.ok ⟨c,[]⟩/\Eh X.K C Ad=Ab)\/∃ f,XIn X.K X.mg C f/\NO xn c f ds)(he:As (e::es) X.env=(Ae,eval e X.env)::As es X.env)(hpl:∀ pos,(Bz pos (As es X.env)).any (·.1)=Ae)(hz:∀ ρ ds,fs ρ=.ok ds->ds.length<=100000):SS X CL W (.Raise (Aa (.Call (.Name g np) (e::es) [] cpos)) Ad pos) (fun ρ=>O.of ρ (noX (fs ρ)) fun xs=>O.of ρ (xn c xs) fun x=>.exn x ρ):=fun Fz B pI s σ H D I ⟨ρ,x,p⟩=>by
 have hpl':(Bz cpos (As (e::es) X.env)).any (·.1)=Ae:=by rw[he];show (Ae||(Bz cpos (As es X.env)).any (·.1))=Ae;rw[hpl];rfl
 cases e1:fs ρ with
 |bad=>dsimp only at p;rw[e1]at p;exact p.elim
 |exn y=>dsimp only at p;rw[e1]at p;exact p.elim
 |ok ds=>
  rcases hxn ds with e2|⟨e2,xc⟩|⟨f,xi,d,n,rfl,xf,hn,e2⟩
  ·dsimp only at p;rw[e1]at p;have p2:BH X.K CL Fz B W (O.of ρ (xn c ds) fun x=>.exn x ρ) D:=p
   rw[e2]at p2;exact p2.elim
  ·refine ZI (fs:=fs) (xn:=fun _ ds'=>match xn c ds' with | .ok ⟨_,[]⟩=>.ok ⟨c,[]⟩|_=>.bad) hcalm rz hg hm hdb xc hcl ha (fun ds'=>by
    split
    ·exact .inr rfl
    ·exact .inl rfl) he hpl hz Fz B pI s σ H D I ⟨ρ,x,?_⟩
   dsimp only at p ⊢;rw[e1]at p ⊢;have p2:BH X.K CL Fz B W (O.of ρ (xn c ds) fun x=>.exn x ρ) D:=p
   rw[e2]at p2;show BH X.K CL Fz B W (O.of ρ (match xn c ds with | .ok ⟨_,[]⟩=>(.ok ⟨c,[]⟩:R Ex)|_=>.bad) fun x=>.exn x ρ) D
   rw[e2];exact p2
  ·dsimp only at p;rw[e1]at p;have p2:BH X.K CL Fz B W (O.of ρ (xn c [d]) fun x=>.exn x ρ) D:=p
   rw[e2]at p2;have p3:∀ H,(∀ b o,Fz b o->H b=Aa o)->W ⟨c,[(f,d)]⟩ H:=p2;cases xi with
   |mk xc dc fn ty S l1 l2 bd body gl mo dg dp dq w1 w2 w3 hl hz0 hf hs=>
    rename_i fI OV x0 qual g0 par z st fd k0' np0 apos q1 q2 q3 q4 q5 cpos0 q6 q7 q8 q9 q10;obtain⟨bm,N,nm,qn,bs,hd,sn,sub,ab,col,dd,k0,k1,k2,k3,k5,mN,hob,hni,hbase⟩:=O1 I.kIn xc;have hdt:hd=Ab:=by
     unfold FO at dc;split at dc
     ·rename_i c0 d0 cd sl lk;have g1:=I.kIn _ _ lk;rw[(hob _ I.kIn).1]at g1;unfold Ce at g1;cases g1;exact dc
     ·cases dc
    subst hdt;have hob2:∀ h:AF,X.K.In h->h.get? C=Aa (Ce nm qn C N bs bm Ab sn sub ab col dd k0 k1 k2 k3 k5 "ValueError.__new__")/\Ej h veB bm:=fun h z=>⟨(hob h z).1,(hob h z).2.2⟩
    refine Z6 (bmB:=veB) (nm:=nm) (q:=qn) (C:=C) (N:=N) (fI:=fI) (bs:=bs) (bm:=bm) (hdct:=Ab) (sn:=sn) (sub:=sub) (ab:=ab) (col:=col) (dd:=dd) (k0:=k0) (k1:=k1) (k2:=k2) (k3:=k3) (k5:=k5) (mN:=mN) Fh hbase (I.ok.hd hcalm) hpl' hni ?_;refine JC I hg hm ⟨rfl,?_⟩ hdb;have q1:=ha (By B ρ σ) cpos pI s σ H (fun vs H1=>AH H H1/\Reps X.K CL H1 (By B ρ σ) vs [d]) I ⟨x.aok,ρ,x.good,by rw[e1];exact fun vs H1 s1 r1=>⟨s1,r1⟩⟩
    rw[he]at q1 ⊢;refine Ed (Bl q1 (fun us s2 ⟨vs,H2,I2,r2,sm2,rps⟩=>⟨rfl,?_⟩) fun _ _ z=>z)
    cases vs with
    |nil=>exact rps.elim
    |cons v vs=>
     cases vs with
     |cons=>exact rps.2.elim
     |nil=>
      obtain⟨u,rfl,ru⟩:=ME r2;obtain⟨o1,o2,o3⟩:=hob _ I2.kIn;obtain⟨oc,od,kV,doc,pm,an,cdv,ct,osl,efd,lk,hcd⟩:=fn.ex;have coc:oc=.type "function" := by
       have ty':(X.K.lookup fI).map _=_:=ty;rw[lk]at ty';exact Bw ty'
      refine⟨by rw[DT];show 1<=_;omega,o1,o2,o3,⟨_,I2.kIn _ _ lk,coc⟩,fun h' e0 made=>?_⟩
      obtain⟨t,ge,_⟩:=made.there;have I3:Inv X pI σ H2 {s2 with heap:=h'}:=I2.kept (t':=s2.toks) made.keeps
      have ap:Hu X pI e0:=Mh I2 hx made.new;have n0:H2 e0=Ad:=K4 I2.hok made.new;have I4:=Tf (o:=.ext (XEx e0 C Ad t)) I3 ap n0 ⟨ge,⟨_,ge⟩,PR⟩;have sm4:AH H2 (upd H2 e0 (.ext (XEx e0 C Ad t))):=fun b o z=>by rw[BG fun y=>by rw[y,n0]at z;cases z];exact z
      have ru0:=hr.mono (Hd k);have run:=fO (P:=X.prog) (w:=X.w) (mg:=X.mg) (base:=X.base) (CL:=CL) (E:=fun _ _ _=>AW) (B:=By B ρ σ) (H:=upd H2 e0 (.ext (XEx e0 C Ad t))) (t:=t) hob2 fn S l1 l2 bd body gl mo dg dp dq w1 w2 w3 hl hz0 hf hs (A:=X.A.under (.builtin "type.__call__" ⟨.ref C::[u],[]⟩)) (outer:=X.stack) hr.hd (by rw[YF];have:=ru0.dp;omega) (by rw[YE];have:=ru0.un;omega) hr.gd (I4.env0.make C [u] []) FL (Rep.same sm4 rps.1) xf hn ru
      refine GQ (FK run fun r s' hq=>?_)
      cases r with
      |error _=>exact Bi hq
      |ok fl=>
       cases fl with
       |next=>exact Bi hq
       |brk=>exact Bi hq
       |cont=>exact Bi hq
       |ret u'=>
        obtain⟨v',H5,I5,rr,ev,t',dx,ndx,dne,eH⟩:=I4.after hq;subst ev;cases rr;have nd2:H2 dx=Ad:=by rw[BG dne]at ndx;exact ndx
        rw[SG]at eH;have H5e:H5 e0=Aa (.ext (XEx e0 C (Aa dx) t')):=by rw[eH,BG (DZ dne),FL]
        have ge5:XEx e0 C (Aa dx) t' s'.heap:=(I5.hok e0 _ H5e).1;have I6:=aP I5 H5e ap.2.2.2 fun _=>trivial
        have H6d:(if dx=e0 then Ad else H5 dx)=Aa (.xd [(f,v)]):=by rw[AI dne,eH,FL]
        have sm6:AH H2 (fun b=>if b=e0 then Ad else H5 b):=fun b o z=>by
         have nb:b≠e0:=fun y=>by rw[y,n0]at z;cases z
         have nb2:b≠dx:=fun y=>by rw[y,nd2]at z;cases z
         show (if b=e0 then Ad else H5 b)=Aa o
         rw[AI nb,eH,BG nb2,BG nb];exact z
        refine⟨rfl,t',Aa dx,(hob2 _ I6.kIn).1,ge5,rz pI σ _ s' e0 C (Aa dx) t' ⟨c,[(f,d)]⟩ I6 (fun hx=>J6 I2 hx made.new) (AG rfl) ge5 (fun A hA=>⟨C,hcl,rfl,.inr ⟨dx,[(f,v)],rfl,fun z=>?_,H6d,⟨rfl,?_⟩,trivial⟩⟩) (p3 _ fun b o z=>sm6 _ _ (sm2 _ _ (x.same b o z)))⟩
        ·obtain⟨u,q,w⟩:=hA dx z;have q':(if dx=e0 then Ad else H5 dx)=Aa u:=q
         rw[H6d]at q';cases q';rcases w with ⟨_,w⟩|⟨_,w⟩<;>cases w
        ·exact Qt hA 5 d (UK (n+1) 5 d xf (by omega)) (Rep.sub (fun _ z=>z.elim) _ (Rep.same sm6 rps.1))
end
section
variable{prog:AS}{w:AB}{A:AY}{E:Vq}{h:AF}{g:Bj FI}{d:Ir}{t:Ag}{os:HC}{K:Fg}{e C dx:Ah}{f:Ai}{mA:Ai->An Ak}{v:Ak}
theorem PU(p:Jf e C (Aa dx) h):XAt e C h:=let ⟨o,a,b,_⟩:=p;⟨o,a,b⟩
theorem Y3{Q:Fin->Ar->Prop}(X:K.In h)(hf:Aw K (.ref C) f=Aa Ad)(hd:FO K C=Ab)(p:Jf e C (Aa dx) h)(hn:h.Ns1 dx mA)(hv:mA f=Aa v)(hq:Q (.done (.ret v)) ⟨h,g,d,t,os⟩):Ax (model prog w) A (Builtin.«object.__getattribute__» ⟨[.ref e,.str f tk],[]⟩) Q E ⟨h,g,d,t,os⟩:=by
 have L0:=JG (M:=model prog w) (PU p);have L1:=Cw (M:=model prog w) X hf;obtain⟨o,ge,oc,od,us,dt⟩:=p;unfold FO at hd;split at hd
 ·rename_i c' d' cd' sl' lk;have gC:=X _ _ lk;unfold Builtin.«object.__getattribute__»
  repeat (any_goals (first|assumption|with_reducible refine L0.at ?_|with_reducible refine L1.at ?_|wp_step))
  rw[dt];unfold instanceDict
  repeat (first|(with_reducible refine B6 ge ?_;rw[oc])|with_reducible refine B6 gC ?_|wp_step)
  rw[od]
  repeat (first|(with_reducible refine wpAny_nsGet hn.ns ?_;rw[hv])|wp_step)
  exact hq
 ·cases hd
theorem kQ{Q:Vq}(X:K.In h)(x:XcOk K C)(hf:Aw K (.ref C) f=Aa Ad)(hd:FO K C=Ab)(p:Jf e C (Aa dx) h)(hn:h.Ns1 dx mA)(hv:mA f=Aa v)(hh:handedOut v=pure v)(hq:Q v ⟨h,g,d,t,os⟩):Ax (model prog w) A (getAttrBy (.ref e) (.str f tk) fill expr) Q E ⟨h,g,d,t,os⟩:=by
 have L0:=JG (M:=model prog w) (PU p);have L1:=Cw (M:=model prog w) X x.ga;have L2:=Cw (M:=model prog w) X x.gt;have f3:=FY.ga.bind (.ref e);have hx0:(expr&&Jz (Dj "BaseException.__getattribute__"))=Ae:=by cases expr<;>rfl
 have hx2:(Dj "BaseException.__getattribute__" == Dj "object.__getattribute__")=Ae:=by decide +kernel
 have hx1:(Jz (Ck C)&&Dj "BaseException.__getattribute__" == Dj "object.__getattribute__")=Ae:=by rw[hx2];rfl
 repeat (any_goals (first|assumption|with_reducible refine L0.at ?_|with_reducible refine L1.at ?_|with_reducible refine L2.at ?_|wp_step))
 refine Ee FY.ga.plain WP (Q9 X x (PU p) (Y3 X hf hd p hn hv ?_))
 repeat (any_goals (first|assumption|wp_step))
 all_goals trace_state
theorem Z7{b:Ao}{Q:Vq}(X:K.In h)(x:XcOk K C)(hf:Aw K (.ref C) f=Aa Ad)(hd:FO K C=Ab)(p:Jf e C (Aa dx) h)(hn:h.Ns1 dx mA)(hv:mA f=Aa v)(hh:handedOut v=pure v)(hq:Q v ⟨h,g,d,t+1,os⟩):Ax (model prog w) A (getAttr (.ref e) f b) Q E ⟨h,g,d,t,os⟩:=by
 unfold getAttr
 repeat (any_goals (first|assumption|with_reducible apply kQ X x hf hd p hn hv hh|wp_step))
end
section
variable{X:Cx}{CL:ClA}{W:XW}{K:Fg}{H:Hp}{A:Ah->Prop}
theorem Sb{f:Ai}{d:D}:∀{vs:Ac (Ai×V)}{fs:Ac (Ai×D)},Repf K CL H A vs fs->fs.lookup f=Aa d->∃ v,vs.lookup f=Aa v/\Rep K CL H A v d
 |[],[],_,q=>nomatch q
 |(n,v)::vs,(m,d')::fs,⟨⟨e,r⟩,rs⟩,q=>by
  have e':n=m:=e;subst e';by_cases z:(f==n)=Ab
  ·simp only[Gb,z]at q ⊢;cases q;exact⟨v,rfl,r⟩
  ·simp only[Gb,z]at q ⊢;exact Sb rs q
theorem cV{a:Ap}{fa:Rho->R D}{f:Ai}(hxc:∀ c C,CL c=Aa C->XcOk X.K C)(hnf:∀ c C,CL c=Aa C->FO X.K C=Ab/\Aw X.K (.ref C) f=Aa Ad)(ha:ST X CL W a fa)(hb:Dk a f X.env (eval a X.env)=eval a X.env):SE X CL W (.Attribute a f pos) (fun ρ=>(fa ρ).bind fun x=>LC x f):=fun A=>by
 intro pI s σ H Q I ⟨hA,ρ,gd,q⟩;refine iO hb (thn (ha A pI s σ H _ I ⟨hA,ρ,gd,Bf.bind q (Q':=fun v H1=>∃ d,CG X.K CL H1 A v d/\Bf (fun H2=>Rep X.K CL H2 A) W H1 (LC d f) Q) fun d v H1 _ s1 r1 p1=>⟨d,r1,p1⟩⟩) fun u s1 ⟨v,H1,I1,rv,d,rp,p1⟩=>?_)
 cases d with
 |exc c fs=>
  have p2:Bf (fun H2=>Rep X.K CL H2 A) W H1 (match fs.lookup f with|some d=>.ok d|none=>.bad) Q:=p1
  cases el:fs.lookup f with
  |none=>rw[el]at p2;exact p2.elim
  |some d=>
   rw[el]at p2;rcases rp with ⟨e,C,φ,rfl,_,hc,hH,hφ,hfs⟩|⟨_,_,_,_,⟨_,_,_,z,_⟩|⟨_,_,_,z,_⟩⟩
   ·rcases hfs with z|⟨dx,vs,nd,hd,rf,hφ2⟩
    ·rw[z]at el;cases el
    ·obtain⟨y,l,ry⟩:=Sb rf el;cases rv;have ph:=(I1.hok e _ hH).1;obtain⟨o,ge,oc⟩:=hφ _ ph;obtain⟨o',ge',od,us,odt⟩:=hφ2 _ ph;rw[ge]at ge';cases ge';obtain⟨mA,hn,rel⟩:=I1.hok dx _ hd;obtain⟨u',hu,ru⟩:=MN.some_of (v:=y) (o:=mA f) (by rw[<-l];exact rel f)
     obtain⟨k1,k2⟩:=hnf c C hc;obtain⟨hp,g2,d2,tk2,os2⟩:=s1;exact Z7 I1.kIn (hxc c C hc) k2 k1 ⟨o,ge,oc,od,us,odt⟩ hn hu (PySem.W.handedOut_of (Zd ru)) ⟨y,H1,I1.tok _,ru,p2 y H1 (AH.refl H1) ry⟩
   ·cases z
   ·cases z
 |_=>exact p1.elim
end
structure Tc where
 sc:Co
 N:Ac Ai
 /-- a def's name,its number,how many parameters it has -/
 fns:Ac (Ai×Ag×Ag)
 /-- built-in names that the text does not hide -/
 bl:Ac Ai
 /-- exceptions' classes by their names: those that are raised,all that are asked for -/
 rzs:Ac (Ai×Ag)
 exs:Ac (Ai×Ag)
 /-- the text's constants -/
 gls:Ac (Ai×Ag)
noncomputable def QI(T:Tc)(x:Ai):Ao:=match T.sc.names.lookup x with
  |some .local=>Ab
  |some .cell=>Ab
  |some .free=>Ab
  |_=>Ae
noncomputable def Jj(T:Tc)(x:Ai):Ao:=match T.sc.names.lookup x with
  |some .local=>Ab
  |some .cell=>Ab
  |_=>Ae
noncomputable def glB(T:Tc)(x:Ai):Ao:=T.sc.names.lookup x==Aa .globalImplicit
noncomputable def Ey:Ap->An (Ai×AO)
 |.Name x p=>Aa (x,p)
 |_=>Ad
theorem F0{e:Ap}{t:Ai×AO}(h:Ey e=Aa t):e=.Name t.1 t.2:=by
 cases e with
 |Name x p=>cases h;rfl
 |_=>exact nomatch (show Ad=Aa t from h)
noncomputable def Ly:Ap->An (Ap×Ac Ap×AO)
  | .Call f as ks p=>(match ks with
    |[]=>Aa (f,as,p)
    | _=>Ad)
  |_=>Ad
theorem Mm{e:Ap}{t:Ap×Ac Ap×AO}(h:Ly e=Aa t):e=.Call t.1 t.2.1 [] t.2.2:=by
 cases e with
 |Call f as ks p=>
  cases ks with
  |nil=>cases h;rfl
  |cons=>exact nomatch (show Ad=Aa t from h)
 |_=>exact nomatch (show Ad=Aa t from h)
noncomputable def Lx{α:Type}:Ac α->An (α×α)
 |[a,b]=>Aa (a,b)
 |_=>Ad
theorem Mb{l:Ac α}{t:α×α}(h:Lx l=Aa t):l=[t.1,t.2]:=by
 cases l with
 |nil=>exact nomatch (show Ad=Aa t from h)
 |cons a l=>
  cases l with
  |nil=>exact nomatch (show Ad=Aa t from h)
  |cons b l=>
   cases l with
   |nil=>cases h;rfl
   |cons=>exact nomatch (show Ad=Aa t from h)
noncomputable def QG:Ap->An (Ap×Ai×AO)
 |.Attribute o m p=>Aa (o,m,p)
 |_=>Ad
theorem SZ{e:Ap}{t:Ap×Ai×AO}(h:QG e=Aa t):e=.Attribute t.1 t.2.1 t.2.2:=by
 cases e with
 |Attribute o m p=>cases h;rfl
 |_=>exact nomatch (show Ad=Aa t from h)
noncomputable def xMt(e:Ap):An (Ai×Ai×Ap×Ap):=(Ly e).bind fun c=>(QG c.1).bind fun a=>(Ey a.1).bind fun x=>(Lx c.2.1).bind fun ab=>if a.2.2.endLine=c.2.2.line then Aa (x.1,a.2.1,ab.1,ab.2) else Ad
theorem PV{e y v:Ap}{m:Ai}(h:xMt e=Aa (x,m,y,v)):∃ p ap cp,e=.Call (.Attribute (.Name x p) m ap) [y,v] [] cp/\ap.endLine=cp.line:=by
 obtain⟨c,e1,h⟩:=Ay.mp h;obtain⟨a,e2,h⟩:=Ay.mp h;obtain⟨x',e3,h⟩:=Ay.mp h;obtain⟨ab,e4,h⟩:=Ay.mp h;by_cases hl:a.2.2.endLine=c.2.2.line
 ·rw[AG hl]at h;cases h;rw[Mm e1,SZ e2,F0 e3,Mb e4];exact⟨_,_,_,rfl,hl⟩
 ·rw[AI hl]at h;cases h
noncomputable def Vi:Ap->Ao
 |.Dict ks vs _=>ks.isEmpty&&vs.isEmpty
 |_=>Ae
theorem bY{e:Ap}(h:Vi e=Ab):∃ p,e=.Dict [] [] p:=by
 cases e with
 |Dict ks vs p=>
  cases ks with
  |nil=>
   cases vs with
   |nil=>exact⟨p,rfl⟩
   |cons=>exact nomatch (show Ae=Ab from h)
  |cons=>exact nomatch (show Ae=Ab from h)
 |_=>exact nomatch (show Ae=Ab from h)
noncomputable def Hw(x:Ai):Ao:=!(x==("__debug__" : Ai)) && !(x==("__classdict__" : Ai)) && !(x==("__name__" : Ai))
noncomputable def isV(T:Tc)(x:Ai)(i:Ag):Ao:=T.N[i]? == Aa x&&QI T x&&Hw x
noncomputable def isB(T:Tc)(x:Ai):Ao:=T.bl.contains x&&glB T x&&Hw x
noncomputable def DD:Ap->Ao
 |.Starred _ _=>Ae
 |_=>Ab
noncomputable def Nr:Ap->Ao
 |.Slice _ _ _ _=>Ae
 |_=>Ab
noncomputable def MH:Ap->Ao
 |.Set _ _ _=>Ae
 |_=>Ab
noncomputable def Km:Ap->Ao
 |.ListComp _ _ _ _=>Ae
 |.SetComp _ _ _ _=>Ae
 |.DictComp _ _ _ _ _=>Ae
 |_=>Ab
noncomputable def Vo(tu:Ao):Ap->Ao
 |.Tuple ..=>tu
 |.Name ..=>!tu
 |_=>Ae
noncomputable def tT:Ap->Ao
 |.Tuple _ _ _=>Ab
 |_=>Ae
noncomputable def UL:Ap->Ao
 |.Tuple _ _ _=>Ae
 |_=>Ab
noncomputable def KQ:Ap->Ao
 |.UnaryOp _ _ _=>Ae
 |.BoolOp _ _ _=>Ae
 |.IfExp _ _ _ _=>Ae
 |.Compare _ _ _ _=>Ae
 |_=>Ab
noncomputable def Qu:Ki->An Ai
 |.int=>Aa "int"
 |.bool=>Aa "bool"
 |.str=>Aa "str"
 |.list=>Aa "list"
 |.tuple=>Aa "tuple"
 |_=>Ad
noncomputable def Qp:BI->An Ai
 |.len=>Aa "len"
 |.abs=>Ad
 |.max=>Ad
 |.min=>Ad
 |.int=>Ad
 |.list=>Aa "list"
 |.tuple=>Aa "tuple"
 |.all=>Ad
 |.any=>Ad
 |.sum=>Ad
 |.sorted=>Ad
 |.tmin=>Ad
 |.tmax=>Ad
 |_=>Ad
noncomputable def Ql(o scope:Co):Co:={scope with names:=scope.names.map fun (n,k)=>if (k==.free&&o.kind==.function&&o.names.lookup n==Aa .cell) then (n,.cell) else (n,k)}
noncomputable def Lz:Ac Ag->Ac Ai->Ac Ai->Ac Ai
 |t::ts,x::xs,N=>Lz ts xs ((N.map fun y=>if y==x then N.getD t x else y).set t x)
 |_,_,N=>N
noncomputable def Lg:Ac Ai->Ao
 |[]=>Ab
 |x::xs=>!xs.contains x&&Lg xs
noncomputable def MK(T:Tc)(scope:Co)(ts:Ac Ag)(N':Ac Ai):Ao:=
  scope.kind==.function&&scope.names.all (fun y=>scope.names.lookup y.1==Aa y.2) &&
  scope.names.all (fun y=>y.2 != .free||T.sc.names.lookup y.1==Aa .cell||T.sc.names.lookup y.1==Aa .free) &&
  N'.length==T.N.length&&Lg N' &&
  (A5 N'.length).all fun i=>ts.contains i||(match N'[i]? with
    |some x=>(scope.names.lookup x != Aa .local&&scope.names.lookup x != Aa .cell)&&(scope.names.lookup x != Aa .free||T.N[i]? == Aa x)
    | none=>Ab)
noncomputable def Fs:Ac Ap->An (Ac Ai)
 |[]=>Aa []
 |.Name x _::r=>(Fs r).map (x :: ·)
 |_=>Ad
noncomputable def tgN(ys:Ac Ap):Ac Ai:=(Fs ys).getD []
noncomputable def tgB(T:Tc):Ac Ag->Ac Ai->Ao
 |[],[]=>Ab
 |t::ts,x::xs=>T.N[t]? == Aa x&&T.sc.names.lookup x==Aa .local&&tgB T ts xs
 |_,_=>Ae
noncomputable def tgO(T:Tc)(scope:Co)(t:Ag)(x:Ai):Ao:=T.N[t]? == Aa x&&(T.sc.names.lookup x==Aa .local||(T.sc.names.lookup x==Aa .cell&&scope.names.lookup x==Aa .cell))
noncomputable def tgC(T:Tc):Ac Ag->Ac Ai->Ao
 |[],[]=>Ab
 |t::ts,x::xs=>T.N[t]? == Aa x&&Jj T x&&tgC T ts xs
 |_,_=>Ae
noncomputable def Tc.blk(T:Tc)(scope:Co)(ts:Ac Ag)(xs:Ac Ai):Tc:={T with sc:=Ql T.sc scope,N:=Lz ts xs T.N}
noncomputable def QN:E->Ao
 |.lst _=>Ab
 |.comp _ _ _ _=>Ab
 |.compT _ _ _ _=>Ab
 |.bin .Add _ _=>Ab
 |.bi .list _=>Ab
 |.sl _ _ _=>Ab
 |_=>Ae
noncomputable def NN:E->An E
  | .bi b as=>(match b with
    | .list=>(match as with
      | .cons x r=>(match r with
        | .nil=>(match x with
          | .bin op a c=>(match op with
            | .Add=>(match c with
              | .tup es=>(match es with
                |.nil=>Aa a
                | _=>Ad)
              | _=>Ad)
            | _=>Ad)
          | _=>Ad)
        | _=>Ad)
      | .nil=>Ad)
    | _=>Ad)
  |_=>Ad
theorem aH{e a:E}(q:NN e=Aa a):e=.bi .list (.cons (.bin .Add a (.tup .nil)) .nil):=by
 unfold NN at q
 repeat' split at q
 all_goals first|cases q;done|skip
 cases q;rfl
theorem gZ(Γ:Gam){e:E}(h:QN e=Ab):Dh Γ e=Ab:=by
 unfold QN at h;split at h<;>first|rfl|cases h
noncomputable def inX(l:Ac (Ai×Ag))(g:Ai)(c:Ag):Ao:=l.any fun p=>p.1==g&&p.2==c
noncomputable def VB:Ap->An (Ap×Ap×AO)
  | .Compare x ops ys p=>(match ops with
    | [.Lt]=>(match ys with
      |[y]=>Aa (x,y,p)
      | _=>Ad)
    | _=>Ad)
  |_=>Ad
noncomputable def Qx(_:Es):An (E×E):=Ad
noncomputable def Vn(_:Tc)(_:Tc->Ap->E->Ao)(_:Ap)(_:Ac EF)(_:Ac Ap)(_:BI)(_:Es):Ao:=Ae
noncomputable def Vw(T:Tc)(e:Ap)(b:BI)(as:Es):Ao:=Ae
noncomputable def Uc:Ap->An (Ai×AO)
 |.Name x p=>Aa (x,p)
 |_=>Ad
noncomputable def Ud:Ap->An (Ap×Ac Ap×Ac C9×AO)
 |.Call f as ks p=>Aa (f,as,ks,p)
 |_=>Ad
noncomputable def uM:Ap->An (Ac Ap×Ag×AO)
 |.Tuple es k p=>Aa (es,k,p)
 |_=>Ad
noncomputable def one{α:Type}:Ac α->An α
 |[a]=>Aa a
 |_=>Ad
noncomputable def Vx(e:Ap):An (Ai×Ai×Ac Ap):=(Ud e).bind fun c=>(Uc c.1).bind fun g=>(one c.2.1).bind fun a=>(Ud a).bind fun d=>(Uc d.1).bind fun h=>if (c.2.2.1.isEmpty&&d.2.2.1.isEmpty)=Ab then Aa (g.1,h.1,d.2.1) else Ad
noncomputable def VO(e:Ap):An (Ai×Ai×Ap×Ap):=match Vx e with
  | some (g,h,bs)=>(match bs with
    |[x,y]=>Aa (g,h,x,y)
    | _=>Ad)
  |none=>Ad
noncomputable def QA(_:Es):An (E×E):=Ad
noncomputable def VN(e:Ap):An (Ai×Ai×Ap):=match Vx e with
  | some (g,h,bs)=>(match bs with
    |[x]=>Aa (g,h,x)
    | _=>Ad)
  |none=>Ad
noncomputable def Qz(_:Es):An E:=Ad
noncomputable def two(e:Ap):An (Ap×Ap):=(uM e).bind fun t=>match t.1 with
  |[a,b]=>Aa (a,b)
  |_=>Ad
noncomputable def QU(_:Es):An E:=Ad
noncomputable def Va(_:Ap):An Ap:=Ad
noncomputable def Vr:Ap->An (Ap×Af)
  | .Subscript v s _=>(match s with
    | .Slice lo hi st _=>(match lo with
      | some (.Constant (.int k) _ _)=>(match hi with
        | none=>(match st with
          |some (.Constant (.int j) _ _)=>if j=2 then Aa (v,k) else Ad
          | _=>Ad)
        | some _=>Ad)
      | _=>Ad)
    | _=>Ad)
  |_=>Ad
noncomputable def Qy(_:Es):An (E×Af):=Ad
mutual
noncomputable def A9:Ag->Tc->Ap->E->Ao
  |0,_,_,_=>Ae
  |n+1,T,e,c=>match c with
    |.non=>(match e with | .Constant .none _ _=>Ab|_=>Ae)
    |.bl b=>(match e with | .Constant (.bool b') _ _=>b' == b|_=>Ae)
    |.int i=>(match e with | .Constant (.int j) _ _=>decide (j=i)|_=>Ae)
    |.str x=>(match e with | .Constant (.str y) _ _=>decide (y=x)|_=>Ae)
    |.var i=>(match e with | .Name x _=>isV T x i|_=>Ae)
    |.glob g=>(match e with | .Name x _=>inX T.gls x g&&glB T x&&Hw x|_=>Ae)
    |.bin op a b=>(match e with | .BinOp x op' y _=>decide (op'=op)&&A9 n T x a&&A9 n T y b|_=>Ae)
    |.un op a=>Ae
    |.no a=>(match e with | .UnaryOp .Not x _=>A9 n T x a|_=>Ae)
    |.and es=>(match e with | .BoolOp .And xs _=>chkEs n T xs es && !xs.isEmpty|_=>Ae)
    |.or es=>(match e with | .BoolOp .Or xs _=>chkEs n T xs es && !xs.isEmpty|_=>Ae)
    |.cmp op a b=>(match e with | .Compare x [op'] [y] _=>decide (op'=op) && !behindInMarks op y&&A9 n T x a&&A9 n T y b|_=>Ae)
    |.cmp2 op1 op2 a b c=>(match e with | .Compare x [o1,o2] [y,z] _=>decide (o1=op1)&&decide (o2=op2) && !lastMarks [op1,op2] [y,z]&&A9 n T x a&&A9 n T y b&&A9 n T z c|_=>Ae)
    |.ite c a b=>Ae
    |.call f as=>(match e with | .Call (.Name g _) (x::xs) [] _=>(T.fns.any fun p=>p.1==g&&p.2.1==f&&p.2.2==xs.length+1)&&decide (xs.length<900)&&glB T g&&Hw g&&chkEs n T (x::xs) as|_=>Ae)
    |.bi b as=>(match e with | .Call (.Name g _) (x::xs) [] _=>Qp b==Aa g&&isB T g&&chkEs n T (x::xs) as|_=>Ae)||Vw T e b as||(match QA as with|some (a,c)=>(match VO e with|some (g,h,x,y)=>decide (b=.list)&&g==("list" : Ai)&&h==("range" : Ai)&&isB T g&&isB T h&&DD x&&DD y&&A9 n T x a&&A9 n T y c|none=>Ae)|none=>Ae)||(match Qy as with|some (a,k)=>(match Vr e with|some (x,j)=>decide (b=.stp)&&decide (j=k)&&decide (0<=k)&&A9 n T x a|none=>Ae)|none=>Ae)||(match Qz as with|some a=>(match VN e with|some (g,h,x)=>decide (b=.lset)&&g==("len" : Ai)&&h==("set" : Ai)&&isB T g&&isB T h&&DD x&&A9 n T x a|none=>Ae)|none=>Ae)||(match Qx as with|some (a,c)=>(match VB e with|some (x,y,_)=>decide (b=.tlt) && !behindInMarks .Lt y&&A9 n T x a&&A9 n T y c|none=>Ae)|none=>Ae)||(match QU as with|some a=>(match Va e with|some x=>decide (b=.rvs)&&A9 n T x a|none=>Ae)|none=>Ae)
    |.isi a ks=>(match ks with | [k]=>(match e with | .Call (.Name g _) [x,.Name t _] [] _=>g==("isinstance" : Ai)&&isB T g&&Qu k==Aa t&&isB T t&&DD x&&A9 n T x a|_=>Ae)|_=>Ae)
    |.idx a i=>(match e with | .Subscript x y _=>Nr y&&A9 n T x a&&A9 n T y i|_=>Ae)
    |.sl a lo hi=>(match e with | .Subscript x (.Slice l h Ad _) _=>A9 n T x a&&chkO n T l lo&&chkO n T h hi|_=>Ae)
    |.tup es=>(match e with | .Tuple xs _ _=>chkEs n T xs es&&decide (xs.length<=1000)|_=>Ae)
    |.lst es=>(match e with | .List xs _=>chkEs n T xs es&&decide (xs.length<=1000)|_=>Ae)
    |.comp elt t it c=>(match e with | .ListComp x [⟨.Name y _,iter,ifs,0⟩] scope _=>chkI n T Ae iter it&&MH iter&&MK T scope [t] (Lz [t] [y] T.N)&&tgO (T.blk scope [t] [y]) scope t y&&chkT n (T.blk scope [t] [y]) ifs c&&A9 n (T.blk scope [t] [y]) x elt|_=>Ae)
    |.compT elt ts it c=>(match e with | .ListComp x [⟨.Tuple ys _ _,iter,ifs,0⟩] scope _=>(Fs ys).isSome&&chkI n T Ab iter it&&MH iter&&MK T scope ts (Lz ts (tgN ys) T.N)&&tgB (T.blk scope ts (tgN ys)) ts (tgN ys)&&chkT n (T.blk scope ts (tgN ys)) ifs c&&A9 n (T.blk scope ts (tgN ys)) x elt|_=>Ae)
    |.tupI _=>Ae
    |.dget i a c=>(match xMt e with|some (x,m,y,z)=>m==("get" : Ai)&&isV T x i&&DD y&&DD z&&A9 n T y a&&A9 n T z c|none=>Ae)
    |.fld _ _=>Ae
noncomputable def Jd:Ag->Tc->Ap->E->Ao
  |0,_,_,_=>Ae
  |n+1,T,e,c=>match e with
    |.UnaryOp .Not x _=>(match c with | .no a=>Jd n T x a|_=>Ae)
    |.BoolOp .And xs _=>(match c with | .and es=>chkBs n T xs es && !xs.isEmpty|_=>Ae)
    |.BoolOp .Or xs _=>(match c with | .or es=>chkBs n T xs es && !xs.isEmpty|_=>Ae)
    | .Compare x ops ys _=>(match c with
      |.cmp op a b=>(match ops,ys with | [op'],[y]=>decide (op'=op) && !behindInMarks op y&&A9 n T x a&&A9 n T y b|_,_=>Ae)
      |.cmp2 op1 op2 a b c=>(match ops,ys with | [o1,o2],[y,z]=>decide (o1=op1)&&decide (o2=op2) && !lastMarks [op1,op2] [y,z]&&A9 n T x a&&A9 n T y b&&A9 n T z c|_,_=>Ae)
      |.bi b as=>Vn T (A9 n) x ops ys b as
      | _=>Ae)
    |e=>KQ e&&A9 n T e c
noncomputable def chkBs:Ag->Tc->Ac Ap->Es->Ao
  |0,_,_,_=>Ae
  |n+1,T,xs,es=>match xs,es with
    |[],.nil=>Ab
    |x::xs,.cons e es=>Jd n T x e&&chkBs n T xs es
    |_,_=>Ae
noncomputable def chkEs:Ag->Tc->Ac Ap->Es->Ao
  |0,_,_,_=>Ae
  |n+1,T,xs,es=>match xs,es with
    |[],.nil=>Ab
    |x::xs,.cons e es=>DD x&&A9 n T x e&&chkEs n T xs es
    |_,_=>Ae
noncomputable def chkO:Ag->Tc->An Ap->E->Ao
  |0,_,_,_=>Ae
  |n+1,T,x,e=>match x with
    |none=>(match e with | .non=>Ab|_=>Ae)
    |some x=>(match e with | .non=>Ae|e=>A9 n T x e)
noncomputable def chkT:Ag->Tc->Ac Ap->E->Ao
  |0,_,_,_=>Ae
  |n+1,T,xs,e=>match xs with
    |[]=>(match e with | .bl Ab=>Ab|_=>Ae)
    |[x]=>Jd n T x e
    |_=>Ae
noncomputable def chkI:Ag->Tc->Ao->Ap->I->Ao
  |0,_,_,_,_=>Ae
  |n+1,T,tu,e,i=>match i with
    |.e a=>A9 n T e a
    |.rng a=>(match e with | .Call (.Name g _) [x] [] _=>g==("range" : Ai)&&isB T g&&DD x&&A9 n T x a|_=>Ae)
    |.enm a=>(match e with | .Call (.Name g _) [x] [] _=>tu&&g==("enumerate" : Ai)&&isB T g&&DD x&&A9 n T x a|_=>Ae)
    |.zip a b=>(match e with | .Call (.Name g _) [x,y] [] _=>tu&&g==("zip" : Ai)&&isB T g&&DD x&&DD y&&A9 n T x a&&A9 n T y b|_=>Ae)
    |.rng2 a b=>(match e with | .Call (.Name g _) [x,y] [] _=>g==("range" : Ai)&&isB T g&&DD x&&DD y&&A9 n T x a&&A9 n T y b|_=>Ae)
    |.zip3 a b c=>Ae
end
noncomputable def QM:E->E->Ao
 |.var _,.int _=>Ab
 |_,_=>Ae
noncomputable def Vt:Go->Ao
 |.Sub=>Ab
 |_=>Ae
noncomputable def NZ:E->Ao
 |.idx a b=>QM a b
 |.bin op a b=>Vt op&&QM a b
 |.var _=>Ab
 |.int _=>Ab
 |.bl _=>Ab
 |.str _=>Ab
 |.non=>Ab
 |_=>Ae
noncomputable def Lr:Es->Ao
 |.nil=>Ab
 |.cons e es=>NZ e&&Lr es
noncomputable def xC2(e:Ap):An (Ai×Ai×Ap):=(Ly e).bind fun c=>(Ey c.1).bind fun g=>(Lx c.2.1).bind fun ab=>(Ey ab.1).bind fun v=>Aa (g.1,v.1,ab.2)
theorem kU{e t:Ap}{v:Ai}(h:xC2 e=Aa (g,v,t)):∃ p q r,e=.Call (.Name g p) [.Name v q,t] [] r:=by
 obtain⟨c,e1,h⟩:=Ay.mp h;obtain⟨g',e2,h⟩:=Ay.mp h;obtain⟨ab,e3,h⟩:=Ay.mp h;obtain⟨v',e4,h⟩:=Ay.mp h;cases h;rw[Mm e1,F0 e2,Mb e3,F0 e4];exact⟨_,_,_,rfl⟩
noncomputable def QD:Ap->An (Ac Ap)
 |.Tuple ts _ _=>Aa ts
 |_=>Ad
theorem bS{e:Ap}{ts:Ac Ap}(h:QD e=Aa ts):∃ c p,e=.Tuple ts c p:=by
 cases e with
 |Tuple l c p=>cases h;exact⟨_,_,rfl⟩
 |_=>exact nomatch (show Ad=Aa ts from h)
noncomputable def xC1(e:Ap):An (Ai×Ai):=(Ly e).bind fun c=>(Ey c.1).bind fun g=>(match c.2.1 with
  |[a]=>(Ey a).bind fun v=>Aa (g.1,v.1)
  | _=>Ad)
theorem kW{e:Ap}{v:Ai}(h:xC1 e=Aa (g,v)):∃ p q r,e=.Call (.Name g p) [.Name v q] [] r:=by
 obtain⟨c,e1,h⟩:=Ay.mp h;obtain⟨g',e2,h⟩:=Ay.mp h;obtain⟨f,as,p⟩:=c;cases as with
 |nil=>exact nomatch (show Ad=Aa (g,v) from h)
 |cons a as=>
  cases as with
  |cons=>exact nomatch (show Ad=Aa (g,v) from h)
  |nil=>
   obtain⟨v',e4,h⟩:=Ay.mp (show ((Ey a).bind fun v=>Aa (g'.1,v.1))=Aa (g,v) from h)
   cases h;rw[Mm e1,F0 e2,F0 e4];exact⟨_,_,_,rfl⟩
noncomputable def xHd:Ff->An (Ai×Ai×Be×Ac Be)
  | .ExceptHandler ty nm b _=>(match nm,b,ty with
    |some m,h0::hs,Aa e=>(Ey e).bind fun g=>Aa (g.1,m,h0,hs)
    | _,_,_=>Ad)
theorem kT{h:Ff}{m:Ai}(q:xHd h=Aa (g,m,h0,hs)):∃ p r,h=.ExceptHandler (Aa (.Name g p)) (Aa m) (h0::hs) r:=by
 obtain⟨ty,nm,b,r⟩:=h;cases nm with
 |none=>cases ty<;>cases b<;>exact nomatch (show Ad=Aa (g,m,h0,hs) from q)
 |some m'=>
  cases b with
  |nil=>cases ty<;>exact nomatch (show Ad=Aa (g,m,h0,hs) from q)
  |cons h0' hs'=>
   cases ty with
   |none=>exact nomatch (show Ad=Aa (g,m,h0,hs) from q)
   |some e=>
    obtain⟨g',e1,q⟩:=Ay.mp (show ((Ey e).bind fun g=>Aa (g.1,m',h0',hs'))=Aa (g,m,h0,hs) from q)
    cases q;rw[F0 e1];exact⟨_,_,rfl⟩
noncomputable def QE:Be->An (Be×Ac Ff×Ac Be)
  | .Try b hs es fs _=>(match b,fs with
    |[bt],[]=>Aa (bt,hs,es)
    | _,_=>Ad)
  |_=>Ad
theorem bT{st bt:Be}{hs:Ac Ff}{es:Ac Be}(q:QE st=Aa (bt,hs,es)):∃ p,st=.Try [bt] hs es [] p:=by
 cases st with
 |Try b h e f p=>
  cases b with
  |nil=>cases f<;>exact nomatch (show Ad=Aa (bt,hs,es) from q)
  |cons x b=>
   cases b with
   |cons=>cases f<;>exact nomatch (show Ad=Aa (bt,hs,es) from q)
   |nil=>
    cases f with
    |nil=>cases q;exact⟨_,rfl⟩
    |cons=>exact nomatch (show Ad=Aa (bt,hs,es) from q)
 |_=>exact nomatch (show Ad=Aa (bt,hs,es) from q)
noncomputable def JL(T:Tc):Ac Ap->Ac Ki->Ao
 |[],[]=>Ab
 |.Name t _::r,.cls c::ks=>inX T.exs t c&&glB T t&&Hw t&&JL T r ks
 |_,_=>Ae
noncomputable def VU(T:Tc)(g:Ai)(f:Ag):Ao:=(T.fns.any fun p=>p.1==g&&p.2.1==f&&p.2.2==1001)&&glB T g&&Hw g
noncomputable def MI(f:Ap->E->Ao):Ac Ap->Es->Ao
 |[],.nil=>Ab
 |x::xs,.cons e es=>DD x&&f x e&&MI f xs es
 |_,_=>Ae
noncomputable def QH:Ap->An (Ai×Ap)
  | .BinOp a op b _=>(match op with
    |.Add=>(Ey a).bind fun v=>Aa (v.1,b)
    | _=>Ad)
  |_=>Ad
theorem cE{e b:Ap}{v:Ai}(h:QH e=Aa (v,b)):∃ p q,e=.BinOp (.Name v p) .Add b q:=by
 cases e with
 |BinOp a op b' q=>
  cases op with
  |Add=>
   obtain⟨w,e1,h⟩:=Ay.mp (show (Ey a).bind (fun v=>Aa (v.1,b'))=Aa (v,b) from h)
   cases h;rw[F0 e1];exact⟨_,_,rfl⟩
  |_=>exact nomatch (show Ad=Aa (v,b) from h)
 |_=>exact nomatch (show Ad=Aa (v,b) from h)
noncomputable def QR:E->An (Ag×E)
  | .bin op a b=>(match op,a with
    |.Add,.var i=>Aa (i,b)
    | _,_=>Ad)
  |_=>Ad
theorem iS{op:Go}{a b c:E}{i:Ag}(h:QR (.bin op a b)=Aa (i,c)):op=.Add/\a=.var i/\b=c:=by
 cases op with
 |Add=>
  cases a with
  |var j=>cases h;exact⟨rfl,rfl,rfl⟩
  |_=>exact nomatch (show Ad=Aa (i,c) from h)
 |_=>cases a<;>exact nomatch (show Ad=Aa (i,c) from h)
noncomputable def Vu{α:Type}:Ac α->An α
 |[a]=>Aa a
 |_=>Ad
theorem bU{l:Ac α}{t:α}(h:Vu l=Aa t):l=[t]:=by
 cases l with
 |nil=>exact nomatch (show Ad=Aa t from h)
 |cons a l=>
  cases l with
  |nil=>cases h;rfl
  |cons=>exact nomatch (show Ad=Aa t from h)
noncomputable def xM1(e:Ap):An (Ai×Ai×Ap):=(Ly e).bind fun c=>(QG c.1).bind fun a=>(Ey a.1).bind fun x=>(Vu c.2.1).bind fun y=>if a.2.2.endLine=c.2.2.line then Aa (x.1,a.2.1,y) else Ad
theorem kS{e y:Ap}{m:Ai}(h:xM1 e=Aa (x,m,y)):∃ p ap cp,e=.Call (.Attribute (.Name x p) m ap) [y] [] cp/\ap.endLine=cp.line:=by
 obtain⟨c,e1,h⟩:=Ay.mp h;obtain⟨a,e2,h⟩:=Ay.mp h;obtain⟨x',e3,h⟩:=Ay.mp h;obtain⟨ab,e4,h⟩:=Ay.mp h;by_cases hl:a.2.2.endLine=c.2.2.line
 ·rw[AG hl]at h;cases h;rw[Mm e1,SZ e2,F0 e3,bU e4];exact⟨_,_,_,rfl,hl⟩
 ·rw[AI hl]at h;cases h
noncomputable def CK:Ag->Tc->Ag->Ap->E->Ao
  |0,_,_,_,_=>Ae
  |n+1,T,x,e,c=>match c with
    |.bl b=>(match e with | .Constant (.bool b') _ _=>b' == b|_=>Ae)
    |.no a=>(match e with | .UnaryOp .Not y _=>CK n T x y a|_=>Ae)
    |.and (.cons a .nil)=>(match e with | .BoolOp .And [y] _=>CK n T x y a|_=>Ae)
    |.and (.cons a (.cons a' as))=>(match e with | .BoolOp .And (y::z::zs) p=>CK n T x y a&&CK n T x (.BoolOp .And (z::zs) p) (.and (.cons a' as))|_=>Ae)
    | .isi (.var i) [.verr]=>(match xC2 e with
      | some (g,v,t)=>i==x&&g==("isinstance" : Ai)&&isB T g&&isV T v x&&(match Ey t with
        |some (t,_)=>t==("ValueError" : Ai)&&isB T t
        | none=>Ae)
      | none=>Ae)
    | .isi (.var i) [.cls c]=>(match xC2 e with
      | some (g,v,t)=>i==x&&g==("isinstance" : Ai)&&isB T g&&isV T v x&&(match Ey t with
        |some (t,_)=>inX T.exs t c&&glB T t&&Hw t
        | none=>Ae)
      | none=>Ae)
    | .isi (.var i) (.cls c::k::ks)=>(match xC2 e with
      | some (g,v,t)=>i==x&&g==("isinstance" : Ai)&&isB T g&&isV T v x&&(match QD t with
        |some ts=>JL T ts (.cls c::k::ks)&&decide (ts.length<=1000)
        | none=>Ae)
      | none=>Ae)
    | .call f (.cons (.var i) .nil)=>(match xC1 e with
      |some (g,v)=>VU T g f&&isV T v i
      | none=>Ae)
    |.str s=>(match e with | .Constant (.str s') _ _=>s' == s|_=>Ae)
    |.lst es=>(match e with | .List xs _=>MI (CK n T x) xs es&&decide (xs.length<=1000)|_=>Ae)
    |.tup es=>(match e with | .Tuple xs _ _=>MI (CK n T x) xs es&&decide (xs.length<=1000)|_=>Ae)
    | .bin op a b=>(match QR (.bin op a b) with
      | some (i,b)=>(match QH e with
        |some (v,y)=>isV T v i&&CK n T x y b
        | none=>Ae)
      | none=>Ae)
    | .fld (.var i) f=>(match e with
      |.Attribute (.Name v _) g _=>i==x&&g==f&&(f==("triple" : Ai)||f==("points" : Ai))&&isV T v x
      | _=>Ae)
    |_=>Ae
noncomputable def NL(n:Ag)(T:Tc)(x:Ag)(y:Ap)(e:E):Ao:=match y with
  |.UnaryOp .Not z _=>(match e with | .no a=>KQ z&&CK n T x z a|_=>Ae)
  |y=>KQ y&&CK n T x y e
noncomputable def G7(n:Ag)(T:Tc)(x:Ag):Ac Ap->Es->Ao
 |[],.nil=>Ab
 |y::ys,.cons e es=>NL n T x y e&&G7 n T x ys es
 |_,_=>Ae
noncomputable def Qw(n:Ag)(T:Tc)(x:Ag)(e:Ap)(c:E):Ao:=match e with
  |.BoolOp .Or ys _=>(match c with | .or es=>G7 n T x ys es && !ys.isEmpty|_=>Ae)
  |.BoolOp .And ys _=>(match c with | .and es=>G7 n T x ys es && !ys.isEmpty|_=>Ae)
  |e=>NL n T x e c
noncomputable def VQ:E->Ao
 |.isi _ _=>Ab
 |.bl _=>Ab
 |_=>Ae
noncomputable def Yk:E->Ao
 |.lst _=>Ab
 |_=>Ae
noncomputable def UQ(n:Ag)(T:Tc)(x:Ag)(v:Ap):E->Ao
 |.var i=>(match Ey v with|some (y,_)=>isV T y i|none=>Ae)
 |e=>VQ e&&CK n T x v e
noncomputable def IF:Ag->Tc->Ag->Ac Be->Ss->Ao
  |0,_,_,_,_=>Ae
  |n+1,T,x,sts,ss=>match ss with
    |.nil=>sts.isEmpty
    | .cons (.asg i b e) ss=>(match sts with
      |.Assign [.Name y _] v _::r=>T.N[i]? == Aa y&&Jj T y&&Km v&&CK n T x v e&&(!b||Yk e)&&IF n T x r ss
      | _=>Ae)
    | .cons (.ife c a .nil) ss=>(match sts with
      |.If t xs [] _::r=>Qw n T x t c&&IF n T x xs a&&IF n T x r ss
      | _=>Ae)
    | .cons (.ret e) ss=>(match sts with
      |.Return (Aa v) _::r=>UQ n T x v e&&IF n T x r ss
      | _=>Ae)
    | .cons (.app i e) ss=>(match sts with
      | .Expr w _::r=>(match xM1 w with
        |some (y,m,v)=>m==("append" : Ai)&&isV T y i&&DD v&&CK n T x v e&&IF n T x r ss
        | none=>Ae)
      | _=>Ae)
    |_=>Ae
noncomputable def QL:E->Ao
 |.var _=>Ab
 |.cmp _ a b=>NZ a&&NZ b
 |_=>Ae
noncomputable def Nx(n:Ag)(T:Tc)(st:Be)(s:S):Ao:=match s with
  |.expr (.call f as)=>(match st with | .Expr v _=>A9 n T v (.call f as)&&Lr as|_=>Ae)
  |.asg i Ae (.call f as)=>(match st with | .Assign [.Name y _] v _=>T.N[i]? == Aa y&&Jj T y&&A9 n T v (.call f as)&&Lr as|_=>Ae)
  |_=>Ae
noncomputable def Lp:Ag->Ag->Tc->Be->S->Ao
  |0,n,T,st,s=>Nx n T st s
  | m+1,n,T,st,s=>Nx n T st s||(match s with
    | .ife c (.cons a .nil) (.cons b .nil)=>(match st with
      |.If t [xs] [ys] _=>Jd n T t c&&QL c&&Lp m n T xs a&&Lp m n T ys b
      | _=>Ae)
    | _=>Ae)
noncomputable def XY:E->Ao
  | .bi b as=>(match b,as with
    |.len,.nil=>Ab
    | _,_=>Ae)
  |_=>Ae
noncomputable def XX:S->Ao
 |.expr e=>XY e
 |_=>Ae
noncomputable def N4:Ss->Ao
 |.cons s _=>XX s
 |.nil=>Ae
noncomputable def hdB(T:Tc)(g:Ai)(c:Ag):Ao:=inX T.exs g c&&inX T.rzs g c&&glB T g&&Hw g
mutual
noncomputable def EN:Ag->Tc->Be->S->Ao
  |0,_,_,_=>Ae
  |n+1,T,st,s=>match s with
    |.pass=>Ae
    |.brk=>Ae
    |.cont=>Ae
    |.asg i _ e=>(match st with | .Assign [.Name x _] v _=>T.N[i]? == Aa x&&Jj T x&&A9 n T v e|_=>Ae)
    |.asgT ts e=>(match st with | .Assign [.Tuple ys _ _] v _=>(Fs ys).isSome&&tgC T ts (tgN ys)&&(UL v||C8 4 ys.length)&&A9 n T v e|_=>Ae)
    |.expr e=>(match st with | .Expr v _=>Km v&&A9 n T v e|_=>Ae)
    |.ret e=>(match st with | .Return (Aa v) _=>A9 n T v e|_=>Ae)
    |.retN=>Ae
    |.ife c a b=>(match st with | .If t xs ys _=>Jd n T t c&&chkSs n T xs a&&chkSs n T ys b|_=>Ae)
    |.fors t it body=>(match st with | .For (.Name x _) iter xs [] _=>tgC T [t] [x]&&MH iter&&chkI n T Ae iter it&&chkSs n T xs body|_=>Ae)
    |.forT ts it body=>(match st with | .For (.Tuple ys _ _) iter xs [] _=>(Fs ys).isSome&&tgC T ts (tgN ys)&&MH iter&&chkI n T Ab iter it&&chkSs n T xs body|_=>Ae)
    |.whl c body=>(match st with | .While t xs [] _=>Jd n T t c&&chkSs n T xs body|_=>Ae)
    |.rais c as=>!(T.rzs.any fun p=>p.2==c)||(match st with | .Raise (Aa (.Call (.Name g _) (x::xs) [] _)) Ad _=>inX T.rzs g c&&glB T g&&Hw g&&decide (xs.length<=1000)&&chkEs n T (x::xs) as|_=>Ae)
    |.tryx bs c x h=>(match bs with | .cons b .nil=>(match QE st with|some (bt,[h1],[])=>(match xHd h1 with|some (g,m,h0,hs)=>hdB T g c&&T.N[x]? == Aa m&&T.sc.names.lookup m==Aa .local&&Lp 6 n T bt b&&IF n T x (h0::hs) h|none=>Ae)|_=>Ae)|_=>Ae)
    |.try2 _ _ _ _ _ _ _=>Ae
    |.app i e=>(match st with | .Expr (.Call (.Attribute (.Name x _) m ap) [v] [] cp) _=>m==("append" : Ai)&&isV T x i&&ap.endLine==cp.line&&DD v&&A9 n T v e|_=>Ae)
    |.ext i e=>(match st with | .Expr (.Call (.Attribute (.Name x _) m ap) [v] [] cp) _=>m==("extend" : Ai)&&isV T x i&&ap.endLine==cp.line&&DD v&&(QN e&&A9 n T v e||(match NN e with|some a=>A9 n T v a|none=>Ae))|_=>Ae)
    |.rev i=>Ae
    |.clr i=>Ae
    |.put i k e=>(match st with | .Assign [.Subscript (.Name x _) y _] v _=>isV T x i&&Nr y&&A9 n T y k&&A9 n T v e|_=>Ae)
    |.swp _ _ _=>Ae
    |.apop _ _ _=>Ae
    |.ins i k e=>(match st with | .Expr w _=>(match xMt w with|some (x,m,y,v)=>m==("insert" : Ai)&&isV T x i&&DD y&&DD v&&A9 n T y k&&A9 n T v e|none=>Ae)|_=>Ae)
    |.dnw i=>(match st with | .Assign [.Name x _] v _=>T.N[i]? == Aa x&&Jj T x&&Vi v|_=>Ae)
    |.dput i k e=>(match st with | .Assign [.Subscript (.Name x _) y _] v _=>isV T x i&&Nr y&&A9 n T y k&&A9 n T v e|_=>Ae)
    |.dsd i k e=>(match st with | .Expr w _=>(match xMt w with|some (x,m,y,v)=>m==("setdefault" : Ai)&&isV T x i&&DD y&&DD v&&A9 n T y k&&A9 n T v e|none=>Ae)|_=>Ae)
    |.rel _=>Ae
noncomputable def chkSs:Ag->Tc->Ac Be->Ss->Ao
  |0,_,_,_=>Ae
  | n+1,T,sts,ss=>(match ss with
    |.nil=>sts.isEmpty
    |.cons (.rel i) ss=>chkSs n T sts ss
    | .cons s ss=>(match sts with
      |st::r=>EN n T st s&&chkSs n T r ss
      | []=>Ae))||N4 ss
end
noncomputable def Il(fuel:Ag)(hot:Ao)(fns:Ac (Ai×Ag×Ag))(bl:Ac Ai)(rzs exs gls:Ac (Ai×Ag))(ps N:Ac Ai)(st:Be)(df:Df):Ao:=
  let sc:=CB st
  sc.kind==.function && !sc.isCoroutine && !sc.isGenerator&&Lg N&&N.take ps.length==ps&&ps.all (fun x=>sc.names.lookup x==Aa .local||sc.names.lookup x==Aa .cell)&&sc.names.all (fun y=>y.2 != .free)&&N.length==df.n &&
  (match hot with
  |true=>IF fuel ⟨sc,N,fns,bl,rzs,exs,gls⟩ 0 (F1 st) df.body
  | false=>chkSs fuel ⟨sc,N,fns,bl,rzs,exs,gls⟩ (F1 st) df.body)
structure XT (up:Ag->Ac Ag) (xn:Ag->Ac D->R Ex) (CL:ClA) (rzs exs:Ac (Ai×Ag)) (K:Fg) (mg:Ai->An Ak):Prop where
 xc:∀ c C,CL c=Aa C->XcOk K C
 rz:∀ p∈rzs,∃ C,CL p.2=Aa C/\mg p.1=Aa (.ref C)
 ex:∀ p∈exs,∃ C,mg p.1=Aa (.ref C)/\MB K CL up p.2 C/\∀ c D,CL c=Aa D->Az K (.ref D) (.ref C)=Aa ((up c).contains p.2)
 made:∀ c C ds,CL c=Aa C->xn c ds=.bad\/(xn c ds=.ok ⟨c,[]⟩/\Eh K C Ad=Ab)\/∃ f,XIn K mg C f/\NO xn c f ds
 nf:∀ c C,CL c=Aa C->∀ f:Ai,(f==("triple" : Ai)||f==("points" : Ai))=Ab->FO K C=Ab/\Aw K (.ref C) f=Aa Ad
 xb:∀ c,(∀ p∈rzs,p.2≠c)->∀ ds,xn c ds=.bad
def MO(K:Fg)(mg:Ai->An Ak)(CL:ClA)(x:Ai)(d:D):Prop:=∃ u v,mg x=Aa u/\Bx v u/\∀ H A,Rep K CL H A v d
structure VX (Γ:Gam) (CL:ClA) (k:Ag) (W:XW) (T:Tc) (X:Cx):Prop where
 sc:X.env.scope=T.sc
 kd:T.sc.kind=.function
 N:X.N=T.N
 nd:T.N.Nodup
 calm:X.calm=Ab
 room:Room k X.A
 bl:∀ x,x∈T.bl->X.mg x=Ad
 fn:∀ p∈T.fns,∃ f fd ps,X.mg p.1=Aa (.ref f)/\B8 X.K (.ref f)=Ab/\F6 X.K fd ps []/\ps.length=p.2.2%1000/\(p.2.2<1000->FnOk X.prog X.w X.K X.mg X.base (CXR X.prog X.w) k f fd ps (spD X.K CL (p.2.2%1000) (Γ.fr p.2.1) (Γ.F p.2.1)))/\(1000<=p.2.2->HotOk X.prog X.w X.K X.mg X.base k f fd ps (spH X.K CL (p.2.2%1000) (Γ.fr p.2.1) (Γ.F p.2.1)))
 own:EG (model X.prog X.w) X.A X.env X.xe
 px:∀ A,Lm (CXR X.prog X.w) X (EKW X.K CL A W)
 rz:ML X CL W
 xt:XT Γ.up Γ.xn CL T.rzs T.exs X.K X.mg
 gl:∀ p∈T.gls,MO X.K X.mg CL p.1 (Γ.G p.2)
theorem P9:∀ A,Lm (CXR X.prog X.w) X (EKW X.K CL A W0):=fun A pI σ H s ev s' I h=>by
 obtain⟨e,T,cls,dx,H',_,_,_,_,_,_,_,_,_,_,x,_,w⟩:=h;exact w.elim
theorem QJ:ML X CL W0:=fun _ _ _ _ _ _ _ _ _ _ _ _ _ _ z=>z.elim
def Rf{α:Type}(g f:Rho->R α):Prop:=∀ ρ,g ρ=.bad\/g ρ=f ρ
section
variable{X:Cx}{CL:ClA}{W:XW}{a:Ap}{f g:Rho->R D}
theorem SE.ref(h:SE X CL W a f)(r:Rf g f):SE X CL W a g:=fun A=>PE.weak (h A) fun σ H Q ⟨hA,ρ,q,p⟩=>⟨hA,ρ,q,by
 rcases r ρ with e|e
 ·rw[e]at p;exact p.elim
 ·rw[e]at p;exact p⟩
theorem SB.ref{f g:Rho->R Ao}(h:SB X CL W a f)(r:Rf g f):SB X CL W a g:=fun A=>PT.weak (h A) fun σ H Q ⟨hA,ρ,q,p⟩=>⟨hA,ρ,q,by
 rcases r ρ with e|e
 ·rw[e]at p;exact p.elim
 ·rw[e]at p;exact p⟩
theorem SW.ref{f g:Rho->R Ao}(h:SW X CL W a f)(r:Rf g f):SW X CL W a g:=fun A=>PW.weak (h A) fun σ H Q ⟨hA,ρ,q,p⟩=>⟨hA,ρ,q,by
 rcases r ρ with e|e
 ·rw[e]at p;exact p.elim
 ·rw[e]at p;exact p⟩
theorem SC.ref(h:SC X CL W fr a f)(r:Rf g f):SC X CL W fr a g:=fun A=>PE.weak (h A) fun σ H Q ⟨hA,ρ,q,p⟩=>⟨hA,ρ,q,by
 rcases r ρ with e|e
 ·rw[e]at p;exact p.elim
 ·rw[e]at p;exact p⟩
theorem SS.ref{st:Be}{f g:Rho->O}(h:SS X CL W st f)(r:∀ ρ,g ρ=.bad\/g ρ=f ρ):SS X CL W st g:=fun Fz B=>PS.weak (h Fz B) fun D σ H ⟨ρ,x,p⟩=>⟨ρ,x,by
 rcases r ρ with e|e
 ·rw[e]at p;exact p.elim
 ·rw[e]at p;exact p⟩
end
theorem J7:∀{l:Ac Ai},Lg l=Ab->l.Nodup
 |[],_=>GZ
 |x::xs,h=>by
  unfold Lg at h;simp only[Aj,Bp,Wa,uZ]at h;exact Cu.mpr ⟨h.1,J7 h.2⟩
section
variable{T:Tc}{X:Cx}{Γ:Gam}{CL:ClA}{k:Ag}{W:XW}
theorem S4(h:QI T x=Ab):Vis T.sc x:=by
 unfold QI at h;split at h
 ·exact .inl (by assumption)
 ·exact .inr (.inl (by assumption))
 ·exact .inr (.inr (by assumption))
 ·cases h
theorem Kb(h:Jj T x=Ab):Loc T.sc x:=by
 unfold Jj at h;split at h
 ·exact .inl (by assumption)
 ·exact .inr (by assumption)
 ·cases h
theorem Hr(h:Hw x=Ab):(x==("__debug__" : Ai))=Ae/\(x==("__classdict__" : Ai))=Ae/\x≠"__name__" := by
 unfold Hw at h;simp only[Aj,Bp]at h;exact⟨h.1.1,h.1.2,fun e=>by subst e;exact absurd h.2 (by simp)⟩
theorem HY{i:Ag}(v:VX Γ CL k W T X)(h:isV T x i=Ab):PE X (.Name x pos) (E5 i):=by
 unfold isV at h;simp only[Aj,AR]at h;obtain⟨h2,h3,_⟩:=Hr h.2;exact NB (by rw[v.N];exact h.1.1) (by rw[v.sc];exact S4 h.1.2) h2 h3
theorem HZ(v:VX Γ CL k W T X)(h:isB T x=Ab):Gl X x/\X.mg x=Ad/\x≠"__name__"/\(x==("__debug__" : Ai))=Ae:=by
 unfold isB glB at h;simp only[Aj,AR,Wa,AT]at h;obtain⟨h2,h3,h4⟩:=Hr h.2;exact⟨by show X.env.scope.names.lookup x=_;rw[v.sc];exact h.1.2,v.bl x h.1.1,h4,h2⟩
theorem Ch{x:Ap}(h:DD x=Ab):As (x::xs) env=(Ae,eval x env)::As xs env:=by
 cases x<;>first|rfl|cases h
theorem ZK{y:Ap}(h:Nr y=Ab):Pz y:=by
 intro o i;cases y<;>first|rfl|cases h
theorem Nv{e:Ap}(h:MH e=Ab):∀ x,CZ e env x=pure x:=by
 intro x;cases e<;>first|rfl|cases h
theorem K7{e:Ap}{t:An Ap}(h:Km e=Ab):Cn e t l env=pure Ae:=by
 cases e<;>first|rfl|cases h
theorem SK{e:Ap}(h:KQ e=Ab):∀ whole,IL e env whole=(do let v <-whole;IQ e.pos;holding [v] (truthy v)):=by
 intro whole;cases e<;>first|rfl|cases h
theorem YO(v:VX Γ CL k W T X)(scope:Co):relabel scope X.env=Ql T.sc scope:=by
 unfold relabel Ql;have:∀ n,X.env.kindOf n=T.sc.names.lookup n:=fun n=>by show X.env.scope.names.lookup n=_;rw[v.sc]
 simp only[this,v.sc]
theorem Qd{N':Ac Ai}(v:VX Γ CL k W T X)(h:MK T scope ts N'=Ab):BlockOk X scope N' ts/\N'.Nodup/\scope.kind=.function:=by
 unfold MK at h;simp only[Aj,AR,CM,B9,HB,LP]at h;obtain⟨⟨⟨⟨⟨h1,h2⟩,h4⟩,h5⟩,h6⟩,h7⟩:=h;have at7:∀ i x,N'[i]?=Aa x->i∈ts\/((scope.names.lookup x≠Aa .local/\scope.names.lookup x≠Aa .cell)/\(scope.names.lookup x≠Aa .free\/T.N[i]?=Aa x)):=fun i x e=>by
  have hi:=(Bg.mp e).1;have:=h7 i (Ba.mpr hi);rcases this with z|z
  ·exact .inl (by simpa using z)
  ·rw[e]at z;simp only[Aj,HB,LP,B9,AR]at z;exact .inr z
 refine⟨⟨h1,h2,fun y hy hl=>by rw[h2 y hy,hl],fun y hy hf=>?_,by rw[v.N];exact h5,fun i x e hf hn=>?_,fun i x e hl=>?_⟩,J7 h6,h1⟩
 ·rw[v.sc];rcases h4 y hy with (z|z)|z
  ·exact absurd hf z
  ·exact .inl z
  ·exact .inr z
 ·rw[v.N];rcases at7 i x e with z|⟨_,z⟩
  ·exact absurd z hn
  ·exact z.resolve_left fun q=>q hf
 ·rcases at7 i x e with z|⟨z,_⟩
  ·exact z
  ·exact hl.elim (fun q=>absurd q z.1) (fun q=>absurd q z.2)
theorem VX.blk{xs:Ac Ai}{cl:Ac (Ai×Ah)}{s:Ar}{fp:Ac Ah}(v:VX Γ CL k W T X)(h:MK T scope ts (Lz ts xs T.N)=Ab):VX Γ CL k W0 (T.blk scope ts xs) (cxC X scope cl C (Lz ts xs T.N) s H fp):=by
 obtain⟨_,h2,h3⟩:=Qd v h;exact⟨YO v scope,h3,rfl,h2,v.calm,v.room,v.bl,v.fn,PassesOwn.never,P9,QJ,v.xt,v.gl⟩
theorem dS{t:Ag}(v:VX Γ CL k W T X)(hfn:scope.names.lookup x=Aa .cell->X.fn x=Ab)(h:tgO T scope t x=Ab):PG X (.Name x pos) (Fv t):=by
 unfold tgO at h;simp only[Aj,B9,AR]at h;rcases h with ⟨h1,h2|h2⟩
 ·exact Mo (by rw[v.N];exact v.nd) (by rw[v.N];exact h1) (by rw[v.sc];exact .inl h2) (.inr (by rw[v.sc];exact h2))
 ·exact Mo (by rw[v.N];exact v.nd) (by rw[v.N];exact h1) (by rw[v.sc];exact .inr h2.1) (.inl (hfn h2.2))
theorem Ow{y:Ap}{r:Ac Ap}{zs:Ac Ai}(h:Fs (y::r)=Aa zs):∃ x p ws,y=.Name x p/\Fs r=Aa ws/\zs=x::ws:=by
 cases y with
 |Name x p=>
  have h':(Fs r).map (x :: ·)=Aa zs:=h;cases e:Fs r with
  |none=>rw[e]at h';cases h'
  |some ws=>rw[e]at h';cases h';exact⟨x,p,ws,rfl,rfl,rfl⟩
 |_=>cases h
theorem OY(x:Ai)(p:AO)(r:Ac Ap)(env:Cd):B5 (.Name x p::r) env=(Ae,assign (.Name x p) env)::B5 r env:=rfl
theorem Ou:∀(ys:Ac Ap)(zs:Ac Ai),Fs ys=Aa zs->(B5 ys env).length=ys.length/\(B5 ys env).findIdx? (·.1)=Ad/\(B5 ys env).map (·.2)=ys.map fun y=>assign y env:=by
 intro ys
 induction ys with
 |nil=>intro _ _;exact⟨rfl,rfl,rfl⟩
 |cons y r ih=>
  intro zs h;obtain⟨x,p,ws,rfl,e,rfl⟩:=Ow h;obtain⟨h1,h2,h3⟩:=ih ws e;rw[OY];refine⟨?_,?_,?_⟩
  ·rw[Bs,Bs,h1]
  ·rw[List.findIdx?_cons,h2];simp
  ·rw[BE,BE,h3]
theorem dY(v:VX Γ CL k W T X):∀(ys:Ac Ap)(ts:Ac Ag)(zs:Ac Ai),Fs ys=Aa zs->tgB T ts zs=Ab->PGs X ys (ts.foldr (fun t u=>Ib (Fv t) u) Ii)/\ts.length=ys.length:=by
 intro ys
 induction ys with
 |nil=>
  intro ts zs e h;cases e;cases ts with
  |nil=>exact⟨Tl,rfl⟩
  |cons t ts=>cases h
 |cons y r ih=>
  intro ts zs e h;obtain⟨x,p,ws,rfl,e2,rfl⟩:=Ow e;cases ts with
  |nil=>cases h
  |cons t ts=>
   have h':(T.N[t]? == Aa x&&T.sc.names.lookup x==Aa .local&&tgB T ts ws)=Ab:=h;simp only[Aj,AR]at h';obtain⟨h1,h2⟩:=ih ts ws e2 h'.2;exact⟨Se (Mo (by rw[v.N];exact v.nd) (by rw[v.N];exact h'.1.1) (by rw[v.sc];exact .inl h'.1.2) (.inr (by rw[v.sc];exact h'.1.2))) h1 (by rw[OY];rfl),congrArg (· + 1) h2⟩
theorem dX(v:VX Γ CL k W T X)(hn:(Fs ys).isSome=Ab)(h:tgB T ts (tgN ys)=Ab):PG X (.Tuple ys kk pos) (LB X.K ts.length (ts.foldr (fun t u=>Ib (Fv t) u) Ii)):=by
 cases e:Fs ys with
 |none=>rw[e]at hn;cases hn
 |some zs=>
  have e2:tgN ys=zs:=by unfold tgN;rw[e];rfl
  rw[e2]at h;obtain⟨h1,h2⟩:=dY v ys ts zs e h;obtain⟨h3,h4,_⟩:=Ou (env:=X.env) ys zs e;exact P8 v.calm h1 (by rw[h3,h2]) h4
end
noncomputable def Es.len:Es->Ag
 |.nil=>0
 |.cons _ es=>es.len+1
theorem Kc(Γ:Gam)(ρ:Rho):∀(es:Es)(ds:Ac D),evA Γ ρ es=.ok ds->ds.length=es.len
 |.nil,ds,h=>by cases h;rfl
 |.cons e es,ds,h=>by
  obtain⟨x,h1,h2⟩:=Ka (R0 Γ ρ e es ▸ h);obtain⟨xs,h3,h4⟩:=Ka h2;cases h4;exact congrArg (· + 1) (Kc Γ ρ es xs h3)
theorem Mr(Γ:Gam)(ρ:Rho):∀(es:Es)(ds:Ac D),evB Γ ρ es=.ok ds->ds.length=es.len
 |.nil,ds,h=>by cases h;rfl
 |.cons e es,ds,h=>by
  obtain⟨x,h1,h2⟩:=Ka (O3 Γ ρ e es ▸ h);obtain⟨xs,h3,h4⟩:=Ka h2;cases h4;exact congrArg (· + 1) (Mr Γ ρ es xs h3)
theorem T6(Γ:Gam)(ρ:Rho)(e:E)(h:shE ρ e=Ab):top ρ e (evE Γ ρ e)=evE Γ ρ e:=by
 cases e with
 |var i=>
  show Dm ρ i=F8 ρ i;have h':shV ρ i=Ab:=h;unfold shV at h';unfold Dm F8;cases q:ρ[i]? with
  |none=>rfl
  |some x=>
   cases x with
   |none=>rfl
   |some y=>
    obtain⟨d,o⟩:=y;cases o with
    |true=>rw[q]at h';cases h'
    |false=>rfl
 |_=>rfl
theorem Mz(Γ:Gam)(ρ:Rho):∀(es:Es),Ie ρ es=Ab->evB Γ ρ es=evA Γ ρ es
 |.nil,_=>rfl
 |.cons e es,h=>by
  simp only[YY,Aj]at h;rw[R0,O3,T6 Γ ρ e h.1,Mz Γ ρ es h.2]
theorem PF(Γ:Gam)(c:E):Rf (fun ρ=>evE Γ ρ c) (fun ρ=>top ρ c (evE Γ ρ c)):=fun ρ=>by
 by_cases h:shE ρ c=Ab
 ·exact .inr (T6 Γ ρ c h).symm
 ·cases c with
  |var i=>
   refine .inl ?_;show F8 ρ i=.bad;have h':¬ shV ρ i=Ab:=h;unfold shV at h';unfold F8;cases q:ρ[i]? with
   |none=>rfl
   |some x=>
    cases x with
    |none=>rfl
    |some y=>
     obtain⟨d,o⟩:=y;cases o with
     |true=>rfl
     |false=>rw[q]at h';exact absurd rfl h'
  |_=>exact absurd rfl h
def Pcs(X:Cx)(CL:ClA)(W:XW)(e:Ap)(f:Rho->R D):Prop:=∃ tg iter elt ifs scope pos N' ts fi fc fe as g,e=.ListComp elt [⟨tg,iter,ifs,0⟩] scope pos/\BlockOk X scope N' ts/\SI X CL W tg iter fi/\GG X.K CL ts as g /\
 (∀ cl C s H fp,PG (cxC X scope cl C N' s H fp) tg g)/\(∀ cl C s H fp,STs (cxC X scope cl C N' s H fp) CL ifs fc)/\(∀ cl C s H fp,SE (cxC X scope cl C N' s H fp) CL W0 elt fe)/\(∀ x,CZ iter X.env x=pure x) /\
 ∀ ρ,f ρ=(fi ρ).bind fun xs=>(noX (Cb (fun x=>(as x ρ).bind fc) (fun x=>(as x ρ).bind fe) xs)).bind fun ys=>.ok (.lst ys)
theorem Pcs.sc{e:Ap}{f:Rho->R D}(hc:X.calm=Ab)(h:Pcs X CL W e f):SC X CL W Ab e f:=by
 obtain⟨tg,iter,elt,ifs,scope,pos,N',ts,fi,fc,fe,as,g,rfl,B,hi,hGG,hg,ht,he,hs,ef⟩:=h;exact SC.congr (cX hc B hi hGG hg ht he hs) ef
structure OkE (Γ:Gam) (CL:ClA) (W:XW) (X:Cx) (e:Ap) (c:E):Prop where
 se:SE X CL W e (fun ρ=>evE Γ ρ c)
 st:ST X CL W e (fun ρ=>top ρ c (evE Γ ρ c))
 nw:Dh Γ c=Ab->SC X CL W Ab e (fun ρ=>evE Γ ρ c)
 cp:Km e=Ae->Pcs X CL W e (fun ρ=>evE Γ ρ c)
section
variable{Γ:Gam}{CL:ClA}{W:XW}{X:Cx}{e:Ap}{c:E}
theorem F4(h:SE X CL W e (fun ρ=>evE Γ ρ c))(ht:∀ ρ r,top ρ c r=r)(hn:Dh Γ c=Ae)(hc:Km e=Ab):OkE Γ CL W X e c:=
 ⟨h,by simp only[ht];exact h.st,fun z=>absurd z (by rw[hn];decide),fun z=>absurd z (by rw[hc];decide)⟩
theorem Qa(h:SC X CL W Ab e (fun ρ=>evE Γ ρ c))(ht:∀ ρ r,top ρ c r=r)(hc:Km e=Ab):OkE Γ CL W X e c:=
 ⟨h.se,by simp only[ht];exact h.se.st,fun _=>h,fun z=>absurd z (by rw[hc];decide)⟩
theorem UN(hc:X.calm=Ab)(h:Pcs X CL W e (fun ρ=>evE Γ ρ c))(ht:∀ ρ r,top ρ c r=r):OkE Γ CL W X e c:=
 ⟨(h.sc hc).se,by simp only[ht];exact(h.sc hc).se.st,fun _=>h.sc hc,fun _=>h⟩
end
theorem uK{k:Ki}(h:Qu k=Aa x):∃ T,tyK k=Aa T/\Dd x=Aa (.type T):=by
 cases k<;>simp only[Qu]at h<;>cases h
 ·exact⟨_,rfl,PyProof.Rows.boot_int⟩
 ·exact⟨_,rfl,PyProof.Rows.boot_bool⟩
 ·exact⟨_,rfl,PyProof.Rows.boot_str⟩
 ·exact⟨_,rfl,Wz⟩
 ·exact⟨_,rfl,WA⟩
structure Snd (Γ:Gam) (CL:ClA) (k:Ag) (n:Ag):Prop where
 e:∀(W:XW)(T:Tc)(X:Cx)(x:Ap)(c:E),VX Γ CL k W T X->A9 n T x c=Ab->OkE Γ CL W X x c
 b:∀(W:XW)(T:Tc)(X:Cx)(x:Ap)(c:E),VX Γ CL k W T X->Jd n T x c=Ab->SB X CL W x (fun ρ=>(top ρ c (evE Γ ρ c)).bind BL)
 bs:∀(W:XW)(T:Tc)(X:Cx)(xs:Ac Ap)(es:Es)(pos:AO),VX Γ CL k W T X->chkBs n T xs es=Ab->xs≠[]->SW X CL W (.BoolOp .And xs pos) (fun ρ=>(evN Γ ρ es).bind BL)/\SW X CL W (.BoolOp .Or xs pos) (fun ρ=>(evO Γ ρ es).bind BL)
 es:∀(W:XW)(T:Tc)(X:Cx)(xs:Ac Ap)(es:Es),VX Γ CL k W T X->chkEs n T xs es=Ab->SA X CL W xs (fun ρ=>evA Γ ρ es)/\SAT X CL W xs (fun ρ=>evB Γ ρ es)/\xs.length=es.len/\(∀ pos,xs≠[]->SE X CL W (.BoolOp .And xs pos) (fun ρ=>evN Γ ρ es)/\SE X CL W (.BoolOp .Or xs pos) (fun ρ=>evO Γ ρ es))/\(∀ pos,(Bz pos (As xs X.env)).any (·.1)=Ae)
 o:∀(W:XW)(T:Tc)(X:Cx)(x:An Ap)(c:E),VX Γ CL k W T X->chkO n T x c=Ab->SO X CL W x (fun ρ=>(top ρ c (evE Γ ρ c)).bind (slE c))
 t:∀(T:Tc)(X:Cx)(xs:Ac Ap)(c:E),VX Γ CL k W0 T X->chkT n T xs c=Ab->STs X CL xs (fun ρ=>(top ρ c (evE Γ ρ c)).bind BL)
 i:∀(W:XW)(T:Tc)(X:Cx)(tu:Ao)(tg x:Ap)(i:I),VX Γ CL k W T X->Vo tu tg=Ab->chkI n T tu x i=Ab->SI X CL W tg x (fun ρ=>evI Γ ρ i)
section
variable{Γ:Gam}{CL:ClA}{W:XW}{k n:Ag}{T:Tc}{X:Cx}
theorem ZJ:Snd Γ CL k 0:=⟨fun _ _ _ _ _ _ h=>absurd (show Ae=Ab from h) Aq,fun _ _ _ _ _ _ h=>absurd (show Ae=Ab from h) Aq,fun _ _ _ _ _ _ _ h=>absurd (show Ae=Ab from h) Aq,fun _ _ _ _ _ _ h=>absurd (show Ae=Ab from h) Aq,fun _ _ _ _ _ _ h=>absurd (show Ae=Ab from h) Aq,fun _ _ _ _ _ h=>absurd (show Ae=Ab from h) Aq,fun _ _ _ _ _ _ _ _ _ h=>absurd (show Ae=Ab from h) Aq⟩
theorem Q2{x:Ap}(h:DD x=Ab)(hx:(Bz pos (As xs env)).any (·.1)=Ae):(Bz pos (As (x::xs) env)).any (·.1)=Ae:=by
 rw[Ch h];show (Ae||(Bz pos (As xs env)).any (·.1))=Ae;rw[hx];rfl
theorem kH(S:Snd Γ CL k n)(W:XW)(T:Tc)(X:Cx)(xs:Ac Ap)(es:Es)(v:VX Γ CL k W T X)(h:chkEs (n+1) T xs es=Ab):SA X CL W xs (fun ρ=>evA Γ ρ es)/\SAT X CL W xs (fun ρ=>evB Γ ρ es)/\xs.length=es.len/\(∀ pos,xs≠[]->SE X CL W (.BoolOp .And xs pos) (fun ρ=>evN Γ ρ es)/\SE X CL W (.BoolOp .Or xs pos) (fun ρ=>evO Γ ρ es))/\(∀ pos,(Bz pos (As xs X.env)).any (·.1)=Ae):=by
 cases xs with
 |nil=>
  cases es with
  |nil=>exact⟨PB,SX,rfl,fun _ z=>absurd rfl z,fun _=>rfl⟩
  |cons=>simp[chkEs]at h
 |cons x xs=>
  cases es with
  |nil=>simp[chkEs]at h
  |cons e es=>
   simp only[chkEs,Aj]at h;obtain⟨⟨h0,h1⟩,h2⟩:=h;have he:=S.e W T X x e v h1;obtain⟨a1,a2,a3,a4,a5⟩:=S.es W T X xs es v h2;refine⟨Pk he.se a1 (Ch h0),RF he.st a2 (Ch h0),congrArg (· + 1) a3,fun pos _=>?_,fun pos=>Q2 h0 (a5 pos)⟩
   cases xs with
   |nil=>
    cases es with
    |nil=>exact⟨PM he.se,PM he.se⟩
    |cons=>cases a3
   |cons y ys=>
    cases es with
    |nil=>cases a3
    |cons e' es'=>
     obtain⟨b1,b2⟩:=a4 pos (by simp)
     exact⟨TX he.se b1,qK he.se b2⟩
theorem rF(S:Snd Γ CL k n)(W:XW)(T:Tc)(X:Cx)(x:An Ap)(c:E)(v:VX Γ CL k W T X)(h:chkO (n+1) T x c=Ab):SO X CL W x (fun ρ=>(top ρ c (evE Γ ρ c)).bind (slE c)):=by
 cases x with
 |none=>
  simp only[chkO]at h;split at h
  ·exact eP
  ·cases h
 |some x=>
  simp only[chkO]at h;split at h
  ·cases h
  ·rename_i hne;have q:=eO (S.e W T X x c v h).st;have e:slE c=fun d=>(EK d).bind fun i=>.ok (Aa i):=by
    funext d
    cases c<;>first|rfl|exact absurd rfl hne
   rw[e];exact q
theorem rD(S:Snd Γ CL k n)(T:Tc)(X:Cx)(xs:Ac Ap)(c:E)(v:VX Γ CL k W0 T X)(h:chkT (n+1) T xs c=Ab):STs X CL xs (fun ρ=>(top ρ c (evE Γ ρ c)).bind BL):=by
 cases xs with
 |nil=>
  simp only[chkT]at h;split at h
  ·exact eE
  ·cases h
 |cons x xs=>
  cases xs with
  |nil=>
   simp only[chkT]at h;exact eC (S.b W0 T X x c v h)
  |cons y ys=>simp[chkT]at h
theorem rG(S:Snd Γ CL k n)(W:XW)(T:Tc)(X:Cx)(tu:Ao)(tg x:Ap)(i:I)(v:VX Γ CL k W T X)(ht':Vo tu tg=Ab)(h:chkI (n+1) T tu x i=Ab):SI X CL W tg x (fun ρ=>evI Γ ρ i):=by
 have ht:tu=Ab->tT tg=Ab:=fun z=>by
  subst z;cases tg<;>first|rfl|cases ht'
 cases i with
 |e a=>
  simp only[chkI]at h;exact Ye (S.e W T X x a v h).se
 |rng a=>
  simp only[chkI]at h;split at h
  ·simp only[Aj,AR]at h;obtain⟨⟨⟨rfl,h1⟩,h2⟩,h3⟩:=h;obtain⟨g1,g2,_,_⟩:=HZ v h1;exact jV (S.e W T X _ a v h3).st g1 g2 (Ch h2)
  ·cases h
 |rng2 a b=>
  simp only[chkI]at h;split at h
  ·simp only[Aj,AR]at h;obtain⟨⟨⟨⟨⟨rfl,h1⟩,h2⟩,h3⟩,h4⟩,h5⟩:=h;obtain⟨g1,g2,_,_⟩:=HZ v h1;exact eS (S.e W T X _ a v h4).st (S.e W T X _ b v h5).st g1 g2 (by rw[Ch h2,Ch h3];rfl) (by rw[Ch h3];rfl)
  ·cases h
 |zip a b=>
  simp only[chkI]at h;split at h
  ·simp only[Aj,AR]at h;obtain⟨⟨⟨⟨⟨⟨h0,rfl⟩,h1⟩,h2⟩,h3⟩,h4⟩,h5⟩:=h;obtain⟨g1,g2,_,_⟩:=HZ v h1;have hg:=ht h0;cases tg with
   |Tuple es m tpos=>exact jU (S.e W T X _ a v h4).se (S.e W T X _ b v h5).se g1 g2 (by rw[Ch h2,Ch h3];rfl) (by rw[Ch h3];rfl)
   |_=>cases hg
  ·cases h
 |zip3 a b c=>simp[chkI]at h
 |enm a=>
  simp only[chkI]at h;split at h
  ·simp only[Aj,AR]at h;obtain⟨⟨⟨⟨h0,rfl⟩,h1⟩,h2⟩,h3⟩:=h;obtain⟨g1,g2,_,_⟩:=HZ v h1;have hg:=ht h0;cases tg with
   |Tuple es m tpos=>exact eT (S.e W T X _ a v h3).se g1 g2 (Ch h2)
   |_=>cases hg
  ·cases h
theorem K1{c:Prop}[FE c]{b:Ao}:(if c then R.ok (D.bl b) else .bad)=.bad\/∃ b',(if c then R.ok (D.bl b) else .bad)=.ok (.bl b'):=by
 by_cases h:c
 ·rw[AG h];exact .inr ⟨_,rfl⟩
 ·rw[AI h];exact .inl rfl
theorem aD(op:EF)(d d':D):BO op d d'=.bad\/∃ b,BO op d d'=.ok (.bl b):=by
 cases op with
 |Eq=>exact K1
 |NotEq=>exact K1
 |In=>
  cases d' with
  |lst ys=>exact K1
  |tup ys=>exact K1
  |dic kvs=>
   show (match DI d with|some k=>R.ok (D.bl (kvs.any fun p=>p.1==k))|none=>.bad)=.bad\/∃ b,(match DI d with|some k=>R.ok (D.bl (kvs.any fun p=>p.1==k))|none=>.bad)=.ok (.bl b)
   cases DI d with
   |some k=>exact .inr ⟨_,rfl⟩
   |none=>exact .inl rfl
  |_=>cases d<;>exact .inl rfl
 |NotIn=>
  cases d' with
  |lst ys=>exact K1
  |tup ys=>exact K1
  |dic kvs=>
   show (match DI d with|some k=>R.ok (D.bl (!kvs.any fun p=>p.1==k))|none=>.bad)=.bad\/∃ b,(match DI d with|some k=>R.ok (D.bl (!kvs.any fun p=>p.1==k))|none=>.bad)=.ok (.bl b)
   cases DI d with
   |some k=>exact .inr ⟨_,rfl⟩
   |none=>exact .inl rfl
  |_=>cases d<;>exact .inl rfl
 |Is=>
  cases d' with
  |non=>cases d<;>first|exact .inr ⟨_,rfl⟩|exact .inl rfl
  |_=>cases d<;>first|exact .inl rfl|exact .inr ⟨_,rfl⟩
 |IsNot=>
  cases d' with
  |non=>cases d<;>first|exact .inr ⟨_,rfl⟩|exact .inl rfl
  |_=>cases d<;>first|exact .inl rfl|exact .inr ⟨_,rfl⟩
 |_=>
  cases d with
  |int i=>cases d'<;>first|exact .inr ⟨_,rfl⟩|exact .inl rfl
  |_=>exact .inl rfl
theorem Ta(op:EF)(d d':D):(BO op d d').bind BL=.bad\/(BO op d d').bind BL=(BO op d d').bind DK:=by
 rcases aD op d d' with h|⟨b,h⟩
 ·rw[h];exact .inl rfl
 ·rw[h];exact .inr rfl
theorem UC(e e':E)(es:Es):Rf (fun ρ=>(evN Γ ρ (.cons e (.cons e' es))).bind BL) (fun ρ=>((top ρ e (evE Γ ρ e)).bind BL).bind fun c=>if c=Ab then (evN Γ ρ (.cons e' es)).bind BL else .ok Ae):=fun ρ=>by
 have e0:evN Γ ρ (.cons e (.cons e' es))=(evE Γ ρ e).bind fun x=>(DK x).bind fun c=>if c=Ab then evN Γ ρ (.cons e' es) else .ok (.bl Ae):=rfl
 dsimp only;rw[e0];rcases PF Γ e ρ with z|z<;>dsimp only at z
 ·rw[z];exact .inl rfl
 ·rw[<-z];cases evE Γ ρ e with
  |bad=>exact .inl rfl
  |exn x=>exact .inr rfl
  |ok d=>
   cases d with
   |bl b=>cases b<;>exact .inr rfl
   |_=>exact .inl rfl
theorem UB(e e':E)(es:Es):Rf (fun ρ=>(evO Γ ρ (.cons e (.cons e' es))).bind BL) (fun ρ=>((top ρ e (evE Γ ρ e)).bind BL).bind fun c=>if c=Ab then .ok Ab else (evO Γ ρ (.cons e' es)).bind BL):=fun ρ=>by
 have e0:evO Γ ρ (.cons e (.cons e' es))=(evE Γ ρ e).bind fun x=>(DK x).bind fun c=>if c=Ab then .ok (.bl Ab) else evO Γ ρ (.cons e' es):=rfl
 dsimp only;rw[e0];rcases PF Γ e ρ with z|z<;>dsimp only at z
 ·rw[z];exact .inl rfl
 ·rw[<-z];cases evE Γ ρ e with
  |bad=>exact .inl rfl
  |exn x=>exact .inr rfl
  |ok d=>
   cases d with
   |bl b=>cases b<;>exact .inr rfl
   |_=>exact .inl rfl
theorem Rf.tru(e:E):Rf (fun ρ=>(evE Γ ρ e).bind BL) (fun ρ=>(top ρ e (evE Γ ρ e)).bind BL):=fun ρ=>by
 rcases PF Γ e ρ with z|z<;>dsimp only at z ⊢
 ·rw[z];exact .inl rfl
 ·rw[<-z];exact .inr rfl
theorem kI(S:Snd Γ CL k n)(W:XW)(T:Tc)(X:Cx)(xs:Ac Ap)(es:Es)(pos:AO)(v:VX Γ CL k W T X)(h:chkBs (n+1) T xs es=Ab)(hne:xs≠[]):SW X CL W (.BoolOp .And xs pos) (fun ρ=>(evN Γ ρ es).bind BL)/\SW X CL W (.BoolOp .Or xs pos) (fun ρ=>(evO Γ ρ es).bind BL):=by
 cases xs with
 |nil=>exact absurd rfl hne
 |cons x xs=>
  cases es with
  |nil=>simp[chkBs]at h
  |cons e es=>
   simp only[chkBs,Aj]at h;obtain⟨h1,h2⟩:=h;have he:=S.b W T X x e v h1;cases xs with
   |nil=>
    cases es with
    |nil=>exact⟨SW.ref (SL he) (Rf.tru e),SW.ref (Ua he) (Rf.tru e)⟩
    |cons=>
     cases n with
     |zero=>simp[chkBs]at h2
     |succ n=>simp[chkBs]at h2
   |cons y ys=>
    cases es with
    |nil=>
     cases n with
     |zero=>simp[chkBs]at h2
     |succ n=>simp[chkBs]at h2
    |cons e' es'=>
     obtain⟨b1,b2⟩:=S.bs W T X (y::ys) (.cons e' es') pos v h2 (by simp)
     exact⟨SW.ref (TF he b1) (UC e e' es'),SW.ref (UG he b2) (UB e e' es')⟩
theorem bK(S:Snd Γ CL k n){x:Ap}{ops:Ac EF}{b:BI}(v:VX Γ CL k W T X)(h:Vn T (A9 n) x ops ys b as=Ab):SB X CL W (.Compare x ops ys pos) (fun ρ=>(top ρ (.bi b as) (evE Γ ρ (.bi b as))).bind BL):=by
 exact absurd (show Ae=Ab from h) Aq
theorem rJ(S:Snd Γ CL k n)(W:XW)(T:Tc)(X:Cx)(x:Ap)(c:E)(v:VX Γ CL k W T X)(h:Jd (n+1) T x c=Ab):SB X CL W x (fun ρ=>(top ρ c (evE Γ ρ c)).bind BL):=by
 have plain:∀ e,KQ e=Ab->A9 n T e c=Ab->SB X CL W e (fun ρ=>(top ρ c (evE Γ ρ c)).bind BL):=fun e h1 h2=>Ug (S.e W T X e c v h2).st (SK h1)
 simp only[Jd]at h;split at h
 ·split at h
  ·rename_i a;refine SB.ref (Uh (S.b W T X _ a v h)) fun ρ=>?_
   show ((top ρ a (evE Γ ρ a)).bind fun x=>(DK x).bind fun b=>.ok (.bl (!b))).bind BL=.bad\/((top ρ a (evE Γ ρ a)).bind fun x=>(DK x).bind fun b=>.ok (.bl (!b))).bind BL=_
   cases top ρ a (evE Γ ρ a) with
   |bad=>exact .inl rfl
   |exn x=>exact .inr rfl
   |ok d=>cases d<;>first|exact .inr rfl|exact .inl rfl
  ·cases h
 ·split at h
  ·simp only[Aj,Bp,CJ]at h;exact(S.bs W T X _ _ _ v h.1 h.2).1.sb
  ·cases h
 ·split at h
  ·simp only[Aj,Bp,CJ]at h;exact(S.bs W T X _ _ _ v h.1 h.2).2.sb
  ·cases h
 ·split at h
  ·split at h
   ·rename_i op a b _ _ op' y;simp only[Aj,Bp,AT]at h;obtain⟨⟨⟨rfl,h1⟩,h2⟩,h3⟩:=h;refine SB.ref (mU (Lc v.room.units _) (S.e W T X _ a v h2).st (S.e W T X _ b v h3).st h1) fun ρ=>?_
    show ((top ρ a (evE Γ ρ a)).bind fun x=>(top ρ b (evE Γ ρ b)).bind fun y=>BO op' x y).bind BL=.bad\/((top ρ a (evE Γ ρ a)).bind fun x=>(top ρ b (evE Γ ρ b)).bind fun y=>BO op' x y).bind BL=_
    cases top ρ a (evE Γ ρ a) with
    |bad=>exact .inl rfl
    |exn x=>exact .inr rfl
    |ok d=>
     cases top ρ b (evE Γ ρ b) with
     |bad=>exact .inl rfl
     |exn x=>exact .inr rfl
     |ok d'=>
      dsimp only[R.bind];exact Ta _ d d'
   ·cases h
  ·split at h
   ·rename_i op1 op2 a b c _ _ o1 o2 y z;simp only[Aj,Bp,AT]at h;obtain⟨⟨⟨⟨⟨rfl,rfl⟩,h1⟩,h2⟩,h3⟩,h4⟩:=h;refine SB.ref (ZO v.room.units (S.e W T X _ a v h2).st (S.e W T X _ b v h3).st (S.e W T X _ c v h4).st h1) fun ρ=>?_
    show ((top ρ a (evE Γ ρ a)).bind fun x=>(top ρ b (evE Γ ρ b)).bind fun y=>(BO o1 x y).bind fun z=>(DK z).bind fun k=>if k=Ab then (top ρ c (evE Γ ρ c)).bind fun u=>BO o2 y u else .ok (.bl Ae)).bind BL=.bad\/((top ρ a (evE Γ ρ a)).bind fun x=>(top ρ b (evE Γ ρ b)).bind fun y=>(BO o1 x y).bind fun z=>(DK z).bind fun k=>if k=Ab then (top ρ c (evE Γ ρ c)).bind fun u=>BO o2 y u else .ok (.bl Ae)).bind BL=_
    cases top ρ a (evE Γ ρ a) with
    |bad=>exact .inl rfl
    |exn x=>exact .inr rfl
    |ok d=>
     cases top ρ b (evE Γ ρ b) with
     |bad=>exact .inl rfl
     |exn x=>exact .inr rfl
     |ok d'=>
      dsimp only[R.bind];cases BO o1 d d' with
      |bad=>exact .inl rfl
      |exn x=>exact .inr rfl
      |ok d3=>
       cases d3 with
       |bl k=>
        cases k with
        |false=>exact .inr rfl
        |true=>
         dsimp only[R.bind,DK];rw[AG rfl,AG rfl];cases top ρ c (evE Γ ρ c) with
         |bad=>exact .inl rfl
         |exn x=>exact .inr rfl
         |ok d4=>exact Ta _ d' d4
       |_=>exact .inl rfl
   ·cases h
  ·exact bK S v h
  ·cases h
 ·simp only[Aj]at h;exact plain _ h.1 h.2
end
section
variable{Γ:Gam}{CL:ClA}{W:XW}{k n:Ag}{T:Tc}{X:Cx}
theorem uL{b:BI}{x:Ap}(v:VX Γ CL k W T X)(hb:Qp b=Aa g)(hg:isB T g=Ab)(hs:SAT X CL W (x::xs) (fun ρ=>evB Γ ρ as))(h0:DD x=Ab)(hpl:∀ pos,(Bz pos (As xs X.env)).any (·.1)=Ae):OkE Γ CL W X (.Call (.Name g p) (x::xs) [] pos) (.bi b as):=by
 obtain⟨g1,g2,g3,g4⟩:=HZ v hg;cases b<;>simp only[Qp]at hb<;>cases hb
 ·exact F4 (mT nW g1 g2 PySem.boot_len hs g3 g4 (Ch h0) hpl) (fun _ _=>rfl) rfl rfl
 ·exact Qa (jR jF g1 g2 Wz hs g3 g4 (Ch h0) hpl) (fun _ _=>rfl) rfl
 ·exact F4 (mS aF g1 g2 WA hs g3 g4 (Ch h0) hpl) (fun _ _=>rfl) rfl rfl
theorem Lh{l:Ac (Ai×Ag)}(h:inX l g c=Ab):(g,c)∈l:=by
 unfold inX at h;simp only[DM,Aj,AR]at h;obtain⟨p,hp,rfl,rfl⟩:=h;exact hp
theorem KP{x:Ap}{es:Es}(h:chkEs n T (x::xs) es=Ab):DD x=Ab/\∃ e es',es=.cons e es'/\∃ m,n=m+1/\chkEs m T xs es'=Ab:=by
 cases n with
 |zero=>simp[chkEs]at h
 |succ m=>
  cases es with
  |nil=>simp[chkEs]at h
  |cons e es=>
   simp only[chkEs,Aj]at h;exact⟨h.1.1,e,es,rfl,m,rfl,h.2⟩
theorem LZ:∀(m:Ag)(xs:Ac Ap)(es:Es),chkEs m T xs es=Ab->∀ pos,(Bz pos (As xs X.env)).any (·.1)=Ae:=by
 intro m
 induction m with
 |zero=>intro xs es h;simp[chkEs]at h
 |succ m ih=>
  intro xs es h pos;cases xs with
  |nil=>rfl
  |cons x xs=>
   obtain⟨h0,e,es',rfl,m',e1,h1⟩:=KP h;cases e1;exact Q2 h0 (ih xs es' h1 pos)
theorem mW(S:Snd Γ CL k n){x:Ap}{b:BI}(v:VX Γ CL k W T X)(h:(match QU as with|some a=>(match Va x with|some y=>decide (b=.rvs)&&A9 n T y a|none=>Ae)|none=>Ae)=Ab):OkE Γ CL W X x (.bi b as):=by
 simp[QU]at h
theorem kB(S:Snd Γ CL k n){x:Ap}{b:BI}(v:VX Γ CL k W T X)(h:(match Qx as with|some (a,c)=>(match VB x with|some (y,z,_)=>decide (b=.tlt) && !behindInMarks .Lt z&&A9 n T y a&&A9 n T z c|none=>Ae)|none=>Ae)=Ab):OkE Γ CL W X x (.bi b as):=by
 simp[Qx]at h
theorem oP{x:Ap}{b:BI}(v:VX Γ CL k W T X)(h:Vw T x b as=Ab):OkE Γ CL W X x (.bi b as):=by
 exact absurd h Aq
theorem kF(S:Snd Γ CL k n){x:Ap}{b:BI}(v:VX Γ CL k W T X)(h:(match Qy as with|some (a,k)=>(match Vr x with|some (y,j)=>decide (b=.stp)&&decide (j=k)&&decide (0<=k)&&A9 n T y a|none=>Ae)|none=>Ae)=Ab):OkE Γ CL W X x (.bi b as):=by
 simp[Qy]at h
theorem oV(S:Snd Γ CL k n){x:Ap}{b:BI}(v:VX Γ CL k W T X)(h:(match QA as with|some (a,c)=>(match VO x with|some (g,h,y,z)=>decide (b=.list)&&g==("list" : Ai)&&h==("range" : Ai)&&isB T g&&isB T h&&DD y&&DD z&&A9 n T y a&&A9 n T z c|none=>Ae)|none=>Ae)=Ab):OkE Γ CL W X x (.bi b as):=by
 simp[QA]at h
theorem fG(S:Snd Γ CL k n){x:Ap}{b:BI}(v:VX Γ CL k W T X)(h:(match Qz as with|some a=>(match VN x with|some (g,h,y)=>decide (b=.lset)&&g==("len" : Ai)&&h==("set" : Ai)&&isB T g&&isB T h&&DD y&&A9 n T y a|none=>Ae)|none=>Ae)=Ab):OkE Γ CL W X x (.bi b as):=by
 simp[Qz]at h
theorem rH(S:Snd Γ CL k n)(W:XW)(T:Tc)(X:Cx)(x:Ap)(c:E)(v:VX Γ CL k W T X)(h:A9 (n+1) T x c=Ab):OkE Γ CL W X x c:=by
 cases c with
 |non=>
  unfold A9 at h;dsimp only at h;split at h
  ·exact F4 mJ (fun _ _=>rfl) rfl rfl
  ·cases h
 |bl b=>
  unfold A9 at h;dsimp only at h;split at h
  ·have e:=eq_of_beq h;subst e;exact F4 UO (fun _ _=>rfl) rfl rfl
  ·cases h
 |int i=>
  unfold A9 at h;dsimp only at h;split at h
  ·have e:=Ga h;subst e;exact F4 mP (fun _ _=>rfl) rfl rfl
  ·cases h
 |str i=>
  unfold A9 at h;dsimp only at h;split at h
  ·have e:=Ga h;subst e;exact F4 TV (fun _ _=>rfl) rfl rfl
  ·cases h
 |var i=>
  unfold A9 at h;dsimp only at h;split at h
  ·exact⟨TR (HY v h),JH (HY v h),fun z=>(nomatch z),fun z=>(nomatch z)⟩
  ·cases h
 |glob g=>
  unfold A9 at h;dsimp only at h;split at h
  ·simp only[Aj]at h;obtain⟨⟨h1,h2⟩,h3⟩:=h;obtain⟨u,w',m1,m2,m3⟩:=v.gl _ (Lh h1);obtain⟨n2,_,_⟩:=Hr h3;refine F4 (fun A=>PE.weak (Po (by unfold glB at h2;show X.env.scope.names.lookup _=_;rw[v.sc];exact eq_of_beq h2) m1 m2 n2) fun σ H Q ⟨hA,ρ,gd,p⟩=>?_) (fun _ _=>rfl) rfl rfl
   exact p w' H (AH.refl H) (m3 H A)
  ·cases h
 |bin op a b=>
  unfold A9 at h;dsimp only at h;split at h
  ·simp only[Aj,AT]at h;obtain⟨⟨rfl,h1⟩,h2⟩:=h;have ha:=(S.e W T X _ a v h1).st;have hb:=(S.e W T X _ b v h2).st;refine⟨PN (Pp _) ha hb,(PN (Pp _) ha hb).st,fun z=>?_,fun z=>nomatch z⟩
   rename_i op' _ _;cases op'<;>first|exact jS ha hb|cases z
  ·cases h
 |un op a=>exact absurd (show Ae=Ab from h) Aq
 |no a=>
  unfold A9 at h;dsimp only at h;split at h
  ·exact F4 (TW (S.e W T X _ a v h).st) (fun _ _=>rfl) rfl rfl
  ·cases h
 |and es=>
  unfold A9 at h;dsimp only at h;split at h
  ·simp only[Aj,Bp,CJ]at h;exact F4 ((S.es W T X _ es v h.1).2.2.2.1 _ h.2).1 (fun _ _=>rfl) rfl rfl
  ·cases h
 |or es=>
  unfold A9 at h;dsimp only at h;split at h
  ·simp only[Aj,Bp,CJ]at h;exact F4 ((S.es W T X _ es v h.1).2.2.2.1 _ h.2).2 (fun _ _=>rfl) rfl rfl
  ·cases h
 |cmp op a b=>
  unfold A9 at h;dsimp only at h;split at h
  ·simp only[Aj,Bp,AT]at h;obtain⟨⟨⟨rfl,h1⟩,h2⟩,h3⟩:=h;exact F4 (mR (Lc v.room.units _) (S.e W T X _ a v h2).st (S.e W T X _ b v h3).st h1) (fun _ _=>rfl) rfl rfl
  ·cases h
 |cmp2 op1 op2 a b c=>
  unfold A9 at h;dsimp only at h;split at h
  ·simp only[Aj,Bp,AT]at h;obtain⟨⟨⟨⟨⟨rfl,rfl⟩,h1⟩,h2⟩,h3⟩,h4⟩:=h;exact F4 (ZM v.room.units (S.e W T X _ a v h2).st (S.e W T X _ b v h3).st (S.e W T X _ c v h4).st h1) (fun _ _=>rfl) rfl rfl
  ·cases h
 |ite c a b=>exact absurd (show Ae=Ab from h) Aq
 |call f as=>
  unfold A9 at h;dsimp only at h;split at h
  ·rename_i g pp y ys qq;simp only[Aj,DM,AR,AT]at h;obtain⟨⟨⟨⟨⟨p,hp,⟨rfl,rfl⟩,hl⟩,h900⟩,h1⟩,h2⟩,h3⟩:=h;obtain⟨fa,fd,ps,m1,m2,m3,m4,m5,_⟩:=v.fn p hp;have hlt:p.2.2<1000:=by omega
   rw[HL hlt]at m4 m5;have m5:=m5 hlt;obtain⟨n2,n3,n4⟩:=Hr h2;obtain⟨a1,a2,a3,a4,a5⟩:=S.es W T X _ as v h3;obtain⟨s0,e,es',rfl,m,rfl,s1⟩:=KP h3;have q:SC X CL W (Γ.fr p.2.1) (.Call (.Name p.1 pp) (y::ys) [] qq) (fun ρ=>evE Γ ρ (.call p.2.1 (.cons e es'))):=cY (sh:=fun ρ=>Ie ρ (.cons e es')) m5 v.room (by unfold glB at h1;show X.env.scope.names.lookup p.1=_;rw[v.sc];exact eq_of_beq h1) m1 m2 m3 v.px a1 a2 (fun ρ z=>Mz Γ ρ _ z) (fun ρ ds z=>by rw[Mr Γ ρ _ _ z,<-a3,hl];rfl) n2 (Ch s0) (LZ m ys es' s1)
   exact⟨q.se,q.se.st,fun z=>by
    have z':Γ.fr p.2.1=Ab:=z;rw[z']at q;exact q,fun z=>nomatch z⟩
  ·cases h
 |bi b as=>
  unfold A9 at h;dsimp only at h;simp only[B9]at h;rcases h with (((((h|h)|h)|h)|h)|h)|h
  ·split at h
   ·simp only[Aj,AR]at h;obtain⟨⟨h1,h2⟩,h3⟩:=h;obtain⟨s0,e,es',rfl,m,rfl,s1⟩:=KP h3;exact uL v h1 h2 (S.es W T X _ _ v h3).2.1 s0 (LZ m _ es' s1)
   ·cases h
  ·exact oP v h
  ·exact oV S v h
  ·exact kF S v h
  ·exact fG S v h
  ·exact kB S v h
  ·exact mW S v h
 |isi a ks=>
  cases ks with
  |nil=>exact absurd (show Ae=Ab from h) Aq
  |cons k' ks=>
   cases ks with
   |cons=>exact absurd (show Ae=Ab from h) Aq
   |nil=>
    unfold A9 at h;dsimp only at h;split at h
    ·simp only[Aj,AR]at h;obtain⟨⟨⟨⟨⟨rfl,h1⟩,h2⟩,h3⟩,h4⟩,h5⟩:=h;obtain⟨g1,g2,_,_⟩:=HZ v h1;obtain⟨b1,b2,b3,b4⟩:=HZ v h3;obtain⟨ty,t1,t2⟩:=uK h2;exact F4 (mM t1 g1 g2 b1 b2 t2 b3 b4 (S.e W T X _ a v h5).st (Ch h4)) (fun _ _=>rfl) rfl rfl
    ·cases h
 |idx a i=>
  unfold A9 at h;dsimp only at h;split at h
  ·simp only[Aj]at h;obtain⟨⟨h1,h2⟩,h3⟩:=h;exact F4 (mQ v.room.units (ZK h1) (S.e W T X _ a v h2).st (S.e W T X _ i v h3).st) (fun _ _=>rfl) rfl rfl
  ·cases h
 |sl a lo hi=>
  unfold A9 at h;dsimp only at h;split at h
  ·simp only[Aj]at h;obtain⟨⟨h1,h2⟩,h3⟩:=h;refine Qa (SC.congr (rK (S.e W T X _ a v h1).st (S.o W T X _ lo v h2) (S.o W T X _ hi v h3)) fun ρ=>?_) (fun _ _=>rfl) rfl
   show ((top ρ a (evE Γ ρ a)).bind fun x=>(top ρ lo (evE Γ ρ lo)).bind fun l=>(slE lo l).bind fun l'=>(top ρ hi (evE Γ ρ hi)).bind fun h=>(slE hi h).bind fun h'=>slD x l' h')=_
   simp only[R.bind_assoc]
  ·cases h
 |tup es=>
  unfold A9 at h;dsimp only at h;split at h
  ·simp only[Aj,AT]at h;have q:=S.es W T X _ es v h.1;exact F4 (TU q.1 fun ρ ds z=>by rw[Kc Γ ρ _ _ z,<-q.2.2.1];omega) (fun _ _=>rfl) rfl rfl
  ·cases h
 |lst es=>
  unfold A9 at h;dsimp only at h;split at h
  ·simp only[Aj,AT]at h;have q:=S.es W T X _ es v h.1;exact Qa (PK q.1 fun ρ ds z=>by rw[Kc Γ ρ _ _ z,<-q.2.2.1];omega) (fun _ _=>rfl) rfl
  ·cases h
 |comp elt t it c=>
  unfold A9 at h;dsimp only at h;split at h
  ·simp only[Aj]at h;obtain⟨⟨⟨⟨⟨h1,h2⟩,h3⟩,h4⟩,h5⟩,h6⟩:=h;refine UN v.calm ⟨_,_,_,_,_,_,_,_,_,_,_,_,_,rfl,(Qd v h3).1,S.i W T X Ae _ _ it v rfl h1,eU t,fun cl C s H fp=>dS (v.blk h3) (fun z=>AR.mpr z) h4,fun cl C s H fp=>S.t _ _ _ c (v.blk h3) h5,fun cl C s H fp=>(S.e W0 _ _ _ elt (v.blk h3) h6).se,Nv h2,fun ρ=>rfl⟩ (fun _ _=>rfl)
  ·cases h
 |compT elt ts it c=>
  unfold A9 at h;dsimp only at h;split at h
  ·simp only[Aj]at h;obtain⟨⟨⟨⟨⟨⟨h0,h1⟩,h2⟩,h3⟩,h4⟩,h5⟩,h6⟩:=h;refine UN v.calm ⟨_,_,_,_,_,_,_,_,_,_,_,_,_,rfl,(Qd v h3).1,S.i W T X Ab _ _ it v rfl h1,pM ts,fun cl C s H fp=>dX (v.blk h3) h0 h4,fun cl C s H fp=>S.t _ _ _ c (v.blk h3) h5,fun cl C s H fp=>(S.e W0 _ _ _ elt (v.blk h3) h6).se,Nv h2,fun ρ=>rfl⟩ (fun _ _=>rfl)
  ·cases h
 |tupI it=>exact absurd (show Ae=Ab from h) Aq
 |dget i a c=>
  unfold A9 at h;dsimp only at h;cases q:xMt x with
  |none=>rw[q]at h;cases h
  |some t=>
   obtain⟨x,m,y,z⟩:=t;rw[q]at h;simp only[Aj,AR]at h;obtain⟨⟨⟨⟨⟨rfl,h1⟩,h2⟩,h3⟩,h4⟩,h5⟩:=h;obtain⟨p,ap,cp,rfl,hl⟩:=PV q;have hu:=v.room.units;exact F4 (cW (by omega) (HY v h1) (S.e W T X _ a v h4).st (S.e W T X _ c v h5).se rfl (by rw[Ch h2,Ch h3];rfl) (by rw[hl];exact Cy _) (Ch h2) (Ch h3) (by rw[Ch h3];rfl)) (fun _ _=>rfl) rfl rfl
 |fld o f=>exact absurd (show Ae=Ab from h) Aq
theorem snd:∀ n,Snd Γ CL k n
 |0=>ZJ
 |n+1=>⟨rH (snd n),rJ (snd n),kI (snd n),kH (snd n),rF (snd n),rD (snd n),rG (snd n)⟩
end
section
variable{Γ:Gam}{CL:ClA}{W:XW}{k n:Ag}{T:Tc}{X:Cx}
theorem dW{t:Ag}(v:VX Γ CL k W T X)(hf:∀ x,X.fn x=Ab)(h:tgC T [t] [x]=Ab):PG X (.Name x pos) (Fv t):=by
 unfold tgC at h;simp only[Aj,AR]at h;exact Mo (by rw[v.N];exact v.nd) (by rw[v.N];exact h.1.1) (by rw[v.sc];exact Kb h.1.2) (.inl (hf x))
theorem SJ(v:VX Γ CL k W T X)(hf:∀ x,X.fn x=Ab):∀(ys:Ac Ap)(ts:Ac Ag)(zs:Ac Ai),Fs ys=Aa zs->tgC T ts zs=Ab->PGs X ys (ts.foldr (fun t u=>Ib (Fv t) u) Ii)/\ts.length=ys.length:=by
 intro ys
 induction ys with
 |nil=>
  intro ts zs e h;cases e;cases ts with
  |nil=>exact⟨Tl,rfl⟩
  |cons t ts=>cases h
 |cons y r ih=>
  intro ts zs e h;obtain⟨x,p,ws,rfl,e2,rfl⟩:=Ow e;cases ts with
  |nil=>cases h
  |cons t ts=>
   have h':(T.N[t]? == Aa x&&Jj T x&&tgC T ts ws)=Ab:=h;simp only[Aj,AR]at h';obtain⟨h1,h2⟩:=ih ts ws e2 h'.2;exact⟨Se (Mo (by rw[v.N];exact v.nd) (by rw[v.N];exact h'.1.1) (by rw[v.sc];exact Kb h'.1.2) (.inl (hf x))) h1 (by rw[OY];rfl),congrArg (· + 1) h2⟩
theorem dU(v:VX Γ CL k W T X)(hf:∀ x,X.fn x=Ab)(hn:(Fs ys).isSome=Ab)(h:tgC T ts (tgN ys)=Ab):PG X (.Tuple ys kk pos) (LB X.K ts.length (ts.foldr (fun t u=>Ib (Fv t) u) Ii)):=by
 cases e:Fs ys with
 |none=>rw[e]at hn;cases hn
 |some zs=>
  have e2:tgN ys=zs:=by unfold tgN;rw[e];rfl
  rw[e2]at h;obtain⟨h1,h2⟩:=SJ v hf ys ts zs e h;obtain⟨h3,h4,_⟩:=Ou (env:=X.env) ys zs e;exact P8 v.calm h1 (by rw[h3,h2]) h4
theorem kC(v:VX Γ CL k W T X)(hf:∀ x,X.fn x=Ab)(hn:(Fs ys).isSome=Ab)(h:tgC T ts (tgN ys)=Ab):PG X (.Tuple ys kk pos) (gSq X.K ts.length (ts.foldr (fun t u=>Ib (Fv t) u) Ii)):=by
 cases e:Fs ys with
 |none=>rw[e]at hn;cases hn
 |some zs=>
  have e2:tgN ys=zs:=by unfold tgN;rw[e];rfl
  rw[e2]at h;obtain⟨h1,h2⟩:=SJ v hf ys ts zs e h;obtain⟨h3,h4,_⟩:=Ou (env:=X.env) ys zs e;exact rV v.calm h1 (by rw[h3,h2]) h4
theorem jZ{e:Ap}(h:(UL e||C8 4 ys.length)=Ab):Fj [.Tuple ys kk pos] e env=pure Ad:=by
 cases e with
 |Tuple vs a b=>
  have h4:=EV (show C8 4 ys.length=Ab from h)
  have e2:(ys.length==2)=Ae:=by rw[CI];omega
  have e3:(ys.length==3)=Ae:=by rw[CI];omega
  unfold Fj;dsimp only;rw[e2,e3];rfl
 |_=>rfl
theorem Rx(ts:Ac Ag):∀ d ρ x,E3 ts d ρ≠.exn x:=fun d ρ x h=>by
 unfold E3 at h;cases d with
 |tup xs=>
  dsimp only at h;cases e:DX ts xs ρ with
  |some r=>rw[e]at h;cases h
  |none=>rw[e]at h;cases h
 |_=>cases h
theorem ZZ(ts:Ac Ag):∀ d ρ x,H9 ts d ρ≠.exn x:=fun d ρ x h=>by
 unfold H9 at h;split at h
 ·split at h<;>cases h
 ·exact Rx ts _ ρ x h
theorem ZF{elt:Ap}{gs:Ac Comprehension}:∃ b,Cn (.ListComp elt gs scope pos) (Aa (.Name x pos')) l env=pure b/\(b=Ab->env.scope.names.lookup x=Aa .local):=by
 refine⟨_,rfl,fun h=>?_⟩
 simp only[Aj,AR]at h;exact h.1.1.2
theorem PQ{v0:Ap}{i:Ag}{e:E}(v:VX Γ CL k W T X)(hf:∀ x,X.fn x=Ab)(hi:T.N[i]?=Aa x)(hl:Jj T x=Ab)(o:OkE Γ CL W X v0 e)(hfr:fr=Ab->Dh Γ e=Ab):SAs X CL W fr i (.Assign [.Name x p] v0 pos) (fun ρ=>evE Γ ρ e):=by
 have hN:X.N.Nodup:=by rw[v.N];exact v.nd
 have hi':X.N[i]?=Aa x:=by rw[v.N];exact hi
 have hx:Loc X.env.scope x:=by rw[v.sc];exact Kb hl
 have sc:SC X CL W fr v0 (fun ρ=>evE Γ ρ e):=by
  cases fr with
  |false=>exact o.se.sc
  |true=>exact o.nw (hfr rfl)
 cases hc:Km v0 with
 |true=>exact SC.sas hN hi' hx sc (K7 hc) (.inl (hf x))
 |false=>
  obtain⟨tg,iter,elt,ifs,scope,pos2,N',ts,fi,fc,fe,as,g,rfl,B,h2,hGG,hg,ht,he,hs,ef⟩:=o.cp hc;obtain⟨b,hb,hb'⟩:=ZF (elt:=elt) (gs:=[⟨tg,iter,ifs,0⟩]) (scope:=scope) (pos:=pos2) (pos':=p) (x:=x) (l:=pos.line) (env:=X.env);cases b with
  |false=>exact SC.sas hN hi' hx sc hb (.inl (hf x))
  |true=>
   have q:=ZP (pos2:=pos) v.calm B h2 hGG hg ht he hs hN hi' (hb' rfl) hb;have q':SAs X CL W Ab i (.Assign [.Name x p] (.ListComp elt [⟨tg,iter,ifs,0⟩] scope pos2) pos) (fun ρ=>evE Γ ρ e):=by
    have:(fun ρ=>evE Γ ρ e)=_:=funext ef
    rw[this];exact q
   cases fr with
   |true=>exact q'
   | false=>exact fun A=>PS.weak (q' A) fun D σ H ⟨hA,ρ,gd,z⟩=>⟨hA,ρ,gd,by
     dsimp only at z ⊢;cases e0:evE Γ ρ e with
     |ok d=>
      rw[e0]at z;exact fun v' H' s' r'=>z v' H' s' ⟨r'.1,fun _=>r'.2 rfl⟩
     |exn y=>rw[e0]at z;exact z
     | bad=>rw[e0]at z;exact z⟩
theorem Pi{e t:Ap}(h:∀ x p,t≠.Name x p):Gm [t] e l env=pure Ae:=by
 show Cn e (Aa t) l env=pure Ae;cases e<;>first|rfl|(cases t<;>first|rfl|exact absurd rfl (h _ _))
theorem RI(ρ:Rho)(e:E)(h:∀ i,e≠.var i):evS Γ ρ (.ret e)=O.of ρ (evE Γ ρ e) fun d=>.ret d (Dh Γ e):=by
 cases e<;>first|exact absurd rfl (h _)|(simp only[evS,top,Hn])
structure DefX (X:Cx):Prop where
 fn:∀ x,X.fn x=Ab
 ex:X.ex=[]
 st:X.stack=X.env::X.outer
 fm:X.env.frame=Aa X.env.locals
structure SndS (Γ:Gam) (CL:ClA) (k:Ag) (n:Ag):Prop where
 s:∀(W:XW)(T:Tc)(X:Cx)(x:Be)(c:S),VX Γ CL k W T X->DefX X->EN n T x c=Ab->SS X CL W x (fun ρ=>evS Γ ρ c)
 ss:∀(W:XW)(T:Tc)(X:Cx)(x:Ac Be)(c:Ss),VX Γ CL k W T X->DefX X->chkSs n T x c=Ab->SSs X CL W x (fun ρ=>evSs Γ ρ c)
theorem fS(x y:D)(e:Ex):DQ x y≠.exn e:=by
 intro z;cases x with
 |lst xs=>cases y<;>first|exact Nb z|cases z
 |tup xs=>cases y<;>first|exact Nb z|cases z
 |dic kvs=>
  have z':(match (DI y).bind (Fu kvs) with|some d=>R.ok d|none=>.bad)=.exn e:=z
  cases h:(DI y).bind (Fu kvs) with
  |none=>rw[h]at z';cases z'
  |some k=>rw[h]at z';cases z'
 |_=>cases z
theorem S6{i:Ag}:Dm ρ i≠.exn y:=fun z'=>by
 unfold Dm at z';split at z'<;>cases z'
theorem M6(Γ:Gam)(ρ:Rho)(e:E)(h:NZ e=Ab)(y:Ex):top ρ e (evE Γ ρ e)≠.exn y:=by
 cases e with
 |var i=>
  intro z;have z':Dm ρ i=.exn y:=z;unfold Dm at z';split at z'<;>cases z'
 |idx a b=>
  cases a with
  |var i=>
   cases b with
   |int j=>
    intro z;have z':(Dm ρ i).bind (fun x=>DQ x (.int j))=.exn y:=z
    cases e1:Dm ρ i with
    |bad=>rw[e1]at z';cases z'
    |exn w=>exact S6 e1
    |ok d=>rw[e1]at z';exact fS _ _ _ z'
   |_=>exact absurd (show Ae=Ab from h) Aq
  |_=>exact absurd (show Ae=Ab from h) Aq
 |bin op a b=>
  have h:(Vt op&&QM a b)=Ab:=h;rw[Aj]at h;obtain⟨h0,h⟩:=h;cases op with
  |Sub=>
   cases a with
   |var i=>
    cases b with
    |int j=>
     intro z;have z':(Dm ρ i).bind (fun x=>CV .Sub x (.int j))=.exn y:=z
     cases e1:Dm ρ i with
     |bad=>rw[e1]at z';cases z'
     |exn w=>exact S6 e1
     |ok d=>rw[e1]at z';cases d<;>cases z'
    |_=>exact absurd (show Ae=Ab from h) Aq
   |_=>exact absurd (show Ae=Ab from h) Aq
  |_=>exact absurd (show Ae=Ab from h0) Aq
 |int i=>intro z;cases z
 |bl i=>intro z;cases z
 |str i=>intro z;cases z
 |non=>intro z;cases z
 |_=>cases h
theorem ON(Γ:Gam)(ρ:Rho):∀(es:Es),Lr es=Ab->∀ y,evB Γ ρ es≠.exn y
 |.nil,_,y=>fun z=>by cases z
 |.cons e es,h,y=>fun z=>by
  unfold Lr at h;rw[Aj]at h;rw[O3]at z;cases e1:top ρ e (evE Γ ρ e) with
  |bad=>rw[e1]at z;cases z
  |exn w=>exact M6 Γ ρ e h.1 w e1
  |ok d=>
   rw[e1,R.bind_ok]at z;cases e2:evB Γ ρ es with
   |bad=>rw[e2]at z;cases z
   |exn w=>exact ON Γ ρ es h.2 w e2
   |ok ds=>rw[e2]at z;cases z
theorem VX.pw(v:VX Γ CL k W T X)(own:EG (model X.prog X.w) X.A X.env Xw):VX Γ CL k W0 T (Cx.pw X pI Xw):=⟨v.sc,v.kd,v.N,v.nd,v.calm,v.room,v.bl,v.fn,own,P9,QJ,v.xt,v.gl⟩
theorem Rr(o:O):(o.seq fun ρ'=>O.next ρ')=o:=by cases o<;>rfl
theorem STB.congr{st:Ac Be}{f g:Rho->O}(h:STB X CL st f)(e:∀ ρ,g ρ=f ρ):STB X CL st g:=by
 have:g=f:=funext e;rw[this];exact h
theorem T8(Sn:Snd Γ CL k n)(v:VX Γ CL k W T X)(hf:DefX X){st:Be}{s:S}(h:Nx n T st s=Ab):STB X CL [st] (fun ρ=>evSs Γ ρ (.cons s .nil))/\∀ ρ y ρ',evSs Γ ρ (.cons s .nil)=.exn y ρ'->ρ'=ρ:=by
 have seq:∀ ρ,evSs Γ ρ (.cons s .nil)=evS Γ ρ s:=fun ρ=>Rr _
 have ofn:∀{r:R D}{f:D->Rho}{ρ ρ':Rho}{y:Ex},(O.of ρ r fun d=>O.next (f d))=.exn y ρ'->ρ'=ρ:=fun {r f ρ ρ' y} z=>by
  cases r with
  |ok d=>cases z
  |exn w=>cases z;rfl
  |bad=>cases z
 have call:∀{e:Ap}{f:Ag}{as:Es},A9 n T e (.call f as)=Ab->Lr as=Ab->∃ g pp y ys qq,e=.Call (.Name g pp) (y::ys) [] qq/\∃ p∈T.fns,g=p.1/\f=p.2.1/\p.2.2=ys.length+1/\ys.length<900/\glB T g=Ab/\Hw g=Ab/\∃ m,n=m+1/\chkEs m T (y::ys) as=Ab:=fun {e f as} h _=>by
  cases n with
  |zero=>exact absurd (show Ae=Ab from h) Aq
  |succ m=>
   unfold A9 at h;dsimp only at h;split at h
   ·rename_i g pp y ys qq;simp only[Aj,DM,AR,AT]at h;obtain⟨⟨⟨⟨⟨p,hp,⟨e1,e2⟩,hl⟩,h900⟩,h1⟩,h2⟩,h3⟩:=h;exact⟨g,pp,y,ys,qq,rfl,p,hp,e1.symm,e2.symm,hl,h900,h1,h2,m,rfl,h3⟩
   ·cases h
 unfold Nx at h;split at h
 ·split at h
  ·rename_i f as v0 pos;rw[Aj]at h;obtain⟨g,pp,y,ys,qq,rfl,p,hp,rfl,rfl,hl,h900,h1,h2,m,rfl,h3⟩:=call h.1 h.2;obtain⟨fa,fd,ps,m1,m2,m3,m4,m5,_⟩:=v.fn p hp;have hlt:p.2.2<1000:=by omega
   rw[HL hlt]at m4 m5;have m5:=m5 hlt;obtain⟨n2,n3,n4⟩:=Hr h2;obtain⟨s0,e,es',rfl,m',rfl,s1⟩:=KP h3;have hlen:ys.length+1=(Es.cons e es').len:=(snd (Γ:=Γ) (CL:=CL) (k:=k) (m'+1)).es W T X _ _ v h3 |>.2.2.1;refine⟨STB.congr (ZG (X:=X) (fs:=fun ρ=>evA Γ ρ (.cons e es')) (sh:=fun ρ=>Ie ρ (.cons e es')) hf.ex m5 v.room (by unfold glB at h1;show X.env.scope.names.lookup p.1=_;rw[v.sc];exact eq_of_beq h1) m1 m2 m3 (fun ρ z=>Mz Γ ρ _ z) (fun ρ ds z=>by rw[Mr Γ ρ _ _ z,<-hlen,hl]) (fun ρ=>ON Γ ρ _ h.2) n2 (Ch s0) (LZ m' ys es' s1) (fun pI Xw own=>by
    obtain⟨a1,a2,_⟩:=(snd (Γ:=Γ) (CL:=CL) (k:=k) (m'+1)).es W0 T (Cx.pw X pI Xw) _ _ (v.pw own) h3;exact⟨a1,a2⟩) (K7 rfl)) fun ρ=>seq ρ,fun ρ y ρ' z=>?_⟩
   rw[seq]at z;exact ofn (f:=fun _=>ρ) z
  ·cases h
 ·split at h
  ·skip
   rename_i i f as st0 y0 p0 v0 pos;simp only[Aj,AR]at h;obtain⟨⟨⟨i1,i2⟩,hc⟩,hsim⟩:=h;obtain⟨g,pp,y,ys,qq,rfl,p,hp,rfl,rfl,hl,h900,h1,h2,m,rfl,h3⟩:=call hc hsim;obtain⟨fa,fd,ps,m1,m2,m3,m4,m5,_⟩:=v.fn p hp;have hlt:p.2.2<1000:=by omega
   rw[HL hlt]at m4 m5;have m5:=m5 hlt;obtain⟨n2,n3,n4⟩:=Hr h2;obtain⟨s0,e,es',rfl,m',rfl,s1⟩:=KP h3;have hlen:ys.length+1=(Es.cons e es').len:=(snd (Γ:=Γ) (CL:=CL) (k:=k) (m'+1)).es W T X _ _ v h3 |>.2.2.1;refine⟨STB.congr (eG (X:=X) (fs:=fun ρ=>evA Γ ρ (.cons e es')) (sh:=fun ρ=>Ie ρ (.cons e es')) (i:=i) hf.ex m5 v.room (by unfold glB at h1;show X.env.scope.names.lookup p.1=_;rw[v.sc];exact eq_of_beq h1) m1 m2 m3 (fun ρ z=>Mz Γ ρ _ z) (fun ρ ds z=>by rw[Mr Γ ρ _ _ z,<-hlen,hl]) (fun ρ=>ON Γ ρ _ hsim) n2 (Ch s0) (LZ m' ys es' s1) (fun pI Xw own=>by
    obtain⟨a1,a2,_⟩:=(snd (Γ:=Γ) (CL:=CL) (k:=k) (m'+1)).es W0 T (Cx.pw X pI Xw) _ _ (v.pw own) h3;exact⟨a1,a2⟩) (by rw[v.N];exact v.nd) (by rw[v.N];exact i1) (by rw[v.sc];exact Kb i2) (.inl (hf.fn _)) (K7 rfl)) fun ρ=>seq ρ,fun ρ y ρ' z=>?_⟩
   rw[seq]at z;exact ofn (f:=fun d=>ρ.set i (Aa (d,Ae))) z
  ·cases h
 ·cases h
theorem Le{c:Prop}[FE c]{e:Ex}:(if c then R.ok d else .bad)≠.exn e:=by
 by_cases h:c
 ·rw[AG h];intro z;cases z
 ·rw[AI h];intro z;cases z
theorem jG(op:EF)(x y:D)(e:Ex):BO op x y≠.exn e:=by
 cases op with
 |Eq=>exact Le
 |NotEq=>exact Le
 |In=>
  cases y with
  |lst ys=>exact Le
  |tup ys=>exact Le
  |dic kvs=>
   intro z;have z':(match DI x with|some k=>R.ok (D.bl (kvs.any fun p=>p.1==k))|none=>.bad)=.exn e:=z
   cases h:DI x with
   |none=>rw[h]at z';cases z'
   |some k=>rw[h]at z';cases z'
  |_=>intro z;cases z
 |NotIn=>
  cases y with
  |lst ys=>exact Le
  |tup ys=>exact Le
  |dic kvs=>
   intro z;have z':(match DI x with|some k=>R.ok (D.bl (!kvs.any fun p=>p.1==k))|none=>.bad)=.exn e:=z
   cases h:DI x with
   |none=>rw[h]at z';cases z'
   |some k=>rw[h]at z';cases z'
  |_=>intro z;cases z
 |_=>cases x<;>first|(intro z;cases z;done)|(cases y<;>(intro z;cases z))
theorem bG(x:D)(e:Ex):BL x≠.exn e:=by
 unfold BL;split<;>first|(intro z;cases z;done)|(split<;>intro z<;>cases z)
theorem RE(Γ:Gam)(ρ:Rho)(c:E)(h:QL c=Ab)(y:Ex):(top ρ c (evE Γ ρ c)).bind BL≠.exn y:=by
 have key:∀ e,top ρ c (evE Γ ρ c)≠.exn e:=by
  cases c with
  |var i=>exact M6 Γ ρ (.var i) rfl
  |cmp op a b=>
   unfold QL at h;rw[Aj]at h;intro e z;have z':((top ρ a (evE Γ ρ a)).bind fun x=>(top ρ b (evE Γ ρ b)).bind fun y=>BO op x y)=.exn e:=by
    have e0:evE Γ ρ (.cmp op a b)=((top ρ a (evE Γ ρ a)).bind fun x=>(top ρ b (evE Γ ρ b)).bind fun y=>BO op x y):=fC Γ ρ op a b
    rw[<-e0];exact z
   cases e1:top ρ a (evE Γ ρ a) with
   |bad=>rw[e1]at z';cases z'
   |exn w=>exact M6 Γ ρ a h.1 w e1
   |ok d=>
    rw[e1,R.bind_ok]at z';cases e2:top ρ b (evE Γ ρ b) with
    |bad=>rw[e2]at z';cases z'
    |exn w=>exact M6 Γ ρ b h.2 w e2
    |ok d2=>rw[e2,R.bind_ok]at z';exact jG _ _ _ _ z'
  |_=>cases h
 intro z;cases e1:top ρ c (evE Γ ρ c) with
 |bad=>rw[e1]at z;cases z
 |exn w=>exact key w e1
 |ok d=>rw[e1,R.bind_ok]at z;exact bG _ _ z
theorem pU(Sn:Snd Γ CL k n)(v:VX Γ CL k W T X)(hf:DefX X):∀(m:Ag){st:Be}{s:S},Lp m n T st s=Ab->STB X CL [st] (fun ρ=>evSs Γ ρ (.cons s .nil))/\∀ ρ y ρ',evSs Γ ρ (.cons s .nil)=.exn y ρ'->ρ'=ρ:=by
 intro m
 induction m with
 |zero=>intro st s h;unfold Lp at h;exact T8 Sn v hf h
 |succ m ih=>
  intro st s h;unfold Lp at h;rw[B9]at h;rcases h with h|h
  ·exact T8 Sn v hf h
  ·split at h
   ·split at h
    ·rename_i c a b st0 t xs ys pos;simp only[Aj]at h;obtain⟨⟨⟨h1,h2⟩,h3⟩,h4⟩:=h;obtain⟨a1,a2⟩:=ih h3;obtain⟨b1,b2⟩:=ih h4;have ev:∀ ρ,evSs Γ ρ (.cons (.ife c (.cons a .nil) (.cons b .nil)) .nil)=O.of ρ ((top ρ c (evE Γ ρ c)).bind BL) fun k=>if k=Ab then evSs Γ ρ (.cons a .nil) else evSs Γ ρ (.cons b .nil):=fun ρ=>Rr _
     refine⟨STB.congr (eF (fun pI Xw own=>(Sn.b W0 T (Cx.pw X pI Xw) _ _ (v.pw own) h1)) (fun ρ y=>RE Γ ρ c h2 y) a1 b1) fun ρ=>ev ρ,fun ρ y ρ' z=>?_⟩
     rw[ev]at z;cases e1:(top ρ c (evE Γ ρ c)).bind BL with
     |bad=>rw[e1]at z;cases z
     |exn w=>exact absurd e1 (RE Γ ρ c h2 w)
     |ok k=>
      rw[e1,O.of_ok]at z;cases k with
      |true=>exact a2 ρ y ρ' z
      |false=>exact b2 ρ y ρ' z
    ·cases h
   ·cases h
theorem JD{i:Ag}{e:Ah}(v:VX Γ CL k W T X)(h:isV T x i=Ab):PE (Cx.hot X e) (.Name x pos) (E5 i):=by
 unfold isV at h;simp only[Aj,AR]at h;obtain⟨h2,h3,_⟩:=Hr h.2;exact NB (by show X.N[i]?=_;rw[v.N];exact h.1.1) (by show Vis X.env.scope x;rw[v.sc];exact S4 h.1.2) h2 h3
theorem P3{x:Ag}{t:Ap}{c:E}:∀{n:Ag},CK n T x t c=Ab->∀ ρ r,top ρ c r=r:=fun {n} h=>by
 cases n with
 |zero=>simp[CK]at h
 |succ n=>
  cases c with
  |var i=>simp[CK]at h
  |_=>exact fun _ _=>rfl
theorem aE(v:VX Γ CL k W T X)(e:Ah):∀(ts:Ac Ap)(ks:Ac Ki),JL T ts ks=Ab->∃ cs:Ac (Ag×Ah),ks=cs.map (fun q=>Ki.cls q.1)/\cs.length=ts.length/\PA (Cx.hot X e) ts (Vp (cs.map fun q:Ag×Ah=>q.2))/\∀ q∈cs,MB X.K CL Γ.up q.1 q.2:=by
 intro ts
 induction ts with
 |nil=>
  intro ks h;cases ks with
  |nil=>exact⟨[],rfl,rfl,Ft,fun q hq=>nomatch hq⟩
  |cons k ks=>simp[JL]at h
 |cons t ts ih=>
  intro ks h;cases t with
  |Name t p=>
   cases ks with
   |nil=>simp[JL]at h
   |cons kk ks=>
    cases kk with
    |cls c=>
     simp only[JL,Aj]at h;obtain⟨⟨⟨h1,h2⟩,h3⟩,h4⟩:=h;obtain⟨cs,e1,e2,e3,e4⟩:=ih ks h4;obtain⟨C,m1,m3,_⟩:=v.xt.ex _ (Lh h1);obtain⟨n2,_,_⟩:=Hr h3;refine⟨(c,C)::cs,by rw[e1];rfl,by rw[Bs,Bs,e2],?_,fun q hq=>?_⟩
     ·exact DH (Po (X:=Cx.hot X e) (v:=.ref C) (by unfold glB at h2;show X.env.scope.names.lookup t=_;rw[v.sc];exact eq_of_beq h2) m1 rfl n2) e3 rfl
     ·rcases AD.mp hq with rfl|hq
      ·exact m3
      ·exact e4 q hq
    |_=>simp[JL]at h
  |_=>simp[JL]at h
theorem NV{e:Ah}{f:Ap->E->Ao}(ih:∀ t c,f t c=Ab->SE (Cx.hot X e) CL W0 t (fun ρ=>evE Γ ρ c)):∀(xs:Ac Ap)(es:Es),MI f xs es=Ab->SA (Cx.hot X e) CL W0 xs (fun ρ=>evA Γ ρ es)/\xs.length=es.len
 |[],.nil,_=>⟨PB,rfl⟩
 |[],.cons _ _,h=>nomatch (show Ae=Ab from h)
 |_::_,.nil,h=>nomatch (show Ae=Ab from h)
 |x::xs,.cons c es,h=>by
  have h:(DD x&&f x c&&MI f xs es)=Ab:=h;simp only[Aj]at h;obtain⟨⟨h1,h2⟩,h3⟩:=h;obtain⟨q,l⟩:=NV ih xs es h3;exact⟨Pk (ih x c h2) q (Ch h1),by rw[Bs,l];rfl⟩
theorem MG(v:VX Γ CL k W T X)(e:Ah)(x:Ag):∀(n:Ag)(t:Ap)(c:E),CK n T x t c=Ab->SE (Cx.hot X e) CL W0 t (fun ρ=>evE Γ ρ c):=by
 intro n
 induction n with
 |zero=>intro t c h;simp[CK]at h
 |succ n ih=>
  intro t c h;cases c with
  |bl b=>
   unfold CK at h;dsimp only at h;split at h
   ·have e0:=eq_of_beq h;subst e0;exact UO
   ·cases h
  |no a=>
   unfold CK at h;dsimp only at h;split at h
   ·have q:=(ih _ _ h).st;refine SE.congr (TW q) fun ρ=>?_
    show ((top ρ a (evE Γ ρ a)).bind fun x=>(DK x).bind fun b=>R.ok (D.bl (!b)))=_
    rw[P3 h]
   ·cases h
  |and es=>
   cases es with
   |nil=>exact absurd (show Ae=Ab from h) Aq
   |cons a as=>
    cases as with
    |nil=>
     unfold CK at h;dsimp only at h;split at h
     ·exact SE.congr (PM (ih _ _ h)) fun ρ=>rfl
     ·cases h
    |cons a' as=>
     unfold CK at h;dsimp only at h;split at h
     ·rw[Aj]at h;exact SE.congr (TX (ih _ _ h.1) (ih _ _ h.2)) fun ρ=>rfl
     ·cases h
  |isi a ks=>
   cases a with
   |var i=>
    cases ks with
    |nil=>exact absurd (show Ae=Ab from h) Aq
    |cons kk ks=>
     cases q:xC2 t with
     |none=>
      cases ks with
      |nil=>cases kk<;>first|exact absurd (show Ae=Ab from h) Aq|(unfold CK at h;dsimp only at h;rw[q]at h;cases h)
      |cons k2 ks=>cases kk<;>first|exact absurd (show Ae=Ab from h) Aq|(unfold CK at h;dsimp only at h;rw[q]at h;cases h)
     |some t0=>
      obtain⟨g,w,u⟩:=t0;obtain⟨pp,pq,pr,rfl⟩:=kU q;cases ks with
      |nil=>
       cases kk with
       |verr=>
        unfold CK at h;dsimp only at h;rw[q]at h;dsimp only at h;cases q2:Ey u with
        |none=>rw[q2]at h;simp at h
        |some t1=>
         have eu:=F0 q2;subst eu;rw[q2]at h;simp only[Aj,AR]at h;obtain⟨⟨⟨⟨rfl,rfl⟩,h3⟩,h4⟩,h5,h6⟩:=h;obtain⟨g1,g2,_,_⟩:=HZ v h3;obtain⟨b1,b2,_,_⟩:=HZ v h6;rw[h5]at b1 b2 ⊢;exact mK (X:=Cx.hot X e) v.xt.xc g1 g2 b1 b2 (JH (JD v h4)) rfl
       |cls c=>
        unfold CK at h;dsimp only at h;rw[q]at h;dsimp only at h;cases q2:Ey u with
        |none=>rw[q2]at h;simp at h
        |some t1=>
         have eu:=F0 q2;subst eu;rw[q2]at h;simp only[Aj,AR]at h;obtain⟨⟨⟨⟨rfl,rfl⟩,h3⟩,h4⟩,⟨h5,h6⟩,h7⟩:=h;obtain⟨g1,g2,_,_⟩:=HZ v h3;obtain⟨C,m1,m3,_⟩:=v.xt.ex _ (Lh h5);obtain⟨n2,_,_⟩:=Hr h7;exact mO (X:=Cx.hot X e) v.xt.xc g1 g2 (by unfold glB at h6;show X.env.scope.names.lookup _=_;rw[v.sc];exact eq_of_beq h6) m1 m3 n2 (JH (JD v h4)) rfl
       |_=>exact absurd (show Ae=Ab from h) Aq
      |cons k2 ks=>
       cases kk with
       |cls c=>
        unfold CK at h;dsimp only at h;rw[q]at h;dsimp only at h;cases q2:QD u with
        |none=>rw[q2]at h;simp at h
        |some ts=>
         obtain⟨z1,z2,rfl⟩:=bS q2;rw[q2]at h;simp only[Aj,AR,AT]at h;obtain⟨⟨⟨⟨rfl,rfl⟩,h3⟩,h4⟩,h5,h6⟩:=h;obtain⟨g1,g2,_,_⟩:=HZ v h3;obtain⟨cs,e1,e2,e3,e4⟩:=aE v e _ _ h5;have hne:cs≠[]:=by rintro rfl;cases e1
         rw[e1];exact mL (X:=Cx.hot X e) (W:=W0) (up:=Γ.up) v.xt.xc g1 g2 e3 hne (by rw[e2];exact h6) e4 (JH (JD v h4)) rfl
       |_=>exact absurd (show Ae=Ab from h) Aq
   |_=>exact absurd (show Ae=Ab from h) Aq
  |call f as=>
   cases as with
   |nil=>exact absurd (show Ae=Ab from h) Aq
   |cons a as=>
    cases a with
    |var i=>
     cases as with
     |cons=>exact absurd (show Ae=Ab from h) Aq
     |nil=>
      unfold CK at h;dsimp only at h;cases q:xC1 t with
      |none=>rw[q]at h;cases h
      |some t0=>
       obtain⟨g,w0⟩:=t0;obtain⟨p0,p1,p2,rfl⟩:=kW q;rw[q]at h;rw[Aj]at h;obtain⟨h1,h4⟩:=h;unfold VU at h1;simp only[Aj,DM,AR]at h1;obtain⟨⟨⟨p,hp,⟨rfl,rfl⟩,hl⟩,g1⟩,g2⟩:=h1;obtain⟨fa,fd,ps,m1,m2,m3,m4,_,m5⟩:=v.fn p hp;have m5:=m5 (by omega)
       obtain⟨n2,_,_⟩:=Hr g2;have hv:=JD (e:=e) (pos:=p1) v h4;have a1:SA (Cx.hot X e) CL W0 [.Name w0 p1] (fun ρ=>evA Γ ρ (.cons (.var i) .nil)):=Pk (TR hv) PB rfl
       have a2:SAT (Cx.hot X e) CL W0 [.Name w0 p1] (fun ρ=>evB Γ ρ (.cons (.var i) .nil)):=RF (JH hv) SX rfl
       exact(ZN (X:=X) (ev:=e) (sh:=fun ρ=>Ie ρ (.cons (.var i) .nil)) m5 v.room (by unfold glB at g1;show X.env.scope.names.lookup p.1=_;rw[v.sc];exact eq_of_beq g1) m1 m2 m3 a1 a2 (fun ρ z=>Mz Γ ρ _ z) (fun ρ ds z=>by rw[Mr Γ ρ _ _ z,hl];rfl) n2 rfl (fun _=>rfl)).se
    |_=>exact absurd (show Ae=Ab from h) Aq
  |str s=>
   unfold CK at h;dsimp only at h;split at h
   ·have e0:=eq_of_beq h;subst e0;exact TV
   ·cases h
  |lst es=>
   unfold CK at h;dsimp only at h;split at h
   ·simp only[Aj,AT]at h;obtain⟨q,ql⟩:=NV (ih) _ _ h.1;exact(PK q fun ρ ds z=>by rw[Kc Γ ρ _ _ z,<-ql];omega).se
   ·cases h
  |tup es=>
   unfold CK at h;dsimp only at h;split at h
   ·simp only[Aj,AT]at h;obtain⟨q,ql⟩:=NV (ih) _ _ h.1;exact TU q fun ρ ds z=>by rw[Kc Γ ρ _ _ z,<-ql];omega
   ·cases h
  |bin op a b=>
   unfold CK at h;dsimp only at h;cases q:QR (.bin op a b) with
   |none=>rw[q]at h;cases h
   |some t0=>
    obtain⟨i,b'⟩:=t0;rw[q]at h;dsimp only at h;obtain⟨rfl,rfl,rfl⟩:=iS q;cases q2:QH t with
    |none=>rw[q2]at h;cases h
    |some t1=>
     obtain⟨w,y⟩:=t1;rw[q2]at h;simp only[Aj]at h;obtain⟨h1,h2⟩:=h;obtain⟨p,p',rfl⟩:=cE q2;refine SE.congr (PN (Pp .Add) (JH (JD v h1)) (ih _ _ h2).st) fun ρ=>?_
     show ((Dm ρ i).bind fun x=>(top ρ b (evE Γ ρ b)).bind fun y=>CV .Add x y)=_
     rw[P3 h2]
  |fld o f=>
   cases o with
   |var i=>
    unfold CK at h;dsimp only at h;split at h
    ·simp only[Aj,AR]at h;obtain⟨⟨⟨rfl,rfl⟩,h3⟩,h4⟩:=h;exact cV (X:=Cx.hot X e) v.xt.xc (fun c C z=>v.xt.nf c C z _ h3) (JH (JD v h4)) rfl
    ·cases h
   |_=>exact absurd (show Ae=Ab from h) Aq
  |_=>exact absurd (show Ae=Ab from h) Aq
theorem Qr(v:VX Γ CL k W T X)(e:Ah)(x n:Ag)(y:Ap)(c:E)(h:NL n T x y c=Ab):SB (Cx.hot X e) CL W0 y (fun ρ=>(top ρ c (evE Γ ρ c)).bind BL):=by
 have one:∀{y:Ap}{c:E},(KQ y&&CK n T x y c)=Ab->SB (Cx.hot X e) CL W0 y (fun ρ=>(top ρ c (evE Γ ρ c)).bind BL):=fun {y c} h=>by
  rw[Aj]at h;exact SB.congr (Ug ((MG v e x n y c h.2).st) (SK h.1)) fun ρ=>by rw[P3 h.2]
 unfold NL at h;split at h
 ·split at h
  ·rename_i a;refine SB.ref (Uh (one h)) fun ρ=>?_
   show (((top ρ a (evE Γ ρ a)).bind fun x=>(DK x).bind fun b=>R.ok (D.bl (!b))).bind BL)=.bad\/(((top ρ a (evE Γ ρ a)).bind fun x=>(DK x).bind fun b=>R.ok (D.bl (!b))).bind BL)=((top ρ a (evE Γ ρ a)).bind BL).bind fun b=>.ok (!b)
   cases top ρ a (evE Γ ρ a) with
   |ok d=>cases d<;>first|exact .inl rfl|exact .inr rfl
   |exn y=>exact .inr rfl
   |bad=>exact .inl rfl
  ·cases h
 ·exact one h
theorem pH(v:VX Γ CL k W T X)(e:Ah)(x n:Ag)(pos:AO):∀(ys:Ac Ap)(es:Es),G7 n T x ys es=Ab->ys≠[]->SW (Cx.hot X e) CL W0 (.BoolOp .Or ys pos) (fun ρ=>(evO Γ ρ es).bind BL):=by
 intro ys
 induction ys with
 |nil=>intro es _ h;exact absurd rfl h
 |cons y ys ih=>
  intro es h _;cases es with
  |nil=>simp[G7]at h
  |cons c es=>
   simp only[G7,Aj]at h;obtain⟨h1,h3⟩:=h;have he:=Qr v e x n y c h1;cases ys with
   |nil=>
    cases es with
    |nil=>exact SW.ref (Ua he) (Rf.tru c)
    |cons=>simp[G7]at h3
   |cons z zs=>
    cases es with
    |nil=>simp[G7]at h3
    |cons c' es'=>exact SW.ref (UG he (ih (.cons c' es') h3 (by simp))) (UB c c' es')
theorem pJ(v:VX Γ CL k W T X)(e:Ah)(x n:Ag)(pos:AO):∀(ys:Ac Ap)(es:Es),G7 n T x ys es=Ab->ys≠[]->SW (Cx.hot X e) CL W0 (.BoolOp .And ys pos) (fun ρ=>(evN Γ ρ es).bind BL):=by
 intro ys
 induction ys with
 |nil=>intro es _ h;exact absurd rfl h
 |cons y ys ih=>
  intro es h _;cases es with
  |nil=>simp[G7]at h
  |cons c es=>
   simp only[G7,Aj]at h;obtain⟨h1,h3⟩:=h;have he:=Qr v e x n y c h1;cases ys with
   |nil=>
    cases es with
    |nil=>exact SW.ref (SL he) (Rf.tru c)
    |cons=>simp[G7]at h3
   |cons z zs=>
    cases es with
    |nil=>simp[G7]at h3
    |cons c' es'=>exact SW.ref (TF he (ih (.cons c' es') h3 (by simp))) (UC c c' es')
theorem uA(v:VX Γ CL k W T X)(e:Ah)(x n:Ag)(t:Ap)(c:E)(h:Qw n T x t c=Ab):SB (Cx.hot X e) CL W0 t (fun ρ=>(top ρ c (evE Γ ρ c)).bind BL):=by
 unfold Qw at h;split at h
 ·split at h
  ·simp only[Aj,Bp,CJ]at h;exact(pH v e x n _ _ _ h.1 h.2).sb
  ·cases h
 ·split at h
  ·simp only[Aj,Bp,CJ]at h;exact(pJ v e x n _ _ _ h.1 h.2).sb
  ·cases h
 ·exact Qr v e x n _ c h
theorem UZ(v:VX Γ CL k W T X)(hf:DefX X)(e:Ah)(x:Ag):∀(n:Ag)(sts:Ac Be)(ss:Ss),IF n T x sts ss=Ab->SSs (Cx.hot X e) CL W0 sts (fun ρ=>evSs Γ ρ ss):=by
 intro n
 induction n with
 |zero=>intro t c h;simp[IF]at h
 |succ n ih=>
  intro sts ss h;unfold IF at h;split at h
  ·rw[Wi]at h;subst h;exact Ph
  ·split at h
   ·simp only[Aj,AR]at h;obtain⟨⟨⟨⟨⟨h1,h2⟩,h3⟩,h4⟩,h6⟩,h5⟩:=h;rename_i i b e0 ss0 st0 y py v0 pos r;cases b with
    |true=>
     cases e0 with
     |lst es=>
      have sc:SC (Cx.hot X e) CL W0 Ab v0 (fun ρ=>evE Γ ρ (.lst es)):=by
       cases n with
       |zero=>simp[CK]at h4
       |succ n=>
        unfold CK at h4;dsimp only at h4;split at h4
        ·simp only[Aj,AT]at h4;obtain⟨q,ql⟩:=NV (MG v e x n) _ _ h4.1;exact PK q fun ρ ds z=>by rw[Kc Γ ρ _ _ z,<-ql];omega
        ·cases h4
      have q:=J5 (SQ (SC.sas (X:=Cx.hot X e) (pos:=pos) (pos':=py) (by show X.N.Nodup;rw[v.N];exact v.nd) (by show X.N[i]?=_;rw[v.N];exact h1) (by show Loc X.env.scope _;rw[v.sc];exact Kb h2) sc (K7 h3) (.inl (hf.fn _)))) (ih _ _ h5)
      have ef:(fun ρ=>evSs Γ ρ (.cons (.asg i Ab (.lst es)) ss0))=fun ρ=>(O.of ρ (evE Γ ρ (.lst es)) fun d=>setF ρ i d).seq fun ρ=>evSs Γ ρ ss0:=by
       funext ρ
       show (evS Γ ρ (.asg i Ab (.lst es))).seq _=_;rw[Zg];rfl
      rw[ef];exact q
     |_=>exact absurd (show Ae=Ab from h6) Aq
    |false=>
    exact J5 (kK (X:=Cx.hot X e) (by show X.N.Nodup;rw[v.N];exact v.nd) (by show X.N[_]?=_;rw[v.N];exact h1) (by show Loc X.env.scope _;rw[v.sc];exact Kb h2) (MG v e x n _ _ h4) (K7 h3) (.inl (hf.fn _))) (ih _ _ h5)
   ·cases h
  ·split at h
   ·simp only[Aj]at h;obtain⟨⟨h1,h2⟩,h3⟩:=h;exact J5 (UH (X:=Cx.hot X e) (uA v e x n _ _ h1) (ih _ _ h2) Ph) (ih _ _ h3)
   ·cases h
  ·split at h
   ·rename_i e0 ss0 st0 v0 pos r;simp only[Aj]at h;obtain⟨h0,h2⟩:=h;by_cases hv:∃ i,e0=.var i
    ·obtain⟨i,rfl⟩:=hv;unfold UQ at h0;cases q:Ey v0 with
     |none=>rw[q]at h0;cases h0
     |some t0=>
      obtain⟨y,py⟩:=t0;rw[q]at h0;have ev:=F0 q;subst ev;exact J5 (SM (X:=Cx.hot X e) (pos:=pos) (JD v h0)) (ih _ _ h2)
    have h0:(VQ e0&&CK n T x v0 e0)=Ab:=by
     cases e0 with
     |var i=>exact absurd ⟨i,rfl⟩ hv
     |_=>exact h0
    rw[Aj]at h0;obtain⟨h0,h1⟩:=h0;have q:=J5 (SN (X:=Cx.hot X e) (pos:=pos) (MG v e x n _ _ h1)) (ih _ _ h2);have ef:(fun ρ=>evSs Γ ρ (.cons (.ret e0) ss0))=fun ρ=>(O.of ρ (evE Γ ρ e0) fun d=>O.ret d Ae).seq fun ρ=>evSs Γ ρ ss0:=by
     funext ρ
     cases e0<;>first|rfl|(cases h0;done)
    rw[ef];exact q
   ·cases h
  ·split at h
   ·rename_i i e0 ss0 st0 w pos r;cases q:xM1 w with
    |none=>rw[q]at h;cases h
    |some t0=>
     obtain⟨y,m,v0⟩:=t0;rw[q]at h;simp only[Aj,AR]at h;obtain⟨⟨⟨⟨rfl,h1⟩,h2⟩,h3⟩,h4⟩:=h;obtain⟨p,ap,cp,rfl,hl⟩:=kS q;exact J5 (TQ (X:=Cx.hot X e) (JD v h1) (MG v e x n _ _ h3) rfl (by rw[Ch h2];rfl) (by rw[hl];exact Cy _) (Ch h2) rfl) (ih _ _ h4)
   ·cases h
  ·cases h
theorem pG(v:VX Γ CL k W T X)(h:hdB T g c=Ab):VF X CL Γ.up g c:=by
 unfold hdB at h;simp only[Aj]at h;obtain⟨⟨⟨i1,i0⟩,i2⟩,i3⟩:=h;obtain⟨C,m1,m3,m4⟩:=v.xt.ex _ (Lh i1);obtain⟨C0,r1,r2⟩:=v.xt.rz _ (Lh i0);obtain⟨n2,_,_⟩:=Hr i3;refine⟨C,by unfold glB at i2;show X.env.scope.names.lookup g=_;rw[v.sc];exact eq_of_beq i2,m1,n2,?_,fun c' D hD=>m4 c' D hD⟩
 have e0:=m1.symm.trans r2;cases e0;exact v.xt.xc _ _ r1
theorem rE(Z:SndS Γ CL k n)(W:XW)(T:Tc)(X:Cx)(st:Be)(c:S)(v:VX Γ CL k W T X)(hf:DefX X)(h:EN (n+1) T st c=Ab):SS X CL W st (fun ρ=>evS Γ ρ c):=by
  have E:=snd (Γ:=Γ) (CL:=CL) (k:=k) n;cases c with
  |pass=>exact absurd (show Ae=Ab from h) Aq
  |brk=>exact absurd (show Ae=Ab from h) Aq
  |cont=>exact absurd (show Ae=Ab from h) Aq
  |asg i fresh e=>
    unfold EN at h;dsimp only at h;split at h
    · simp only[Aj,AR]at h;obtain⟨⟨h1,h2⟩,h3⟩:=h;have o:=E.e W T X _ e v h3;cases fresh with
      |false=>exact TN (PQ (fr:=Ae) v hf.fn h1 h2 o (fun z=>nomatch z))
      |true=>
        cases hn:Dh Γ e with
        |true=>
          refine SS.ref (SQ (PQ (fr:=Ab) v hf.fn h1 h2 o (fun _=>hn))) fun ρ=>.inr ?_
          show O.of ρ (evE Γ ρ e) (fun d=>if Ab=Ab then (if Dh Γ e=Ab then (match d with
            |.lst xs=>.next (ρ.set i (Aa (.lst xs,Ab)))
            | _=>.bad) else .bad) else .next (ρ.set i (Aa (d,Ae))))=_
          rw[hn];rfl
        |false=>
          refine SS.ref (TN (PQ (fr:=Ae) v hf.fn h1 h2 o (fun z=>nomatch z))) fun ρ=>?_
          have e0:evS Γ ρ (.asg i Ab e)=O.of ρ (evE Γ ρ e) (fun d=>if Ab=Ab then (if Dh Γ e=Ab then (match d with
            |.lst xs=>.next (ρ.set i (Aa (.lst xs,Ab)))
            | _=>.bad) else .bad) else .next (ρ.set i (Aa (d,Ae)))):=rfl
          rw[e0,hn];cases evE Γ ρ e with
          |ok d=>exact .inl rfl
          |exn y=>exact .inr rfl
          |bad=>exact .inl rfl
    · cases h
  |asgT ts e=>
    unfold EN at h;dsimp only at h;split at h
    · simp only[Aj]at h;obtain⟨⟨⟨h1,h2⟩,h3⟩,h5⟩:=h;exact eN (uB ts) (kC v hf.fn h1 h2) (E.e W T X _ e v h5).se (Pi (fun _ _ z=>by cases z)) (jZ h3) rfl (ZZ ts)
    · cases h
  |expr e=>
    unfold EN at h;dsimp only at h;split at h
    · simp only[Aj]at h;exact eL (E.e W T X _ e v h.2).se (K7 h.1)
    · cases h
  |ret e=>
    unfold EN at h;dsimp only at h;split at h
    · have o:=E.e W T X _ e v h;cases hv:Dh Γ e with
      |true=>
        refine SS.ref (eJ (o.nw hv)) fun ρ=>.inr ?_
        rw[RI ρ e (fun i z=>by subst z;cases hv),hv]
      |false=>
        cases e with
        |var i=>
          cases n with
          |zero=>exact absurd (show Ae=Ab from h) Aq
          |succ n=>
            unfold A9 at h;dsimp only at h;split at h
            · exact SM (HY v h)
            · cases h
        |_=>
          refine SS.ref (SN o.se) fun ρ=>.inr ?_
          rw[RI ρ _ (by intro i z;cases z),hv]
    · cases h
  |retN=>exact absurd (show Ae=Ab from h) Aq
  |ife c a b=>
    unfold EN at h;dsimp only at h;split at h
    · simp only[Aj]at h;exact UH (E.b W T X _ c v h.1.1) (Z.ss W T X _ a v hf h.1.2) (Z.ss W T X _ b v hf h.2)
    · cases h
  |fors t it body=>
    unfold EN at h;dsimp only at h;split at h
    · simp only[Aj]at h;obtain⟨⟨⟨h1,h2⟩,h3⟩,h4⟩:=h;exact TJ v.own v.calm (fV t) (dW v hf.fn h1) (E.i W T X Ae _ _ it v rfl h3) (Z.ss W T X _ body v hf h4) (Nv h2) (fun _ _ _ z=>nomatch z)
    · cases h
  |forT ts it body=>
    unfold EN at h;dsimp only at h;split at h
    · simp only[Aj]at h;obtain⟨⟨⟨⟨h0,h1⟩,h2⟩,h3⟩,h4⟩:=h;exact TJ v.own v.calm (Up ts) (dU v hf.fn h0 h1) (E.i W T X Ab _ _ it v rfl h3) (Z.ss W T X _ body v hf h4) (Nv h2) (Rx ts)
    · cases h
  |whl c body=>
    unfold EN at h;dsimp only at h;split at h
    · simp only[Aj]at h;exact ZH NW v.own (E.b W T X _ c v h.1) (Z.ss W T X _ body v hf h.2)
    · cases h
  |rais c as=>
    unfold EN at h;dsimp only at h;cases hc:T.rzs.any (fun p=>p.2==c) with
    |false=>
      have hb:∀ ds,Γ.xn c ds=.bad:=v.xt.xb c fun p hp z=>by
        have:T.rzs.any (fun p=>p.2==c)=Ab:=List.any_eq_true.mpr ⟨p,hp,AR.mpr z⟩
        rw[hc]at this;cases this
      intro Fz B pI s σ H D I ⟨ρ,x,p⟩;have p':BH X.K CL Fz B W (O.of ρ (noX (evA Γ ρ as)) fun xs=>O.of ρ (Γ.xn c xs) fun x=>.exn x ρ) D:=p
      cases e1:evA Γ ρ as with
      |bad=>rw[e1]at p';exact p'.elim
      |exn y=>rw[e1]at p';exact p'.elim
      |ok ds=>
        rw[e1]at p';have p2:BH X.K CL Fz B W (O.of ρ (Γ.xn c ds) fun x=>.exn x ρ) D:=p'
        rw[hb ds]at p2;exact p2.elim
    |true=>
      rw[hc,Bool.not_true,Bool.false_or]at h;split at h
      · rename_i g np x xs cpos pos;simp only[Aj,AT]at h;obtain⟨⟨⟨⟨h1,h2⟩,h3⟩,h4⟩,h5⟩:=h;obtain⟨C,m1,m2⟩:=v.xt.rz _ (Lh h1);obtain⟨n2,_,_⟩:=Hr h3;obtain⟨s0,e,es',rfl,m,rfl,s1⟩:=KP h5;have q:=E.es W T X _ _ v h5;exact YX v.calm hf.ex v.room v.rz (by unfold glB at h2;show X.env.scope.names.lookup g=_;rw[v.sc];exact eq_of_beq h2) m2 n2 m1 q.1 (fun ds=>v.xt.made c C ds m1) (Ch s0) (LZ m xs es' s1) (fun ρ ds z=>by rw[Kc Γ ρ _ _ z,<-q.2.2.1,Bs];omega)
      · cases h
  |app i e=>
    unfold EN at h;dsimp only at h;split at h
    · simp only[Aj,AR]at h;obtain⟨⟨⟨⟨rfl,h1⟩,h2⟩,h3⟩,h4⟩:=h;exact TQ (HY v h1) (E.e W T X _ e v h4).se rfl (by rw[Ch h3];rfl) (by rw[h2];exact Cy _) (Ch h3) rfl
    · cases h
  |ext i e=>
    unfold EN at h;dsimp only at h;split at h
    · simp only[Aj,AR]at h;rw[B9]at h;obtain⟨⟨⟨⟨rfl,h1⟩,h2⟩,h3⟩,h5⟩:=h;rcases h5 with h5|h5
      · rw[Aj]at h5;obtain⟨h5,h4⟩:=h5;exact kO (HY v h1) ((E.e W T X _ e v h4).nw (gZ Γ h5)) rfl (by rw[Ch h3];rfl) (by rw[h2];exact Cy _) (Ch h3) rfl
      · cases q:NN e with
        |none=>rw[q]at h5;cases h5
        |some a=>
          rw[q]at h5;have eq:=aH q;subst eq;have fe:(fun ρ=>evS Γ ρ (.ext i (.bi .list (.cons (.bin .Add a (.tup .nil)) .nil))))=fun ρ=>O.of ρ (Cv ρ i) fun xs=>O.of ρ (top ρ a (evE Γ ρ a)) fun x=>O.of ρ ((CV .Add x (.tup [])).bind fun y=>biD .list [y]) fun d=>O.of ρ (Lu d) fun ys=>if Ci (xs.length+ys.length)=Ab then .next (ρ.set i (Aa (.lst (xs++ys),Ab))) else .bad:=funext fun ρ=>by
            rw[fA];have e2:evE Γ ρ (.bi .list (.cons (.bin .Add a (.tup .nil)) .nil))=(top ρ a (evE Γ ρ a)).bind fun x=>(CV .Add x (.tup [])).bind fun y=>biD .list [y]:=by
              simp only[oA,evB,iR,bJ,bH,fB,evA,R.bind_ok,R.bind_assoc]
            rw[e2];cases Cv ρ i with
            |ok xs=>
              rw[O.of_ok,O.of_ok];cases top ρ a (evE Γ ρ a)<;>rfl
            |exn z=>rfl
            |bad=>rfl
          show SS X CL W _ (fun ρ=>evS Γ ρ (.ext i (.bi .list (.cons (.bin .Add a (.tup .nil)) .nil))))
          rw[fe];exact eK (HY v h1) (E.e W T X _ a v h5).st rfl (by rw[Ch h3];rfl) (by rw[h2];exact Cy _) (Ch h3) rfl
    · cases h
  |rev i=>exact absurd (show Ae=Ab from h) Aq
  |clr i=>exact absurd (show Ae=Ab from h) Aq
  |put i k e=>
    unfold EN at h;dsimp only at h;split at h
    · simp only[Aj]at h;obtain⟨⟨⟨h1,h2⟩,h4⟩,h5⟩:=h;rename_i x p y sp v0 pos;exact kL (HY v h1) (E.e W T X _ k v h4).st (E.e W T X _ e v h5).se (fun w=>by cases y<;>first|rfl|cases h2) (Pi (fun _ _ z=>by cases z)) rfl rfl
    · cases h
  |tryx body c x hd=>
    cases body with
    |nil=>exact absurd (show Ae=Ab from h) Aq
    |cons b bs=>
      cases bs with
      |cons=>exact absurd (show Ae=Ab from h) Aq
      |nil=>
        unfold EN at h;dsimp only at h;cases q:QE st with
        |none=>rw[q]at h;cases h
        |some t=>
          obtain⟨bt,hl,es⟩:=t;rw[q]at h;obtain⟨pos,rfl⟩:=bT q;cases hl with
          |nil=>exact absurd (show Ae=Ab from h) Aq
          |cons h1 hl=>
            cases hl with
            |cons=>exact absurd (show Ae=Ab from h) Aq
            |nil=>
              cases es with
              |cons=>exact absurd (show Ae=Ab from h) Aq
              |nil=>
                dsimp only at h;cases q1:xHd h1 with
                |none=>rw[q1]at h;cases h
                |some t1=>
                  obtain⟨g,m,h0,hs⟩:=t1;obtain⟨p1,hp,rfl⟩:=kT q1;rw[q1]at h;simp only[Aj,AR]at h;obtain⟨⟨⟨⟨i1,i4⟩,i5⟩,i6⟩,i7⟩:=h;obtain⟨t1,t2⟩:=pU E v hf 6 i6;refine SS.ref (kJ (up:=Γ.up) (c:=c) (i:=x) hf.ex hf.st hf.fm (by rw[v.N];exact v.nd) (by rw[v.N];exact i4) (by rw[v.sc];exact i5) (pG v i1) t1 t2 (fun e=>UZ v hf e x n _ _ i7)) fun ρ=>.inr ?_
                  rw[aX];unfold Vl;cases evSs Γ ρ (.cons b .nil)<;>rfl
  |try2 body c x hd c' hd' els=>exact absurd (show Ae=Ab from h) Aq
  |swp i k l=>exact absurd (show Ae=Ab from h) Aq
  |apop j i e=>exact absurd (show Ae=Ab from h) Aq
  |ins i k e=>
    unfold EN at h;dsimp only at h;split at h
    · rename_i w pos;cases q:xMt w with
      |none=>rw[q]at h;cases h
      |some t=>
        obtain⟨x,m,y,z⟩:=t;rw[q]at h;simp only[Aj,AR]at h;obtain⟨⟨⟨⟨⟨rfl,h1⟩,h2⟩,h3⟩,h4⟩,h5⟩:=h;obtain⟨p,ap,cp,rfl,hl⟩:=PV q;exact kM (HY v h1) (E.e W T X _ k v h4).st (E.e W T X _ e v h5).se rfl (by rw[Ch h2,Ch h3];rfl) (by rw[hl];exact Cy _) (Ch h2) (Ch h3) (by rw[Ch h3];rfl) rfl
    · cases h
  |dnw i=>
    unfold EN at h;dsimp only at h;split at h
    · simp only[Aj,AR]at h;obtain⟨⟨h1,h2⟩,h3⟩:=h;obtain⟨p,rfl⟩:=bY h3;exact jQ (by rw[v.N];exact v.nd) (by rw[v.N];exact h1) (by rw[v.sc];exact Kb h2) rfl (.inl (hf.fn _))
    · cases h
  |dput i k e=>
    unfold EN at h;dsimp only at h;split at h
    · simp only[Aj]at h;obtain⟨⟨⟨h1,h2⟩,h4⟩,h5⟩:=h;rename_i x p y sp v0 pos;have hu:=v.room.units;exact eM (by omega) (HY v h1) (E.e W T X _ k v h4).st (E.e W T X _ e v h5).se (fun w=>by cases y<;>first|rfl|cases h2) (Pi (fun _ _ z=>by cases z)) rfl rfl
    · cases h
  |dsd i k e=>
    unfold EN at h;dsimp only at h;split at h
    · rename_i w pos;cases q:xMt w with
      |none=>rw[q]at h;cases h
      |some t=>
        obtain⟨x,m,y,z⟩:=t;rw[q]at h;simp only[Aj,AR]at h;obtain⟨⟨⟨⟨⟨rfl,h1⟩,h2⟩,h3⟩,h4⟩,h5⟩:=h;obtain⟨p,ap,cp,rfl,hl⟩:=PV q;have hu:=v.room.units;exact jP (by omega) (HY v h1) (E.e W T X _ k v h4).st (E.e W T X _ e v h5).se rfl (by rw[Ch h2,Ch h3];rfl) (by rw[hl];exact Cy _) (Ch h2) (Ch h3) (by rw[Ch h3];rfl) rfl
    · cases h
  |rel=>exact absurd (show Ae=Ab from h) Aq
theorem aG{c:Ss}(h:N4 c=Ab)(ρ:Rho):evSs Γ ρ c=.bad:=by
 cases c with
 |nil=>cases h
 |cons s ss=>
  cases s with
  |expr e=>
   cases e with
   |bi b as=>
    cases as with
    |nil=>
     cases b with
     |len=>rfl
     |_=>exact absurd (show Ae=Ab from h) Aq
    |cons=>cases b<;>exact absurd (show Ae=Ab from h) Aq
   |_=>exact absurd (show Ae=Ab from h) Aq
  |_=>exact absurd (show Ae=Ab from h) Aq
theorem kG(Z:SndS Γ CL k n)(W:XW)(T:Tc)(X:Cx)(xs:Ac Be)(c:Ss)(v:VX Γ CL k W T X)(hf:DefX X)(h:chkSs (n+1) T xs c=Ab):SSs X CL W xs (fun ρ=>evSs Γ ρ c):=by
 by_cases hb:N4 c=Ab
 ·exact fun Fz B pI s σ H D I ⟨ρ,x,p⟩=>by
   dsimp only at p;rw[aG hb]at p;exact p.elim
 have hb:N4 c=Ae:=by simpa using hb
 cases c with
 |nil=>
  simp only[chkSs,hb,Hn,Wi]at h;subst h;exact Ph
 |cons s ss=>
  by_cases hr:∃ i,s=.rel i
  ·obtain⟨i,rfl⟩:=hr;simp only[chkSs,hb,Hn]at h;exact eI i (Z.ss W T X xs ss v hf h)
  ·cases xs with
   |nil=>cases s<;>first|(simp[chkSs,hb]at h;done)|exact absurd ⟨_,rfl⟩ hr
   |cons st r=>
    have h':EN n T st s=Ab/\chkSs n T r ss=Ab:=by
     cases s<;>first|(simp only[chkSs,hb,Hn,Aj]at h;exact h)|exact absurd ⟨_,rfl⟩ hr
    exact J5 (Z.s W T X st s v hf h'.1) (Z.ss W T X r ss v hf h'.2)
theorem QK:∀ n,SndS Γ CL k n
 |0=>⟨fun _ _ _ _ _ _ _ h=>absurd (show Ae=Ab from h) Aq,fun _ _ _ _ _ _ _ h=>absurd (show Ae=Ab from h) Aq⟩
 |n+1=>⟨rE (QK n),kG (QK n)⟩
end
theorem L5{n:Ag}{ds:Ac D}{i:Ag}{o:Ao}(h:(BA n ds)[i]?=Aa (Aa (d,o))):o=Ae/\ds[i]?=Aa d:=by
 unfold BA at h;by_cases hi:i<ds.length
 ·rw[Fx (by simpa using hi),Eb]at h
  cases e:ds[i]? with
  |none=>rw[e]at h;cases h
  |some x=>rw[e]at h;cases h;exact⟨rfl,rfl⟩
 ·rw[We (by simpa using Nat.le_of_not_lt hi),Wh]at h
  split at h<;>cases h
theorem YW{N:Ac Ai}{vs:Ac V}{i:Ag}{v:V}(h:vs[i]?=Aa v):(L2.start N vs)[i]?=Aa (Aa v):=by
 unfold L2.start;have hi:=(Bg.mp h).1;rw[Fx (by simpa using hi),Eb,h]
 rfl
theorem RD{N:Ac Ai}{n:Ag}{vs:Ac V}{ds:Ac D}(hn:N.length=n)(hA:AOk H A)(r:Reps K CL H A vs ds):Sx K CL (fun b o=>H b=Aa o) A (BA n ds) (L2.start N vs) H:=by
 have own:∀ a,By A (BA n ds) (L2.start N vs) a->A a:=fun a h=>by
  rcases h with h|⟨j,d,h,_⟩
  ·exact h
  ·exact absurd (L5 h).1 (by decide)
 have hlen:(BA n ds).length=(L2.start N vs).length:=by
  unfold BA L2.start;simp only[Bu,Bm,Wj,r.length,hn]
 refine⟨⟨fun i d h=>?_,fun i d h=>absurd (L5 h).1 (by decide),hlen⟩,fun a h=>hA a (own a h),fun j d a h _=>absurd (L5 h).1 (by decide),fun i j d e a h _ _ _=>absurd (L5 h).1 (by decide),fun b o h=>h,hlen⟩
 obtain⟨v,h1,h2⟩:=r.get (L5 h).2;exact⟨v,YW h1,Rep.sub own _ h2⟩
def LF(K:Fg)(mg:Ai->An Ak)(fns:Ac (Ai×Ag×Ag))(bl:Ac Ai)(rzs exs gls:Ac (Ai×Ag))(Pg:Prg)(fuel:Ag)(p:Ai×Ag×Ag):Prop:=∃ f fd ps qual st N,mg p.1=Aa (.ref f)/\Fun K p.1 qual st f fd/\F6 K fd ps []/\ps.length=p.2.2%1000/\Il fuel (C8 1000 p.2.2) fns bl rzs exs gls ps N st (Pg.defs p.2.1)=Ab
structure Tab (K:Fg) (mg:Ai->An Ak) (CL:ClA) (fns:Ac (Ai×Ag×Ag)) (bl:Ac Ai) (rzs exs gls:Ac (Ai×Ag)) (Pg:Prg) (fuel:Ag):Prop where
 xt:XT Pg.up Pg.xn CL rzs exs K mg
 bln:∀ x,x∈bl->mg x=Ad
 gl:∀ p∈gls,MO K mg CL p.1 (Pg.G p.2)
 fn:∀ p∈fns,LF K mg fns bl rzs exs gls Pg fuel p
theorem Us(Pg:Prg)(n i:Ag):(gam Pg n).fr i=(Pg.defs i).fr:=by cases n<;>rfl
theorem Ur(Pg:Prg)(n:Ag):(gam Pg n).up=Pg.up:=by cases n<;>rfl
theorem U1(Pg:Prg)(n:Ag):(gam Pg n).G=Pg.G:=by cases n<;>rfl
theorem Uq(Pg:Prg)(n:Ag):(gam Pg n).xn=Pg.xn:=by cases n<;>rfl
section
variable{P:AS}{w:AB}{K:Fg}{mg:Ai->An Ak}{base:AF}{CL:ClA}{fns:Ac (Ai×Ag×Ag)}{bl:Ac Ai}{rzs exs gls:Ac (Ai×Ag)}{Pg:Prg}{fuel:Ag}
def Lvl(P:AS)(w:AB)(K:Fg)(mg:Ai->An Ak)(base:AF)(CL:ClA)(Pg:Prg)(n:Ag)(p:Ai×Ag×Ag):Prop:=∃ f fd ps,mg p.1=Aa (.ref f)/\B8 K (.ref f)=Ab/\F6 K fd ps []/\ps.length=p.2.2%1000/\(p.2.2<1000->FnOk P w K mg base (CXR P w) n f fd ps (spD K CL (p.2.2%1000) ((gam Pg n).fr p.2.1) ((gam Pg n).F p.2.1)))/\(1000<=p.2.2->HotOk P w K mg base n f fd ps (spH K CL (p.2.2%1000) ((gam Pg n).fr p.2.1) ((gam Pg n).F p.2.1)))
theorem Uy(t:Tab K mg CL fns bl rzs exs gls Pg fuel){n:Ag}(hlv:∀ q∈fns,Lvl P w K mg base CL Pg n q){st:Be}{f:Ah}{ps N:Ac Ai}{m id:Ag}(h2:Fun K x qual st f fd)(h4:ps.length=m)(h5:Il fuel Ae fns bl rzs exs gls ps N st (Pg.defs id)=Ab):FnOk P w K mg base (CXR P w) (n+1) f fd ps (spD K CL m ((gam Pg (n+1)).fr id) ((gam Pg (n+1)).F id)):=by
  unfold Il at h5;simp only[Aj,AR,Bp,CM,B9,HB,LP]at h5;obtain⟨⟨⟨⟨⟨⟨⟨⟨c1,c2⟩,c3⟩,c4⟩,c5⟩,c6⟩,c7⟩,c8⟩,c9⟩:=h5;obtain⟨oc,od,kV,doc,pm,an,cdv,ct,osl,rfl,lk,hcd⟩:=h2.ex;refine US (N:=N) lk hcd ⟨c1,c2,c3,J7 c4,c5,c6,c7⟩ (fun vs H Q E ⟨ds,A,z,_⟩=>z.trans h4.symm) fun A outer s H vs Q E hr ⟨ds,B,hl,hA,hreps,hpost⟩=>?_
  have xt:XT (gam Pg n).up (gam Pg n).xn CL rzs exs K mg:=by rw[Ur,Uq];exact t.xt
  have gl:∀ p∈gls,MO K mg CL p.1 ((gam Pg n).G p.2):=by rw[U1];exact t.gl
  have key:∀ W:XW,(∀ x cls dx H',W x H'->Gs K CL H' cls dx x->E cls dx H')->BH K CL (fun b o=>H b=Aa o) B W (evSs (gam Pg n) (BA (Pg.defs id).n ds) (Pg.defs id).body) {nx:=fun _ H'=>Q .non H',rt:=Q} ->
      ∃ t,PSs (E6 (CXR P w) P w K mg base N qual (CB st) f cdv A outer s H E) (F1 st) t/\t {nx:=fun _ H'=>Q .non H',rt:=Q} (start N vs) H:=fun W hW hp=>by
    have v:VX (gam Pg n) CL n W ⟨CB st,N,fns,bl,rzs,exs,gls⟩ (E6 (CXR P w) P w K mg base N qual (CB st) f cdv A outer s H E):=⟨rfl,c1,rfl,J7 c4,rfl,hr,t.bln,hlv,ownR,sD hW,rzR hW,xt,gl⟩;exact⟨_,(QK fuel).ss W _ _ _ (Pg.defs id).body v ⟨fun _=>rfl,rfl,rfl,rfl⟩ c9 (fun b o=>H b=Aa o) B,_,RD c8 hA hreps,hp⟩
  have no:∀ x cls dx H',W0 x H'->Gs K CL H' cls dx x->E cls dx H':=fun _ _ _ _ z=>z.elim
  have e:(gam Pg (n+1)).F id ds=EM Pg.xs ((evSs (gam Pg n) (BA (Pg.defs id).n ds) (Pg.defs id).body).ans (Pg.defs id).fr):=rfl;rw[e,Us]at hpost;have cutO:∀ r:R D,(∀ x,r≠.exn x)->EM Pg.xs r=r:=fun r hr=>by
    cases Pg.xs<;>cases r<;>first|rfl|exact absurd rfl (hr _)
  cases eo:evSs (gam Pg n) (BA (Pg.defs id).n ds) (Pg.defs id).body with
  |next ρ'=>
    refine key W0 no ?_;rw[eo]at hpost ⊢;cases ef:(Pg.defs id).fr with
    |true=>rw[ef]at hpost;rw[cutO _ (by intro x z;cases z)]at hpost;exact hpost.elim
    |false=>
      rw[ef]at hpost;rw[cutO _ (by intro x z;cases z)]at hpost
      exact fun σ' H' x'=>hpost .non H' (fun b o z=>x'.same b o z) ⟨rfl,fun z=>nomatch z⟩
  |ret d b=>
    refine key W0 no ?_;rw[eo]at hpost ⊢;intro v H' sm rp fr;have hp2:(match EM Pg.xs (if ((Pg.defs id).fr&&(!b&&isL d))=Ab then R.bad else R.ok d) with
      |.ok d=>∀ v H',AH H H'->DO K CL (Pg.defs id).fr H B H' v d->Q v H'
      |.exn x=>∀ cls dx H',AH H H'->Gs K CL H' cls dx x->E cls dx H'
      | .bad=>AW):=hpost
    cases ec:((Pg.defs id).fr&&(!b&&isL d)) with
    |true=>rw[ec,AG rfl,cutO _ (by intro x z;cases z)]at hp2;exact hp2.elim
    |false=>
      rw[ec,AI (by decide),cutO _ (by intro x z;cases z)]at hp2
      refine hp2 v H' sm ⟨rp,fun efr es hd=>?_⟩
      subst hd;have eb:b=Ab:=by
        cases b with
        |true=>rfl
        |false=>rw[efr]at ec;cases ec
      obtain⟨a,xs,h1,h2,h3,h4⟩:=fr eb es rfl;refine⟨a,xs,h1,?_,h3,h4⟩;cases ha:H a with
      |none=>rfl
      |some o=>exact absurd ha (h2 o)
  |brk ρ'=>rw[eo]at hpost;have hp2:(match EM Pg.xs (R.bad:R D) with | .ok _=>_ | .exn _=>_ | .bad=>AW):=hpost;rw[cutO _ (by intro x z;cases z)]at hp2;exact hp2.elim
  |cont ρ'=>rw[eo]at hpost;have hp2:(match EM Pg.xs (R.bad:R D) with | .ok _=>_ | .exn _=>_ | .bad=>AW):=hpost;rw[cutO _ (by intro x z;cases z)]at hp2;exact hp2.elim
  |bad=>rw[eo]at hpost;have hp2:(match EM Pg.xs (R.bad:R D) with | .ok _=>_ | .exn _=>_ | .bad=>AW):=hpost;rw[cutO _ (by intro x z;cases z)]at hp2;exact hp2.elim
  |exn x ρ'=>
    rw[eo]at hpost;have hp2:(match EM Pg.xs (R.exn x:R D) with
      |.ok d=>∀ v H',AH H H'->DO K CL (Pg.defs id).fr H B H' v d->Q v H'
      |.exn x=>∀ cls dx H',AH H H'->Gs K CL H' cls dx x->E cls dx H'
      | .bad=>AW):=hpost
    cases ex:Pg.xs with
    |false=>rw[ex]at hp2;exact hp2.elim
    |true=>
      rw[ex]at hp2;have hp3:∀ cls dx H',AH H H'->Gs K CL H' cls dx x->E cls dx H':=hp2;refine key (fun y H'=>y=x/\AH H H') (fun y cls dx H' ⟨e1,sm⟩ xr=>?_) ?_
      · subst e1;exact hp3 cls dx H' sm xr
      · rw[eo];exact fun H' sm=>⟨rfl,sm⟩
theorem pE(t:Tab K mg CL fns bl rzs exs gls Pg fuel){n:Ag}(hlv:∀ q∈fns,Lvl P w K mg base CL Pg n q){st:Be}{f:Ah}{ps N:Ac Ai}{m id:Ag}(h2:Fun K x qual st f fd)(h4:ps.length=m)(h5:Il fuel Ab fns bl rzs exs gls ps N st (Pg.defs id)=Ab):HotOk P w K mg base (n+1) f fd ps (spH K CL m ((gam Pg (n+1)).fr id) ((gam Pg (n+1)).F id)):=by
  unfold Il at h5;simp only[Aj,AR,Bp,CM,B9,HB,LP]at h5;obtain⟨⟨⟨⟨⟨⟨⟨⟨c1,c2⟩,c3⟩,c4⟩,c5⟩,c6⟩,c7⟩,c8⟩,c9⟩:=h5;obtain⟨oc,od,kV,doc,pm,an,cdv,ct,osl,rfl,lk,hcd⟩:=h2.ex;refine pF (N:=N) lk hcd ⟨c1,c2,c3,J7 c4,c5,c6,c7⟩ (fun vs H Q E ⟨ds,A,z,_⟩=>z.trans h4.symm) fun A ev outer s H vs Q E hr ⟨ds,B,hl,hA,hreps,hpost⟩=>?_
  have xt:XT (gam Pg n).up (gam Pg n).xn CL rzs exs K mg:=by rw[Ur,Uq];exact t.xt
  have gl:∀ p∈gls,MO K mg CL p.1 ((gam Pg n).G p.2):=by rw[U1];exact t.gl
  have key:BH K CL (fun b o=>H b=Aa o) B W0 (evSs (gam Pg n) (BA (Pg.defs id).n ds) (Pg.defs id).body) {nx:=fun _ H'=>Q .non H',rt:=Q} ->
      ∃ t,PSs (Cx.hot (E6 Jg P w K mg base N qual (CB st) f cdv A outer s H E) ev) (F1 st) t/\t {nx:=fun _ H'=>Q .non H',rt:=Q} (start N vs) H:=fun hp=>by
    have v:VX (gam Pg n) CL n W0 ⟨CB st,N,fns,bl,rzs,exs,gls⟩ (E6 Jg P w K mg base N qual (CB st) f cdv A outer s H E):=⟨rfl,c1,rfl,J7 c4,rfl,hr,t.bln,hlv,W6,P9,QJ,xt,gl⟩;exact⟨_,UZ v ⟨fun _=>rfl,rfl,rfl,rfl⟩ ev 0 fuel _ (Pg.defs id).body c9 (fun b o=>H b=Aa o) B,_,RD c8 hA hreps,hp⟩
  have e:(gam Pg (n+1)).F id ds=EM Pg.xs ((evSs (gam Pg n) (BA (Pg.defs id).n ds) (Pg.defs id).body).ans (Pg.defs id).fr):=rfl;rw[e,Us]at hpost;have cutO:∀ r:R D,(∀ x,r≠.exn x)->EM Pg.xs r=r:=fun r hr=>by
    cases Pg.xs<;>cases r<;>first|rfl|exact absurd rfl (hr _)
  refine key ?_;cases eo:evSs (gam Pg n) (BA (Pg.defs id).n ds) (Pg.defs id).body with
  |next ρ'=>
    rw[eo]at hpost;cases ef:(Pg.defs id).fr with
    |true=>rw[ef]at hpost;rw[cutO _ (by intro x z;cases z)]at hpost;exact hpost.elim
    |false=>
      rw[ef]at hpost;rw[cutO _ (by intro x z;cases z)]at hpost
      exact fun σ' H' x'=>hpost .non H' (fun b o z=>x'.same b o z) ⟨rfl,fun z=>nomatch z⟩
  |ret d b=>
    rw[eo]at hpost;intro v H' sm rp fr;have hp2:(match EM Pg.xs (if ((Pg.defs id).fr&&(!b&&isL d))=Ab then R.bad else R.ok d) with
      |.ok d=>∀ v H',AH H H'->DO K CL (Pg.defs id).fr H B H' v d->Q v H'
      |.exn x=>AW
      | .bad=>AW):=hpost
    cases ec:((Pg.defs id).fr&&(!b&&isL d)) with
    |true=>rw[ec,AG rfl,cutO _ (by intro x z;cases z)]at hp2;exact hp2.elim
    |false=>
      rw[ec,AI (by decide),cutO _ (by intro x z;cases z)]at hp2
      refine hp2 v H' sm ⟨rp,fun efr es hd=>?_⟩
      subst hd;have eb:b=Ab:=by
        cases b with
        |true=>rfl
        |false=>rw[efr]at ec;cases ec
      obtain⟨a,xs,h1,h2,h3,h4⟩:=fr eb es rfl;refine⟨a,xs,h1,?_,h3,h4⟩;cases ha:H a with
      |none=>rfl
      |some o=>exact absurd ha (h2 o)
  |brk ρ'=>rw[eo]at hpost;have hp2:(match EM Pg.xs (R.bad:R D) with | .ok _=>_ | .exn _=>_ | .bad=>AW):=hpost;rw[cutO _ (by intro x z;cases z)]at hp2;exact hp2.elim
  |cont ρ'=>rw[eo]at hpost;have hp2:(match EM Pg.xs (R.bad:R D) with | .ok _=>_ | .exn _=>_ | .bad=>AW):=hpost;rw[cutO _ (by intro x z;cases z)]at hp2;exact hp2.elim
  |bad=>rw[eo]at hpost;have hp2:(match EM Pg.xs (R.bad:R D) with | .ok _=>_ | .exn _=>_ | .bad=>AW):=hpost;rw[cutO _ (by intro x z;cases z)]at hp2;exact hp2.elim
  |exn x ρ'=>
    rw[eo]at hpost;have hp2:(match EM Pg.xs (R.exn x:R D) with
      |.ok d=>∀ v H',AH H H'->DO K CL (Pg.defs id).fr H B H' v d->Q v H'
      |.exn x=>AW
      | .bad=>AW):=hpost
    exfalso
    cases ex:Pg.xs with
    |false=>rw[ex]at hp2;exact hp2
    |true=>
      rw[ex]at hp2;exact hp2
theorem PH(t:Tab K mg CL fns bl rzs exs gls Pg fuel):∀ n,∀ p∈fns,Lvl P w K mg base CL Pg n p
 |0,p,hp=>by
  obtain⟨f,fd,ps,qual,st,N,h1,h2,h3,h4,h5⟩:=t.fn p hp;exact⟨f,fd,ps,h1,h2.kp,h3,h4,fun _=>⟨fun vs H Q E ⟨ds,A,_,_,_,z⟩=>z.elim,fun A outer s H args us vs Q E _ _ _ _ ⟨ds,A,_,_,_,z⟩=>z.elim⟩,fun _=>⟨fun vs H Q E ⟨ds,A,_,_,_,z⟩=>z.elim,fun A ev outer s H args us vs Q E _ _ _ _ ⟨ds,A,_,_,_,z⟩=>z.elim⟩⟩
 |n+1,p,hp=>by
  obtain⟨f,fd,ps,qual,st,N,h1,h2,h3,h4,h5⟩:=t.fn p hp;refine⟨f,fd,ps,h1,h2.kp,h3,h4,fun hlt=>?_,fun hge=>?_⟩
  ·have eb:C8 1000 p.2.2=Ae:=by
    cases e:C8 1000 p.2.2 with
    |false=>rfl
    |true=>exact absurd (EV e) (by omega)
   rw[eb]at h5;exact Uy t (fun q hq=>PH t n q hq) h2 h4 h5
  ·rw[Dq hge]at h5;exact pE t (fun q hq=>PH t n q hq) h2 h4 h5
theorem pL{i:Af}{u:CN}(h:mg x=Aa (.int i u)):MO K mg CL x (.int i):=⟨_,.int i,h,⟨_,rfl⟩,fun _ _=>rfl⟩
theorem oH{s s':Ar}{e:Ak}(h:CXR P w [] H s (fun _ _ _=>AW) e s'):AW:=by
 obtain⟨_,_,_,_,_,_,_,_,_,_,_,_,_,_,_,z⟩:=h;exact z
noncomputable def Vh:Be->An (Ap×AO)
 |.Expr e p=>Aa (e,p)
 |_=>Ad
theorem bX{e:Be}{t:Ap×AO}(h:Vh e=Aa t):e=.Expr t.1 t.2:=by
 cases e with
 |Expr x p=>cases h;rfl
 |_=>exact nomatch (show Ad=Aa t from h)
noncomputable def Vk:Be->An (Ap×Ap×AO)
  | .Assign ts v p=>(match ts with
    |[t]=>Aa (t,v,p)
    | _=>Ad)
  |_=>Ad
theorem cB{e:Be}{t:Ap×Ap×AO}(h:Vk e=Aa t):e=.Assign [t.1] t.2.1 t.2.2:=by
 cases e with
 |Assign ts v p=>
  cases ts with
  |nil=>exact nomatch (show Ad=Aa t from h)
  |cons a ts=>
   cases ts with
   |nil=>cases h;rfl
   |cons=>exact nomatch (show Ad=Aa t from h)
 |_=>exact nomatch (show Ad=Aa t from h)
noncomputable def QF:Ap->An (Ap×Ai×AO)
 |.Attribute e x p=>Aa (e,x,p)
 |_=>Ad
theorem SY{e:Ap}{t:Ap×Ai×AO}(h:QF e=Aa t):e=.Attribute t.1 t.2.1 t.2.2:=by
 cases e with
 |Attribute e x p=>cases h;rfl
 |_=>exact nomatch (show Ad=Aa t from h)
noncomputable def Vf:Ap->An (Ac Ap×AO)
 |.JoinedStr l p=>Aa (l,p)
 |_=>Ad
theorem bV{e:Ap}{t:Ac Ap×AO}(h:Vf e=Aa t):e=.JoinedStr t.1 t.2:=by
 cases e with
 |JoinedStr l p=>cases h;rfl
 |_=>exact nomatch (show Ad=Aa t from h)
noncomputable def Vg:Ap->An (Ap×Af×AO)
  | .FormattedValue e n f p=>(match f with
    |none=>Aa (e,n,p)
    | _=>Ad)
  |_=>Ad
theorem bW{e:Ap}{t:Ap×Af×AO}(h:Vg e=Aa t):e=.FormattedValue t.1 t.2.1 Ad t.2.2:=by
 cases e with
 |FormattedValue e n f p=>
  cases f with
  |none=>cases h;rfl
  |some=>exact nomatch (show Ad=Aa t from h)
 |_=>exact nomatch (show Ad=Aa t from h)
noncomputable def Vj:Ap->An (Ai×Ag×AO)
  | .Constant c k p=>(match c with
    |.str z=>Aa (z,k,p)
    | _=>Ad)
  |_=>Ad
theorem cA{e:Ap}{t:Ai×Ag×AO}(h:Vj e=Aa t):e=.Constant (.str t.1) t.2.1 t.2.2:=by
 cases e with
 |Constant c k p=>
  cases c with
  |str z=>cases h;rfl
  |_=>exact nomatch (show Ad=Aa t from h)
 |_=>exact nomatch (show Ad=Aa t from h)
noncomputable def VS(g par f:Ai)(b:Ac Be):An FZ:=(Lx b).bind fun s=>(Vh s.1).bind fun c=>(Ly c.1).bind fun cl=>(QF cl.1).bind fun at1=>(Ey at1.1).bind fun g1=>(Lx cl.2.1).bind fun ab=>(Ey ab.1).bind fun s1=>(Vf ab.2).bind fun j=>(Lx j.1).bind fun fk=>(Vg fk.1).bind fun fm=>(Ey fm.1).bind fun q1=>(Vj fk.2).bind fun z=>(Vk s.2).bind fun t=>(QF t.1).bind fun at2=>(Ey at2.1).bind fun s2=>(Ey t.2.1).bind fun q2=>
 if (g1.1==g&&(at1.2.1==("__init__" : Ai)&&(s1.1==("self" : Ai)&&(q1.1==par&&(decide (fm.2.1=-1)&&(s2.1==("self" : Ai)&&(at2.2.1==f&&(q2.1==par&&(at1.2.2.endLine==cl.2.2.line&&C8 z.1.length 1000)))))))))=Ab then Aa () else Ad
noncomputable def VT(g par f:Ai)(b:Ac Be):Ao:=(VS g par f b).isSome
theorem fP{g par f:Ai}{b:Ac Be}(h:VT g par f b=Ab):∃ z k np apos p1 p2 p3 p4 p5 cpos p6 p7 p8 p9 p10,b=QS g par f z k np apos p1 p2 p3 p4 p5 cpos p6 p7 p8 p9 p10/\(apos.endLine==cpos.line)=Ab/\z.length<=1000:=by
 obtain⟨_,h⟩:=En.mp (show (VS g par f b).isSome=Ab from h)
 obtain⟨s,e1,h⟩:=Ay.mp h;obtain⟨c,e2,h⟩:=Ay.mp h;obtain⟨cl,e3,h⟩:=Ay.mp h;obtain⟨at1,e4,h⟩:=Ay.mp h;obtain⟨g1,e5,h⟩:=Ay.mp h;obtain⟨ab,e6,h⟩:=Ay.mp h;obtain⟨s1,e7,h⟩:=Ay.mp h;obtain⟨j,e8,h⟩:=Ay.mp h;obtain⟨fk,e9,h⟩:=Ay.mp h;obtain⟨fm,f1,h⟩:=Ay.mp h;obtain⟨q1,f2,h⟩:=Ay.mp h;obtain⟨z,f3,h⟩:=Ay.mp h;obtain⟨t,f4,h⟩:=Ay.mp h;obtain⟨at2,f5,h⟩:=Ay.mp h;obtain⟨s2,f6,h⟩:=Ay.mp h;obtain⟨q2,f7,h⟩:=Ay.mp h;split at h
 ·rename_i hc;simp only[Aj,AR,AT]at hc;obtain⟨c1,c2,c3,c4,c5,c6,c7,c8,h1,h2⟩:=hc;rw[Mb e1,bX e2,Mm e3,SY e4,F0 e5,Mb e6,F0 e7,bV e8,Mb e9,bW f1,F0 f2,cA f3,cB f4,SY f5,F0 f6,F0 f7,c1,c2,c3,c4,c5,c6,c7,c8];exact⟨_,_,_,_,_,_,_,_,_,_,_,_,_,_,_,rfl,by rw[AR];exact h1,EV h2⟩
 ·cases h
noncomputable def NX(g par f:Ai)(st:Be):Ao:=
 (CB st).kind==.function&&((CB st).isCoroutine==Ae&&((CB st).isGenerator==Ae&&(Lg ["self", par]&&((CB st).names.lookup ("self" : Ai)==Aa .local&&((CB st).names.lookup par==Aa .local&&(((CB st).names.all fun y=>y.2 != .free) &&
  ((CB st).names.lookup g==Aa .globalImplicit&&(g != ("__debug__" : Ai)&&(par != ("__debug__" : Ai)&&(par != ("__classdict__" : Ai)&&VT g par f (F1 st)))))))))))
noncomputable def NT(s:Be):Be:=match s with
  |.ClassDef _ _ _ (b::_) _ _ _ _ _ _ _=>b
  |s=>s
def InI(K:Fg)(f:Ah)(qual:Ai)(st:Be):Prop:=∃ fd,Fun K "__init__" qual st f fd
theorem ini_mk{st:Be}{f:Ah}{kV doc pm cdv ct:Ak}(l:K.lookup f=Aa ⟨oc,od,.func (CO "__init__" qual (JF st) (F1 st) (CB st) .none kV doc pm an cdv ct),osl⟩)(c:E2 K cdv qual=Ab)(k:B8 K (.ref f)=Ab):InI K f qual st:=⟨_,Ut l c k⟩
theorem TY{fI:Ah}{g par f qual:Ai}{st:Be}(a:InI K fI qual st)(hk:NX g par f st=Ab)(hb:∀(u0 u1 kV doc pm:Ak)(an:An Ah)(cdv ct:Ak),JW (CO "__init__" qual (JF st) (F1 st) (CB st) .none kV doc pm an cdv ct) ⟨[u0,u1],[]⟩=pure ((["self", par]:Ac Ai).zip [u0,u1]))(xc:Eh K C (Aa (.ref fI))=Ab)(dc:FO K C=Ab)(ty:Dt K (.ref fI)=Aa (.type "function"))(mo:mg g=Aa (.ref OV))(s1:ET K (.ref OV) "__getattribute__" = Aa (Aa (.builtin "type.__getattribute__")))(s2:FD K OV (.type "type")=Ab)(s3:FC K (.ref OV) (.type "type") "__init__" = Aa (.val (.builtin "ValueError.__init__")))(hf:Aw K (.ref C) f=Aa Ad)(hs:Aw K (.ref C) "__setattr__" = Aa (Aa (.builtin "object.__setattr__"))):XIn K mg C f:=by
 obtain⟨fd,fn⟩:=a;unfold NX at hk;simp only[Aj,AR,CM,HB,LP]at hk;obtain⟨c1,c2,c3,c4,c5,c6,c7,c8,c9,c10,c11,c12⟩:=hk;obtain⟨z,k,np,apos,p1,p2,p3,p4,p5,cpos,p6,p7,p8,p9,p10,eb,hl,hz⟩:=fP c12;exact .mk xc dc fn ty ⟨c1,c2,c3,J7 c4,rfl,fun x hx=>by
  rcases AD.mp hx with rfl|hx
  ·exact .inl c5
  ·rw[Bv.mp hx];exact .inl c6,c7⟩ c5 c6 (fn.binds fun kV doc pm an cdv ct us hu=>match us,hu with | [u0,u1],_=>hb u0 u1 kV doc pm an cdv ct) eb c8 mo (by simpa using c9) (by simpa using c10) (by simpa using c11) s1 s2 s3 hl hz hf hs
theorem NR(h:∀ ds,xn c ds=.bad\/xn c ds=.ok ⟨c,[]⟩)(e:Eh K C Ad=Ab)(ds:Ac D):xn c ds=.bad\/(xn c ds=.ok ⟨c,[]⟩/\Eh K C Ad=Ab)\/∃ f,XIn K mg C f/\NO xn c f ds:=(h ds).imp id fun z=>.inl ⟨z,e⟩
theorem UU{f:Ai}(h:∀ ds,xn c ds=mkX c f ds)(x:XIn K mg C f)(ds:Ac D):xn c ds=.bad\/(xn c ds=.ok ⟨c,[]⟩/\Eh K C Ad=Ab)\/∃ f,XIn K mg C f/\NO xn c f ds:=by
  have e:=h ds
  match ds,e with
  |[],e=>exact .inl e
  |_::_::_,e=>exact .inl e
  |[d],e=>
    have e':xn c [d]=if (xfD 1 d||xfD 2 d)=Ab then .ok ⟨c,[(f,d)]⟩ else .bad:=e
    by_cases z:(xfD 1 d||xfD 2 d)=Ab
    · rw[AG z]at e';refine .inr (.inr ⟨f,x,d,?_⟩);rw[B9]at z;rcases z with z|z
      · exact⟨0,rfl,z,by decide,e'⟩
      · exact⟨1,rfl,z,by decide,e'⟩
    · rw[AI z]at e';exact .inl e'
theorem Ln(dc:FO K C=Ab)(h1:Aw K (.ref C) "triple" = Aa Ad)(h2:Aw K (.ref C) "points" = Aa Ad)(f:Ai)(h:(f==("triple" : Ai)||f==("points" : Ai))=Ab):FO K C=Ab/\Aw K (.ref C) f=Aa Ad:=by
 rw[B9]at h;rcases h with h|h
 ·rw[eq_of_beq h];exact⟨dc,h1⟩
 ·rw[eq_of_beq h];exact⟨dc,h2⟩
def NS(K:Fg):Sp:=fun vs H Q _=>∃(a:Ah)(ns:Ac Af),vs=[.ref a]/\ns.length<=63/\SqL K H a (ns.map V.int)/\∀ v H',v=V.bl Ab->Q v H'
theorem law_fn{f:Ah}(G:FnOk P w K mg base CX k f fd ps (spD K CL 1 Ae F))(h:∀ ns:Ac Af,F [.lst (ns.map .int)]=.ok (.bl Ab)):FnOk P w K mg base CX k f fd ps (NS K):=G.imp fun vs H Q E ⟨a,ns,e,hl,hS,q⟩=>by
 subst e;have rs:∀ l:Ac Af,Reps K CL H A0 (l.map V.int) (l.map D.int):=fun l=>by
  induction l with
  |nil=>trivial
  |cons x l ih=>exact⟨rfl,ih⟩
 refine⟨[.lst (ns.map .int)],A0,rfl,fun _ z=>z.elim,⟨⟨a,_,rfl,.inl (fun z=>z),hS,rs ns⟩,trivial⟩,?_⟩
 rw[h ns];exact fun v H' _ r=>q v H' r.1
theorem Mj{Q:α->Prop}:∀ x∈([]:Ac α),Q x:=fun _ h=>nomatch h
theorem all_cons{Q:α->Prop}{a:α}{l:Ac α}(h1:Q a)(h2:∀ x∈l,Q x):∀ x∈a::l,Q x:=List.forall_mem_cons.2 ⟨h1,h2⟩
def FnI(K:Fg)(f:Ah)(n:Ai)(st:Be):Prop:=∃ fd,Fun K n n st f fd/\BB K A8 n=Aa (Aa (.ref f))
theorem fni{st:Be}{f:Ah}{kV doc pm cdv ct:Ak}(a:BB K A8 n=Aa (Aa (.ref f)))(l:K.lookup f=Aa ⟨oc,od,.func (CO n n (JF st) (F1 st) (CB st) .none kV doc pm an cdv ct),osl⟩)(c:E2 K cdv n=Ab)(k:B8 K (.ref f)=Ab):FnI K f n st:=⟨_,Ut l c k,a⟩
def Bd(n:Ai)(st:Be)(ps:Ac Ai)(us:Ac Ak):Prop:=∀(kV doc pm:Ak)(an:An Ah)(cdv ct:Ak),JW (CO n n (JF st) (F1 st) (CB st) .none kV doc pm an cdv ct) ⟨us,[]⟩=pure (ps.zip us)
theorem NA{f:Ah}{st:Be}{ps N:Ac Ai}(m id:Ag)(X:K.In h)(G:h.Ns A8 mg)(A:FnI K f n st)(hl:ps.length=m%1000)(hc:Il fuel (C8 1000 m) fns bl rzs exs gls ps N st (Pg.defs id)=Ab)(hb:∀ us:Ac Ak,us.length=ps.length->Bd n st ps us):LF K mg fns bl rzs exs gls Pg fuel (n,id,m):=by
 obtain⟨fd,F,a⟩:=A;exact⟨_,_,_,_,_,_,BM X G a,F,F.binds fun kV doc pm an cdv ct us hu=>hb us hu kV doc pm an cdv ct,hl,hc⟩
theorem LA{f:Ah}{st:Be}{N:Ac Ai}(m id:Ag)(X:K.In h)(G:h.Ns A8 mg)(A:FnI K f n st)(hl:1=m%1000)(hc:Il fuel (C8 1000 m) fns bl rzs exs gls [x0] N st (Pg.defs id)=Ab)(hb:∀ u0,Bd n st [x0] [u0]):LF K mg fns bl rzs exs gls Pg fuel (n,id,m):=
 NA (ps:=[x0]) m id X G A hl hc fun us hu=>match us,hu with | [u0],_=>hb u0
theorem Gv{f:Ah}{st:Be}{N:Ac Ai}(m id:Ag)(X:K.In h)(G:h.Ns A8 mg)(A:FnI K f n st)(hl:2=m%1000)(hc:Il fuel (C8 1000 m) fns bl rzs exs gls [x0,x1] N st (Pg.defs id)=Ab)(hb:∀ u0 u1,Bd n st [x0,x1] [u0,u1]):LF K mg fns bl rzs exs gls Pg fuel (n,id,m):=
 NA (ps:=[x0,x1]) m id X G A hl hc fun us hu=>match us,hu with | [u0,u1],_=>hb u0 u1
theorem Ic{f:Ah}{st:Be}{N:Ac Ai}{x2:Ai}(m id:Ag)(X:K.In h)(G:h.Ns A8 mg)(A:FnI K f n st)(hl:3=m%1000)(hc:Il fuel (C8 1000 m) fns bl rzs exs gls [x0,x1,x2] N st (Pg.defs id)=Ab)(hb:∀ u0 u1 u2,Bd n st [x0,x1,x2] [u0,u1,u2]):LF K mg fns bl rzs exs gls Pg fuel (n,id,m):=
 NA (ps:=[x0,x1,x2]) m id X G A hl hc fun us hu=>match us,hu with | [u0,u1,u2],_=>hb u0 u1 u2
theorem QQ{f:Ah}{st:Be}{N:Ac Ai}{x2 x3:Ai}(m id:Ag)(X:K.In h)(G:h.Ns A8 mg)(A:FnI K f n st)(hl:4=m%1000)(hc:Il fuel (C8 1000 m) fns bl rzs exs gls [x0,x1,x2,x3] N st (Pg.defs id)=Ab)(hb:∀ u0 u1 u2 u3,Bd n st [x0,x1,x2,x3] [u0,u1,u2,u3]):LF K mg fns bl rzs exs gls Pg fuel (n,id,m):=
 NA (ps:=[x0,x1,x2,x3]) m id X G A hl hc fun us hu=>match us,hu with | [u0,u1,u2,u3],_=>hb u0 u1 u2 u3
end
end Ov
namespace OvC
open PySem Ov
variable{p t k m at_ N w fl:Af}{d T PP:D}{ns:Ac Af}{n i j:Ag}{Γ:Gam}{ρ:Rho}{xs P PL:Ac D}{e:Ex}{s7 s11 s12 s13 s14 s15:Sl}
noncomputable def OI:Df:=⟨4,Ae,(.cons (.ret (.call 1 (.cons (.var 0) (.cons (.bin .Add (.bin .Sub (.bin .Mult (.idx (.var 1) (.int 0)) (.bin .Sub (.bin .Mult (.idx (.var 2) (.int 1)) (.idx (.var 3) (.int 2))) (.bin .Mult (.idx (.var 2) (.int 2)) (.idx (.var 3) (.int 1))))) (.bin .Mult (.idx (.var 1) (.int 1)) (.bin .Sub (.bin .Mult (.idx (.var 2) (.int 0)) (.idx (.var 3) (.int 2))) (.bin .Mult (.idx (.var 2) (.int 2)) (.idx (.var 3) (.int 0)))))) (.bin .Mult (.idx (.var 1) (.int 2)) (.bin .Sub (.bin .Mult (.idx (.var 2) (.int 0)) (.idx (.var 3) (.int 1))) (.bin .Mult (.idx (.var 2) (.int 1)) (.idx (.var 3) (.int 0)))))) .nil)))) .nil)⟩
noncomputable abbrev tr(a b c:Af):D:=.tup [.int a,.int b,.int c]
noncomputable def det(a0 a1 a2 b0 b1 b2 c0 c1 c2:Af):Af:=a0*(b1*c2-b2*c1)-a1*(b0*c2-b2*c0)+a2*(b0*c1-b1*c0)
def Sm(x:Af):Prop:=0<=x/\x<11
theorem mo{x:Af}(h:Sm x)(y:Af):EB x y=Ab:=Jb (by have:=h.1;omega) (by have:=h.2;omega)
theorem Sm.of(h:P4 p)(x:Af):Sm (x%p):=⟨AZ _ (by have:=h.pos;omega),by have:=AX x h.pos;have:=h.hi;omega⟩
theorem Q7{body:D->Rho->O}(I:Rho->Prop)(g:Af->Ao):∀(L:Ac Af),(∀ t∈L,∀ ρ,I ρ->(g t=Ab/\body (.int t) ρ=.ret (.int t) Ae)\/(g t=Ae/\∃ ρ',body (.int t) ρ=.next ρ'/\I ρ'))->∀ ρ,I ρ->(∃ t∈L,g t=Ab/\Cj body (L.map D.int) ρ=.ret (.int t) Ae)\/((∀ t∈L,g t=Ae)/\∃ ρ',Cj body (L.map D.int) ρ=.next ρ'/\I ρ')
 |[],_,ρ,i=>.inr ⟨(fun _ h=>nomatch h),ρ,rfl,i⟩
 |m::L,h,ρ,i=>by
  rcases h m (AE ..) ρ i with ⟨e1,e2⟩|⟨e1,ρ',e2,i'⟩
  ·refine .inl ⟨m,AE ..,e1,?_⟩;show (body (.int m) ρ).turn _=_;rw[e2];rfl
  ·rcases Q7 I g L (fun m' h'=>h m' (AA _ h')) ρ' i' with ⟨t,ht,a,b⟩|⟨a,r,b,c⟩
   ·refine .inl ⟨t,AA _ ht,a,?_⟩;show (body (.int m) ρ).turn _=_;rw[e2];exact b
   ·refine .inr ⟨fun t ht=>?_,r,?_,c⟩
    ·rcases AD.mp ht with rfl|ht
     ·exact e1
     ·exact a t ht
    ·show (body (.int m) ρ).turn _=_;rw[e2];exact b
noncomputable def KG:Ss:=(.cons (.ife (.cmp .Eq (.call 1 (.cons (.var 0) (.cons (.bin .Mult (.var 1) (.var 2)) .nil))) (.int 1)) (.cons (.ret (.var 2)) .nil) .nil) .nil)
noncomputable def MZ:Df:=⟨3,Ae,(.cons (.fors 2 (.rng2 (.int 1) (.var 0)) KG) (.cons (.rais 2 (.cons (.str (Bh "a number with the rest 0 is not turned over")) .nil)) .nil))⟩
noncomputable def GS(p:Af):Ac Af:=(A5 (p-1).toNat).map fun(k:Ag)=>1+(k:Af)
theorem KZ:t∈GS p↔1<=t/\t<p:=by
 unfold GS;rw[List.mem_map];constructor
 ·rintro⟨k,hk,rfl⟩;have:=Ba.mp hk;omega
 ·rintro⟨h1,h2⟩;exact⟨(t-1).toNat,Ba.mpr (by omega),by omega⟩
theorem Sa(h:P4 p):Du 1 p=.ok ((GS p).map D.int):=by
 rcases h with rfl|rfl|rfl|rfl<;>rfl
theorem fM:∀ p:Fin 12,(p.val=3\/p.val=5\/p.val=7\/p.val=11)->∀ r:Fin 12,r.val<p.val->r.val≠0->∃ t:Fin 12,1<=t.val/\t.val<p.val/\r.val*t.val%p.val=1:=by decide +kernel
theorem Mu{n:Af}(h:P4 p)(hn:n%p≠0):∃ t,1<=t/\t<p/\n*t%p=1:=by
 have p0:0<p/\p<12:=by rcases h with rfl|rfl|rfl|rfl<;>decide
 obtain⟨q,rfl⟩:∃ q:Ag,p=q:=⟨p.toNat,by omega⟩
 have h0:=AZ n (b:=(q:Af)) (by omega)
 have h1:=AX n p0.1;obtain⟨r,hr⟩:∃ r:Ag,n%(q:Af)=r:=⟨(n%(q:Af)).toNat,by omega⟩
 obtain⟨t,t1,t2,t3⟩:=fM ⟨q,by omega⟩ (by rcases h with e|e|e|e<;>simp<;>omega) ⟨r,by omega⟩ (by show r<q;omega) (by show r≠0;omega)
 refine⟨(t.val:Af),by omega,by show (t.val:Af)<q;exact Int.ofNat_lt.mpr t2,?_⟩
 have e:((r*t.val%q:Ag):Af)=1:=by rw[show r*t.val%q=1 from t3];rfl
 rw[<-e,Int.natCast_emod,Int.natCast_mul,<-hr];exact(BS n _ _).trans (by rw[BS (n%(q:Af)) (t.val:Af) (q:Af),BN n (Da _)])
theorem Gq{r:R D}(h:r=.ok d):EM Ab r=.ok d:=by rw[h];rfl
def Jh(p n t:Af):Prop:=1<=t/\t<p/\n*t%p=1
theorem Rj{n u:Af}(h1:Jh p n t)(h2:Jh p n u):t=u:=by
 have hp:1<p:=by have:=h1.1;have:=h1.2.1;omega
 have e:t%p=u%p:=by
  have a:t%p=t*(n*u)%p:=by rw[BS,h2.2.2,Fl,BN _ (Da p)]
  have b:u%p=(n*t)*u%p:=by rw[BS (n*t) u p,h1.2.2,Db,BN _ (Da p)]
  rw[a,b]
  congr 1
  rw[<-Gh,BZ t n]
 rw[A6 (by have:=h1.1;omega) h1.2.1,A6 (by have:=h2.1;omega) h2.2.1]at e
 exact e
theorem D9{c x:Af}(hp:P4 p)(hc:c%p≠0)(hx:x%p≠0):c*x%p≠0:=fun z=>by
 obtain⟨t,_,_,e⟩:=Mu hp hc;refine hx ?_;have e1:x%p=(c*t)*x%p:=by rw[BS (c*t) x p,e,Db,BN _ (Da p)]
 rw[e1,show c*t*x=t*(c*x) by rw[BZ c t,Gh],BS,z,GB,Cz]
noncomputable def Bq(p:Af):Ac Af->An Af
 |[]=>Ad
 |x::xs=>if x%p=0 then Bq p xs else Aa (x%p)
theorem OS{p:Af}:∀{xs:Ac Af},Bq p xs=Ad↔∀ x∈xs,x%p=0
 |[]=>by simp[Bq]
 |x::xs=>by
  unfold Bq;by_cases h:x%p=0
  ·rw[AG h,OS (xs:=xs)];simp[h]
  ·rw[AI h];simp[h]
theorem Nf{p l:Af}(hp:0<p):∀{xs:Ac Af},Bq p xs=Aa l->l%p≠0/\0<l/\l<p
 |[],h=>by cases h
 |x::xs,h=>by
  unfold Bq at h;by_cases hx:x%p=0
  ·rw[AG hx]at h;exact Nf hp h
  ·rw[AI hx]at h;cases h;have h0:=AZ x (b:=p) (by omega)
   have h1:=AX x hp;exact⟨by rw[BN _ (Da p)];exact hx,by omega,h1⟩
theorem Na{p c:Af}(hp:P4 p)(hc:c%p≠0){f:Af->Af}(hf:∀ x,f x%p=c*x%p):∀ xs:Ac Af,Bq p (xs.map f)=(Bq p xs).map fun l=>c*l%p
 |[]=>rfl
 |x::xs=>by
  rw[BE];unfold Bq;rw[hf x];by_cases hx:x%p=0
  ·rw[AG hx,AG (by rw[BS,hx,GB,Cz]),Na hp hc hf xs]
  ·rw[AI hx,AI (D9 hp hc hx),Iq]
   congr 1
   rw[BS c (x%p),BN _ (Da p),<-BS]
noncomputable def ds(xs:Ac Af):Ac D:=xs.map D.int
noncomputable def DE(b:Ao)(xs:Ac Af):D:=if b=Ab then .tup (ds xs) else .lst (ds xs)
theorem Ry(b xs):De (DE b xs)=.ok (ds xs):=by unfold DE;cases b<;>rfl
theorem KJ{g:D->R Ao}{f:D->R D}{φ:Af->Af}:∀(xs:Ac Af),(∀ x∈xs,g (.int x)=.ok Ab/\f (.int x)=.ok (.int (φ x)))->Cb g f (ds xs)=.ok (ds (xs.map φ))
 |[],_=>rfl
 |x::xs,h=>by
  obtain⟨h1,h2⟩:=h x (AE ..);show (g (.int x)).bind _=_;rw[h1,R.bind_ok,AG rfl,h2,R.bind_ok];show (Cb g f (ds xs)).bind _=_;rw[KJ xs fun y hy=>h y (AA _ hy)]
  rfl
noncomputable def Et:E:=(.bl Ab)
noncomputable def Oq:E:=(.call 1 (.cons (.var 0) (.cons (.var 5) .nil)))
noncomputable def Op:E:=(.call 1 (.cons (.var 0) (.cons (.bin .Mult (.var 4) (.var 6)) .nil)))
noncomputable def HV:Ss:=(.cons (.ife (.cmp .NotEq (.var 3) (.int 0)) (.cons (.asg 4 Ae (.call 9 (.cons (.var 0) (.cons (.var 3) .nil)))) (.cons (.ret (.bi .tuple (.cons (.comp Op 6 (.e (.var 2)) Et) .nil))) .nil)) .nil) .nil)
noncomputable def M4:Df:=⟨7,Ae,(.cons (.asg 2 Ae (.comp Oq 5 (.e (.var 1)) Et)) (.cons (.fors 3 (.e (.var 2)) HV) (.cons (.rais 3 (.cons (.str (Bh "all the numbers have the rest 0")) .nil)) .nil)))⟩
noncomputable def fmI(p t:Af)(xs:Ac Af):Ac Af:=xs.map fun x=>t*(x%p)%p
section
variable{Γ:Gam}{p:Af}{xs:Ac Af}{b:Ao}
end
theorem Om{g:D->R Ao}{f:D->R D}{q:Af->Ao}:∀(xs:Ac Af),(∀ x∈xs,g (.int x)=.ok (q x)/\f (.int x)=.ok (.int x))->Cb g f (ds xs)=.ok (ds (xs.filter q))
 |[],_=>rfl
 |x::xs,h=>by
  obtain⟨h1,h2⟩:=h x (AE ..);have ih:=Om xs fun y hy=>h y (AA _ hy)
  show (g (.int x)).bind _=_;rw[h1,R.bind_ok];cases hq:q x with
  |true=>
   rw[AG rfl,h2,R.bind_ok,E8,hq,AG rfl];show (Cb g f (ds xs)).bind _=_;rw[ih];rfl
  |false=>
   rw[AI (by decide),E8,hq,AI (by decide)]
   exact ih
theorem Rb{p:Af}(hp:0<p):∀(xs:Ac Af),((xs.map fun x=>x%p).filter fun r=>decide (0<r)).head?=Bq p xs
 |[]=>rfl
 |x::xs=>by
  have h0:=AZ x (b:=p) (by omega)
  unfold Bq;rw[BE,E8];by_cases h:x%p=0
  ·rw[AG h,AI (by simp[h]),Rb hp xs]
  ·rw[AI h,AG (by simp;omega)]
   rfl
theorem YI{p l t:Af}(it:Jh p l t):((GS p).filter fun k=>decide (k*l%p=1)).head?=Aa t:=by
 have hm:t∈(GS p).filter fun k=>decide (k*l%p=1):=Ct.mpr ⟨KZ.mpr ⟨it.1,it.2.1⟩,by simp[BZ t l,it.2.2]⟩
 cases e:(GS p).filter fun k=>decide (k*l%p=1) with
 |nil=>rw[e]at hm;cases hm
 |cons u us=>
  have hu:u∈(GS p).filter fun k=>decide (k*l%p=1):=by rw[e];exact AE ..
  obtain⟨h1,h2⟩:=Ct.mp hu;obtain⟨a,b⟩:=KZ.mp h1;have h3:u*l%p=1:=by simpa using h2
  rw[Rj it ⟨a,b,by rw[BZ];exact h3⟩]
  rfl
theorem Rl{xs:Ac Af}{l:Af}(h:xs.head?=Aa l):Di (ds xs) 0=.ok (.int l):=by
 cases xs with
 |nil=>cases h
 |cons x xs=>cases h;exact Pf (by omega) rfl
theorem Uw:∀ xs:Ac Af,eqDs (ds xs) (ds xs)=Ab
 |[]=>rfl
 |x::xs=>by
  show (eqD (.int x) (.int x)&&eqDs (ds xs) (ds xs))=Ab;rw[Uw xs];simp
noncomputable abbrev own(xs:Ac Af):Sl:=Aa (.lst (ds xs),Ab)
section
variable{Γ:Gam}{ns:Ac Af}{a1 a2 a4 a6 a7 a8 a9 b0 b1 b2 b3 b4:Sl}{p:Af}
end
section
variable{Γ:Gam}{ns:Ac Af}{a1 a4 a6 a7 a8 a9 b2 b3 b4:Sl}{p m:Af}{xs:Ac Af}
end
def Cg(p x y:Af):Prop:=x%p=y%p
section
variable{p a b c d:Af}
theorem Cg.rfl:Cg p a a:=Eq.refl _
theorem Cg.of(h:a=b):Cg p a b:=by unfold Cg;rw[h]
theorem Cg.trans{a b c:Af}(h:Cg p a b)(g:Cg p b c):Cg p a c:=Eq.trans h g
theorem Cg.symm(h:Cg p a b):Cg p b a:=MP h
theorem Cg.add(h:Cg p a b)(g:Cg p c d):Cg p (a+c) (b+d):=by unfold Cg at *;rw[V2,h,g,<-V2]
theorem Cg.sub(h:Cg p a b)(g:Cg p c d):Cg p (a-c) (b-d):=by unfold Cg at *;rw[HI,h,g,<-HI]
theorem Cg.mul(h:Cg p a b)(g:Cg p c d):Cg p (a*c) (b*d):=by unfold Cg at *;rw[BS,h,g,<-BS]
theorem Cg.md(h:a=b%p):Cg p a b:=by unfold Cg;rw[h,BN _ (Da p)]
end
theorem JJ{p a0 a1 a2 b0 b1 b2 c0 c1 c2 x0 x1 x2 y0 y1 y2 z0 z1 z2:Af}(h0:Cg p a0 x0)(h1:Cg p a1 x1)(h2:Cg p a2 x2)(h3:Cg p b0 y0)(h4:Cg p b1 y1)(h5:Cg p b2 y2)(h6:Cg p c0 z0)(h7:Cg p c1 z1)(h8:Cg p c2 z2):Cg p (a0*(b1*c2-b2*c1)-a1*(b0*c2-b2*c0)+a2*(b0*c1-b1*c0)) (x0*(y1*z2-y2*z1)-x1*(y0*z2-y2*z0)+x2*(y0*z1-y1*z0)):=
 ((h0.mul ((h4.mul h8).sub (h5.mul h7))).sub (h1.mul ((h3.mul h8).sub (h5.mul h6)))).add (h2.mul ((h3.mul h7).sub (h4.mul h6)))
theorem P4.m1(h:P4 p):(-1:Af)%p≠0:=by rcases h with rfl|rfl|rfl|rfl<;>decide
theorem P4.o1(h:P4 p):(1:Af)%p≠0:=by rcases h with rfl|rfl|rfl|rfl<;>decide
abbrev R3:=Af×Af×Af
variable{a x' x y r g y':R3}{L pts pl good:Ac R3}
noncomputable def EC(a:R3):D:=.lst [.int a.1,.int a.2.1,.int a.2.2]
noncomputable def Av(a b c:R3):Af:=det a.1 a.2.1 a.2.2 b.1 b.2.1 b.2.2 c.1 c.2.1 c.2.2
def In3(p:Af)(a:R3):Prop:=(0<=a.1/\a.1<p)/\(0<=a.2.1/\a.2.1<p)/\(0<=a.2.2/\a.2.2<p)
structure GoodR (p:Af) (a b c:R3):Prop where
 p4:P4 p
 ia:In3 p a
 ib:In3 p b
 ic:In3 p c
 nz:Av a b c%p≠0
theorem GoodR.of{a b c a' b' c':R3}(h:GoodR p a b c)(hk:k%p≠0)(e:Cg p (Av a' b' c') (k*Av a b c))(hin:In3 p a'/\In3 p b'/\In3 p c'):GoodR p a' b' c':=⟨h.p4,hin.1,hin.2.1,hin.2.2,by rw[show Av a' b' c'%p=_ from e];exact D9 h.p4 hk h.nz⟩
noncomputable def QO(t:Af)(a:R3):R3:=(a.1*t,a.2.1*t,a.2.2*t)
noncomputable def Hb(t:Af)(a b:R3):R3:=(a.1+t*b.1,a.2.1+t*b.2.1,a.2.2+t*b.2.2)
noncomputable def mdR(p:Af)(a:R3):R3:=(a.1%p,a.2.1%p,a.2.2%p)
noncomputable def scR(p t:Af)(a:R3):R3:=mdR p (QO t a)
noncomputable def adR(p t:Af)(a b:R3):R3:=mdR p (Hb t a b)
theorem NQ(h:0<p)(a:R3):In3 p (mdR p a):=⟨⟨AZ _ (by omega),AX _ h⟩,⟨AZ _ (by omega),AX _ h⟩,⟨AZ _ (by omega),AX _ h⟩⟩
theorem qL(h:0<p)(t:Af)(a:R3):In3 p (scR p t a):=NQ h _
theorem Lw(h:0<p)(t:Af)(a b:R3):In3 p (adR p t a b):=NQ h _
theorem XS(p t:Af)(a b c:R3):Cg p (Av (scR p t a) b c) (t*Av a b c):=by
 refine Cg.trans (b:=Av (QO t a) b c) ?_ (Cg.of (by unfold Av det QO;grind))
 unfold Av det;exact JJ (Cg.md (by rfl)) (Cg.md (by rfl)) (Cg.md (by rfl)) Cg.rfl Cg.rfl Cg.rfl Cg.rfl Cg.rfl Cg.rfl
theorem uJ(p t:Af)(a b c:R3):Cg p (Av (adR p t a b) b c) (1*Av a b c):=by
 refine Cg.trans (b:=Av (Hb t a b) b c) ?_ (Cg.of (by unfold Av det Hb;grind))
 unfold Av det;exact JJ (Cg.md (by rfl)) (Cg.md (by rfl)) (Cg.md (by rfl)) Cg.rfl Cg.rfl Cg.rfl Cg.rfl Cg.rfl Cg.rfl
theorem uI(p t:Af)(a b c:R3):Cg p (Av (adR p t a c) b c) (1*Av a b c):=by
 refine Cg.trans (b:=Av (Hb t a c) b c) ?_ (Cg.of (by unfold Av det Hb;grind))
 unfold Av det;exact JJ (Cg.md (by rfl)) (Cg.md (by rfl)) (Cg.md (by rfl)) Cg.rfl Cg.rfl Cg.rfl Cg.rfl Cg.rfl Cg.rfl
theorem uH(p t:Af)(a b c:R3):Cg p (Av a (adR p t b a) c) (1*Av a b c):=by
 refine Cg.trans (b:=Av a (Hb t b a) c) ?_ (Cg.of (by unfold Av det Hb;grind))
 unfold Av det;exact JJ Cg.rfl Cg.rfl Cg.rfl (Cg.md (by rfl)) (Cg.md (by rfl)) (Cg.md (by rfl)) Cg.rfl Cg.rfl Cg.rfl
theorem uG(p t:Af)(a b c:R3):Cg p (Av a (adR p t b c) c) (1*Av a b c):=by
 refine Cg.trans (b:=Av a (Hb t b c) c) ?_ (Cg.of (by unfold Av det Hb;grind))
 unfold Av det;exact JJ Cg.rfl Cg.rfl Cg.rfl (Cg.md (by rfl)) (Cg.md (by rfl)) (Cg.md (by rfl)) Cg.rfl Cg.rfl Cg.rfl
theorem uF(p t:Af)(a b c:R3):Cg p (Av a b (adR p t c a)) (1*Av a b c):=by
 refine Cg.trans (b:=Av a b (Hb t c a)) ?_ (Cg.of (by unfold Av det Hb;grind))
 unfold Av det;exact JJ Cg.rfl Cg.rfl Cg.rfl Cg.rfl Cg.rfl Cg.rfl (Cg.md (by rfl)) (Cg.md (by rfl)) (Cg.md (by rfl))
theorem uE(p t:Af)(a b c:R3):Cg p (Av a b (adR p t c b)) (1*Av a b c):=by
 refine Cg.trans (b:=Av a b (Hb t c b)) ?_ (Cg.of (by unfold Av det Hb;grind))
 unfold Av det;exact JJ Cg.rfl Cg.rfl Cg.rfl Cg.rfl Cg.rfl Cg.rfl (Cg.md (by rfl)) (Cg.md (by rfl)) (Cg.md (by rfl))/-! ### draws -/
theorem eV(h0:0<=k)(h1:k<ns.length):Di (ns.map D.int) k=.ok (.int (ns.getD k.toNat 0)):=Pf h0 (by
 have:k.toNat<ns.length:=by omega
 simp[this])
noncomputable abbrev ownR(a b c:R3):Sl:=Aa (.lst [EC a,EC b,EC c],Ab)
section
variable{Γ:Gam}{ns:Ac Af}{at_ many s5 s0 s1 s2:Sl}{p t m:Af}{a b c:R3}
end
section
variable{Γ:Gam}{ns:Ac Af}{many s5 s6 s7 s8 s9 s0 s1 s2:Sl}{p:Af}{a b c:R3}
end
noncomputable def G9(a b c:R3):D:=.lst [EC a,EC b,EC c]
noncomputable def Ol:E:=(.bin .Mod (.var 5) (.var 0))
noncomputable def Oh:E:=(.cmp .Gt (.var 6) (.int 0))
noncomputable def KH:E:=(.var 6)
noncomputable def Og:E:=(.cmp .Eq (.bin .Mod (.bin .Mult (.var 7) (.var 3)) (.var 0)) (.int 1))
noncomputable def Oj:E:=(.var 7)
noncomputable def Oi:E:=(.bin .Mod (.bin .Mult (.var 8) (.var 4)) (.var 0))
noncomputable def Os:Df:=⟨9,Ae,(.cons (.asg 2 Ae (.comp Ol 5 (.e (.var 1)) Et)) (.cons (.asg 3 Ae (.idx (.comp KH 6 (.e (.var 2)) Oh) (.int 0))) (.cons (.asg 4 Ae (.idx (.comp Oj 7 (.rng2 (.int 1) (.var 0)) Og) (.int 0))) (.cons (.ret (.bi .tuple (.cons (.comp Oi 8 (.e (.var 2)) Et) .nil))) .nil))))⟩
theorem dR(Γ:Gam){b:Ao}{xs:Ac Af}{l t:Af}(hp:P4 p)(e:Bq p xs=Aa l)(it:Jh p l t):Os.run Γ [.int p,DE b xs]=.ok (.tup (ds (fmI p t xs))):=by
 have p0:=hp.pos;have ph:=hp.hi;have c1:Cb (cG Γ [si p,sh (DE b xs),Ad,Ad,Ad,Ad,Ad,Ad,Ad] 5 Et) (cF Γ [si p,sh (DE b xs),Ad,Ad,Ad,Ad,Ad,Ad,Ad] 5 Ol) (ds xs)=.ok (ds (xs.map fun x=>x%p)):=by
  refine KJ xs fun x _=>⟨rfl,?_⟩
  simp[cF,Ol,p0]
 generalize hR:(xs.map fun x=>x%p)=rs at c1
 have c2:Cb (cG Γ [si p,sh (DE b xs),sh (.lst (ds rs)),Ad,Ad,Ad,Ad,Ad,Ad] 6 Oh) (cF Γ [si p,sh (DE b xs),sh (.lst (ds rs)),Ad,Ad,Ad,Ad,Ad,Ad] 6 KH) (ds rs)=.ok (ds (rs.filter fun r=>decide (0<r))):=by
  refine Om rs fun x _=>⟨?_,?_⟩
  ·simp[cG,Oh]
  ·simp[cF,KH]
 have hl:=Rb p0 xs;rw[hR,e]at hl;generalize hL:(rs.filter fun r=>decide (0<r))=ls at c2 hl
 have g0:=Rl hl;obtain⟨_,l0,l1⟩:=Nf p0 e;have c3:Cb (cG Γ [si p,sh (DE b xs),sh (.lst (ds rs)),si l,Ad,Ad,Ad,Ad,Ad] 7 Og) (cF Γ [si p,sh (DE b xs),sh (.lst (ds rs)),si l,Ad,Ad,Ad,Ad,Ad] 7 Oj) (ds (GS p))=.ok (ds ((GS p).filter fun k=>decide (k*l%p=1))):=by
  refine Om (GS p) fun x hx=>⟨?_,?_⟩
  ·obtain⟨x1,x2⟩:=KZ.mp hx;have m:EB x l=Ab:=Jb (by omega) (by omega)
   simp[cG,Og,m,p0];rw[Dy];simp
  ·simp[cF,Oj]
 have g1:=Rl (YI it);have c4:Cb (cG Γ [si p,sh (DE b xs),sh (.lst (ds rs)),si l,si t,Ad,Ad,Ad,Ad] 8 Et) (cF Γ [si p,sh (DE b xs),sh (.lst (ds rs)),si l,si t,Ad,Ad,Ad,Ad] 8 Oi) (ds rs)=.ok (ds (rs.map fun r=>t*r%p)):=by
  refine KJ rs fun x _=>⟨rfl,?_⟩
  have m:EB x t=Ab:=Pq (by have:=it.1;omega) (by have:=it.2.1;omega)
  simp[cF,Oi,m,p0,BZ]
 have ru:Du 1 p=.ok (ds (GS p)):=Sa hp;have fe:fmI p t xs=rs.map fun r=>t*r%p:=by rw[<-hR];simp[fmI,EU,FX]
 simp[Os,Df.run,BA,Ry,c1,c2,g0,ru,c3,g1,c4,fe]
noncomputable def Yi(a b c:R3):Ac Af:=[a.1,a.2.1,a.2.2,b.1,b.2.1,b.2.2,c.1,c.2.1,c.2.2]
noncomputable def fmR(p t:Af)(a:R3):R3:=(t*(a.1%p)%p,t*(a.2.1%p)%p,t*(a.2.2%p)%p)
def Bd(n:Ag)(x:Af):Prop:=x.natAbs<2 ^ n
theorem Bd.mul{m:Ag}{x y:Af}(h:Bd m x)(g:Bd n y):Bd (m+n) (x*y):=by
 unfold Bd at *;rw[Int.natAbs_mul,Nat.pow_add];exact Nat.mul_lt_mul'' h g
theorem Bd.sub{x y:Af}(h:Bd n x)(g:Bd n y):Bd (n+1) (x-y):=by
 unfold Bd at *;rw[Nat.pow_succ];omega
theorem Li{m:Ag}{x y:Af}(h:Bd m x)(g:Bd n y)(hm:m<=2000)(hn:n<=2000):Ht x y=Ab:=by
 unfold Ht Bd at *;rw[Aj,AT,AT];exact⟨AN h (Fa (by decide) hm),AN g (Fa (by decide) hn)⟩
def B3(a:R3):Prop:=Bd 300 a.1/\Bd 300 a.2.1/\Bd 300 a.2.2
noncomputable def Am(q:Ao)(a:R3):D:=DE q [a.1,a.2.1,a.2.2]
theorem HX(q:Ao)(a:R3):DQ (Am q a) (.int 0)=.ok (.int a.1)/\DQ (Am q a) (.int 1)=.ok (.int a.2.1)/\DQ (Am q a) (.int 2)=.ok (.int a.2.2):=by cases q<;>exact⟨rfl,rfl,rfl⟩
def Ml(Γ:Gam):Prop:=∀(p:Af)(q:Ao)(a b c:R3),0<p->B3 a->B3 b->B3 c->Γ.F 61 [.int p,Am q a,Am q b,Am q c]=.ok (.int (Av a b c%p))
theorem dN(h:Lk Γ)(p:Af)(q:Ao)(a b c:R3)(hp:0<p)(ha:B3 a)(hb:B3 b)(hc:B3 c):OI.run Γ [.int p,Am q a,Am q b,Am q c]=.ok (.int (Av a b c%p)):=by
 obtain⟨a0,a1,a2⟩:=HX q a;obtain⟨b0,b1,b2⟩:=HX q b;obtain⟨c0,c1,c2⟩:=HX q c;have k:∀ {x y},Bd 300 x->Bd 300 y->Ht x y=Ab:=fun hx hy=>Li hx hy (by decide) (by decide)
 have k2:∀ {x y z u v},Bd 300 x->Bd 300 y->Bd 300 z->Bd 300 u->Bd 300 v->Ht x (y*z-u*v)=Ab:=fun hx hy hz hu hv=>Li hx ((hy.mul hz).sub (hu.mul hv)) (by decide) (by decide)
 simp[OI,Df.run,BA,a0,a1,a2,b0,b1,b2,c0,c1,c2,k hb.2.1 hc.2.2,k hb.2.2 hc.2.1,k hb.1 hc.2.2,k hb.2.2 hc.1,k hb.1 hc.2.1,k hb.2.1 hc.1,k2 ha.1 hb.2.1 hc.2.2 hb.2.2 hc.2.1,k2 ha.2.1 hb.1 hc.2.2 hb.2.2 hc.1,k2 ha.2.2 hb.1 hc.2.1 hb.2.1 hc.1,h p _ hp];rfl
section
variable{Γ:Gam}{ns:Ac Af}{p t:Af}{a b c r:R3}{made s6 s7:Sl}
end
theorem OB{p:Af}:∀{xs ys:Ac Af},xs.map (fun x=>x%p)=ys.map (fun x=>x%p)->Bq p xs=Bq p ys
 |[],[],_=>rfl
 |x::xs,y::ys,h=>by
  rw[BE,BE,V9]at h;unfold Bq;rw[h.1,OB h.2]
 |[],_::_,h=>by simp at h
 |_::_,[],h=>by simp at h
theorem aV{xs ys:Ac Af}(h:xs.map (fun x=>x%p)=ys.map (fun x=>x%p)):fmI p t xs=fmI p t ys:=by
 have e:∀ zs:Ac Af,fmI p t zs=(zs.map fun x=>x%p).map fun r=>t*r%p:=fun zs=>by simp[fmI,EU,FX]
 rw[e,e,h]
theorem uC(hp:0<p)(t:Af)(a:R3):In3 p (fmR p t a):=⟨⟨AZ _ (by omega),AX _ hp⟩,⟨AZ _ (by omega),AX _ hp⟩,⟨AZ _ (by omega),AX _ hp⟩⟩
section
variable{Γ:Gam}{ns:Ac Af}{p m:Af}{a b c:R3}{fa fb fc:R3}{q:Ao}{s9 s0 s1 s2:Sl}
end
def OM(Γ:Gam):Prop:=∀ p n:Af,P4 p->n%p≠0->∃ t,1<=t/\t<p/\n*t%p=1/\Γ.F 9 [.int p,.int n]=.ok (.int t)
def TC(Γ:Gam):Prop:=∀(p:Af)(b:Ao)(xs:Ac Af)(l t:Af),P4 p->Bq p xs=Aa l->Jh p l t->Γ.F 17 [.int p,DE b xs]=.ok (.tup (ds (fmI p t xs)))
theorem YS(hr:Lk Γ)(p n:Af)(hp:P4 p)(z:n%p≠0):∃ t,1<=t/\t<p/\n*t%p=1/\MZ.run Γ [.int p,.int n]=.ok (.int t):=by
 have p0:=hp.pos;have ph:=hp.hi;have body:∀ t∈GS p,∀ ρ,(∃ s,ρ=[si p,si n,s])->(decide (n*t%p=1)=Ab/\Bk Γ 2 KG (.int t) ρ=.ret (.int t) Ae)\/(decide (n*t%p=1)=Ae/\∃ ρ',Bk Γ 2 KG (.int t) ρ=.next ρ'/\∃ s,ρ'=[si p,si n,s]):=by
  rintro t ht ρ ⟨s,rfl⟩;obtain⟨t1,t2⟩:=KZ.mp ht;have m:EB n t=Ab:=Pq (by omega) (by omega)
  by_cases e:n*t%p=1
  ·exact .inl ⟨by simp[e],by simp[Bk,KG,hr p (n*t) p0,m,e,Dh]⟩
  ·exact .inr ⟨by simp[e],_,by simp[Bk,KG,hr p (n*t) p0,m,e];rfl,_,rfl⟩
 have run:∀ o,Cj (Bk Γ 2 KG) ((GS p).map D.int) [si p,si n,Ad]=o->MZ.run Γ [.int p,.int n]=(F9 Γ (.cons (.rais 2 (.cons (.str (Bh "a number with the rest 0 is not turned over")) .nil)) .nil) o).ans Ae:=by
  rintro o rfl;simp[MZ,Df.run,BA,Sa hp]
 rcases Q7 (fun ρ=>∃ s,ρ=[si p,si n,s]) (fun t=>decide (n*t%p=1)) (GS p) body [si p,si n,Ad] ⟨_,rfl⟩ with ⟨t,ht,a,b⟩|⟨a,r,b,s,rfl⟩
 ·obtain⟨t1,t2⟩:=KZ.mp ht;have a':n*t%p=1:=by simpa using a
  exact⟨t,t1,t2,a',by rw[run _ b];rfl⟩
 ·obtain⟨t,t1,t2,e⟩:=Mu hp z;have:=a t (KZ.mpr ⟨t1,t2⟩);simp[e]at this
section
variable{Γ:Gam}{p:Af}{xs:Ac Af}{b:Ao}
theorem Si(hr:Lk Γ)(ht:OM Γ)(hp:P4 p)(rs:Ac Af):∀(ys:Ac Af),(∀ y∈ys,0<=y/\y<p)->∀ s3,(Bq p ys=Ad->∃ s3',Cj (Bk Γ 3 HV) (ds ys) [si p,sh (DE b xs),sh (.lst (ds rs)),s3,Ad,Ad,Ad]=.next [si p,sh (DE b xs),sh (.lst (ds rs)),s3',Ad,Ad,Ad])/\(∀ l t,Bq p ys=Aa l->Jh p l t->Cj (Bk Γ 3 HV) (ds ys) [si p,sh (DE b xs),sh (.lst (ds rs)),s3,Ad,Ad,Ad]=.ret (.tup (ds (rs.map fun r=>t*r%p))) Ae)
 |[],_,s3=>⟨fun _=>⟨s3,rfl⟩,(fun l t h=>nomatch h)⟩
 |y::ys,hy,s3=>by
  obtain⟨y0,y1⟩:=hy y (AE ..);have ym:y%p=y:=A6 y0 y1;have ih:=Si hr ht hp rs ys (fun z hz=>hy z (AA _ hz)) (si y)
  have step:∀ o,Bk Γ 3 HV (.int y) [si p,sh (DE b xs),sh (.lst (ds rs)),s3,Ad,Ad,Ad]=o->Cj (Bk Γ 3 HV) (ds (y::ys)) [si p,sh (DE b xs),sh (.lst (ds rs)),s3,Ad,Ad,Ad]=o.turn (Cj (Bk Γ 3 HV) (ds ys)):=by
   rintro o rfl;rfl
  unfold Bq;rw[ym];by_cases hz:y=0
  ·have e:Bk Γ 3 HV (.int y) [si p,sh (DE b xs),sh (.lst (ds rs)),s3,Ad,Ad,Ad]=.next [si p,sh (DE b xs),sh (.lst (ds rs)),si y,Ad,Ad,Ad]:=by
    simp[Bk,HV,hz]
   rw[AG hz,step _ e];exact ih
  ·rw[AI hz];refine⟨(fun z=>nomatch z),fun l t e it=>?_⟩
   cases e;obtain⟨u,u1,u2,u3,u4⟩:=ht p y hp (by rw[ym];exact hz)
   have:t=u:=Rj it ⟨u1,u2,u3⟩;subst this;have p0:=hp.pos;have ph:=hp.hi;have cp:Cb (cG Γ [si p,sh (DE b xs),sh (.lst (ds rs)),si y,si t,Ad,Ad] 6 Et) (cF Γ [si p,sh (DE b xs),sh (.lst (ds rs)),si y,si t,Ad,Ad] 6 Op) (ds rs)=.ok (ds (rs.map fun r=>t*r%p)):=by
    refine KJ rs fun r _=>⟨rfl,?_⟩
    have m:EB t r=Ab:=Jb (by omega) (by omega)
    simp[cF,Op,m,hr p (t*r) p0]
   have e:Bk Γ 3 HV (.int y) [si p,sh (DE b xs),sh (.lst (ds rs)),s3,Ad,Ad,Ad]=.ret (.tup (ds (rs.map fun r=>t*r%p))) Ae:=by
    simp[Bk,HV,hz,u4,cp,Dh]
   rw[step _ e];rfl
theorem dQ(hr:Lk Γ)(ht:OM Γ)(hp:P4 p){l t:Af}(e:Bq p xs=Aa l)(it:Jh p l t):M4.run Γ [.int p,DE b xs]=.ok (.tup (ds (fmI p t xs))):=by
 have p0:=hp.pos;have cp:Cb (cG Γ [si p,sh (DE b xs),Ad,Ad,Ad,Ad,Ad] 5 Et) (cF Γ [si p,sh (DE b xs),Ad,Ad,Ad,Ad,Ad] 5 Oq) (ds xs)=.ok (ds (xs.map fun x=>x%p)):=by
  refine KJ xs fun x _=>⟨rfl,?_⟩
  simp[cF,Oq,hr p x p0]
 have run:∀ o,Cj (Bk Γ 3 HV) (ds (xs.map fun x=>x%p)) [si p,sh (DE b xs),sh (.lst (ds (xs.map fun x=>x%p))),Ad,Ad,Ad,Ad]=o->M4.run Γ [.int p,DE b xs]=(F9 Γ (.cons (.rais 3 (.cons (.str (Bh "all the numbers have the rest 0")) .nil)) .nil) o).ans Ae:=by
  rintro o rfl;simp[M4,Df.run,BA,Ry,cp]
 have le:Bq p (xs.map fun x=>x%p)=Bq p xs:=by
  have:=Na (c:=1) hp (by rcases hp with rfl|rfl|rfl|rfl<;>decide) (f:=fun x=>x%p) (fun x=>by rw[Db,BN _ (Da p)]) xs
  rw[this];cases e:Bq p xs with
  |none=>rfl
  |some l=>
   obtain⟨_,l0,l1⟩:=Nf p0 e;simp[A6 (Int.le_of_lt l0) l1]
 obtain⟨a,c⟩:=Si (b:=b) (xs:=xs) hr ht hp (xs.map fun x=>x%p) (xs.map fun x=>x%p) (fun y hy=>by
  obtain⟨x,_,rfl⟩:=B4.mp hy;exact⟨AZ _ (by omega),AX _ p0⟩) Ad
 rw[le]at a c;rw[run _ (c l t e it)];simp[fmI,EU,FX]
end
noncomputable def JK(t q:Ao)(a b c:R3):D:=if t=Ab then .tup [Am q a,Am q b,Am q c] else .lst [Am q a,Am q b,Am q c]
theorem Yc(t q:Ao)(a b c:R3):De (JK t q a b c)=.ok [Am q a,Am q b,Am q c]:=by cases t<;>rfl
noncomputable def DJ(a b c:R3):R3:=(a.1,b.1,c.1)
noncomputable def DF(a b c:R3):R3:=(a.2.1,b.2.1,c.2.1)
noncomputable def Dv(a b c:R3):R3:=(a.2.2,b.2.2,c.2.2)
noncomputable def BJ(a x:R3):Af:=a.1*x.1+a.2.1*x.2.1+a.2.2*x.2.2
noncomputable def crs(a b:R3):R3:=(a.2.1*b.2.2-a.2.2*b.2.1,a.2.2*b.1-a.1*b.2.2,a.1*b.2.1-a.2.1*b.1)
theorem Tk:∀ xs ys:Ac Af,eqDs (ds xs) (ds ys)=decide (xs=ys)
 |[],[]=>rfl
 |[],_::_=>rfl
 |_::_,[]=>rfl
 |x::xs,y::ys=>by
  show ((x==y)&&eqDs (ds xs) (ds ys))=_;rw[Tk xs ys,Dy];simp
theorem PX(a b:R3):eqD (Am Ab a) (Am Ab b)=decide (a=b):=by
 show eqDs (ds [a.1,a.2.1,a.2.2]) (ds [b.1,b.2.1,b.2.2])=_;rw[Tk,Dy];simp only[V9,and_true,AT];exact⟨fun ⟨h1,h2,h3⟩=>by obtain⟨a1,a2,a3⟩:=a;obtain⟨b1,b2,b3⟩:=b;simp at h1 h2 h3;rw[h1,h2,h3],fun h=>by rw[h];exact⟨rfl,rfl,rfl⟩⟩
def hJ(Γ:Gam):Prop:=∀ a b:R3,B3 a->B3 b->a≠b->Γ.F 23 [Am Ab a,Am Ab b]=.ok (Am Ab (crs a b))
noncomputable def bk0(a b c:R3):R3:=DJ (crs b c) (crs c a) (crs a b)
noncomputable def bk1(a b c:R3):R3:=DF (crs b c) (crs c a) (crs a b)
noncomputable def bk2(a b c:R3):R3:=Dv (crs b c) (crs c a) (crs a b)
theorem NU{x:Af}(hp:P4 p)(h0:0<=x)(h1:x<p):Bd 10 x:=by
 unfold Bd;have:=hp.hi;omega
theorem Bd.mono{m:Ag}{x:Af}(h:Bd m x)(hm:m<=n):Bd n x:=AN h (Fa (by decide) hm)
def Bn(n:Ag)(a:R3):Prop:=Bd n a.1/\Bd n a.2.1/\Bd n a.2.2
theorem Bn.b3(h:Bn n a)(hn:n<=300):B3 a:=⟨h.1.mono hn,h.2.1.mono hn,h.2.2.mono hn⟩
theorem Ih(hp:P4 p)(h:In3 p a):Bn 10 a:=⟨NU hp h.1.1 h.1.2,NU hp h.2.1.1 h.2.1.2,NU hp h.2.2.1 h.2.2.2⟩
theorem pO(a b c:R3):Av (bk0 a b c) (bk1 a b c) (bk2 a b c)=Av a b c*Av a b c:=by
 unfold Av det bk0 bk1 bk2 DJ DF Dv crs;grind
noncomputable def BW(k:Af)(a:R3):R3:=(k*a.1,k*a.2.1,k*a.2.2)
noncomputable def fk0(p:Af)(a b c d:R3):Af:=Av d b c%p
noncomputable def fk1(p:Af)(a b c d:R3):Af:=Av a d c%p
noncomputable def fk2(p:Af)(a b c d:R3):Af:=Av a b d%p
noncomputable def fs0(p:Af)(a b c d:R3):R3:=BW (fk0 p a b c d) a
noncomputable def fs1(p:Af)(a b c d:R3):R3:=BW (fk1 p a b c d) b
noncomputable def fs2(p:Af)(a b c d:R3):R3:=BW (fk2 p a b c d) c
noncomputable def fr2(p:Af)(a b c d:R3):R3:=Dv (fs0 p a b c d) (fs1 p a b c d) (fs2 p a b c d)
noncomputable def J4:Ss:=(.cons (.ife (.cmp .Eq (.call 61 (.cons (.var 0) (.cons (.var 3) (.cons (.idx (.var 1) (.var 4)) (.cons (.idx (.var 1) (.var 5)) .nil))))) (.int 0)) (.cons (.ret (.tup (.cons (.var 3) (.cons (.idx (.var 1) (.var 4)) (.cons (.idx (.var 1) (.var 5)) .nil))))) .nil) .nil) .nil)
noncomputable def KI:Ss:=(.cons (.fors 5 (.rng2 (.bin .Add (.var 4) (.int 1)) (.bi .len (.cons (.var 1) .nil))) J4) .nil)
noncomputable def IC:Ss:=(.cons (.fors 4 (.rng2 (.bin .Add (.var 2) (.int 1)) (.bi .len (.cons (.var 1) .nil))) KI) .nil)
noncomputable def Ot:Df:=⟨6,Ae,(.cons (.forT [2,3] (.enm (.var 1)) IC) (.cons (.ret .non) .nil))⟩
def VG(p:Af)(a b c d:R3):Prop:=Av a b c%p≠0/\Av a b d%p≠0/\Av a c d%p≠0/\Av b c d%p≠0
def CgR(p:Af)(x y:R3):Prop:=Cg p x.1 y.1/\Cg p x.2.1 y.2.1/\Cg p x.2.2 y.2.2
section
variable{p:Af}{a b c a' b' c' x y z x':R3}{k l m k':Af}
theorem CgR.rfl:CgR p a a:=⟨Cg.rfl,Cg.rfl,Cg.rfl⟩
theorem CgR.of(h:a=b):CgR p a b:=by rw[h];exact CgR.rfl
theorem CgR.trans(h:CgR p a b)(g:CgR p b c):CgR p a c:=⟨h.1.trans g.1,h.2.1.trans g.2.1,h.2.2.trans g.2.2⟩
theorem CgR.symm(h:CgR p a b):CgR p b a:=⟨h.1.symm,h.2.1.symm,h.2.2.symm⟩
theorem CgR.sc(hk:Cg p k k')(h:CgR p a b):CgR p (BW k a) (BW k' b):=⟨hk.mul h.1,hk.mul h.2.1,hk.mul h.2.2⟩
theorem CgR.md(h:a=mdR p b):CgR p a b:=by rw[h];exact⟨Cg.md _root_.rfl,Cg.md _root_.rfl,Cg.md _root_.rfl⟩
theorem Px(ha:CgR p a a')(hb:CgR p b b')(hc:CgR p c c'):Cg p (Av a b c) (Av a' b' c'):=by
 unfold Av det;exact JJ ha.1 ha.2.1 ha.2.2 hb.1 hb.2.1 hb.2.2 hc.1 hc.2.1 hc.2.2
theorem IE(ha:CgR p a a')(hb:CgR p b b'):Cg p (BJ a b) (BJ a' b'):=((ha.1.mul hb.1).add (ha.2.1.mul hb.2.1)).add (ha.2.2.mul hb.2.2)
theorem oO(ha:CgR p a a')(hb:CgR p b b')(hc:CgR p c c'):CgR p (DJ a b c) (DJ a' b' c')/\CgR p (DF a b c) (DF a' b' c')/\CgR p (Dv a b c) (Dv a' b' c'):=⟨⟨ha.1,hb.1,hc.1⟩,⟨ha.2.1,hb.2.1,hc.2.1⟩,⟨ha.2.2,hb.2.2,hc.2.2⟩⟩
theorem oK(ha:CgR p a a')(hb:CgR p b b'):CgR p (crs a b) (crs a' b'):=
 ⟨(ha.2.1.mul hb.2.2).sub (ha.2.2.mul hb.2.1),(ha.2.2.mul hb.1).sub (ha.1.mul hb.2.2),(ha.1.mul hb.2.1).sub (ha.2.1.mul hb.1)⟩
theorem uD(p t:Af)(a:R3):CgR p (fmR p t a) (BW t a):=by
 have key:∀ x:Af,Cg p (t*(x%p)%p) (t*x):=fun x=>(Cg.md _root_.rfl).trans (Cg.rfl.mul (Cg.md _root_.rfl))
 exact⟨key _,key _,key _⟩
noncomputable def ap(a b c x:R3):R3:=(BJ a x,BJ b x,BJ c x)
theorem Ux(a b c x y z:R3):Av (ap a b c x) (ap a b c y) (ap a b c z)=Av a b c*Av x y z:=by
 unfold Av det ap BJ;grind
theorem oF(k l m:Af)(x y z:R3):Av (BW k x) (BW l y) (BW m z)=k*l*m*Av x y z:=by
 unfold Av det BW;grind
theorem Qj(k l:Af)(x:R3):BW k (BW l x)=BW (k*l) x:=by
 unfold BW;simp only[Gh]
theorem uN(a b c x:R3)(k:Af):ap a b c (BW k x)=BW k (ap a b c x):=by
 unfold ap BW BJ;refine Dz ?_ (Dz ?_ ?_)<;>(simp only;grind)
theorem jD(x y z:R3):Av (DJ x y z) (DF x y z) (Dv x y z)=Av x y z:=by
 unfold Av det DJ DF Dv;grind
end
theorem Nd(a b:R3):BJ a b=BJ b a:=by unfold BJ;grind
section
variable{p:Af}{a b c f0 f1 f2 f3 g0 g1 g2 g3:R3}{d0 d1 d2 d3:Af}
end
section
variable{Γ:Gam}{ns:Ac Af}
end
section
variable{Γ:Gam}{ns:Ac Af}{many s5 s6 s7 s8 s9 s0 s1 s2:Sl}{p:Af}{a b c:R3}
end
def InL(p:Af)(xs:Ac Af):Prop:=∀ x∈xs,0<=x/\x<p
theorem InL.set{xs:Ac Af}(h:InL p xs)(k:Ag){v:Af}(h0:0<=v)(h1:v<p):InL p (xs.set k v):=fun x hx=>by
 rcases List.mem_or_eq_of_mem_set hx with z|rfl
 ·exact h x z
 ·exact⟨h0,h1⟩
section
variable{Γ:Gam}{ns:Ac Af}{p at_:Af}
end
section
variable{Γ:Gam}{ns:Ac Af}{p t:Af}
end
structure C6 where
 c0:Af
 c1:Af
 c2:Af
 c3:Af
 c4:Af
 c5:Af
variable{C:C6}
noncomputable def C6.l(C:C6):Ac Af:=[C.c0,C.c1,C.c2,C.c3,C.c4,C.c5]
noncomputable def vI(C:C6)(x:R3):Af:=C.c0*x.1*x.1+C.c1*x.2.1*x.2.1+C.c2*x.2.2*x.2.2+(C.c3*x.1*x.2.1+C.c4*x.1*x.2.2+C.c5*x.2.1*x.2.2)
noncomputable def tw0(C:C6):R3:=(2*C.c0,C.c3,C.c4)
noncomputable def tw1(C:C6):R3:=(C.c3,2*C.c1,C.c5)
noncomputable def tw2(C:C6):R3:=(C.c4,C.c5,2*C.c2)
noncomputable def bI(C:C6)(x y:R3):Af:=BJ (ap (tw0 C) (tw1 C) (tw2 C) x) y
noncomputable def scC(k:Af)(C:C6):C6:=⟨k*C.c0,k*C.c1,k*C.c2,k*C.c3,k*C.c4,k*C.c5⟩
def CgC(p:Af)(C D:C6):Prop:=Cg p C.c0 D.c0/\Cg p C.c1 D.c1/\Cg p C.c2 D.c2/\Cg p C.c3 D.c3/\Cg p C.c4 D.c4/\Cg p C.c5 D.c5
noncomputable def pb(C:C6)(a b c:R3):C6:=⟨vI C (DJ a b c),vI C (DF a b c),vI C (Dv a b c),bI C (DJ a b c) (DF a b c),bI C (DJ a b c) (Dv a b c),bI C (DF a b c) (Dv a b c)⟩
section
variable{p:Af}{C D E:C6}{a b c a' b' c' x y x' y':R3}{k k':Af}
theorem C6.ext'(h0:C.c0=D.c0)(h1:C.c1=D.c1)(h2:C.c2=D.c2)(h3:C.c3=D.c3)(h4:C.c4=D.c4)(h5:C.c5=D.c5):C=D:=by
 cases C;cases D;simp_all
theorem CgC.rfl:CgC p C C:=⟨Cg.rfl,Cg.rfl,Cg.rfl,Cg.rfl,Cg.rfl,Cg.rfl⟩
theorem CgC.of(h:C=D):CgC p C D:=by rw[h];exact CgC.rfl
theorem CgC.symm(h:CgC p C D):CgC p D C:=⟨h.1.symm,h.2.1.symm,h.2.2.1.symm,h.2.2.2.1.symm,h.2.2.2.2.1.symm,h.2.2.2.2.2.symm⟩
theorem CgC.trans(h:CgC p C D)(g:CgC p D E):CgC p C E:=⟨h.1.trans g.1,h.2.1.trans g.2.1,h.2.2.1.trans g.2.2.1,h.2.2.2.1.trans g.2.2.2.1,h.2.2.2.2.1.trans g.2.2.2.2.1,h.2.2.2.2.2.trans g.2.2.2.2.2⟩
theorem CgC.sc(hk:Cg p k k')(h:CgC p C D):CgC p (scC k C) (scC k' D):=⟨hk.mul h.1,hk.mul h.2.1,hk.mul h.2.2.1,hk.mul h.2.2.2.1,hk.mul h.2.2.2.2.1,hk.mul h.2.2.2.2.2⟩
theorem NI(h:CgC p C D)(hx:CgR p x x'):Cg p (vI C x) (vI D x'):=
 (((((h.1.mul hx.1).mul hx.1).add ((h.2.1.mul hx.2.1).mul hx.2.1)).add ((h.2.2.1.mul hx.2.2).mul hx.2.2))).add ((((h.2.2.2.1.mul hx.1).mul hx.2.1).add ((h.2.2.2.2.1.mul hx.1).mul hx.2.2)).add ((h.2.2.2.2.2.mul hx.2.1).mul hx.2.2))
theorem UE(h:CgC p C D):CgR p (tw0 C) (tw0 D)/\CgR p (tw1 C) (tw1 D)/\CgR p (tw2 C) (tw2 D):=
 ⟨⟨Cg.rfl.mul h.1,h.2.2.2.1,h.2.2.2.2.1⟩,⟨h.2.2.2.1,Cg.rfl.mul h.2.1,h.2.2.2.2.2⟩,⟨h.2.2.2.2.1,h.2.2.2.2.2,Cg.rfl.mul h.2.2.1⟩⟩
theorem pQ(ha:CgR p a a')(hb:CgR p b b')(hc:CgR p c c')(hx:CgR p x x'):CgR p (ap a b c x) (ap a' b' c' x'):=⟨IE ha hx,IE hb hx,IE hc hx⟩
theorem NM(h:CgC p C D)(hx:CgR p x x')(hy:CgR p y y'):Cg p (bI C x y) (bI D x' y'):=
 let ⟨t0,t1,t2⟩:=UE h
 IE (pQ t0 t1 t2 hx) hy
theorem sC(h:CgC p C D)(ha:CgR p a a')(hb:CgR p b b')(hc:CgR p c c'):CgC p (pb C a b c) (pb D a' b' c'):=
 let ⟨s0,s1,s2⟩:=oO ha hb hc
 ⟨NI h s0,NI h s1,NI h s2,NM h s0 s1,NM h s0 s2,NM h s1 s2⟩
theorem Nw(k l:Af)(C:C6):scC k (scC l C)=scC (k*l) C:=by
 unfold scC;simp only[Gh]
theorem No(C:C6):scC 1 C=C:=by unfold scC;simp only[Db]
theorem rZ(k:Af)(C:C6)(a b c:R3):pb (scC k C) a b c=scC k (pb C a b c):=by
 unfold pb scC vI bI ap tw0 tw1 tw2 BJ;refine C6.ext' ?_ ?_ ?_ ?_ ?_ ?_<;>(simp only;grind)
theorem TZ(C:C6)(x y z:R3)(k l m:Af):vI C (k*x.1+l*y.1+m*z.1,k*x.2.1+l*y.2.1+m*z.2.1,k*x.2.2+l*y.2.2+m*z.2.2)=k*k*vI C x+l*l*vI C y+m*m*vI C z+(k*l*bI C x y+k*m*bI C x z+l*m*bI C y z):=by
 unfold vI bI ap tw0 tw1 tw2 BJ;simp only;grind
theorem Ub(C:C6)(x y z w:R3)(k l m:Af):bI C (k*x.1+l*y.1+m*z.1,k*x.2.1+l*y.2.1+m*z.2.1,k*x.2.2+l*y.2.2+m*z.2.2) w=k*bI C x w+l*bI C y w+m*bI C z w:=by
 unfold bI ap tw0 tw1 tw2 BJ;simp only;grind
theorem Kd(C:C6)(x y:R3):bI C x y=bI C y x:=by
 unfold bI ap tw0 tw1 tw2 BJ;simp only;grind
theorem La(C:C6)(x:R3):bI C x x=2*vI C x:=by
 unfold vI bI ap tw0 tw1 tw2 BJ;simp only;grind
theorem rN(v0 v1 v2 b0 b1 b2:Af)(u w:R3):bI ⟨v0,v1,v2,b0,b1,b2⟩ u w=u.1*(w.1*(2*v0)+w.2.1*b0+w.2.2*b1)+u.2.1*(w.1*b0+w.2.1*(2*v1)+w.2.2*b2)+u.2.2*(w.1*b1+w.2.1*b2+w.2.2*(2*v2)):=by
 unfold bI ap tw0 tw1 tw2 BJ;simp only;grind
theorem XZ(C:C6)(s0 s1 s2 u w:R3):bI C (u.1*s0.1+u.2.1*s1.1+u.2.2*s2.1,u.1*s0.2.1+u.2.1*s1.2.1+u.2.2*s2.2.1,u.1*s0.2.2+u.2.1*s1.2.2+u.2.2*s2.2.2) (w.1*s0.1+w.2.1*s1.1+w.2.2*s2.1,w.1*s0.2.1+w.2.1*s1.2.1+w.2.2*s2.2.1,w.1*s0.2.2+w.2.1*s1.2.2+w.2.2*s2.2.2)=bI ⟨vI C s0,vI C s1,vI C s2,bI C s0 s1,bI C s0 s2,bI C s1 s2⟩ u w:=by
 have e:∀ s:R3,bI C s (w.1*s0.1+w.2.1*s1.1+w.2.2*s2.1,w.1*s0.2.1+w.2.1*s1.2.1+w.2.2*s2.2.1,w.1*s0.2.2+w.2.1*s1.2.2+w.2.2*s2.2.2)=w.1*bI C s0 s+w.2.1*bI C s1 s+w.2.2*bI C s2 s:=fun s=>(Kd C _ _).trans (Ub C s0 s1 s2 s w.1 w.2.1 w.2.2)
 refine Eq.trans ?_ (rN _ _ _ _ _ _ u w).symm;rw[Ub,e,e,e,La C s0,La C s1,La C s2,Kd C s1 s0,Kd C s2 s0,Kd C s2 s1]
theorem oG(C:C6)(a b c:R3):Av (tw0 (pb C a b c)) (tw1 (pb C a b c)) (tw2 (pb C a b c))=Av a b c*Av a b c*Av (tw0 C) (tw1 C) (tw2 C):=by
 have row:∀ s:R3,(bI C s (DJ a b c),bI C s (DF a b c),bI C s (Dv a b c))=ap (DJ a b c) (DF a b c) (Dv a b c) (ap (tw0 C) (tw1 C) (tw2 C) s):=fun s=>by
  unfold bI;rw[Nd,Nd _ (DF a b c),Nd _ (Dv a b c)];rfl
 have e0:tw0 (pb C a b c)=(bI C (DJ a b c) (DJ a b c),bI C (DJ a b c) (DF a b c),bI C (DJ a b c) (Dv a b c)):=by rw[La];rfl
 have e1:tw1 (pb C a b c)=(bI C (DF a b c) (DJ a b c),bI C (DF a b c) (DF a b c),bI C (DF a b c) (Dv a b c)):=by rw[La,Kd C (DF a b c) (DJ a b c)];rfl
 have e2:tw2 (pb C a b c)=(bI C (Dv a b c) (DJ a b c),bI C (Dv a b c) (DF a b c),bI C (Dv a b c) (Dv a b c)):=by rw[La,Kd C (Dv a b c) (DJ a b c),Kd C (Dv a b c) (DF a b c)];rfl
 rw[e0,e1,e2,row,row,row,Ux,Ux,jD];grind
theorem jA(k:Af)(C:C6):Av (tw0 (scC k C)) (tw1 (scC k C)) (tw2 (scC k C))=k*k*k*Av (tw0 C) (tw1 C) (tw2 C):=by
 rw[<-oF];unfold tw0 tw1 tw2 scC BW;simp only[<-Gh,BZ 2 k]
def PrC(p:Af)(C D:C6):Prop:=∃ d,d%p≠0/\CgC p C (scC d D)
theorem PrC.rfl(hp:P4 p):PrC p C C:=⟨1,hp.o1,CgC.of (No C).symm⟩
theorem PrC.trans(hp:P4 p)(i:PrC p C D)(j:PrC p D E):PrC p C E:=by
 obtain⟨d,dz,e⟩:=i;obtain⟨d',dz',e'⟩:=j;exact⟨d*d',D9 hp dz dz',e.trans ((CgC.sc Cg.rfl e').trans (CgC.of (Nw _ _ _)))⟩
theorem P0(hp:P4 p)(dz:k%p≠0):∃ u,u%p≠0/\Cg p (u*k) 1:=by
 obtain⟨u,u1,u2,u3⟩:=Mu hp dz;refine⟨u,by rw[A6 (by omega) u2];omega,?_⟩
 show u*k%p=1%p;rw[BZ,u3,A6 (by decide) (by have:=hp.lo;omega)]
theorem PrC.symm(hp:P4 p)(i:PrC p C D):PrC p D C:=by
 obtain⟨d,dz,e⟩:=i;obtain⟨u,uz,o⟩:=P0 hp dz;refine⟨u,uz,?_⟩;have q:=CgC.sc (k:=u) (k':=u) Cg.rfl e;rw[Nw]at q;exact(q.trans ((CgC.sc o CgC.rfl).trans (CgC.of (No D)))).symm
theorem PrC.pb(i:PrC p C D):PrC p (OvC.pb C a b c) (OvC.pb D a b c):=by
 obtain⟨d,dz,e⟩:=i;exact⟨d,dz,(sC e CgR.rfl CgR.rfl CgR.rfl).trans (CgC.of (rZ d D a b c))⟩
def InC(p:Af)(C:C6):Prop:=∀ x∈C.l,0<=x/\x<p
end
structure BC (C:C6):Prop where
 b0:Bd 10 C.c0
 b1:Bd 10 C.c1
 b2:Bd 10 C.c2
 b3:Bd 10 C.c3
 b4:Bd 10 C.c4
 b5:Bd 10 C.c5
theorem InC.b(hp:P4 p)(h:InC p C):BC C:=by
 have k:∀ x∈C.l,Bd 10 x:=fun x hx=>NU hp (h x hx).1 (h x hx).2
 exact⟨k _ (by simp[C6.l]),k _ (by simp[C6.l]),k _ (by simp[C6.l]),k _ (by simp[C6.l]),k _ (by simp[C6.l]),k _ (by simp[C6.l])⟩
noncomputable def t0(p:Af)(C:C6):R3:=(2*C.c0%p,C.c3,C.c4)
noncomputable def t1(p:Af)(C:C6):R3:=(C.c3,2*C.c1%p,C.c5)
noncomputable def t2(p:Af)(C:C6):R3:=(C.c4,C.c5,2*C.c2%p)
section
variable{Γ:Gam}{ns:Ac Af}{p at_:Af}{φ:Af->Af}
end
noncomputable def e0R:R3:=(1,0,0)
noncomputable def e1R:R3:=(0,1,0)
noncomputable def e2R:R3:=(0,0,1)
noncomputable def e3R:R3:=(1,1,1)
theorem XR(hp:P4 p):In3 p e0R/\In3 p e1R/\In3 p e2R/\In3 p e3R:=by
 have z:0<=(0:Af)/\(0:Af)<p:=⟨by decide,hp.pos⟩
 have o:0<=(1:Af)/\(1:Af)<p:=⟨by decide,by have:=hp.lo;omega⟩
 exact⟨⟨o,z,z⟩,⟨z,o,z⟩,⟨z,z,o⟩,⟨o,o,o⟩⟩
theorem tR(hp:P4 p):VG p e0R e1R e2R e3R:=by
 rcases hp with rfl|rfl|rfl|rfl<;>exact⟨by decide,by decide,by decide,by decide⟩
def Pr(p:Af)(x y:R3):Prop:=∃ d,d%p≠0/\CgR p x (BW d y)
section
variable{p:Af}{a b c x y z f g h:R3}{k:Af}
theorem Mw(x:R3):BW 1 x=x:=by unfold BW;simp only[Db]
theorem Pr.rfl(hp:P4 p):Pr p x x:=⟨1,hp.o1,CgR.of (Mw x).symm⟩
theorem Pr.trans(hp:P4 p)(i:Pr p x y)(j:Pr p y z):Pr p x z:=by
 obtain⟨d,dz,e⟩:=i;obtain⟨d',dz',e'⟩:=j;exact⟨d*d',D9 hp dz dz',e.trans ((CgR.sc Cg.rfl e').trans (CgR.of (Qj _ _ _)))⟩
theorem Pr.symm(hp:P4 p)(i:Pr p x y):Pr p y x:=by
 obtain⟨d,dz,e⟩:=i;obtain⟨u,u1,u2,u3⟩:=Mu hp dz;have uz:u%p≠0:=by rw[A6 (by omega) u2];omega
 have o:Cg p (u*d) 1:=by
  show u*d%p=1%p;rw[BZ,u3,A6 (by decide) (by have:=hp.lo;omega)]
 refine⟨u,uz,?_⟩;have q:=CgR.sc (k:=u) (k':=u) Cg.rfl e;rw[Qj]at q;exact(q.trans ((CgR.sc o CgR.rfl).trans (CgR.of (Mw y)))).symm
theorem Pr.cg(hp:P4 p)(e:CgR p x y):Pr p x y:=⟨1,hp.o1,e.trans (CgR.of (Mw y).symm)⟩
theorem QC{a' b' c':R3}(ha:CgR p a a')(hb:CgR p b b')(hc:CgR p c c')(hx:CgR p x x'):CgR p (ap a b c x) (ap a' b' c' x'):=⟨IE ha hx,IE hb hx,IE hc hx⟩
theorem Pr.ap(i:Pr p x y):Pr p (OvC.ap a b c x) (OvC.ap a b c y):=by
 obtain⟨d,dz,e⟩:=i;exact⟨d,dz,(QC CgR.rfl CgR.rfl CgR.rfl e).trans (CgR.of (uN a b c y d))⟩
theorem U5(a b c v:R3):ap (bk0 a b c) (bk1 a b c) (bk2 a b c) (ap a b c v)=BW (Av a b c) v:=by
 unfold ap BW BJ bk0 bk1 bk2 DJ DF Dv crs Av det;refine Dz ?_ (Dz ?_ ?_)<;>(simp only;grind)
end
noncomputable def tri(g:R3):Ac Af:=[g.1,g.2.1,g.2.2]
theorem Tt(hp:P4 p)(ix:In3 p x)(iy:In3 p y)(lx:Bq p (tri x)=Aa 1)(ly:Bq p (tri y)=Aa 1)(h:Pr p x y):x=y:=by
 obtain⟨d,dz,e⟩:=h;have p1:1<p:=by have:=hp.lo;omega
 have rs:(tri x).map (fun x=>x%p)=((tri y).map fun x=>d*x).map (fun x=>x%p):=by
  simp only[tri,BE,Jp];rw[show x.1%p=d*y.1%p from e.1,show x.2.1%p=d*y.2.1%p from e.2.1,show x.2.2%p=d*y.2.2%p from e.2.2]
 have el:=Na hp dz (f:=fun x=>d*x) (fun _=>rfl) (tri y)
 rw[ly,<-OB rs,lx,Iq,CD,Fl]at el;have o:Cg p d 1:=by
  show d%p=1%p;rw[<-el,A6 (by decide) p1]
 have q:=e.trans ((CgR.sc o CgR.rfl).trans (CgR.of (Mw y)));have same:∀{u v:Af},(0<=u/\u<p)->(0<=v/\v<p)->Cg p u v->u=v:=fun hu hv huv=>by
  have:=show _%p=_%p from huv
  rwa [A6 hu.1 hu.2,A6 hv.1 hv.2]at this
 exact Dz (same ix.1 iy.1 q.1) (Dz (same ix.2.1 iy.2.1 q.2.1) (same ix.2.2 iy.2.2 q.2.2))
structure Led (p:Af) (a b c f0 f1 f2 f3 g0 g1 g2 g3:R3):Prop where
 h0:Pr p g0 (ap a b c f0)
 h1:Pr p g1 (ap a b c f1)
 h2:Pr p g2 (ap a b c f2)
 h3:Pr p g3 (ap a b c f3)
section
variable{p:Af}{a b c a' b' c' f0 f1 f2 f3 g0 g1 g2 g3 h0 h1 h2 h3:R3}
end
section
variable{Γ:Gam}{ns:Ac Af}{p:Af}
theorem fT(hp:P4 p):GoodR p e0R e1R e2R/\Bq p (Yi e0R e1R e2R)=Aa 1:=by
 obtain⟨i0,i1,i2,i3⟩:=XR hp;refine⟨⟨hp,i0,i1,i2,(tR hp).1⟩,?_⟩;rcases hp with rfl|rfl|rfl|rfl<;>decide
end
noncomputable def L3(a b c:R3):Ac D:=[EC a,EC b,EC c]
def Ij(i j:Af):Prop:=(i=0/\j=1)\/(i=0/\j=2)\/(i=1/\j=0)\/(i=1/\j=2)\/(i=2/\j=0)\/(i=2/\j=1)
theorem tU{i j:Af}(hi:m%3=i)(hj:(i+1+m / 3%2)%3=j):Ij i j:=by
 have i3:i=0\/i=1\/i=2:=by omega
 have e2:m / 3%2=0\/m / 3%2=1:=by omega
 rcases i3 with z|z|z<;>rcases e2 with e|e<;>rw[z,e]at hj
 ·exact .inl ⟨z,hj.symm⟩
 ·exact .inr (.inl ⟨z,hj.symm⟩)
 ·exact .inr (.inr (.inr (.inl ⟨z,hj.symm⟩)))
 ·exact .inr (.inr (.inl ⟨z,hj.symm⟩))
 ·exact .inr (.inr (.inr (.inr (.inl ⟨z,hj.symm⟩))))
 ·exact .inr (.inr (.inr (.inr (.inr ⟨z,hj.symm⟩))))
def Ll(Γ:Gam)(mid:Ag)(ns:Ac Af):Prop:=∀ k:Af,0<=k->∃ m,0<=m/\Γ.F mid [scr ns,.int k]=.ok (.int m)
section
variable{Γ:Gam}{ns:Ac Af}{mid:Ag}{p:Af}{a b c:R3}{s2 s4 s5 s6 s7 s8:Sl}
end
theorem Ma{lo hi:Af}(h1:-1000<=lo)(h2:lo<=1000)(h3:-1000<=hi)(h4:hi<=1000):Du lo hi=.ok (Cq lo (hi-lo).toNat):=by
 unfold Du;rw[AG (by refine⟨⟨by omega,by omega⟩,⟨by omega,by omega⟩,?_⟩;omega)]
theorem Um(h:1<p):Bq p [0,0,1]=Aa 1:=by
 simp[Bq,A6 (by decide:(0:Af)<=1) h]
theorem rO(h:1<p)(z:Af):Bq p [0,1,z]=Aa 1:=by
 simp[Bq,A6 (by decide:(0:Af)<=1) h]
theorem VP(h:1<p)(y z:Af):Bq p [1,y,z]=Aa 1:=by
 simp[Bq,A6 (by decide:(0:Af)<=1) h]
theorem O9{p l:Af}(hp:P4 p)(el:Bq p (tri r)=Aa l):∃ u,Jh p l u/\In3 p (fmR p u r)/\Bq p (tri (fmR p u r))=Aa 1/\Pr p (fmR p u r) r/\fmI p u (tri r)=tri (fmR p u r):=by
 have p0:=hp.pos;obtain⟨lz,_,_⟩:=Nf p0 el;obtain⟨t,t1,t2,t3⟩:=Mu hp lz;have tz:t%p≠0:=by rw[A6 (by omega) t2];omega
 have ff:∀ x,(t*(x%p)%p)%p=t*x%p:=fun x=>by rw[BN _ (Da p),BS t (x%p) p,BN _ (Da p),<-BS]
 have lv:=Na hp tz (f:=fun x=>t*(x%p)%p) ff (tri r)
 rw[el,Iq,BZ,t3]at lv;exact⟨t,⟨t1,t2,t3⟩,uC p0 t r,lv,⟨t,tz,uD p t r⟩,rfl⟩
theorem RA(h:Bq p (tri g)=Ad):CgR p g (0,0,0):=by
 have hz:=OS.mp h;have k:∀ x∈tri g,Cg p x 0:=fun x hx=>by show x%p=0%p;rw[hz x hx,Cz]
 exact⟨k _ (by simp[tri]),k _ (by simp[tri]),k _ (by simp[tri])⟩
theorem R9(h:CgR p g (0,0,0)):Bq p (tri g)=Ad:=by
 refine OS.mpr fun x hx=>?_
 have k:∀{x:Af},Cg p x 0->x%p=0:=fun {x} h=>by rw[show x%p=_ from h,Cz]
 simp only[tri,AD,Bt,C4]at hx;rcases hx with rfl|rfl|rfl
 ·exact k h.1
 ·exact k h.2.1
 ·exact k h.2.2
theorem Lb{p l:Af}{a b c f g:R3}(hp:P4 p)(z:Av a b c%p≠0)(lf:Bq p (tri f)=Aa l)(h:CgR p g (ap a b c f)):∃ l,Bq p (tri g)=Aa l:=by
 cases el:Bq p (tri g) with
 |some l=>exact⟨l,rfl⟩
 |none=>
  have q0:CgR p (ap a b c f) (0,0,0):=h.symm.trans (RA el);have q1:CgR p (BW (Av a b c) f) (0,0,0):=by
   have:=QC (CgR.rfl (a:=bk0 a b c)) (CgR.rfl (a:=bk1 a b c)) (CgR.rfl (a:=bk2 a b c)) q0;rw[U5]at this;refine this.trans (CgR.of ?_);unfold ap BJ;simp
  obtain⟨u,uz,o⟩:=P0 hp z;have q2:CgR p f (0,0,0):=by
   have w:=CgR.sc (k:=u) (k':=u) Cg.rfl q1;rw[Qj]at w;refine((CgR.of (Mw f).symm).trans (CgR.sc o.symm CgR.rfl)).trans (w.trans (CgR.of ?_));unfold BW;simp
  rw[R9 q2]at lf;cases lf
theorem NG(x:R3):flD 5 (Am Ab x)=Ab/\eqD (Am Ab x) (Am Ab x)=Ab:=by
 refine⟨rfl,?_⟩;show eqDs (ds [x.1,x.2.1,x.2.2]) (ds [x.1,x.2.1,x.2.2])=Ab;rw[Uw]
section
variable{Γ:Gam}{ns:Ac Af}{p:Af}{C:C6}{s3 s4 s5 s6 s7 s8:Sl}
end
section
variable{Γ:Gam}{ns:Ac Af}
end
noncomputable def Ny:Df:=⟨3,Ae,(.cons (.ret (.call 17 (.cons (.var 0) (.cons (.call 23 (.cons (.var 1) (.cons (.var 2) .nil))) .nil)))) .nil)⟩
theorem aC{a b:R3}(hp:P4 p)(h:CgR p (crs a b) (0,0,0))(la:Bq p (tri a)=Aa 1)(lb:Bq p (tri b)=Aa 1):Pr p b a:=by
 obtain⟨h0,h1,h2⟩:=h;have p1:1<p:=by have:=hp.lo;omega
 have sw:∀{x y:Af},Cg p (x-y) 0->Cg p x y:=fun {x y} h=>by
  have:=h.add (Cg.rfl (a:=y))
  rwa [V6,Ek]at this
 have e0:Cg p (a.2.1*b.2.2) (a.2.2*b.2.1):=sw h0;have e1:Cg p (a.2.2*b.1) (a.1*b.2.2):=sw h1;have e2:Cg p (a.1*b.2.1) (a.2.1*b.1):=sw h2;have one:∀{x:Af},x%p=1->Cg p x 1:=fun {x} h=>by show x%p=1%p;rw[h,A6 (by decide) p1]
 have fin:∀ k,CgR p b (BW k a)->Pr p b a:=fun k hk=>by
  refine⟨k,fun z=>?_,hk⟩
  have:CgR p b (0,0,0):=by
   have kz:Cg p k 0:=by show k%p=0%p;rw[z,Cz]
   refine hk.trans ((CgR.sc kz CgR.rfl).trans (CgR.of ?_));unfold BW;simp
  rw[R9 this]at lb;cases lb
 unfold tri Bq at la;by_cases z0:a.1%p=0
 ·rw[AG z0]at la;have c0:Cg p a.1 0:=by show a.1%p=0%p;rw[z0,Cz]
  unfold Bq at la;by_cases z1:a.2.1%p=0
  ·rw[AG z1]at la;have c1:Cg p a.2.1 0:=by show a.2.1%p=0%p;rw[z1,Cz]
   unfold Bq at la;by_cases z2:a.2.2%p=0
   ·rw[AG z2]at la;cases la
   ·rw[AI z2,CD]at la;have c2:=one la;refine fin b.2.2 ⟨?_,?_,?_⟩
    ·have:=(c2.symm.mul (Cg.rfl (a:=b.1))).trans e1;rw[Db]at this;exact this.trans (Cg.of (BZ _ _))
    ·have:=(c2.symm.mul (Cg.rfl (a:=b.2.1))).trans e0.symm;rw[Db]at this;exact this.trans (Cg.of (BZ _ _))
    ·have:=(Cg.rfl (a:=b.2.2)).mul c2;rw[Fl]at this;exact this.symm
  ·rw[AI z1,CD]at la;have c1:=one la;refine fin b.2.1 ⟨?_,?_,?_⟩
   ·have:=(c1.symm.mul (Cg.rfl (a:=b.1))).trans e2.symm;rw[Db]at this;exact this.trans (Cg.of (BZ _ _))
   ·have:=(Cg.rfl (a:=b.2.1)).mul c1;rw[Fl]at this;exact this.symm
   ·have:=(c1.symm.mul (Cg.rfl (a:=b.2.2))).trans e0;rw[Db]at this;exact this.trans (Cg.of (BZ _ _))
 ·rw[AI z0,CD]at la;have c0:=one la;refine fin b.1 ⟨?_,?_,?_⟩
  ·have:=(Cg.rfl (a:=b.1)).mul c0;rw[Fl]at this;exact this.symm
  ·have:=(c0.symm.mul (Cg.rfl (a:=b.2.1))).trans e2;rw[Db]at this;exact this.trans (Cg.of (BZ _ _))
  ·have:=(c0.symm.mul (Cg.rfl (a:=b.2.2))).trans e1.symm;rw[Db]at this;exact this.trans (Cg.of (BZ _ _))
def Qf(Γ:Gam):Prop:=∀(p:Af)(a b:R3),P4 p->In3 p a->In3 p b->Bq p (tri a)=Aa 1->Bq p (tri b)=Aa 1->a≠b->∃ y,In3 p y/\Bq p (tri y)=Aa 1/\Pr p y (crs a b)/\Γ.F 57 [.int p,Am Ab a,Am Ab b]=.ok (Am Ab y)
theorem lI(hc:hJ Γ)(hf:TC Γ)(p:Af)(a b:R3)(hp:P4 p)(ia:In3 p a)(ib:In3 p b)(la:Bq p (tri a)=Aa 1)(lb:Bq p (tri b)=Aa 1)(ne:a≠b):∃ y,In3 p y/\Bq p (tri y)=Aa 1/\Pr p y (crs a b)/\Ny.run Γ [.int p,Am Ab a,Am Ab b]=.ok (Am Ab y):=by
 have e1:=hc a b ((Ih hp ia).b3 (by decide)) ((Ih hp ib).b3 (by decide)) ne
 cases el:Bq p (tri (crs a b)) with
 |none=>exact absurd (Tt hp ib ia lb la (aC hp (RA el) la lb)).symm ne
 |some l=>
  obtain⟨u,iu,j,l1,pr,ef⟩:=O9 hp el;have e2:=hf p Ab _ l u hp el iu;rw[ef]at e2;have e2':Γ.F 17 [.int p,Am Ab (crs a b)]=.ok (Am Ab (fmR p u (crs a b))):=e2;refine⟨_,j,l1,pr,?_⟩;generalize Am Ab (fmR p u (crs a b))=Y at *;simp[Ny,Df.run,BA,e1,e2']
theorem NC{x:Af}(hp:P4 p)(kz:k%p≠0):k*x%p=0↔x%p=0:=by
 constructor
 ·intro z;exact V0 fun n=>D9 hp kz n z
 ·intro z;rw[BS,z,GB,Cz]
theorem sI(hp:P4 p)(hx:Pr p x x')(hy:Pr p y y'):(BJ x y%p=0)↔(BJ x' y'%p=0):=by
 obtain⟨d,dz,e⟩:=hx;obtain⟨d',dz',e'⟩:=hy;have q:Cg p (BJ x y) (d*d'*BJ x' y'):=(IE e e').trans (Cg.of (by unfold BJ BW;simp only;grind))
 rw[show BJ x y%p=_ from q]
 exact NC hp (D9 hp dz dz')
section
variable{Γ:Gam}{ns:Ac Af}{p:Af}{C:C6}{s3 s4 s5 s6 s7 s8:Sl}
end
def NF(p:Af)(x:R3):Prop:=In3 p x/\Bq p (tri x)=Aa 1
noncomputable def ptI(p n:Af):R3:=if n=0 then (0,0,1) else if n<=p then (0,1,n-1) else (1,(n-p-1) / p,(n-p-1)%p)
noncomputable def Ew(p:Af):Ac R3:=(A5 (p*p+p+1).toNat).map fun(n:Ag)=>ptI p n
theorem rT{n:Af}(hp:P4 p)(h0:0<=n)(h1:n<p*p+p+1):NF p (ptI p n):=by
 have p1:1<p:=by have:=hp.lo;omega
 have p0:=hp.pos;unfold ptI;by_cases z:n=0
 ·rw[AG z];exact⟨⟨⟨by decide,p0⟩,⟨by decide,p0⟩,⟨by decide,p1⟩⟩,Um p1⟩
 ·rw[AI z];by_cases z1:n<=p
  ·rw[AG z1];exact⟨⟨⟨Iy 0,p0⟩,⟨(by decide:(0:Af)<=1),p1⟩,⟨by show 0<=n-1;omega,by show n-1<p;omega⟩⟩,rO p1 _⟩
  ·rw[AI z1];have d0:0<=(n-p-1) / p:=Int.ediv_nonneg (by omega) (by omega)
   have d1:(n-p-1) / p<p:=by rw[Int.ediv_lt_iff_lt_mul p0];omega
   exact⟨⟨⟨(by decide:(0:Af)<=1),p1⟩,⟨d0,d1⟩,⟨AZ _ (by omega),AX _ p0⟩⟩,VP p1 _ _⟩
theorem sN(hp:P4 p)(h:NF p x):∃ n:Af,0<=n/\n<p*p+p+1/\x=ptI p n:=by
 obtain⟨⟨i0,i1,i2⟩,l⟩:=h;have p1:1<p:=by have:=hp.lo;omega
 have p0:=hp.pos;have pp:=JS p0 p0;obtain⟨x0,x1,x2⟩:=x;simp only at i0 i1 i2;unfold tri Bq at l;simp only at l;rw[A6 i0.1 i0.2]at l;by_cases z0:x0=0
 ·rw[AG z0]at l;unfold Bq at l;rw[A6 i1.1 i1.2]at l;by_cases z1:x1=0
  ·rw[AG z1]at l;unfold Bq at l;rw[A6 i2.1 i2.2]at l;by_cases z2:x2=0
   ·rw[AG z2]at l;cases l
   ·rw[AI z2,CD]at l;exact⟨0,Iy 0,by omega,by rw[z0,z1,l];rfl⟩
  ·rw[AI z1,CD]at l;refine⟨x2+1,by omega,by omega,?_⟩
   unfold ptI;rw[AI (by omega),AG (by omega),z0,l,Int.add_sub_cancel]
 ·rw[AI z0,CD]at l;have m1:p*x1<=p*(p-1):=Int.mul_le_mul_of_nonneg_left (by omega) (by omega)
  have m0:0<=p*x1:=V3 (by omega) i1.1
  rw[V4,Fl]at m1;refine⟨p+1+p*x1+x2,by omega,by omega,?_⟩
  unfold ptI;have e:p+1+p*x1+x2-p-1=x2+p*x1:=by omega
  rw[AI (by omega),AI (by omega),e,Int.add_mul_ediv_left _ _ (by omega),Int.ediv_eq_zero_of_lt i2.1 i2.2,Int.add_mul_emod_self_left,A6 i2.1 i2.2,Ek,l]
theorem Ke(hp:P4 p):x∈Ew p↔NF p x:=by
 have p0:=hp.pos;have pp:=JS p0 p0;constructor
 ·intro h;obtain⟨n,hn,rfl⟩:=B4.mp h;have:=Ba.mp hn;exact rT hp (by omega) (by omega)
 ·intro h;obtain⟨n,n0,n1,rfl⟩:=sN hp h;refine B4.mpr ⟨n.toNat,Ba.mpr (by omega),?_⟩
  rw[Fp n0]
theorem Rg{α β:Type}{f:α->β}:∀{l:Ac α},l.Nodup->(∀ x∈l,∀ y∈l,f x=f y->x=y)->(l.map f).Nodup
 |[],_,_=>GZ
 |x::l,nd,h=>by
  obtain⟨n1,n2⟩:=Cu.mp nd;rw[BE,Cu];refine⟨fun m=>?_,Rg n2 fun y hy z hz=>h y (AA _ hy) z (AA _ hz)⟩
  obtain⟨y,hy,e⟩:=B4.mp m;have:=h y (AA _ hy) x AE e;exact n1 (this ▸ hy)
noncomputable def nrm(p:Af)(r:R3):R3:=open Classical in if h:∃ y,NF p y/\Pr p y r then V1 h else r
theorem Kf{p l:Af}(hp:P4 p)(el:Bq p (tri r)=Aa l):NF p (nrm p r)/\Pr p (nrm p r) r:=by
 have h:∃ y,NF p y/\Pr p y r:=by
  obtain⟨u,iu,j,l1,pr,_⟩:=O9 hp el;exact⟨_,⟨j,l1⟩,pr⟩
 unfold nrm;rw[dif_pos h];exact DY h
theorem So{a b c x:R3}(hp:P4 p)(z:Av a b c%p≠0)(hx:NF p x):NF p (nrm p (ap a b c x))/\Pr p (nrm p (ap a b c x)) (ap a b c x):=by
 obtain⟨l,el⟩:=Lb hp z hx.2 CgR.rfl;exact Kf hp el
theorem Ms(hp:P4 p)(hx:NF p x)(hy:NF p y)(h:Pr p x y):x=y:=Tt hp hx.1 hy.1 hx.2 hy.2 h
theorem Rh{a b c x:R3}(hp:P4 p)(z:Av a b c%p≠0)(hx:NF p x):nrm p (ap (bk0 a b c) (bk1 a b c) (bk2 a b c) (nrm p (ap a b c x)))=x:=by
 obtain⟨h1,h2⟩:=So hp z hx;have zB:Av (bk0 a b c) (bk1 a b c) (bk2 a b c)%p≠0:=by rw[pO];exact D9 hp z z
 obtain⟨h3,h4⟩:=So hp zB h1;refine Ms hp h3 hx (h4.trans hp ((Pr.ap h2).trans hp ?_));rw[U5];exact⟨_,z,CgR.rfl⟩
noncomputable def q4(w:Ag)(k:Af)(y:R3):Af:=match w with
  |0=>y.1*y.2.2-y.2.1*y.2.1
  |1=>y.1*y.1
  |2=>y.1*y.2.1
  |_=>y.1*y.1-k*(y.2.1*y.2.1)
noncomputable def At(pts:Ac R3):D:=.lst (pts.map (Am Ab))
theorem OZ{g:D->R Ao}{f:D->R D}{q:R3->Ao}:∀(xs:Ac R3),(∀ x∈xs,g (Am Ab x)=.ok (q x)/\f (Am Ab x)=.ok (Am Ab x))->Cb g f (xs.map (Am Ab))=.ok ((xs.filter q).map (Am Ab))
 |[],_=>rfl
 |x::xs,h=>by
  obtain⟨h1,h2⟩:=h x (AE ..);have ih:=OZ xs fun y hy=>h y (AA _ hy)
  show (g (Am Ab x)).bind _=_;rw[h1,R.bind_ok,E8];cases hq:q x with
  |true=>
   rw[AG rfl,AG rfl,h2,R.bind_ok,show Cb g f (LQ (Am Ab) xs)=_ from ih]
   rfl
  |false=>
   rw[AI (by decide),AI (by decide)]
   exact ih
noncomputable def YA:Ss:=(.cons (.app 1 (.tup (.cons (.int 0) (.cons (.int 1) (.cons (.var 2) .nil))))) .nil)
noncomputable def YB:E:=(.tup (.cons (.int 1) (.cons (.var 3) (.cons (.var 4) .nil))))
noncomputable def Yz:Ss:=(.cons (.ext 1 (.comp YB 4 (.rng (.var 0)) Et)) .nil)
noncomputable def OH:Df:=⟨5,Ab,(.cons (.asg 1 Ab (.lst (.cons (.tup (.cons (.int 0) (.cons (.int 0) (.cons (.int 1) .nil)))) .nil))) (.cons (.fors 2 (.rng (.var 0)) YA) (.cons (.fors 3 (.rng (.var 0)) Yz) (.cons (.ret (.var 1)) .nil))))⟩
theorem tF(Γ:Gam)(p:Af)(hp:P4 p):OH.run Γ [.int p]=.ok (At (Ew p)):=by
 rcases hp with rfl|rfl|rfl|rfl<;>kernel_rfl!
section
variable{Γ:Gam}{p i j k d N:Af}{PP x y u:D}{RL:Ac D}{s t s' t' v:Sl}
end
section
variable{Γ:Gam}{p:Af}{pts:Ac R3}
end
theorem oJ(k l:Af)(a b:R3):crs (BW k a) (BW l b)=BW (k*l) (crs a b):=by
 unfold crs BW;simp only;refine Dz ?_ (Dz ?_ ?_)<;>(simp only;grind)
theorem Pr.crs{a b a' b':R3}(hp:P4 p)(h:Pr p a a')(g:Pr p b b'):Pr p (OvC.crs a b) (OvC.crs a' b'):=by
 obtain⟨d,dz,e⟩:=h;obtain⟨d',dz',e'⟩:=g;exact⟨d*d',D9 hp dz dz',(oK e e').trans (CgR.of (oJ ..))⟩
noncomputable def Qc:Df:=⟨3,Ae,(.cons (.ret (.cmp .Eq (.call 1 (.cons (.var 0) (.cons (.bin .Add (.bin .Add (.bin .Mult (.idx (.var 1) (.int 0)) (.idx (.var 2) (.int 0))) (.bin .Mult (.idx (.var 1) (.int 1)) (.idx (.var 2) (.int 1)))) (.bin .Mult (.idx (.var 1) (.int 2)) (.idx (.var 2) (.int 2)))) .nil))) (.int 0))) .nil)⟩
def Uf(Γ:Gam):Prop:=∀(p:Af)(x y:R3),P4 p->In3 p x->In3 p y->Γ.F 24 [.int p,Am Ab x,Am Ab y]=.ok (.bl (decide (BJ x y%p=0)))
theorem nJ(hr:Lk Γ)(p:Af)(x y:R3)(hp:P4 p)(ix:In3 p x)(iy:In3 p y):Qc.run Γ [.int p,Am Ab x,Am Ab y]=.ok (.bl (decide (BJ x y%p=0))):=by
 have p0:=hp.pos;have bx:=Ih hp ix;have by_:=Ih hp iy;have k:∀ {u v},Bd 10 u->Bd 10 v->Ht u v=Ab:=fun hu hv=>Li hu hv (by decide) (by decide)
 have k0:=k bx.1 by_.1;have k1:=k bx.2.1 by_.2.1;have k2:=k bx.2.2 by_.2.2;obtain⟨x0,x1,x2⟩:=HX Ab x;obtain⟨y0,y1,y2⟩:=HX Ab y;have e:=hr p (BJ x y) p0;unfold BJ at *;generalize x.1=a0 at *;generalize x.2.1=a1 at *;generalize x.2.2=a2 at *;generalize y.1=b0 at *;generalize y.2.1=b1 at *;generalize y.2.2=b2 at *;generalize Am Ab x=xx at *;generalize Am Ab y=yy at *;generalize hs:(a0*b0+a1*b1+a2*b2)%p=s at *;simp[Qc,Df.run,BA,x0,x1,x2,y0,y1,y2,k0,k1,k2,e];rw[Dy];simp
noncomputable def N3:Df:=⟨3,Ae,(.cons (.ret (.call 24 (.cons (.var 0) (.cons (.var 1) (.cons (.var 2) .nil))))) .nil)⟩
def Qe(Γ:Gam):Prop:=∀(p:Af)(x y:R3),P4 p->In3 p x->In3 p y->Γ.F 56 [.int p,Am Ab x,Am Ab y]=.ok (.bl (decide (BJ x y%p=0)))
theorem nG(h:Uf Γ)(p:Af)(x y:R3)(hp:P4 p)(ix:In3 p x)(iy:In3 p y):N3.run Γ [.int p,Am Ab x,Am Ab y]=.ok (.bl (decide (BJ x y%p=0))):=by
 have e:=h p x y hp ix iy;generalize Am Ab x=xx at *;generalize Am Ab y=yy at *;simp[N3,Df.run,BA,e]
noncomputable abbrev Whl(p:Af)(C:C6):Prop:=Av (tw0 C) (tw1 C) (tw2 C)%p≠0
noncomputable def b4(u v:R3):Af:=u.1*v.2.2+u.2.2*v.1-2*(u.2.1*v.2.1)
section
variable{p:Af}{a b c:R3}{C:C6}
end
noncomputable def LY:Df:=⟨2,Ae,(.cons (.asg 1 Ae (.bin .Mod (.var 1) (.bin .Add (.bin .Add (.bin .Mult (.var 0) (.var 0)) (.var 0)) (.int 1)))) (.cons (.ife (.cmp .Eq (.var 1) (.int 0)) (.cons (.ret (.tup (.cons (.int 0) (.cons (.int 0) (.cons (.int 1) .nil))))) .nil) .nil) (.cons (.ife (.cmp .LtE (.var 1) (.var 0)) (.cons (.ret (.tup (.cons (.int 0) (.cons (.int 1) (.cons (.bin .Sub (.var 1) (.int 1)) .nil))))) .nil) .nil) (.cons (.ret (.tup (.cons (.int 1) (.cons (.bin .FloorDiv (.bin .Sub (.bin .Sub (.var 1) (.var 0)) (.int 1)) (.var 0)) (.cons (.bin .Mod (.bin .Sub (.bin .Sub (.var 1) (.var 0)) (.int 1)) (.var 0)) .nil))))) .nil))))⟩
theorem pN{n:Af}(hp:P4 p):0<p*p+p+1/\0<=n%(p*p+p+1)/\n%(p*p+p+1)<p*p+p+1:=by
 have p0:=hp.pos;have N0:0<p*p+p+1:=by have:=JS p0 p0;omega
 exact⟨N0,AZ n (V5 N0),AX n N0⟩
theorem nE(Γ:Gam)(p n:Af)(hp:P4 p):LY.run Γ [.int p,.int n]=.ok (Am Ab (ptI p (n%(p*p+p+1)))):=by
 have pp:EB p p=Ab:=Jb (by have:=hp.lo;omega) (by have:=hp.hi;omega)
 have p0:=hp.pos;have ph:=hp.hi;obtain⟨N0,h0,h1⟩:=pN (n:=n) hp;have pb:p<1073741824:=by omega
 generalize hr:n%(p*p+p+1)=r at *;unfold ptI;by_cases z0:r=0
 ·rw[AG z0];simp[LY,Df.run,BA,pp,N0,hr,z0];rfl
 ·rw[AI z0];by_cases z1:r<=p
  ·rw[AG z1];simp[LY,Df.run,BA,pp,N0,hr,z0,z1];rfl
  ·rw[AI z1];simp[LY,Df.run,BA,pp,N0,hr,z0,z1,p0,pb];rfl
theorem Qg(C:C6)(a b c x:R3):vI (pb C a b c) x=vI C (ap a b c x):=by
 have e:ap a b c x=(x.1*(DJ a b c).1+x.2.1*(DF a b c).1+x.2.2*(Dv a b c).1,x.1*(DJ a b c).2.1+x.2.1*(DF a b c).2.1+x.2.2*(Dv a b c).2.1,x.1*(DJ a b c).2.2+x.2.1*(DF a b c).2.2+x.2.2*(Dv a b c).2.2):=by
  unfold ap BJ DJ DF Dv;simp only;refine Dz ?_ (Dz ?_ ?_)<;>(simp only;grind)
 rw[e,TZ];have e2:∀(u0 u1 u2 u3 u4 u5:Af),vI ⟨u0,u1,u2,u3,u4,u5⟩ x=x.1*x.1*u0+x.2.1*x.2.1*u1+x.2.2*x.2.2*u2+(x.1*x.2.1*u3+x.1*x.2.2*u4+x.2.1*x.2.2*u5):=fun u0 u1 u2 u3 u4 u5=>by
  unfold vI;simp only;grind
 exact e2 ..
theorem T5(C:C6)(k:Af)(x:R3):vI C (BW k x)=k*k*vI C x:=by
 unfold vI BW;simp only;grind
theorem Qi(hp:P4 p)(h:Pr p x y):vI C x%p=0↔vI C y%p=0:=by
 obtain⟨d,dz,e⟩:=h;have q:=(NI (D:=C) ⟨Cg.rfl,Cg.rfl,Cg.rfl,Cg.rfl,Cg.rfl,Cg.rfl⟩ e).trans (Cg.of (T5 C d y));rw[show vI C x%p=_ from q]
 exact NC hp (D9 hp dz dz)
section
variable{p:Af}{a b c:R3}{C:C6}
end
theorem Sk(l:Ac R3):biD .len [At l]=.ok (.int (l.length:Af)):=by
 show R.ok (D.int ((l.map (Am Ab)).length:Ag))=_;rw[Bm]
noncomputable def Yh(p:Af)(C:C6)(l:R3):R3:=nrm p (ap (bk0 (tw0 C) (tw1 C) (tw2 C)) (bk1 (tw0 C) (tw1 C) (tw2 C)) (bk2 (tw0 C) (tw1 C) (tw2 C)) l)
structure FOn (p:Af) (C:C6) (A B P U:R3):Prop where
 vA:vI C A%p=0
 vB:vI C B%p=0
 vU:vI C U%p=0
 bA:bI C A P%p=0
 bB:bI C B P%p=0
theorem oM(A B P x:R3):BW (Av A B P) x=(Av x B P*A.1+Av A x P*B.1+Av A B x*P.1,Av x B P*A.2.1+Av A x P*B.2.1+Av A B x*P.2.1,Av x B P*A.2.2+Av A x P*B.2.2+Av A B x*P.2.2):=by
 unfold BW Av det;refine Dz ?_ (Dz ?_ ?_)<;>(simp only;grind)
section
variable{p:Af}{C R:C6}{A B P U x:R3}
theorem cg0{k x:Af}(h:x%p=0):Cg p (k*x) 0:=by
 show k*x%p=0%p;rw[BS,h,GB]
theorem S7(h:FOn p C A B P U)(x:R3):Cg p (Av A B P*Av A B P*vI C x) (Av A B x*Av A B x*vI C P+Av x B P*Av A x P*bI C A B):=by
 have e:=TZ C A B P (Av x B P) (Av A x P) (Av A B x);rw[<-oM,T5]at e;rw[e];generalize Av x B P=α;generalize Av A x P=β;generalize Av A B x=γ;have k1:Cg p (α*α*vI C A) 0:=cg0 h.vA;have k2:Cg p (β*β*vI C B) 0:=cg0 h.vB;have k3:Cg p (α*γ*bI C A P) 0:=cg0 h.bA;have k4:Cg p (β*γ*bI C B P) 0:=cg0 h.bB;refine(((k1.add k2).add Cg.rfl).add ((Cg.rfl.add k3).add k4)).trans (Cg.of ?_);grind
theorem Qh(h:FOn p C A B P U)(x:R3):Cg p (Av A B U*Av A B U*(Av A B P*Av A B P*vI C x)) (bI C A B*(Av A B U*Av A B U*(Av x B P*Av A x P)-Av A B x*Av A B x*(Av U B P*Av A U P))):=by
 have e1:=S7 h x;have e2:=S7 h U;have e0:Cg p (Av A B P*Av A B P*vI C U) 0:=cg0 h.vU;have e3:Cg p (Av A B U*Av A B U*vI C P+Av U B P*Av A U P*bI C A B) 0:=e2.symm.trans e0;generalize Av A B P=D at *;generalize Av x B P=α at *;generalize Av A x P=β at *;generalize Av A B x=γ at *;generalize Av U B P=α0 at *;generalize Av A U P=β0 at *;generalize Av A B U=γ0 at *;generalize bI C A B=b at *;generalize vI C P=v at *;generalize vI C x=vx at *;have e4:Cg p (γ0*γ0*(D*D*vx)) (γ0*γ0*(γ*γ*v+α*β*b)):=Cg.rfl.mul e1;have e5:Cg p (γ*γ*(γ0*γ0*v+α0*β0*b)) (γ*γ*0):=Cg.rfl.mul e3;refine e4.trans ?_;have e6:γ0*γ0*(γ*γ*v+α*β*b)=γ*γ*(γ0*γ0*v+α0*β0*b)+b*(γ0*γ0*(α*β)-γ*γ*(α0*β0)):=by grind
 rw[e6];refine(e5.add Cg.rfl).trans (Cg.of ?_);grind
theorem Uz{k x y:Af}(hp:P4 p)(kz:k%p≠0)(h:Cg p (k*x) (k*y)):Cg p x y:=by
 have e:k*(x-y)%p=0:=by
  have q:=h.sub (Cg.rfl (p:=p) (a:=k*y));have q2:(k*x-k*y)%p=(k*y-k*y)%p:=q;rw[Int.sub_self,Cz,<-V4]at q2;exact q2
 have z:=(NC hp kz).mp e;have q3:=Cg.add (p:=p) (a:=x-y) (b:=0) (c:=y) (d:=y) (by show (x-y)%p=0%p;rw[z,Cz]) Cg.rfl
 have q4:Cg p (x-y+y) (0+y):=q3;rw[V6,Ek]at q4;exact q4
theorem jW(hp:P4 p)(d1:Av A B P%p≠0)(d2:Av A B U%p≠0)(hC:FOn p C A B P U)(hR:FOn p R A B P U)(x:R3):Cg p (bI C A B*vI R x) (bI R A B*vI C x):=by
 have e1:=Qh hC x;have e2:=Qh hR x;generalize (Av A B U*Av A B U*(Av x B P*Av A x P)-Av A B x*Av A B x*(Av U B P*Av A U P))=F at *;refine Uz hp (k:=Av A B U*Av A B U*(Av A B P*Av A B P)) (D9 hp (D9 hp d2 d2) (D9 hp d1 d1)) ?_;generalize Av A B U=γ at *;generalize Av A B P=D at *;generalize bI C A B=b at *;generalize bI R A B=r at *;have f1:Cg p (b*(γ*γ*(D*D*vI R x))) (b*(r*F)):=Cg.rfl.mul e2;have f2:Cg p (r*(γ*γ*(D*D*vI C x))) (r*(b*F)):=Cg.rfl.mul e1;refine(Cg.of (by grind)).trans (f1.trans ((Cg.of (by grind:b*(r*F)=r*(b*F))).trans (f2.symm.trans (Cg.of (by grind)))))
theorem UA{k l:Af}(h:∀ x,Cg p (k*vI R x) (l*vI C x)):CgC p (scC k R) (scC l C):=by
 have a0:=h (1,0,0);have a1:=h (0,1,0);have a2:=h (0,0,1);have b0:=h (1,1,0);have b1:=h (1,0,1);have b2:=h (0,1,1);have v0:∀ E:C6,vI E (1,0,0)=E.c0:=fun E=>by unfold vI;simp
 have v1:∀ E:C6,vI E (0,1,0)=E.c1:=fun E=>by unfold vI;simp
 have v2:∀ E:C6,vI E (0,0,1)=E.c2:=fun E=>by unfold vI;simp
 have w0:∀ E:C6,vI E (1,1,0)=E.c0+E.c1+E.c3:=fun E=>by unfold vI;simp
 have w1:∀ E:C6,vI E (1,0,1)=E.c0+E.c2+E.c4:=fun E=>by unfold vI;simp
 have w2:∀ E:C6,vI E (0,1,1)=E.c1+E.c2+E.c5:=fun E=>by unfold vI;simp
 rw[v0,v0]at a0;rw[v1,v1]at a1;rw[v2,v2]at a2;rw[w0,w0]at b0;rw[w1,w1]at b1;rw[w2,w2]at b2;refine⟨a0,a1,a2,?_,?_,?_⟩
 ·have:=(b0.sub a0).sub a1;refine(Cg.of ?_).trans (this.trans (Cg.of ?_))<;>(unfold scC;simp only;grind)
 ·have:=(b1.sub a0).sub a2;refine(Cg.of ?_).trans (this.trans (Cg.of ?_))<;>(unfold scC;simp only;grind)
 ·have:=(b2.sub a1).sub a2;refine(Cg.of ?_).trans (this.trans (Cg.of ?_))<;>(unfold scC;simp only;grind)
theorem Vz(hp:P4 p)(w:Whl p C)(d1:Av A B P%p≠0)(d2:Av A B U%p≠0)(hC:FOn p C A B P U):bI C A B%p≠0:=fun z=>by
 refine w ?_;have v0:∀ x,Cg p (1*vI C x) (0*vI C x):=fun x=>by
  rw[Db,Jo];refine Uz hp (k:=Av A B U*Av A B U*(Av A B P*Av A B P)) (D9 hp (D9 hp d2 d2) (D9 hp d1 d1)) ?_;have e1:=Qh hC x;refine(Cg.of (by grind)).trans (e1.trans ?_)
  rw[GB];show _%p=0%p;rw[BS,z,Jo]
 have c:=UA v0;rw[No]at c;obtain⟨t0,t1,t2⟩:=UE c;have e:=Px t0 t1 t2;rw[jA]at e;show Av (tw0 C) (tw1 C) (tw2 C)%p=0;rw[show Av (tw0 C) (tw1 C) (tw2 C)%p=_ from e]
 simp
theorem Zv(hp:P4 p)(wC:Whl p C)(wR:Whl p R)(d1:Av A B P%p≠0)(d2:Av A B U%p≠0)(hC:FOn p C A B P U)(hR:FOn p R A B P U):PrC p R C:=by
 have b1:=Vz hp wC d1 d2 hC;have b2:=Vz hp wR d1 d2 hR;obtain⟨u,uz,ue⟩:=P0 hp b1;refine⟨u*bI R A B,D9 hp uz b2,?_⟩;have c:=UA (jW hp d1 d2 hC hR);have e1:CgC p (scC u (scC (bI C A B) R)) (scC u (scC (bI R A B) C)):=CgC.sc Cg.rfl c;rw[Nw,Nw]at e1;have e2:CgC p (scC (u*bI C A B) R) (scC 1 R):=CgC.sc ue CgC.rfl;rw[No]at e2;exact e2.symm.trans e1
end
section
variable{p:Af}{C E:C6}{a b c A B P U A' B' P' U' x y:R3}
theorem U4(C:C6)(a b c x y:R3):bI (pb C a b c) x y=bI C (ap a b c x) (ap a b c y):=by
 have e:∀ u:R3,ap a b c u=(u.1*(DJ a b c).1+u.2.1*(DF a b c).1+u.2.2*(Dv a b c).1,u.1*(DJ a b c).2.1+u.2.1*(DF a b c).2.1+u.2.2*(Dv a b c).2.1,u.1*(DJ a b c).2.2+u.2.1*(DF a b c).2.2+u.2.2*(Dv a b c).2.2):=fun u=>by
  unfold ap BJ DJ DF Dv;simp only;refine Dz ?_ (Dz ?_ ?_)<;>(simp only;grind)
 rw[e x,e y,XZ];rfl
theorem pP(C:C6)(k l:Af)(x y:R3):bI C (BW k x) (BW l y)=k*l*bI C x y:=by
 unfold bI ap BJ BW;simp only;grind
theorem U3(hp:P4 p)(h:Pr p x x')(g:Pr p y y'):bI C x y%p=0↔bI C x' y'%p=0:=by
 obtain⟨d,dz,e⟩:=h;obtain⟨d',dz',e'⟩:=g;have q:=(NM (CgC.rfl (C:=C)) e e').trans (Cg.of (pP C d d' x' y'));rw[show bI C x y%p=_ from q]
 exact NC hp (D9 hp dz dz')
theorem nX(hp:P4 p)(h:FOn p E A' B' P' U')(hA:Pr p A' (ap a b c A))(hB:Pr p B' (ap a b c B))(hP:Pr p P' (ap a b c P))(hU:Pr p U' (ap a b c U)):FOn p (pb E a b c) A B P U:=
 ⟨by rw[Qg];exact(Qi hp hA).mp h.vA,by rw[Qg];exact(Qi hp hB).mp h.vB,by rw[Qg];exact(Qi hp hU).mp h.vU,by rw[U4];exact(U3 hp hA hP).mp h.bA,by rw[U4];exact(U3 hp hB hP).mp h.bB⟩
theorem kX(hp:P4 p)(z:Av a b c%p≠0)(w:Whl p E):Whl p (pb E a b c):=by
 show Av _ _ _%p≠0;rw[oG];exact D9 hp (D9 hp z z) w
theorem Zq(hp:P4 p)(z:Av a b c%p≠0)(wC:Whl p C)(wE:Whl p E)(d1:Av A B P%p≠0)(d2:Av A B U%p≠0)(hC:FOn p C A B P U)(hE:FOn p E A' B' P' U')(hA:Pr p A' (ap a b c A))(hB:Pr p B' (ap a b c B))(hP:Pr p P' (ap a b c P))(hU:Pr p U' (ap a b c U)):PrC p (pb E a b c) C:=
 Zv hp wC (kX hp z wE) d1 d2 hC (nX hp hE hA hB hP hU)
end
noncomputable def MY:Df:=⟨3,Ae,(.cons (.asg 2 Ae (.int 0)) (.cons (.ife (.cmp .Gt (.bi .len (.cons (.var 0) .nil)) (.int 0)) (.cons (.asg 2 Ae (.idx (.var 0) (.bin .Mod (.var 1) (.bi .len (.cons (.var 0) .nil))))) .nil) .nil) (.cons (.ret (.bin .Mod (.bin .Mult (.bin .Add (.bin .Add (.bin .Mod (.var 2) (.int 1000003)) (.bin .Mult (.int 7919) (.var 1))) (.int 11)) (.int 48271)) (.int 1000033))) .nil)))⟩
theorem nI(Γ:Gam)(ns:Ac Af)(k:Af)(h0:0<=k):∃ m,0<=m/\MY.run Γ [scr ns,.int k]=.ok (.int m):=by
 have m1:EB 7919 k=Ab:=Jb (by decide) (by decide)
 have m2:∀ x,EB x 48271=Ab:=fun x=>Pq (by decide) (by decide)
 have ln:biD .len [scr ns]=.ok (.int ns.length):=by simp[scr]
 by_cases h1:0<(ns.length:Af)
 ·have q0:=AZ k (b:=(ns.length:Af)) (by omega)
  have q1:=AX k h1;have g:DQ (scr ns) (.int (k%(ns.length:Af)))=.ok (.int (ns.getD (k%(ns.length:Af)).toNat 0)):=eV (ns:=ns) q0 q1;generalize ns.getD (k%(ns.length:Af)).toNat 0=x at g;refine⟨(x%1000003+7919*k+11)*48271%1000033,AZ _ (by decide),?_⟩
  generalize scr ns=S at *;generalize (ns.length:Af)=N at *;simp[MY,Df.run,BA,ln,h1,g,m1,m2]
 ·refine⟨(0%1000003+7919*k+11)*48271%1000033,AZ _ (by decide),?_⟩
  generalize scr ns=S at *;generalize (ns.length:Af)=N at *;simp[MY,Df.run,BA,ln,h1,m1,m2]
noncomputable def N9:Df:=⟨1,Ae,(.cons (.ret (.idx (.lst (.cons (.int 3) (.cons (.int 5) (.cons (.int 7) (.cons (.int 5) (.cons (.int 7) (.cons (.int 11) .nil))))))) (.bin .Mod (.call 228 (.cons (.var 0) (.cons (.int 0) .nil))) (.int 6)))) .nil)⟩
theorem dL(h:Ll Γ 228 ns):∃ p,P4 p/\N9.run Γ [scr ns]=.ok (.int p):=by
 obtain⟨m,m0,e⟩:=h 0 (by decide)
 have q:m%6=0\/m%6=1\/m%6=2\/m%6=3\/m%6=4\/m%6=5:=by omega
 have g:∃ p,P4 p/\Di [.int 3,.int 5,.int 7,.int 5,.int 7,.int 11] (m%6)=.ok (.int p):=by
  rcases q with z|z|z|z|z|z<;>rw[z]
  ·exact⟨3,.inl rfl,rfl⟩
  ·exact⟨5,.inr (.inl rfl),rfl⟩
  ·exact⟨7,.inr (.inr (.inl rfl)),rfl⟩
  ·exact⟨5,.inr (.inl rfl),rfl⟩
  ·exact⟨7,.inr (.inr (.inl rfl)),rfl⟩
  ·exact⟨11,.inr (.inr (.inr rfl)),rfl⟩
 obtain⟨p,hp,g⟩:=g;refine⟨p,hp,?_⟩;simp[N9,Df.run,BA,e,g]
def TD(Γ:Gam):Prop:=∀(p:Af)(b:Ao)(xs:Ac Af)(l t:Af),P4 p->Bq p xs=Aa l->Jh p l t->Γ.F 288 [.int p,DE b xs]=.ok (.tup (ds (fmI p t xs)))
noncomputable def Ob:Df:=⟨6,Ae,(.cons (.asg 3 Ae (.bin .Sub (.bin .Mult (.idx (.var 1) (.int 1)) (.idx (.var 2) (.int 2))) (.bin .Mult (.idx (.var 1) (.int 2)) (.idx (.var 2) (.int 1))))) (.cons (.asg 4 Ae (.bin .Sub (.bin .Mult (.idx (.var 1) (.int 2)) (.idx (.var 2) (.int 0))) (.bin .Mult (.idx (.var 1) (.int 0)) (.idx (.var 2) (.int 2))))) (.cons (.asg 5 Ae (.bin .Sub (.bin .Mult (.idx (.var 1) (.int 0)) (.idx (.var 2) (.int 1))) (.bin .Mult (.idx (.var 1) (.int 1)) (.idx (.var 2) (.int 0))))) (.cons (.ret (.tup (.cons (.bin .Mod (.var 3) (.var 0)) (.cons (.bin .Mod (.var 4) (.var 0)) (.cons (.bin .Mod (.var 5) (.var 0)) .nil))))) .nil))))⟩
def Kj(Γ:Gam):Prop:=∀(p:Af)(q q':Ao)(a x:R3),0<p->B3 a->B3 x->Γ.F 232 [.int p,Am q a,Am q' x]=.ok (Am Ab (mdR p (crs a x)))
theorem ZX(Γ:Gam)(p:Af)(q q':Ao)(a x:R3)(p0:0<p)(ha:B3 a)(hx:B3 x):Ob.run Γ [.int p,Am q a,Am q' x]=.ok (Am Ab (mdR p (crs a x))):=by
 obtain⟨x0,x1,x2⟩:=HX q a;obtain⟨y0,y1,y2⟩:=HX q' x;have k:∀ {u v},Bd 300 u->Bd 300 v->Ht u v=Ab:=fun hu hv=>Li hu hv (by decide) (by decide)
 simp[Ob,Df.run,BA,x0,x1,x2,y0,y1,y2,k ha.1 hx.1,k ha.1 hx.2.1,k ha.1 hx.2.2,k ha.2.1 hx.1,k ha.2.1 hx.2.1,k ha.2.1 hx.2.2,k ha.2.2 hx.1,k ha.2.2 hx.2.1,k ha.2.2 hx.2.2,p0];rfl
noncomputable def OJ:Df:=⟨3,Ae,(.cons (.ret (.bin .Mod (.bin .Add (.bin .Add (.bin .Mult (.idx (.var 1) (.int 0)) (.idx (.var 2) (.int 0))) (.bin .Mult (.idx (.var 1) (.int 1)) (.idx (.var 2) (.int 1)))) (.bin .Mult (.idx (.var 1) (.int 2)) (.idx (.var 2) (.int 2)))) (.var 0))) .nil)⟩
def Ja(Γ:Gam):Prop:=∀(p:Af)(q q':Ao)(a x:R3),0<p->B3 a->B3 x->Γ.F 233 [.int p,Am q a,Am q' x]=.ok (.int (BJ a x%p))
theorem ZS(Γ:Gam)(p:Af)(q q':Ao)(a x:R3)(p0:0<p)(ha:B3 a)(hx:B3 x):OJ.run Γ [.int p,Am q a,Am q' x]=.ok (.int (BJ a x%p)):=by
 obtain⟨x0,x1,x2⟩:=HX q a;obtain⟨y0,y1,y2⟩:=HX q' x;have k:∀ {u v},Bd 300 u->Bd 300 v->Ht u v=Ab:=fun hu hv=>Li hu hv (by decide) (by decide)
 simp[OJ,Df.run,BA,x0,x1,x2,y0,y1,y2,k ha.1 hx.1,k ha.2.1 hx.2.1,k ha.2.2 hx.2.2,p0];rfl
noncomputable def MW:E:=(.call 233 (.cons (.var 0) (.cons (.var 3) (.cons (.var 2) .nil))))
noncomputable def Oo:Df:=⟨4,Ae,(.cons (.ret (.call 288 (.cons (.var 0) (.cons (.comp MW 3 (.e (.var 1)) Et) .nil)))) .nil)⟩
def R7(Γ:Gam):Prop:=∀(p:Af)(t q q':Ao)(a b c x:R3),GoodR p a b c->B3 x->(∃ l,Bq p (tri x)=Aa l)->Γ.F 289 [.int p,JK t q a b c,Am q' x]=.ok (Am Ab (nrm p (ap a b c x)))
theorem ZT(hs:Ja Γ)(hf:TD Γ)(p:Af)(t q q':Ao)(a b c x:R3)(G:GoodR p a b c)(hx:B3 x)(lx:∃ l,Bq p (tri x)=Aa l):Oo.run Γ [.int p,JK t q a b c,Am q' x]=.ok (Am Ab (nrm p (ap a b c x))):=by
 have hp:=G.p4;have p0:=hp.pos;obtain⟨l0,lx⟩:=lx;obtain⟨l,el⟩:=Lb hp G.nz lx CgR.rfl;obtain⟨u,iu,j,l1,pr,ef⟩:=O9 hp el;obtain⟨n1,n2⟩:=Kf hp el;have e0:fmR p u (ap a b c x)=nrm p (ap a b c x):=Ms hp ⟨j,l1⟩ n1 (pr.trans hp (n2.symm hp));have md:(tri (mdR p (ap a b c x))).map (fun x=>x%p)=(tri (ap a b c x)).map (fun x=>x%p):=by
  show [_%p%p,_%p%p,_%p%p]=[_%p,_%p,_%p];simp only[BN _ (Da p)]
 have e:=hf p Ae (tri (mdR p (ap a b c x))) l u hp (by rw[OB md];exact el) iu
 rw[aV md,ef,e0]at e;have e':Γ.F 288 [.int p,.lst [.int (BJ a x%p),.int (BJ b x%p),.int (BJ c x%p)]]=.ok (Am Ab (nrm p (ap a b c x))):=e;have b3:∀ {r},In3 p r->B3 r:=fun h=>(Ih hp h).b3 (by decide)
 have k:∀ r,In3 p r->cF Γ [si p,sh (JK t q a b c),sh (Am q' x),Ad] 3 MW (Am q r)=.ok (.int (BJ r x%p)):=fun r hr=>by
  have e1:=hs p q q' r x p0 (b3 hr) hx;generalize Am q r=rr at *;generalize Am q' x=xx at *;simp[cF,MW,e1]
 have g:∀ d,cG Γ [si p,sh (JK t q a b c),sh (Am q' x),Ad] 3 Et d=.ok Ab:=fun _=>rfl
 have cp:Cb (cG Γ [si p,sh (JK t q a b c),sh (Am q' x),Ad] 3 Et) (cF Γ [si p,sh (JK t q a b c),sh (Am q' x),Ad] 3 MW) [Am q a,Am q b,Am q c]=.ok [.int (BJ a x%p),.int (BJ b x%p),.int (BJ c x%p)]:=by
  simp[Cb,g,k a G.ia,k b G.ib,k c G.ic]
 have sq:=Yc t q a b c;generalize Am Ab (nrm p (ap a b c x))=Y at *;generalize Am q' x=xx at *;generalize JK t q a b c=TT at *;generalize [Am q a,Am q b,Am q c]=LL at *;simp[Oo,Df.run,BA,sq,cp,e']
noncomputable def LW:Ss:=(.cons (.app 2 (.call 289 (.cons (.var 0) (.cons (.var 1) (.cons (.tup (.cons (.int 1) (.cons (.var 3) (.cons (.bin .Mult (.var 3) (.var 3)) .nil)))) .nil))))) .nil)
noncomputable def MT:Df:=⟨4,Ae,(.cons (.asg 2 Ab (.lst (.cons (.call 289 (.cons (.var 0) (.cons (.var 1) (.cons (.tup (.cons (.int 0) (.cons (.int 0) (.cons (.int 1) .nil)))) .nil)))) .nil))) (.cons (.fors 3 (.rng (.var 0)) LW) (.cons (.ret (.var 2)) .nil)))⟩
noncomputable def Eu(p:Af):Ac R3:=(0,0,1)::(A5 p.toNat).map fun(t:Ag)=>((1:Af),(t:Af),(t:Af)*(t:Af))
theorem Mq(hp:P4 p)(hx:x∈Eu p):B3 x/\∃ l,Bq p (tri x)=Aa l:=by
 have p1:1<p:=by have:=hp.lo;omega
 have ph:=hp.hi;rcases AD.mp hx with rfl|hx
 ·exact⟨(Ih hp (a:=(0,0,1)) ⟨⟨Iy 0,hp.pos⟩,⟨Iy 0,hp.pos⟩,⟨(by decide:(0:Af)<=1),p1⟩⟩).b3 (by decide),1,Um p1⟩
 ·obtain⟨t,ht,rfl⟩:=B4.mp hx;have ht:=Ba.mp ht;have t0:(t:Af)<11:=by omega
  have tt:(t:Af)*(t:Af)<=11*11:=Int.mul_le_mul (by omega) (by omega) (by omega) (by decide)
  have t2:0<=(t:Af)*(t:Af):=V3 (by omega) (by omega)
  have pw:(2:Ag) ^ 10<=2 ^ 300:=Fa (by decide) (by decide)
  refine⟨⟨?_,?_,?_⟩,1,VP p1 _ _⟩
  ·exact AN (by decide:(1:Af).natAbs<2 ^ 10) pw
  ·exact AN (by show ((t:Af)).natAbs<2 ^ 10;omega) pw
  ·exact AN (by show ((t:Af)*(t:Af)).natAbs<2 ^ 10;omega) pw
theorem gJ{RR Y:D}{acc:Ac D}{s3:Sl}(mm:EB m m=Ab)(en:Γ.F 289 [.int p,RR,.tup [.int 1,.int m,.int (m*m)]]=.ok Y)(sz:Ci (acc.length+1)=Ab):Bk Γ 3 LW (.int m) [si p,sh RR,Aa (.lst acc,Ab),s3]=.next [si p,sh RR,Aa (.lst (acc++[Y]),Ab),si m]:=by
 simp[Bk,LW,mm,en,Cv,sz]
def pT(Γ:Gam):Prop:=∀(p:Af)(a b c:R3),GoodR p a b c->Γ.F 290 [.int p,G9 a b c]=.ok (At ((Eu p).map fun x=>nrm p (ap a b c x)))
theorem nF(hl:R7 Γ)(p:Af)(a b c:R3)(G:GoodR p a b c):MT.run Γ [.int p,G9 a b c]=.ok (At ((Eu p).map fun x=>nrm p (ap a b c x))):=by
 have hp:=G.p4;have ph:=hp.hi;have pl:=hp.lo;have L:∀ x∈Eu p,Γ.F 289 [.int p,G9 a b c,Am Ab x]=.ok (Am Ab (nrm p (ap a b c x))):=fun x hx=>hl p Ae Ae Ab a b c x G (Mq hp hx).1 (Mq hp hx).2
 have e0:Γ.F 289 [.int p,G9 a b c,.tup [.int 0,.int 0,.int 1]]=.ok (Am Ab (nrm p (ap a b c (0,0,1)))):=L (0,0,1) (AE ..);have rg:Du 0 p=.ok (Cq 0 (p-0).toNat):=Ma (by decide) (by decide) (by omega) (by omega)
 rw[HJ]at rg;have lp:=Ox (body:=Bk Γ 3 LW) (fun n ρ=>∃ s3,ρ=[si p,sh (G9 a b c),Aa (.lst (((0,0,1)::(A5 n).map fun(t:Ag)=>((1:Af),(t:Af),(t:Af)*(t:Af))).map fun x=>Am Ab (nrm p (ap a b c x))),Ab),s3]) (Cq 0 p.toNat) 0 [si p,sh (G9 a b c),Aa (.lst [Am Ab (nrm p (ap a b c (0,0,1)))],Ab),Ad] ⟨Ad,rfl⟩ (by
  rintro n x hx ρ ⟨s3,rfl⟩;obtain⟨hn,rfl⟩:=Pe hx;rw[Ek,FH];have hm:((1:Af),(n:Af),(n:Af)*(n:Af))∈Eu p:=AA _ (B4.mpr ⟨n,Ba.mpr (by omega),rfl⟩)
  have en:Γ.F 289 [.int p,G9 a b c,.tup [.int 1,.int (n:Af),.int ((n:Af)*(n:Af))]]=.ok (Am Ab (nrm p (ap a b c (1,(n:Af),(n:Af)*(n:Af))))):=L _ hm;have lr:(A5 (n+1)).map (fun(t:Ag)=>((1:Af),(t:Af),(t:Af)*(t:Af)))=(A5 n).map (fun(t:Ag)=>((1:Af),(t:Af),(t:Af)*(t:Af)))++[((1:Af),(n:Af),(n:Af)*(n:Af))]:=by
   rw[List.range_succ,FA];rfl
  rw[lr,<-List.cons_append,FA];have len:((((0:Af),(0:Af),(1:Af))::(A5 n).map fun(t:Ag)=>((1:Af),(t:Af),(t:Af)*(t:Af))).map fun x=>Am Ab (nrm p (ap a b c x))).length=n+1:=by simp
  generalize ((((0:Af),(0:Af),(1:Af))::(A5 n).map fun(t:Ag)=>((1:Af),(t:Af),(t:Af)*(t:Af))).map fun x=>Am Ab (nrm p (ap a b c x)))=acc at *
  have sz:Ci (acc.length+1)=Ab:=Dq (by omega)
  have mm:EB (n:Af) (n:Af)=Ab:=Jb (by omega) (by omega)
  refine⟨_,?_,si (n:Af),rfl⟩;show Bk Γ 3 LW (.int (n:Af)) [si p,sh (G9 a b c),Aa (.lst acc,Ab),s3]=.next [si p,sh (G9 a b c),Aa (.lst (acc++[Am Ab (nrm p (ap a b c (1,(n:Af),(n:Af)*(n:Af))))]),Ab),si (n:Af)];exact gJ mm en sz)
 obtain⟨ρ',e,s3,rfl⟩:=lp;rw[FH,L4]at e;have fin:D.lst (((0,0,1)::(A5 p.toNat).map fun(t:Ag)=>((1:Af),(t:Af),(t:Af)*(t:Af))).map fun x=>Am Ab (nrm p (ap a b c x)))=At ((Eu p).map fun x=>nrm p (ap a b c x)):=by
  unfold At Eu;rw[EU];rfl
 rw[<-fin]
 clear fin L
 generalize (((0,0,1)::(A5 p.toNat).map fun(t:Ag)=>((1:Af),(t:Af),(t:Af)*(t:Af))).map fun x=>Am Ab (nrm p (ap a b c x)))=OUT at *
 generalize Cq 0 p.toNat=RL at *;generalize Am Ab (nrm p (ap a b c (0,0,1)))=Y at *;generalize G9 a b c=RR at *;simp[MT,Df.run,BA,e0,Dh,rg,e]
noncomputable def C0p:C6:=⟨0,1,0,0,-1,0⟩
noncomputable def Oe:E:=(.bin .Mod (.bin .Add (.var 9) (.bin .Mult (.var 8) (.var 10))) (.var 0))
noncomputable def HU:Ss:=(.cons (.asg 5 Ae (.call 228 (.cons (.var 1) (.cons (.bin .Add (.var 2) (.var 4)) .nil)))) (.cons (.asg 6 Ae (.bin .Mod (.var 5) (.int 3))) (.cons (.asg 7 Ae (.bin .Mod (.bin .Add (.bin .Add (.var 6) (.int 1)) (.bin .Mod (.bin .FloorDiv (.var 5) (.int 3)) (.int 2))) (.int 3))) (.cons (.asg 8 Ae (.bin .Mod (.bin .FloorDiv (.var 5) (.int 6)) (.var 0))) (.cons (.put 3 (.var 6) (.compT Oe [9,10] (.zip (.idx (.var 3) (.var 6)) (.idx (.var 3) (.var 7))) Et)) (.cons (.ife (.cmp .Eq (.bin .Mod (.bin .FloorDiv (.var 5) (.int 100)) (.int 3)) (.int 1)) (.cons (.asg 3 Ab (.lst (.cons (.idx (.var 3) (.var 7)) (.cons (.idx (.var 3) (.var 6)) (.cons (.idx (.var 3) (.bin .Sub (.bin .Sub (.int 3) (.var 6)) (.var 7))) .nil))))) .nil) .nil) .nil))))))
noncomputable def Od:E:=(.bin .Mod (.bin .Mult (.var 8) (.var 11)) (.var 0))
noncomputable def MX:Df:=⟨12,Ae,(.cons (.asg 3 Ab (.lst (.cons (.lst (.cons (.int 1) (.cons (.int 0) (.cons (.int 0) .nil)))) (.cons (.lst (.cons (.int 0) (.cons (.int 1) (.cons (.int 0) .nil)))) (.cons (.lst (.cons (.int 0) (.cons (.int 0) (.cons (.int 1) .nil)))) .nil))))) (.cons (.fors 4 (.rng (.int 6)) HU) (.cons (.asg 8 Ae (.bin .Add (.int 1) (.bin .Mod (.call 228 (.cons (.var 1) (.cons (.bin .Add (.var 2) (.int 6)) .nil))) (.bin .Sub (.var 0) (.int 1))))) (.cons (.put 3 (.int 0) (.comp Od 11 (.e (.idx (.var 3) (.int 0))) Et)) (.cons (.ret (.var 3)) .nil)))))⟩
theorem dD{a b c:R3}{i j:Af}(h:GoodR p a b c)(ij:Ij i j):∃(i':Ag)(x y a' b' c':R3),Di (L3 a b c) i=.ok (EC x)/\Di (L3 a b c) j=.ok (EC y)/\plD 3 i=Aa i'/\GoodR p a' b' c'/\(L3 a b c).set i' (EC (adR p t x y))=L3 a' b' c':=by
 have p0:=h.p4.pos;rcases ij with ⟨rfl,rfl⟩|⟨rfl,rfl⟩|⟨rfl,rfl⟩|⟨rfl,rfl⟩|⟨rfl,rfl⟩|⟨rfl,rfl⟩
 ·exact⟨0,a,b,_,_,_,rfl,rfl,rfl,h.of (k:=1) h.p4.o1 (uJ p t a b c) ⟨Lw p0 _ _ _,h.ib,h.ic⟩,rfl⟩
 ·exact⟨0,a,c,_,_,_,rfl,rfl,rfl,h.of (k:=1) h.p4.o1 (uI p t a b c) ⟨Lw p0 _ _ _,h.ib,h.ic⟩,rfl⟩
 ·exact⟨1,b,a,_,_,_,rfl,rfl,rfl,h.of (k:=1) h.p4.o1 (uH p t a b c) ⟨h.ia,Lw p0 _ _ _,h.ic⟩,rfl⟩
 ·exact⟨1,b,c,_,_,_,rfl,rfl,rfl,h.of (k:=1) h.p4.o1 (uG p t a b c) ⟨h.ia,Lw p0 _ _ _,h.ic⟩,rfl⟩
 ·exact⟨2,c,a,_,_,_,rfl,rfl,rfl,h.of (k:=1) h.p4.o1 (uF p t a b c) ⟨h.ia,h.ib,Lw p0 _ _ _⟩,rfl⟩
 ·exact⟨2,c,b,_,_,_,rfl,rfl,rfl,h.of (k:=1) h.p4.o1 (uE p t a b c) ⟨h.ia,h.ib,Lw p0 _ _ _⟩,rfl⟩
theorem dC{a b c:R3}{i j:Af}(h:GoodR p a b c)(ij:Ij i j):∃(x y z:R3),Di (L3 a b c) j=.ok (EC x)/\Di (L3 a b c) i=.ok (EC y)/\Di (L3 a b c) (3-i-j)=.ok (EC z)/\GoodR p x y z:=by
 rcases ij with ⟨rfl,rfl⟩|⟨rfl,rfl⟩|⟨rfl,rfl⟩|⟨rfl,rfl⟩|⟨rfl,rfl⟩|⟨rfl,rfl⟩
 ·exact⟨b,a,c,rfl,rfl,rfl,h.of (k:=-1) h.p4.m1 (Cg.of (by unfold Av det;grind)) ⟨h.ib,h.ia,h.ic⟩⟩
 ·exact⟨c,a,b,rfl,rfl,rfl,h.of (k:=1) h.p4.o1 (Cg.of (by unfold Av det;grind)) ⟨h.ic,h.ia,h.ib⟩⟩
 ·exact⟨a,b,c,rfl,rfl,rfl,h⟩
 ·exact⟨c,b,a,rfl,rfl,rfl,h.of (k:=-1) h.p4.m1 (Cg.of (by unfold Av det;grind)) ⟨h.ic,h.ib,h.ia⟩⟩
 ·exact⟨a,c,b,rfl,rfl,rfl,h.of (k:=-1) h.p4.m1 (Cg.of (by unfold Av det;grind)) ⟨h.ia,h.ic,h.ib⟩⟩
 ·exact⟨b,c,a,rfl,rfl,rfl,h.of (k:=1) h.p4.o1 (Cg.of (by unfold Av det;grind)) ⟨h.ib,h.ic,h.ia⟩⟩
section
variable{Γ:Gam}{ns:Ac Af}{p:Af}{a b c:R3}{s2 s4 s5 s6 s7 s8:Sl}
theorem bC(hm:Ll Γ 228 ns)(h:GoodR p a b c)(ha:0<=at_)(hk:0<=k):∃ a' b' c' v5 v6 v7 v8,GoodR p a' b' c'/\Bk Γ 4 HU (.int k) [si p,sh (scr ns),si at_,Aa (.lst (L3 a b c),Ab),s4,s5,s6,s7,s8,Ad,Ad,Ad]=.next [si p,sh (scr ns),si at_,Aa (.lst (L3 a' b' c'),Ab),si k,v5,v6,v7,v8,Ad,Ad,Ad]:=by
 have p0:=h.p4.pos;have ph:=h.p4.hi;obtain⟨m,m0,e0⟩:=hm (at_+k) (by omega)
 generalize hi:m%3=i;generalize hj:(i+1+m / 3%2)%3=j;have ij:=tU hi hj;have t0:=AZ (m / 6) (b:=p) (by omega)
 have t1:=AX (m / 6) p0;generalize ht:m / 6%p=t at t0 t1;have mt:∀ x,EB t x=Ab:=fun x=>Jb (by omega) (by omega)
 obtain⟨i',x,y,a',b',c',gi,gj,pi,g',es⟩:=dD (t:=t) h ij;obtain⟨x2,y2,z2,f1,f2,f3,g2⟩:=dC g' ij;have pi':plD (L3 a b c).length i=Aa i':=pi;have e1:evSs Γ [si p,sh (scr ns),si at_,Aa (.lst (L3 a b c),Ab),si k,s5,s6,s7,s8,Ad,Ad,Ad] (HU.take 4)=.next [si p,sh (scr ns),si at_,Aa (.lst (L3 a b c),Ab),si k,si m,si i,si j,si t,Ad,Ad,Ad]:=by
  simp[HU,Ss.take,e0,hi,hj,ht,p0]
 have cp:Cb (cGT Γ [si p,sh (scr ns),si at_,Aa (.lst (L3 a b c),Ab),si k,si m,si i,si j,si t,Ad,Ad,Ad] [9,10] Et) (cFT Γ [si p,sh (scr ns),si at_,Aa (.lst (L3 a b c),Ab),si k,si m,si i,si j,si t,Ad,Ad,Ad] [9,10] Oe) (F7 [.int x.1,.int x.2.1,.int x.2.2] [.int y.1,.int y.2.1,.int y.2.2])=.ok [.int ((x.1+t*y.1)%p),.int ((x.2.1+t*y.2.1)%p),.int ((x.2.2+t*y.2.2)%p)]:=by
  generalize x.1=x0;generalize x.2.1=x1;generalize x.2.2=x2;generalize y.1=y0;generalize y.2.1=y1;generalize y.2.2=y2;simp[Cb,cGT,cFT,F7,Oe,Et,p0,mt]
 have gi':Di (L3 a b c) i=.ok (.lst [.int x.1,.int x.2.1,.int x.2.2]):=gi;have gj':Di (L3 a b c) j=.ok (.lst [.int y.1,.int y.2.1,.int y.2.2]):=gj;have rd:D.lst [.int ((x.1+t*y.1)%p),.int ((x.2.1+t*y.2.1)%p),.int ((x.2.2+t*y.2.2)%p)]=EC (adR p t x y):=rfl;have fin:∀ {o},evSs Γ [si p,sh (scr ns),si at_,Aa (.lst (L3 a b c),Ab),si k,si m,si i,si j,si t,Ad,Ad,Ad] (HU.drop 4)=o->Bk Γ 4 HU (.int k) [si p,sh (scr ns),si at_,Aa (.lst (L3 a b c),Ab),s4,s5,s6,s7,s8,Ad,Ad,Ad]=o:=fun {o} h=>by
  show evSs Γ [si p,sh (scr ns),si at_,Aa (.lst (L3 a b c),Ab),si k,s5,s6,s7,s8,Ad,Ad,Ad] HU=o;rw[O2 Γ 4,e1];exact h
 have sL:L3 x2 y2 z2=[EC x2,EC y2,EC z2]:=rfl;by_cases q:m / 100%3=1
 ·refine⟨x2,y2,z2,si m,si i,si j,si t,g2,fin ?_⟩;rw[sL]
  clear e1 fin sL
  generalize L3 a b c=LL at *;generalize L3 a' b' c'=LM at *;generalize EC x2=rx at *;generalize EC y2=ry at *;generalize EC z2=rz at *;generalize scr ns=S at *;simp[HU,Ss.drop,Pw,Cv,gi',gj',pi',cp,rd,es,q,f1,f2,f3,Dh]
 ·refine⟨a',b',c',si m,si i,si j,si t,g',fin ?_⟩
  clear e1 fin sL
  generalize L3 a b c=LL at *;generalize L3 a' b' c'=LM at *;generalize scr ns=S at *;simp[HU,Ss.drop,Pw,Cv,gi',gj',pi',cp,rd,es,q]
end
def iQ(Γ:Gam)(ns:Ac Af):Prop:=∀(p at_:Af),P4 p->0<=at_->∃ a b c,GoodR p a b c/\Γ.F 250 [.int p,scr ns,.int at_]=.ok (G9 a b c)
theorem dI(hm:Ll Γ 228 ns)(p at_:Af)(hp:P4 p)(ha:0<=at_):∃ a b c,GoodR p a b c/\MX.run Γ [.int p,scr ns,.int at_]=.ok (G9 a b c):=by
 have p0:=hp.pos;have g0:GoodR p e0R e1R e2R:=(fT hp).1;have rg:Du 0 6=.ok (Cq 0 6):=rfl;obtain⟨ρ',e,a,b,c,s4,s5,s6,s7,s8,g,rfl⟩:=Sw (body:=Bk Γ 4 HU) (fun ρ=>∃ a b c s4 s5 s6 s7 s8,GoodR p a b c/\ρ=[si p,sh (scr ns),si at_,Aa (.lst (L3 a b c),Ab),s4,s5,s6,s7,s8,Ad,Ad,Ad]) (Cq 0 6) [si p,sh (scr ns),si at_,Aa (.lst (L3 e0R e1R e2R),Ab),Ad,Ad,Ad,Ad,Ad,Ad,Ad,Ad] ⟨_,_,_,_,_,_,_,_,g0,rfl⟩ (by
  rintro x hx ρ ⟨a,b,c,s4,s5,s6,s7,s8,g,rfl⟩;obtain⟨k,_,rfl⟩:=aM hx;obtain⟨a',b',c',v5,v6,v7,v8,g',e⟩:=bC (s4:=s4) (s5:=s5) (s6:=s6) (s7:=s7) (s8:=s8) hm g ha (k:=0+(k:Af)) (by omega)
  exact⟨_,e,a',b',c',_,_,_,_,_,g',rfl⟩)
 obtain⟨m,m0,e2⟩:=hm (at_+6) (by omega)
 have q1:0<p-1:=by have:=hp.lo;omega
 have q2:1<p:=by have:=hp.lo;omega
 have t0:0<1+m%(p-1):=by have:=AZ m (b:=p-1) (by omega);omega
 have t1:1+m%(p-1)<p:=by have:=AX m q1;omega
 generalize ht:1+m%(p-1)=t at t0 t1;have tz:t%p≠0:=by rw[A6 (by omega) t1];omega
 have mt:∀ x,EB t x=Ab:=fun x=>Jb (by omega) (by have:=hp.hi;omega)
 refine⟨scR p t a,b,c,g.of (k:=t) tz (XS p t a b c) ⟨qL p0 _ _,g.ib,g.ic⟩,?_⟩;have cp:Cb (cG Γ [si p,sh (scr ns),si at_,Aa (.lst (L3 a b c),Ab),s4,s5,s6,s7,si t,Ad,Ad,Ad] 11 Et) (cF Γ [si p,sh (scr ns),si at_,Aa (.lst (L3 a b c),Ab),s4,s5,s6,s7,si t,Ad,Ad,Ad] 11 Od) [.int a.1,.int a.2.1,.int a.2.2]=.ok [.int (a.1*t%p),.int (a.2.1*t%p),.int (a.2.2*t%p)]:=by
  refine KJ (φ:=fun x=>x*t%p) [a.1,a.2.1,a.2.2] fun x _=>⟨rfl,?_⟩
  simp[cF,Od,mt,p0,BZ]
 have e':Cj (Bk Γ 4 HU) (Cq 0 6) [si p,sh (scr ns),si at_,Aa (.lst [.lst [.int 1,.int 0,.int 0],.lst [.int 0,.int 1,.int 0],.lst [.int 0,.int 0,.int 1]],Ab),Ad,Ad,Ad,Ad,Ad,Ad,Ad,Ad]=_:=e;have g0':Di (L3 a b c) 0=.ok (.lst [.int a.1,.int a.2.1,.int a.2.2]):=rfl;have pl:plD (L3 a b c).length 0=Aa 0:=rfl;have out:D.lst ((L3 a b c).set 0 (.lst [.int (a.1*t%p),.int (a.2.1*t%p),.int (a.2.2*t%p)]))=G9 (scR p t a) b c:=rfl
 clear e
 rw[<-out]
 clear out
 generalize L3 a b c=LL at *;generalize Cq 0 6=RL at *;generalize scr ns=S at *;simp[MX,Df.run,BA,Dh,rg,e',e2,q1,q2,ht,Pw,Cv,g0',pl,cp]
section
variable{p:Af}{C:C6}{a b c A B P U l m:R3}
theorem swp(h:BJ U m%p=0):BJ m U%p=0:=by rw[Nd];exact h
end
noncomputable def Ls(p:Af):Ac R3:=(Eu p).map (mdR p)
theorem aK(hp:P4 p):(Ls p).Nodup:=by
 rcases hp with rfl|rfl|rfl|rfl<;>decide +kernel
theorem Tq(hp:P4 p):∀ x∈Ls p,x∈Ew p/\vI C0p x%p=0:=by
 rcases hp with rfl|rfl|rfl|rfl<;>decide +kernel
theorem gH(hp:P4 p):∀ x∈Ew p,vI C0p x%p=0->x∈Ls p:=by
 rcases hp with rfl|rfl|rfl|rfl<;>decide +kernel
theorem Rv(hp:P4 p)(x:R3):x∈Ls p↔NF p x/\vI C0p x%p=0:=
 ⟨fun h=>⟨(Ke hp).mp (Tq hp x h).1,(Tq hp x h).2⟩,fun h=>gH hp x ((Ke hp).mpr h.1) h.2⟩
theorem gY{p l l':Af}{s:R3}(hp:P4 p)(er:Bq p (tri r)=Aa l)(es:Bq p (tri s)=Aa l')(h:CgR p r s):nrm p r=nrm p s:=by
 obtain⟨h1,h2⟩:=Kf hp er;obtain⟨h3,h4⟩:=Kf hp es;exact Ms hp h1 h3 ((h2.trans hp (Pr.cg hp h)).trans hp (h4.symm hp))
theorem ZA{a b c:R3}(hp:P4 p)(z:Av a b c%p≠0):((Eu p).map fun x=>nrm p (ap a b c x))=(Ls p).map fun x=>nrm p (ap a b c x):=by
 unfold Ls;rw[EU];refine GX fun x hx=>?_
 obtain⟨l,el⟩:=(Mq hp hx).2;have g:CgR p (mdR p x) x:=CgR.md rfl;have g':CgR p (ap a b c x) (ap a b c (mdR p x)):=QC CgR.rfl CgR.rfl CgR.rfl g.symm;obtain⟨l1,e1⟩:=Lb hp z el (CgR.rfl (a:=ap a b c x));obtain⟨l2,e2⟩:=Lb hp z el g'.symm;exact gY hp e1 e2 g'
theorem aI(x:R3)(l:Ac R3):(l.map (Am Ab)).any (fun y=>eqD y (Am Ab x))=decide (x∈l):=by
 induction l with
 |nil=>simp
 |cons y l ih=>
  rw[BE,Gj,ih,PX,Dy,B9,AT,AT,AT,AD];exact or_congr ⟨MP,MP⟩ Iff.rfl
theorem Pd(x:R3)(l:Ac R3):BO .In (Am Ab x) (At l)=.ok (.bl (decide (x∈l))):=by
 have k1:(l.map (Am Ab)).all (flD 5)=Ab:=by
  rw[CM];intro y hy;obtain⟨z,_,rfl⟩:=B4.mp hy;exact(NG z).1
 show (if (flD 5 (Am Ab x)&&(l.map (Am Ab)).all (flD 5))=Ab then R.ok (D.bl ((l.map (Am Ab)).any fun y=>eqD y (Am Ab x))) else R.bad)=_
 rw[k1,(NG x).1,AG (show (Ab&&Ab)=Ab from rfl),aI]
structure Fb (p:Af) (C:C6) (A B P U:R3):Prop where
 nA:NF p A
 nB:NF p B
 nP:NF p P
 nU:NF p U
 ne:A≠B
 ne2:A≠U
 ne3:B≠U
 on:FOn p C A B P U
 gen:VG p A B P U
 ln:∃ l,NF p l/\Pr p l (crs A B)/\P=Yh p C l
noncomputable def KD:Ss:=(.cons (.asg 5 Ae (.bin .Mod (.call 228 (.cons (.var 0) (.cons (.bin .Add (.var 1) (.var 4)) .nil))) (.bin .Add (.bi .len (.cons (.var 3) .nil)) (.int 1)))) (.cons (.asg 3 Ae (.bin .Add (.bin .Add (.sl (.var 3) .non (.var 5)) (.lst (.cons (.idx (.var 2) (.var 4)) .nil))) (.sl (.var 3) (.var 5) .non))) .nil))
noncomputable def JY:Df:=⟨6,Ae,(.cons (.asg 3 Ae (.lst .nil)) (.cons (.fors 4 (.rng (.bi .len (.cons (.var 2) .nil))) KD) (.cons (.ret (.var 3)) .nil)))⟩
theorem kept{a b c A B P U A' B' P' U':R3}(T:GoodR p a b c)(w:Whl p C)(f:Fb p C A B P U)(f':Fb p C A' B' P' U')(L:Led p a b c A B P U A' B' P' U'):PrC p (pb C a b c) C:=Zq T.p4 T.nz w w f.gen.1 f.gen.2.1 f.on f'.on L.h0 L.h1 L.h2 L.h3
theorem R8{d:Ag}{i:Af}(h0:0<=i):Ha n d (Aa i)=min i.toNat n:=by
 show (if i<0 then _ else _)=_
 rw[AI (by omega)]
theorem Qn(M:Ac R3){i:Af}(h0:0<=i):slD (At M) Ad (Aa i)=.ok (At (M.take i.toNat)):=by
 show R.ok (D.lst (((M.map (Am Ab)).drop 0).take (Ha (M.map (Am Ab)).length (M.map (Am Ab)).length (Aa i)-0)))=_;rw[R8 h0,Wc,Nat.sub_zero,Bm];unfold At;rw[Wl]
 congr 2
 by_cases h:i.toNat<=M.length
 ·rw[Ip h]
 ·rw[Nat.min_eq_right (by omega),DS (by simp),DS (by simp;omega)]
theorem eR(M:Ac R3){i:Af}(h0:0<=i)(h1:i.toNat<=M.length):slD (At M) (Aa i) Ad=.ok (At (M.drop i.toNat)):=by
 show R.ok (D.lst (((M.map (Am Ab)).drop (Ha (M.map (Am Ab)).length 0 (Aa i))).take ((M.map (Am Ab)).length-Ha (M.map (Am Ab)).length 0 (Aa i))))=_;rw[R8 h0];unfold At;rw[Wk,Bm,Ip h1]
 congr 2
 exact DS (by simp)
theorem RU(X Y:Ac R3)(h:X.length+Y.length<=1000):CV .Add (At X) (At Y)=.ok (At (X++Y)):=by
 show (if Ci ((X.map (Am Ab)).length+(Y.map (Am Ab)).length)=Ab then R.ok (D.lst (X.map (Am Ab)++Y.map (Am Ab))) else R.bad)=_
 have z:Ci ((X.map (Am Ab)).length+(Y.map (Am Ab)).length)=Ab:=Dq (by rw[Bm,Bm];omega)
 rw[AG z,<-FA];rfl
theorem aS(h:L[n]?=Aa x):DQ (At L) (.int (n:Af))=.ok (Am Ab x):=by
 show Di (L.map (Am Ab)) (n:Af)=_;exact Pf (by omega) (by rw[EQ,Eb,h];rfl)
def hG(Γ:Gam)(ns:Ac Af):Prop:=∀(at_:Af)(L:Ac R3),0<=at_->L.length<=60->∃ M:Ac R3,M.Perm L/\Γ.F 251 [scr ns,.int at_,At L]=.ok (At M)
theorem gL(hm:Ll Γ 228 ns){M:Ac R3}(ha:0<=at_)(hx:L[n]?=Aa x)(h5:M.length<=60){s4 s5:Sl}:∃(M':Ac R3)(v5:Sl),M'.Perm (M++[x])/\Bk Γ 4 KD (.int (n:Af)) [sh (scr ns),si at_,sh (At L),sh (At M),s4,s5]=.next [sh (scr ns),si at_,sh (At L),sh (At M'),si (n:Af),v5]:=by
 obtain⟨m,m0,e⟩:=hm (at_+(n:Af)) (by omega)
 have q0:=AZ m (b:=(M.length:Af)+1) (by omega)
 have q1:=AX m (b:=(M.length:Af)+1) (by omega)
 have ln:biD .len [At M]=.ok (.int (M.length:Af)):=Sk M;have lp:(0:Af)<(M.length:Af)+1:=by omega
 generalize hi:m%((M.length:Af)+1)=i at *;have s1:=Qn M q0;have s2:=eR M q0 (by omega)
 have g:=aS hx;have a1:=RU (M.take i.toNat) [x] (by simp;omega)
 have a2:=RU (M.take i.toNat++[x]) (M.drop i.toNat) (by simp;omega)
 refine⟨(M.take i.toNat++[x])++M.drop i.toNat,si i,?_,?_⟩
 ·have p1:((M.take i.toNat++[x])++M.drop i.toNat).Perm (x::(M.take i.toNat++M.drop i.toNat)):=by
   rw[List.append_assoc];exact List.perm_middle
  rw[Dp]at p1;exact p1.trans (List.perm_append_singleton x M).symm
 ·have rx:D.lst [Am Ab x]=At [x]:=rfl;generalize (M.length:Af)=N at *;generalize At L=TL at *;generalize At M=TM at *;generalize At (M.take i.toNat)=T1 at *;generalize At (M.drop i.toNat)=T2 at *;generalize At (M.take i.toNat++[x])=T3 at *;generalize At ((M.take i.toNat++[x])++M.drop i.toNat)=T4 at *;rw[<-rx]at a1;generalize Am Ab x=tx at *;generalize scr ns=S at *;simp[Bk,KD,e,ln,lp,hi,s1,s2,g,a1,a2]
theorem gK{S TL TM:D}{RL:Ac D}{s4 s5:Sl}(ln:biD .len [TL]=.ok (.int N))(rg:Du 0 N=.ok RL)(e:Cj (Bk Γ 4 KD) RL [sh S,si at_,sh TL,sh (.lst []),Ad,Ad]=.next [sh S,si at_,sh TL,sh TM,s4,s5]):JY.run Γ [S,.int at_,TL]=.ok TM:=by
 have e1:evSs Γ [sh S,si at_,sh TL,Ad,Ad,Ad] JY.body=F9 Γ (.cons (.ret (.var 3)) .nil) (Cj (Bk Γ 4 KD) RL [sh S,si at_,sh TL,sh (.lst []),Ad,Ad]):=by
  simp[JY,ln,rg]
 show O.ans Ae (evSs Γ [sh S,si at_,sh TL,Ad,Ad,Ad] JY.body)=_;rw[e1,e];simp
theorem dM(hm:Ll Γ 228 ns)(at_:Af)(L:Ac R3)(ha:0<=at_)(hL:L.length<=60):∃ M:Ac R3,M.Perm L/\JY.run Γ [scr ns,.int at_,At L]=.ok (At M):=by
 have lp:=Ox (body:=Bk Γ 4 KD) (fun n ρ=>∃(M:Ac R3)(s4 s5:Sl),M.Perm (L.take n)/\ρ=[sh (scr ns),si at_,sh (At L),sh (At M),s4,s5]) (Cq 0 L.length) 0 [sh (scr ns),si at_,sh (At L),sh (At []),Ad,Ad] ⟨[],Ad,Ad,by simp,rfl⟩ (by
  rintro n y hy ρ ⟨M,s4,s5,pm,rfl⟩;obtain⟨hn,rfl⟩:=Pe hy;rw[FH]at pm;rw[Ek,FH];have hx:L[n]?=Aa L[n]:=B0 hn;obtain⟨M',v5,pm',e⟩:=gL (s4:=s4) (s5:=s5) hm ha hx (M:=M) (by rw[pm.length_eq];simp;omega)
  refine⟨_,e,M',_,_,?_,rfl⟩;rw[List.take_succ,hx];exact pm'.trans (pm.append_right _))
 obtain⟨ρ',e,M,s4,s5,pm,rfl⟩:=lp;rw[FH,L4,List.take_length]at pm;refine⟨M,pm,?_⟩;have ln:biD .len [At L]=.ok (.int (L.length:Af)):=Sk L;have rg:Du 0 (L.length:Af)=.ok (Cq 0 ((L.length:Af)-0).toNat):=Ma (by decide) (by decide) (by omega) (by omega)
 rw[HJ,EQ]at rg;have e0:At []=.lst []:=rfl;rw[e0]at e;generalize (L.length:Af)=N at *;generalize Cq 0 L.length=RL at *;generalize At L=TL at *;generalize At M=TM at *;generalize scr ns=S at *;exact gK ln rg e
theorem gE{a b c:R3}(hp:P4 p)(z:Av a b c%p≠0):((Eu p).map fun x=>nrm p (ap a b c x)).Nodup:=by
 rw[ZA hp z];refine Rg (aK hp) fun x hx y hy e=>?_
 have h1:=Rh hp z ((Rv hp x).mp hx).1;have h2:=Rh hp z ((Rv hp y).mp hy).1;rw[<-h1,<-h2,e]
theorem aJ(hp:P4 p):4<=(Eu p).length/\(Eu p).length<=60:=by
 rcases hp with rfl|rfl|rfl|rfl<;>decide +kernel
section
variable{Γ:Gam}{ns:Ac Af}{p:Af}
end
noncomputable def KU:Ss:=(.cons (.ife (.call 56 (.cons (.var 0) (.cons (.var 1) (.cons (.var 3) .nil)))) (.cons (.ret (.bl Ab)) .nil) .nil) .nil)
noncomputable def Mg:Df:=⟨4,Ae,(.cons (.fors 3 (.e (.var 2)) KU) (.cons (.ret (.bl Ae)) .nil))⟩
noncomputable def MS:E:=(.call 57 (.cons (.var 0) (.cons (.var 5) (.cons (.var 2) .nil))))
noncomputable def Oc:E:=(.and (.cons (.cmp .NotEq (.var 6) (.var 2)) (.cons (.no (.call 221 (.cons (.var 0) (.cons (.var 6) (.cons (.var 4) .nil))))) .nil)))
noncomputable def MV:Df:=⟨7,Ab,(.cons (.asg 4 Ae (.comp MS 5 (.e (.var 1)) Et)) (.cons (.ret (.comp KH 6 (.e (.var 3)) Oc)) .nil))⟩
section
variable{Γ:Gam}{p:Af}
noncomputable def Im(p:Af)(x:R3)(ls:Ac R3):Ao:=ls.any fun l=>decide (BJ x l%p=0)
theorem R6(h:Qe Γ){x:R3}(hp:P4 p)(ix:In3 p x){L:D}:∀(ls:Ac R3)(s3:Sl),(∀ l∈ls,In3 p l)->∃ s3',Cj (Bk Γ 3 KU) (ls.map (Am Ab)) [si p,sh (Am Ab x),sh L,s3]=if Im p x ls=Ab then .ret (.bl Ab) Ae else .next [si p,sh (Am Ab x),sh L,s3']
 |[],s3,_=>⟨s3,rfl⟩
 |l::ls,s3,hl=>by
  have e:=h p x l hp ix (hl l AE);obtain⟨s3',ih⟩:=R6 h hp ix (L:=L) ls (sh (Am Ab l)) fun y hy=>hl y (AA _ hy)
  refine⟨s3',?_⟩;show (Bk Γ 3 KU (Am Ab l) _).turn _=_;by_cases z:BJ x l%p=0
  ·have t:Im p x (l::ls)=Ab:=by unfold Im;simp[z]
   rw[DR z]at e;rw[AG t];generalize Am Ab x=X at *;generalize Am Ab l=Y at *;simp[Bk,KU,e,Dh]
  ·have t:Im p x (l::ls)=Im p x ls:=by unfold Im;simp[z]
   rw[BY z]at e;rw[t,<-ih];generalize Am Ab x=X at *;generalize Am Ab l=Y at *;have q:Bk Γ 3 KU Y [si p,sh X,sh L,s3]=.next [si p,sh X,sh L,sh Y]:=by simp[Bk,KU,e]
   rw[q];rfl
def U8(Γ:Gam):Prop:=∀(p:Af)(x:R3)(ls:Ac R3),P4 p->In3 p x->(∀ l∈ls,In3 p l)->Γ.F 221 [.int p,Am Ab x,At ls]=.ok (.bl (Im p x ls))
theorem tL(h:Qe Γ)(x:R3)(ls:Ac R3)(hp:P4 p)(ix:In3 p x)(hl:∀ l∈ls,In3 p l):Mg.run Γ [.int p,Am Ab x,At ls]=.ok (.bl (Im p x ls)):=by
 obtain⟨s3,e⟩:=R6 h hp ix (L:=At ls) ls Ad hl;have sq:De (At ls)=.ok (ls.map (Am Ab)):=rfl;generalize At ls=L at *;generalize ls.map (Am Ab)=M at *;generalize Am Ab x=X at *;cases hb:Im p x ls with
 |true=>rw[hb,AG rfl]at e;simp[Mg,Df.run,BA,sq,e]
 |false=>rw[hb,AI Aq]at e;simp[Mg,Df.run,BA,sq,e]
theorem lA(ny:NF p y)(pr:Pr p y r):NF p (nrm p r)/\Pr p (nrm p r) r:=by
 have ex:∃ y,NF p y/\Pr p y r:=⟨y,ny,pr⟩;unfold nrm;rw[dif_pos ex];exact DY ex
theorem rQ(hp:P4 p){a b:R3}(na:NF p a)(nb:NF p b)(ne:a≠b)(h:Qf Γ):NF p (nrm p (crs a b))/\Pr p (nrm p (crs a b)) (crs a b)/\Γ.F 57 [.int p,Am Ab a,Am Ab b]=.ok (Am Ab (nrm p (crs a b))):=by
 obtain⟨y,i,l,pr,e⟩:=h p a b hp na.1 nb.1 na.2 nb.2 ne;obtain⟨n1,n2⟩:=lA ⟨i,l⟩ pr;have q:=Ms hp ⟨i,l⟩ n1 (pr.trans hp (n2.symm hp));rw[q]at e;exact⟨n1,n2,e⟩
theorem UX(hp:P4 p){a b q:R3}(pr:Pr p (nrm p (crs a b)) (crs a b)):BJ q (nrm p (crs a b))%p=0↔Av a b q%p=0:=by
 rw[sI hp (show Pr p q q from ⟨1,hp.o1,CgR.of (by unfold BW;simp)⟩) pr,show BJ q (crs a b)=Av a b q by unfold BJ crs Av det;grind]
noncomputable def stq(p:Af)(pts:Ac R3)(f q:R3):Ao:=!decide (q=f) && !(pts.any fun a=>decide (Av a f q%p=0))
def Mk(Γ:Gam):Prop:=∀(p:Af)(pts:Ac R3)(f:R3)(left:Ac R3),P4 p->(∀ x∈pts,NF p x)->NF p f->f∉pts->(∀ x∈left,NF p x)->Γ.F 222 [.int p,At pts,Am Ab f,At left]=.ok (At (left.filter (stq p pts f)))
theorem dJ(hj:Qf Γ)(ha:U8 Γ)(pts:Ac R3)(f:R3)(left:Ac R3)(hp:P4 p)(np:∀ x∈pts,NF p x)(nf:NF p f)(ni:f∉pts)(nl:∀ x∈left,NF p x):MV.run Γ [.int p,At pts,Am Ab f,At left]=.ok (At (left.filter (stq p pts f))):=by
 have jn:∀ a∈pts,NF p (nrm p (crs a f))/\Pr p (nrm p (crs a f)) (crs a f)/\Γ.F 57 [.int p,Am Ab a,Am Ab f]=.ok (Am Ab (nrm p (crs a f))):=fun a h=>rQ hp (np a h) nf (fun z=>ni (z ▸ h)) hj
 have c1:∀ xs:Ac R3,(∀ a∈xs,a∈pts)->Cb (cG Γ [si p,sh (At pts),sh (Am Ab f),sh (At left),Ad,Ad,Ad] 5 Et) (cF Γ [si p,sh (At pts),sh (Am Ab f),sh (At left),Ad,Ad,Ad] 5 MS) (xs.map (Am Ab))=.ok ((xs.map fun a=>nrm p (crs a f)).map (Am Ab)):=by
  intro xs
  induction xs with
  |nil=>intro _;rfl
  |cons a xs ih=>
   intro h;have e:=(jn a (h a AE)).2.2;have e1:cF Γ [si p,sh (At pts),sh (Am Ab f),sh (At left),Ad,Ad,Ad] 5 MS (Am Ab a)=.ok (Am Ab (nrm p (crs a f))):=by
    generalize Am Ab (nrm p (crs a f))=Y at *;generalize Am Ab a=X at *;generalize Am Ab f=F at *;generalize At pts=T at *;generalize At left=TL at *;simp[cF,MS,e]
   have ih':=ih fun b hb=>h b (AA _ hb)
   show (R.ok Ab).bind _=_;rw[R.bind_ok,AG rfl,e1,R.bind_ok,show Cb _ _ (LQ _ xs)=_ from ih']
   rfl
 have c1:=c1 pts fun _ h=>h
 have il:∀ l∈(pts.map fun a=>nrm p (crs a f)),In3 p l:=fun l hl=>by
  obtain⟨a,h,rfl⟩:=B4.mp hl;exact(jn a h).1.1
 have c2:=OZ (g:=cG Γ [si p,sh (At pts),sh (Am Ab f),sh (At left),sh (At (pts.map fun a=>nrm p (crs a f))),Ad,Ad] 6 Oc) (f:=cF Γ [si p,sh (At pts),sh (Am Ab f),sh (At left),sh (At (pts.map fun a=>nrm p (crs a f))),Ad,Ad] 6 KH) (q:=stq p pts f) left fun x hx=>by
  have e:=ha p x _ hp (nl x hx).1 il;have q1:Im p x (pts.map fun a=>nrm p (crs a f))=pts.any fun a=>decide (Av a f x%p=0):=by
   unfold Im;rw[V8,Dy,DM,DM];constructor
   ·rintro⟨a,h,z⟩;exact⟨a,h,DR ((UX hp (jn a h).2.1).mp (Ga z))⟩
   ·rintro⟨a,h,z⟩;exact⟨a,h,DR ((UX hp (jn a h).2.1).mpr (Ga z))⟩
  rw[q1]at e;have q2:=PX x f;have f1:=(NG x).1;have f2:=(NG f).1;unfold stq;generalize (pts.any fun a=>decide (Av a f x%p=0))=B at *
  generalize decide (x=f)=B2 at *;generalize At (pts.map fun a=>nrm p (crs a f))=T2 at *
  generalize Am Ab x=X at *;generalize Am Ab f=F at *;generalize At pts=T at *;generalize At left=TL at *;constructor
  ·cases B2<;>cases B<;>simp[cG,Oc,e,q2,f1,f2]
  ·simp[cF,KH]
 have s1:De (At pts)=.ok (pts.map (Am Ab)):=rfl;have s2:De (At left)=.ok (left.map (Am Ab)):=rfl;have e3:At (pts.map fun a=>nrm p (crs a f))=.lst ((pts.map fun a=>nrm p (crs a f)).map (Am Ab)):=rfl
 have e4:At (left.filter (stq p pts f))=.lst ((left.filter (stq p pts f)).map (Am Ab)):=rfl;rw[e3]at c2;rw[e4];generalize (left.filter (stq p pts f)).map (Am Ab)=RL at *;generalize (pts.map fun a=>nrm p (crs a f)).map (Am Ab)=LL at *
 generalize left.map (Am Ab)=M2 at *;generalize pts.map (Am Ab)=M1 at *;generalize Am Ab f=F at *;generalize At pts=T at *;generalize At left=TL at *;simp[MV,Df.run,BA,s1,s2,c1,c2,Dh]
noncomputable def IG(p:Af):Ac R3->Ac R3->Ac R3->Ac R3
 |_,[],left=>left
 |seen,f::rest,left=>IG p (seen++[f]) rest (left.filter (stq p seen f))
theorem O0{x:R3}:∀{rest seen left:Ac R3},x∈IG p seen rest left->x∈left
 |[],_,_,h=>h
 |_::_,_,_,h=>(Ct.mp (O0 h)).1
noncomputable def Ik(p:Af)(pts:Ac R3):Ac R3:=IG p [] pts (Ew p)
def U7(Γ:Gam):Prop:=∀(p:Af)(pts:Ac R3),P4 p->(∀ x∈pts,NF p x)->pts.Nodup->pts.length<=1000->Γ.F 223 [.int p,At pts]=.ok (At (Ik p pts))
end
noncomputable def On:Df:=⟨2,Ae,(.cons (.ife (.cmp .Eq (.var 0) (.var 1)) (.cons (.rais 107 (.cons (.var 0) .nil)) .nil) .nil) (.cons (.ret (.tup (.cons (.bin .Sub (.bin .Mult (.idx (.var 0) (.int 1)) (.idx (.var 1) (.int 2))) (.bin .Mult (.idx (.var 0) (.int 2)) (.idx (.var 1) (.int 1)))) (.cons (.bin .Sub (.bin .Mult (.idx (.var 0) (.int 2)) (.idx (.var 1) (.int 0))) (.bin .Mult (.idx (.var 0) (.int 0)) (.idx (.var 1) (.int 2)))) (.cons (.bin .Sub (.bin .Mult (.idx (.var 0) (.int 0)) (.idx (.var 1) (.int 1))) (.bin .Mult (.idx (.var 0) (.int 1)) (.idx (.var 1) (.int 0)))) .nil))))) .nil))⟩
theorem YT(Γ:Gam)(a b:R3)(ha:B3 a)(hb:B3 b)(ne:a≠b):On.run Γ [Am Ab a,Am Ab b]=.ok (Am Ab (crs a b)):=by
 obtain⟨x0,x1,x2⟩:=HX Ab a;obtain⟨y0,y1,y2⟩:=HX Ab b;have k:∀ {u v},Bd 300 u->Bd 300 v->Ht u v=Ab:=fun hu hv=>Li hu hv (by decide) (by decide)
 have f:∀ r:R3,flD 5 (Am Ab r)=Ab:=fun _=>rfl
 have e:eqD (Am Ab a) (Am Ab b)=Ae:=by rw[PX];exact BY ne
 simp[On,Df.run,BA,f,e,x0,x1,x2,y0,y1,y2,k ha.2.1 hb.2.2,k ha.2.2 hb.2.1,k ha.2.2 hb.1,k ha.1 hb.2.2,k ha.1 hb.2.1,k ha.2.1 hb.1];rfl
noncomputable def alk(a:R3):Ex:=⟨107,[(Bh "triple", Am Ab a)]⟩
theorem oU(hp:P4 p)(h:In3 p a):mkX 107 "triple" [Am Ab a]=.ok (alk a):=by
 have ph:=hp.hi;obtain⟨⟨x0,x1⟩,⟨y0,y1⟩,z0,z1⟩:=h;have e:xfD 1 (Am Ab a)=Ab:=by
  show (C8 3 8&&([D.int a.1,.int a.2.1,.int a.2.2].all (xfD 0)))=Ab;simp[xfD];omega
 show (if (xfD 1 (Am Ab a)||xfD 2 (Am Ab a))=Ab then R.ok (alk a) else .bad)=_
 rw[e];rfl
section
variable{Γ:Gam}{ns:Ac Af}
theorem in1(b:Ao):biD .int [.bl b]=.ok (.int (if b=Ab then 1 else 0)):=by cases b<;>rfl
end
theorem J9{body:D->Rho->O}(I:Rho->Prop)(f:Ag->D)(g:Ag->An D):∀(L:Ac Ag),(∀ m∈L,∀ ρ,I ρ->(∃ d,g m=Aa d/\body (f m) ρ=.ret d Ae)\/(g m=Ad/\∃ ρ',body (f m) ρ=.next ρ'/\I ρ'))->∀ ρ,I ρ->(∃ d,L.findSome? g=Aa d/\Cj body (L.map f) ρ=.ret d Ae)\/(L.findSome? g=Ad/\∃ ρ',Cj body (L.map f) ρ=.next ρ'/\I ρ')
 |[],_,ρ,i=>.inr ⟨rfl,ρ,rfl,i⟩
 |m::L,h,ρ,i=>by
  rcases h m (AE ..) ρ i with ⟨d,e1,e2⟩|⟨e1,ρ',e2,i'⟩
  ·refine .inl ⟨d,by rw[GW,e1],?_⟩
   show (body (f m) ρ).turn _=_;rw[e2];rfl
  ·rcases J9 I f g L (fun m' h'=>h m' (AA _ h')) ρ' i' with ⟨d,a,b⟩|⟨a,r,b,c⟩
   ·refine .inl ⟨d,by rw[GW,e1];exact a,?_⟩
    show (body (f m) ρ).turn _=_;rw[e2];exact b
   ·refine .inr ⟨by rw[GW,e1];exact a,r,?_,c⟩
    show (body (f m) ρ).turn _=_;rw[e2];exact b
noncomputable def atZ(pts:Ac R3)(i:Ag):R3:=pts.getD i (0,0,0)
theorem inZ(hg:∀ t∈pts,In3 p t)(h:i<pts.length):In3 p (atZ pts i):=by
 have e:atZ pts i=pts[i]:=by simp[atZ,h]
 rw[e];exact hg _ (B1 h)
theorem bZ(hp:P4 p)(hg:∀ t∈pts,In3 p t)(h:i<pts.length):B3 (atZ pts i):=(Ih hp (inZ hg h)).b3 (by decide)
theorem Pu(h:i<pts.length):Di (pts.map (Am Ab)) (i:Af)=.ok (Am Ab (atZ pts i)):=by
 have h':i<(pts.map (Am Ab)).length:=by simpa using h
 rw[aU _ i h'];simp[atZ,h]
theorem F5(h:i<pts.length):DQ (At pts) (.int (i:Af))=.ok (Am Ab (atZ pts i)):=Pu h
def JO(n:Ag):Prop:=n<20000
theorem mZ(hn:JO n)(hj:j<n):Du ((j:Af)+1) (n:Af)=.ok ((A5 (n-(j+1))).map fun m=>D.int ((j+1+m:Ag):Af)):=by
 have hn':n<20000:=hn;unfold Du;rw[AG (by omega)]
 unfold Cq;have e:((n:Af)-((j:Af)+1)).toNat=n-(j+1):=by omega
 rw[e]
 congr 1
theorem UT:∀(xs:Ac D)(s:Ag),Fe (s:Af) xs=(A5 xs.length).map fun m=>D.tup [.int ((s+m:Ag):Af),xs.getD m .non]
 |[],s=>rfl
 |x::xs,s=>by
  have ih:=UT xs (s+1);rw[Fe,Bs,Gc,BE,EU];have e:((s:Af)+1)=((s+1:Ag):Af):=by omega
  rw[e,ih]
  congr 1
  apply GX
  intro m _;show D.tup [.int ((s+1+m:Ag):Af),xs.getD m .non]=D.tup [.int ((s+(m+1):Ag):Af),(x::xs).getD (m+1) .non];have e2:s+1+m=s+(m+1):=by omega
  rw[e2];rfl
noncomputable def z3_(p:Af)(pts:Ac R3)(i j k:Ag):An D:=if Av (atZ pts i) (atZ pts j) (atZ pts k)%p=0 then Aa (.tup [Am Ab (atZ pts i),Am Ab (atZ pts j),Am Ab (atZ pts k)]) else Ad
noncomputable def z2_(p:Af)(pts:Ac R3)(i j:Ag):An D:=(A5 (pts.length-(j+1))).findSome? fun m=>z3_ p pts i j (j+1+m)
noncomputable def z1_(p:Af)(pts:Ac R3)(i:Ag):An D:=(A5 (pts.length-(i+1))).findSome? fun m=>z2_ p pts i (i+1+m)
noncomputable def z0_(p:Af)(pts:Ac R3):An D:=(A5 pts.length).findSome? (z1_ p pts)
theorem Nl{t:Ag}{it:I}{body:Ss}(h:FP Γ ρ it=.ok xs):evSs Γ ρ (.cons (.fors t it body) .nil)=Cj (Bk Γ t body) xs ρ:=by rw[G4,pK,Nc,h,Nt]
theorem M9{j a l:Ag}(hn:JO pts.length)(hj:j<pts.length)(h1:Dm ρ a=.ok (.int (j:Af)))(h2:Dm ρ l=.ok (At pts)):FP Γ ρ (.rng2 (.bin .Add (.var a) (.int 1)) (.bi .len (.cons (.var l) .nil)))=.ok ((A5 (pts.length-(j+1))).map fun m=>D.int ((j+1+m:Ag):Af)):=by
 have e1:evE Γ ρ (.bin .Add (.var a) (.int 1))=.ok (.int ((j:Af)+1)):=by
  show ((Dm ρ a).bind fun x=>R.bind (.ok (.int 1)) fun y=>CV .Add x y)=_
  rw[h1];rfl
 have e2:evE Γ ρ (.bi .len (.cons (.var l) .nil))=.ok (.int (pts.length:Af)):=by
  show (((Dm ρ l).bind fun x=>R.bind (.ok []) fun xs=>.ok (x::xs)).bind fun xs=>biD .len xs)=_
  rw[h2];show R.ok (D.int (((pts.map (Am Ab)).length:Ag):Af))=_;rw[Bm]
 have e3:∀ x y:E,(∀ r,top ρ x r=r)->(∀ r,top ρ y r=r)->∀ i j:Af,evE Γ ρ x=.ok (.int i)->evE Γ ρ y=.ok (.int j)->FP Γ ρ (.rng2 x y)=Du i j:=fun x y tx ty i j hx hy=>by
  rw[Zh,aZ,tx,ty,hx,hy];simp only[R.bind_ok,L8]
 rw[e3 _ _ (fun _=>rfl) (fun _=>rfl) _ _ e1 e2]
 exact mZ hn hj
section
variable{Γ:Gam}{p:Af}{pts:Ac R3}
theorem XN(h:Ml Γ)(hp:P4 p)(hg:∀ t∈pts,In3 p t){k:Ag}(hi:i<pts.length)(hj:j<pts.length)(hk:k<pts.length)(ρ:Rho)(I:∃ s,ρ=[si p,sh (At pts),si i,sh (Am Ab (atZ pts i)),si j,s]):(∃ d,z3_ p pts i j k=Aa d/\Bk Γ 5 J4 (.int (k:Af)) ρ=.ret d Ae)\/(z3_ p pts i j k=Ad/\∃ ρ',Bk Γ 5 J4 (.int (k:Af)) ρ=.next ρ'/\∃ s,ρ'=[si p,sh (At pts),si i,sh (Am Ab (atZ pts i)),si j,s]):=by
 obtain⟨s,rfl⟩:=I;have e:=h p Ab _ _ _ hp.pos (bZ hp hg hi) (bZ hp hg hj) (bZ hp hg hk);by_cases z:Av (atZ pts i) (atZ pts j) (atZ pts k)%p=0
 ·rw[z]at e;exact .inl ⟨_,AG z,by simp[Bk,J4,F5 hj,F5 hk,e,Dh]⟩
 ·exact .inr ⟨AI z,[si p,sh (At pts),si i,sh (Am Ab (atZ pts i)),si j,si k],by simp[Bk,J4,F5 hj,F5 hk,e,z],_,rfl⟩
theorem XO(h:Ml Γ)(hp:P4 p)(hg:∀ t∈pts,In3 p t)(hn:JO pts.length)(hi:i<pts.length)(hj:j<pts.length)(ρ:Rho)(I:∃ s t,ρ=[si p,sh (At pts),si i,sh (Am Ab (atZ pts i)),s,t]):(∃ d,z2_ p pts i j=Aa d/\Bk Γ 4 KI (.int (j:Af)) ρ=.ret d Ae)\/(z2_ p pts i j=Ad/\∃ ρ',Bk Γ 4 KI (.int (j:Af)) ρ=.next ρ'/\∃ s t,ρ'=[si p,sh (At pts),si i,sh (Am Ab (atZ pts i)),s,t]):=by
 obtain⟨s,t,rfl⟩:=I;have e:Bk Γ 4 KI (.int (j:Af)) [si p,sh (At pts),si i,sh (Am Ab (atZ pts i)),s,t]=Cj (Bk Γ 5 J4) ((A5 (pts.length-(j+1))).map fun m=>D.int ((j+1+m:Ag):Af)) [si p,sh (At pts),si i,sh (Am Ab (atZ pts i)),si j,t]:=by
  exact Nl (M9 hn hj rfl rfl)
 rw[e];rcases J9 (body:=Bk Γ 5 J4) (fun ρ=>∃ s,ρ=[si p,sh (At pts),si i,sh (Am Ab (atZ pts i)),si j,s]) (fun m=>D.int ((j+1+m:Ag):Af)) (fun m=>z3_ p pts i j (j+1+m)) (A5 (pts.length-(j+1))) (fun m hm ρ I=>XN h hp hg hi hj (by have:=Ba.mp hm;omega) ρ I) [si p,sh (At pts),si i,sh (Am Ab (atZ pts i)),si j,t] ⟨t,rfl⟩ with ⟨d,a,b⟩|⟨a,r,b,u,c⟩
 ·exact .inl ⟨d,a,b⟩
 ·exact .inr ⟨a,r,b,_,u,c⟩
theorem XQ(h:Ml Γ)(hp:P4 p)(hg:∀ t∈pts,In3 p t)(hn:JO pts.length)(hi:i<pts.length)(ρ:Rho)(I:∃ a b s t,ρ=[si p,sh (At pts),a,b,s,t]):(∃ d,z1_ p pts i=Aa d/\E4 Γ [2,3] IC (.tup [.int ((0+i:Ag):Af),(pts.map (Am Ab)).getD i .non]) ρ=.ret d Ae)\/(z1_ p pts i=Ad/\∃ ρ',E4 Γ [2,3] IC (.tup [.int ((0+i:Ag):Af),(pts.map (Am Ab)).getD i .non]) ρ=.next ρ'/\∃ a b s t,ρ'=[si p,sh (At pts),a,b,s,t]):=by
 obtain⟨a,b,s,t,rfl⟩:=I;have e0:(pts.map (Am Ab)).getD i .non=Am Ab (atZ pts i):=by simp[atZ,hi]
 have e:E4 Γ [2,3] IC (.tup [.int ((0+i:Ag):Af),(pts.map (Am Ab)).getD i .non]) [si p,sh (At pts),a,b,s,t]=Cj (Bk Γ 4 KI) ((A5 (pts.length-(i+1))).map fun m=>D.int ((i+1+m:Ag):Af)) [si p,sh (At pts),si i,sh (Am Ab (atZ pts i)),s,t]:=by
  have e':∀(x y:D),E4 Γ [2,3] IC (.tup [x,y]) [si p,sh (At pts),a,b,s,t]=evSs Γ [si p,sh (At pts),sh x,sh y,s,t] IC:=fun _ _=>rfl
  rw[e0,FH,e'];unfold IC;rw[Nl (M9 hn hi rfl rfl)]
 rw[e];rcases J9 (body:=Bk Γ 4 KI) (fun ρ=>∃ s t,ρ=[si p,sh (At pts),si i,sh (Am Ab (atZ pts i)),s,t]) (fun m=>D.int ((i+1+m:Ag):Af)) (fun m=>z2_ p pts i (i+1+m)) (A5 (pts.length-(i+1))) (fun m hm ρ I=>XO h hp hg hn hi (by have:=Ba.mp hm;omega) ρ I) [si p,sh (At pts),si i,sh (Am Ab (atZ pts i)),s,t] ⟨s,t,rfl⟩ with ⟨d,a,b⟩|⟨a,r,b,u,v,c⟩
 ·exact .inl ⟨d,a,b⟩
 ·exact .inr ⟨a,r,b,_,_,u,v,c⟩
theorem ZV(h:Ml Γ)(hp:P4 p)(hg:∀ t∈pts,In3 p t)(hn:JO pts.length):Ot.run Γ [.int p,At pts]=.ok ((z0_ p pts).getD .non):=by
 have en:=UT (pts.map (Am Ab)) 0;rw[Bm]at en;have en':Fe 0 (pts.map (Am Ab))=(A5 pts.length).map fun m=>D.tup [.int ((0+m:Ag):Af),(pts.map (Am Ab)).getD m .non]:=en
 have hE:FP Γ [si p,sh (At pts),Ad,Ad,Ad,Ad] (.enm (.var 1))=.ok ((A5 pts.length).map fun m=>D.tup [.int ((0+m:Ag):Af),(pts.map (Am Ab)).getD m .non]):=by
  show R.ok (Fe 0 (pts.map (Am Ab)))=_;rw[en']
 rcases J9 (body:=E4 Γ [2,3] IC) (fun ρ=>∃ a b s t,ρ=[si p,sh (At pts),a,b,s,t]) (fun m=>D.tup [.int ((0+m:Ag):Af),(pts.map (Am Ab)).getD m .non]) (z1_ p pts) (A5 pts.length) (fun m hm ρ I=>XQ h hp hg hn (Ba.mp hm) ρ I) [si p,sh (At pts),Ad,Ad,Ad,Ad] ⟨_,_,_,_,rfl⟩ with ⟨d,a,b⟩|⟨a,r,b,u1,u2,u3,u4,c⟩
 ·have e:z0_ p pts=Aa d:=a;show (evSs Γ [si p,sh (At pts),Ad,Ad,Ad,Ad] (.cons (.forT [2,3] (.enm (.var 1)) IC) (.cons (.ret .non) .nil))).ans Ae=_;rw[G4,RY,hE,Sv,b,e];rfl
 ·have e:z0_ p pts=Ad:=a;subst c;show (evSs Γ [si p,sh (At pts),Ad,Ad,Ad,Ad] (.cons (.forT [2,3] (.enm (.var 1)) IC) (.cons (.ret .non) .nil))).ans Ae=_;rw[G4,RY,hE,Sv,b,e];rfl
noncomputable def J3:Ss:=(.cons (.ife (.cmp .Eq (.call 233 (.cons (.var 0) (.cons (.var 4) (.cons (.idx (.var 1) (.var 5)) .nil)))) (.int 0)) (.cons (.ret (.tup (.cons (.idx (.var 1) (.var 2)) (.cons (.idx (.var 1) (.var 3)) (.cons (.idx (.var 1) (.var 5)) .nil))))) .nil) .nil) .nil)
noncomputable def JB:Ss:=(.cons (.asg 4 Ae (.call 232 (.cons (.var 0) (.cons (.idx (.var 1) (.var 2)) (.cons (.idx (.var 1) (.var 3)) .nil))))) (.cons (.fors 5 (.rng2 (.bin .Add (.var 3) (.int 1)) (.bi .len (.cons (.var 1) .nil))) J3) .nil))
noncomputable def JZ:Ss:=(.cons (.fors 3 (.rng2 (.bin .Add (.var 2) (.int 1)) (.bi .len (.cons (.var 1) .nil))) JB) .nil)
noncomputable def N8:Df:=⟨6,Ae,(.cons (.fors 2 (.rng (.bi .len (.cons (.var 1) .nil))) JZ) (.cons (.ret .non) .nil))⟩
noncomputable def IB:Ss:=(.cons (.ife (.cmp .In (.idx (.var 0) (.var 1)) (.sl (.var 0) .non (.var 1))) (.cons (.ret (.idx (.var 0) (.var 1))) .nil) .nil) .nil)
noncomputable def Of:Df:=⟨2,Ae,(.cons (.fors 1 (.rng (.bi .len (.cons (.var 0) .nil))) IB) (.cons (.ret .non) .nil))⟩
theorem fH(hc:Kj Γ)(hs:Ja Γ)(hp:P4 p)(hg:∀ t∈pts,In3 p t){k:Ag}(hi:i<pts.length)(hj:j<pts.length)(hk:k<pts.length):Γ.F 233 [.int p,Am Ab (mdR p (crs (atZ pts i) (atZ pts j))),Am Ab (atZ pts k)]=.ok (.int (Av (atZ pts i) (atZ pts j) (atZ pts k)%p)):=by
 have e:=hs p Ab Ab (mdR p (crs (atZ pts i) (atZ pts j))) (atZ pts k) hp.pos ((Ih hp (NQ hp.pos _)).b3 (by decide)) (bZ hp hg hk)
 have q:BJ (mdR p (crs (atZ pts i) (atZ pts j))) (atZ pts k)%p=Av (atZ pts i) (atZ pts j) (atZ pts k)%p:=by
  have c:=IE (CgR.md (p:=p) (a:=mdR p (crs (atZ pts i) (atZ pts j))) _root_.rfl) (CgR.rfl (a:=atZ pts k));have d:BJ (crs (atZ pts i) (atZ pts j)) (atZ pts k)=Av (atZ pts i) (atZ pts j) (atZ pts k):=by unfold BJ crs Av det;grind
  rw[d]at c;exact c
 rw[q]at e;exact e
theorem uR(hc:Kj Γ)(hs:Ja Γ)(hp:P4 p)(hg:∀ t∈pts,In3 p t){k:Ag}(hi:i<pts.length)(hj:j<pts.length)(hk:k<pts.length)(ρ:Rho)(I:∃ s,ρ=[si p,sh (At pts),si i,si j,sh (Am Ab (mdR p (crs (atZ pts i) (atZ pts j)))),s]):(∃ d,z3_ p pts i j k=Aa d/\Bk Γ 5 J3 (.int (k:Af)) ρ=.ret d Ae)\/(z3_ p pts i j k=Ad/\∃ ρ',Bk Γ 5 J3 (.int (k:Af)) ρ=.next ρ'/\∃ s,ρ'=[si p,sh (At pts),si i,si j,sh (Am Ab (mdR p (crs (atZ pts i) (atZ pts j)))),s]):=by
 obtain⟨s,rfl⟩:=I;have e:=fH hc hs hp hg hi hj hk;by_cases z:Av (atZ pts i) (atZ pts j) (atZ pts k)%p=0
 ·rw[z]at e;exact .inl ⟨_,AG z,by
   generalize Am Ab (mdR p (crs (atZ pts i) (atZ pts j)))=LN at *;simp[Bk,J3,F5 hi,F5 hj,F5 hk,e,Dh]⟩
 ·exact .inr ⟨AI z,[si p,sh (At pts),si i,si j,sh (Am Ab (mdR p (crs (atZ pts i) (atZ pts j)))),si k],by
   generalize Am Ab (mdR p (crs (atZ pts i) (atZ pts j)))=LN at *;simp[Bk,J3,F5 hi,F5 hj,F5 hk,e,z],_,rfl⟩
theorem uS(hc:Kj Γ)(hs:Ja Γ)(hp:P4 p)(hg:∀ t∈pts,In3 p t)(hn:JO pts.length)(hi:i<pts.length)(hj:j<pts.length)(ρ:Rho)(I:∃ s t u,ρ=[si p,sh (At pts),si i,s,t,u]):(∃ d,z2_ p pts i j=Aa d/\Bk Γ 3 JB (.int (j:Af)) ρ=.ret d Ae)\/(z2_ p pts i j=Ad/\∃ ρ',Bk Γ 3 JB (.int (j:Af)) ρ=.next ρ'/\∃ s t u,ρ'=[si p,sh (At pts),si i,s,t,u]):=by
 obtain⟨s,t,u,rfl⟩:=I;have e1:=hc p Ab Ab (atZ pts i) (atZ pts j) hp.pos (bZ hp hg hi) (bZ hp hg hj);have e:Bk Γ 3 JB (.int (j:Af)) [si p,sh (At pts),si i,s,t,u]=Cj (Bk Γ 5 J3) ((A5 (pts.length-(j+1))).map fun m=>D.int ((j+1+m:Ag):Af)) [si p,sh (At pts),si i,si j,sh (Am Ab (mdR p (crs (atZ pts i) (atZ pts j)))),u]:=by
  have a1:evS Γ [si p,sh (At pts),si i,si j,t,u] (.asg 4 Ae (.call 232 (.cons (.var 0) (.cons (.idx (.var 1) (.var 2)) (.cons (.idx (.var 1) (.var 3)) .nil)))))=.next [si p,sh (At pts),si i,si j,sh (Am Ab (mdR p (crs (atZ pts i) (atZ pts j)))),u]:=by
   generalize Am Ab (mdR p (crs (atZ pts i) (atZ pts j)))=LN at *;simp[F5 hi,F5 hj,e1]
  show evSs Γ [si p,sh (At pts),si i,si j,t,u] JB=_;unfold JB;rw[G4,a1,JE];generalize Am Ab (mdR p (crs (atZ pts i) (atZ pts j)))=LN;exact Nl (M9 hn hj rfl rfl)
 rw[e];rcases J9 (body:=Bk Γ 5 J3) (fun ρ=>∃ s,ρ=[si p,sh (At pts),si i,si j,sh (Am Ab (mdR p (crs (atZ pts i) (atZ pts j)))),s]) (fun m=>D.int ((j+1+m:Ag):Af)) (fun m=>z3_ p pts i j (j+1+m)) (A5 (pts.length-(j+1))) (fun m hm ρ I=>uR hc hs hp hg hi hj (by have:=Ba.mp hm;omega) ρ I) [si p,sh (At pts),si i,si j,sh (Am Ab (mdR p (crs (atZ pts i) (atZ pts j)))),u] ⟨_,rfl⟩ with ⟨d,a,b⟩|⟨a,r,b,w,c⟩
 ·exact .inl ⟨d,a,b⟩
 ·exact .inr ⟨a,r,b,_,_,w,c⟩
theorem uT(hc:Kj Γ)(hs:Ja Γ)(hp:P4 p)(hg:∀ t∈pts,In3 p t)(hn:JO pts.length)(hi:i<pts.length)(ρ:Rho)(I:∃ r s t u,ρ=[si p,sh (At pts),r,s,t,u]):(∃ d,z1_ p pts i=Aa d/\Bk Γ 2 JZ (.int (0+(i:Af))) ρ=.ret d Ae)\/(z1_ p pts i=Ad/\∃ ρ',Bk Γ 2 JZ (.int (0+(i:Af))) ρ=.next ρ'/\∃ r s t u,ρ'=[si p,sh (At pts),r,s,t,u]):=by
 obtain⟨r,s,t,u,rfl⟩:=I;rw[Ek];have e:Bk Γ 2 JZ (.int (i:Af)) [si p,sh (At pts),r,s,t,u]=Cj (Bk Γ 3 JB) ((A5 (pts.length-(i+1))).map fun m=>D.int ((i+1+m:Ag):Af)) [si p,sh (At pts),si i,s,t,u]:=by
  exact Nl (M9 hn hi rfl rfl)
 rw[e];rcases J9 (body:=Bk Γ 3 JB) (fun ρ=>∃ s t u,ρ=[si p,sh (At pts),si i,s,t,u]) (fun m=>D.int ((i+1+m:Ag):Af)) (fun m=>z2_ p pts i (i+1+m)) (A5 (pts.length-(i+1))) (fun m hm ρ I=>uS hc hs hp hg hn hi (by have:=Ba.mp hm;omega) ρ I) [si p,sh (At pts),si i,s,t,u] ⟨_,_,_,rfl⟩ with ⟨d,a,b⟩|⟨a,r,b,w,x,y,c⟩
 ·exact .inl ⟨d,a,b⟩
 ·exact .inr ⟨a,r,b,_,w,x,y,c⟩
theorem tE(hN:N=n)(l:biD .len [T]=.ok (.int N))(h:N<=1000)(h0:0<=N):FP Γ [si p,sh T,Ad,Ad,Ad,Ad] (.rng (.bi .len (.cons (.var 1) .nil)))=.ok (Cq 0 n):=by
 have rg:Du 0 N=.ok (Cq 0 (N-0).toNat):=Ma (by decide) (by decide) (by omega) (by omega)
 have q:(N-0).toNat=n:=by omega
 rw[q]at rg;generalize Cq 0 n=RR at *;have e:evE Γ [si p,sh T,Ad,Ad,Ad,Ad] (.bi .len (.cons (.var 1) .nil))=.ok (.int N):=by simp[l]
 rw[RZ,Tj];simp only[T7,e,R.bind_ok,L8];exact rg
theorem OR(pts:Ac R3):biD .len [At pts]=.ok (.int pts.length):=by unfold At;simp
theorem dE(hz:pts.length<=1000):FP Γ [si p,sh (At pts),Ad,Ad,Ad,Ad] (.rng (.bi .len (.cons (.var 1) .nil)))=.ok (Cq 0 pts.length):=tE rfl (OR pts) (by omega) (by omega)
theorem ZR(hc:Kj Γ)(hs:Ja Γ)(hp:P4 p)(hg:∀ t∈pts,In3 p t)(hz:pts.length<=1000):N8.run Γ [.int p,At pts]=.ok ((z0_ p pts).getD .non):=by
 have hn:JO pts.length:=by show pts.length<20000;omega
 have r6:=dE (Γ:=Γ) (p:=p) hz;rw[show Cq 0 pts.length=(A5 pts.length).map fun(i:Ag)=>D.int (0+(i:Af)) by unfold Cq;rfl]at r6
 rcases J9 (body:=Bk Γ 2 JZ) (fun ρ=>∃ r s t u,ρ=[si p,sh (At pts),r,s,t,u]) (fun(m:Ag)=>D.int (0+(m:Af))) (z1_ p pts) (A5 pts.length) (fun m hm ρ I=>uT hc hs hp hg hn (Ba.mp hm) ρ I) [si p,sh (At pts),Ad,Ad,Ad,Ad] ⟨_,_,_,_,rfl⟩ with ⟨d,a,b⟩|⟨a,r,b,r1,r2,r3,r4,c⟩
 ·have e:z0_ p pts=Aa d:=a;show (evSs Γ [si p,sh (At pts),Ad,Ad,Ad,Ad] (.cons (.fors 2 (.rng (.bi .len (.cons (.var 1) .nil))) JZ) (.cons (.ret .non) .nil))).ans Ae=_;rw[G4,Nc,r6,Nt,b,e];rfl
 ·have e:z0_ p pts=Ad:=a;subst c;show (evSs Γ [si p,sh (At pts),Ad,Ad,Ad,Ad] (.cons (.fors 2 (.rng (.bi .len (.cons (.var 1) .nil))) JZ) (.cons (.ret .non) .nil))).ans Ae=_;rw[G4,Nc,r6,Nt,b,e];rfl
end
noncomputable def IY:Ss:=(.cons (.ife (.cmp .In (.var 2) (.sl (.var 0) .non (.var 1))) (.cons (.rais 107 (.cons (.var 2) .nil)) .nil) .nil) .nil)
noncomputable def L7:Df:=⟨3,Ae,(.cons (.forT [1,2] (.enm (.var 0)) IY) .nil)⟩
noncomputable def J8:Df:=⟨2,Ae,(.cons (.expr (.call 194 (.cons (.var 1) .nil))) (.cons (.expr (.call 109 (.cons (.var 0) (.cons (.var 1) .nil)))) .nil))⟩
noncomputable def M5:E:=(.cmp .Gt (.bi .len (.cons (.var 3) .nil)) (.int 0))
noncomputable def OA:Ss:=(.cons (.asg 4 Ae (.idx (.var 3) (.int 0))) (.cons (.asg 3 Ae (.call 222 (.cons (.var 0) (.cons (.var 2) (.cons (.var 4) (.cons (.var 3) .nil)))))) (.cons (.app 2 (.var 4)) .nil)))
noncomputable def K8:Df:=⟨5,Ab,(.cons (.expr (.call 260 (.cons (.var 0) (.cons (.var 1) .nil)))) (.cons (.asg 2 Ab (.bi .list (.cons (.var 1) .nil))) (.cons (.asg 3 Ae (.call 223 (.cons (.var 0) (.cons (.var 2) .nil)))) (.cons (.whl M5 OA) (.cons (.ret (.var 2)) .nil)))))⟩
section
variable{Γ:Gam}{p:Af}
noncomputable def Cr:Ac R3->Ac R3->An R3
 |_,[]=>Ad
 |seen,x::r=>if x∈seen then Aa x else Cr (seen++[x]) r
noncomputable def alO:An R3->R D
 |some x=>.exn (alk x)
 |none=>.ok .non
theorem Nh:∀{r seen:Ac R3},Cr seen r=Ad->r.Nodup/\∀ x∈r,x∉seen
 |[],_,_=>⟨GZ,fun x h=>by cases h⟩
 |y::r,seen,h=>by
  unfold Cr at h;split at h
  ·cases h
  ·rename_i hy;obtain⟨h1,h2⟩:=Nh h;refine⟨Cu.mpr ⟨fun z=>h2 y z (by simp),h1⟩,fun x hx=>?_⟩
   rcases AD.mp hx with rfl|hx
   ·exact hy
   ·exact fun z=>h2 x hx (by simp[z])
theorem OQ:∀{r seen:Ac R3},r.Nodup->(∀ x∈r,x∉seen)->Cr seen r=Ad
 |[],_,_,_=>rfl
 |y::r,seen,h1,h2=>by
  rw[Cu]at h1;unfold Cr;rw[AI (h2 y AE)];exact OQ h1.2 fun x hx z=>by
   rcases C5.mp z with z|z
   ·exact h2 x (AA _ hx) z
   ·rw[Bv.mp z]at hx;exact h1.1 hx
theorem Pj(PT seen rest:Ac R3)(e:PT=seen++rest):slD (At PT) Ad (Aa (seen.length:Af))=.ok (At seen):=by
 rw[Qn PT (by omega),EQ,e,List.take_left']
 rfl
theorem SH{PT:Ac R3}(hx:∀ x∈PT,Γ.xn 107 [Am Ab x]=.ok (alk x)):∀(rest seen:Ac R3)(s1 s2:Sl),PT=seen++rest ->
    ∃ ρ':Rho,Cj (E4 Γ [1,2] IY) (Fe seen.length (rest.map (Am Ab))) [sh (At PT),s1,s2]=match Cr seen rest with
      |some x=>.exn (alk x) ρ'
      |none=>.next ρ'
  |[],seen,s1,s2,_=>⟨_,rfl⟩
  |x::rest,seen,s1,s2,e=>by
    have s:=Pj PT seen (x::rest) e;have xx:=hx x (by rw[e];simp)
    have c:=Pd x seen;by_cases hm:x∈seen
    · rw[DR hm]at c;refine⟨[sh (At PT),si seen.length,sh (Am Ab x)],?_⟩;rw[show Cr seen (x::rest)=Aa x by unfold Cr;rw[AG hm]]
      show (E4 Γ [1,2] IY (.tup [.int seen.length,Am Ab x]) _).turn _=O.exn (alk x) [sh (At PT),si seen.length,sh (Am Ab x)];generalize alk x=AK at *;generalize At PT=T at *;generalize At seen=T0 at *;generalize Am Ab x=X at *;have t:E4 Γ [1,2] IY (.tup [.int seen.length,X]) [sh T,s1,s2]=.exn AK [sh T,si seen.length,sh X]:=by
        simp[E4,IY,E3,DX,s,c,slE,xx]
      rw[t];rfl
    · rw[BY hm]at c;obtain⟨ρ',ih⟩:=SH hx rest (seen++[x]) (si seen.length) (sh (Am Ab x)) (by rw[e];simp)
      refine⟨ρ',?_⟩;rw[show Cr seen (x::rest)=Cr (seen++[x]) rest by conv=>lhs;unfold Cr;rw[AI hm]]
      rw[Bu,Do]at ih;rw[<-ih];show (E4 Γ [1,2] IY (.tup [.int seen.length,Am Ab x]) _).turn _=_;have t:E4 Γ [1,2] IY (.tup [.int seen.length,Am Ab x]) [sh (At PT),s1,s2]=.next [sh (At PT),si seen.length,sh (Am Ab x)]:=by
        generalize At PT=T at *;generalize At seen=T0 at *;generalize Am Ab x=X at *;simp[E4,IY,E3,DX,s,c,slE]
      rw[t];rfl
theorem ZQ(pts:Ac R3)(hx:∀ x∈pts,Γ.xn 107 [Am Ab x]=.ok (alk x)):L7.run Γ [At pts]=alO (Cr [] pts):=by
 obtain⟨ρ',e⟩:=SH hx pts [] Ad Ad rfl;have sq:De (At pts)=.ok (pts.map (Am Ab)):=rfl;have e':Cj (E4 Γ [1,2] IY) (Fe 0 (pts.map (Am Ab))) [sh (At pts),Ad,Ad]=_:=e;generalize pts.map (Am Ab)=M at *;generalize At pts=T at *;cases hd:Cr [] pts with
 |none=>rw[hd]at e';simp[L7,Df.run,BA,sq,e',alO]
 |some x=>rw[hd]at e';simp[L7,Df.run,BA,sq,e',alO]
theorem YR(a:Af)(n:Ag):Cq a (n+1)=.int a::Cq (a+1) n:=by
 unfold Cq;rw[Gc,BE,EU]
 congr 1
 ·simp
 ·refine GX fun k _=>?_
  simp only[Function.comp]
  congr 1
  omega
noncomputable def VJ:An R3->D
 |some x=>Am Ab x
 |none=>.non
theorem Ti{PT:Ac R3}:∀(rest seen:Ac R3)(s1:Sl),PT=seen++rest->∃ ρ':Rho,Cj (Bk Γ 1 IB) (Cq seen.length rest.length) [sh (At PT),s1]=match Cr seen rest with
   |some x=>.ret (Am Ab x) Ae
   |none=>.next ρ'
 |[],seen,s1,_=>⟨_,rfl⟩
 |x::rest,seen,s1,e=>by
  have s:=Pj PT seen (x::rest) e;have c:=Pd x seen;have ix:DQ (At PT) (.int seen.length)=.ok (Am Ab x):=by
   have h:=F5 (pts:=PT) (i:=seen.length) (by rw[e];simp)
   rw[h];simp[atZ,e]
  rw[Bs,YR];by_cases hm:x∈seen
  ·rw[DR hm]at c;refine⟨[],?_⟩;rw[show Cr seen (x::rest)=Aa x by unfold Cr;rw[AG hm]]
   show (Bk Γ 1 IB (.int seen.length) _).turn _=O.ret (Am Ab x) Ae;generalize At PT=T at *;generalize At seen=T0 at *;generalize Am Ab x=X at *;have t:Bk Γ 1 IB (.int seen.length) [sh T,s1]=.ret X Ae:=by
    simp[Bk,IB,s,c,ix,slE,Dh]
   rw[t];rfl
  ·rw[BY hm]at c;obtain⟨ρ',ih⟩:=Ti (PT:=PT) rest (seen++[x]) (si seen.length) (by rw[e];simp)
   refine⟨ρ',?_⟩;rw[show Cr seen (x::rest)=Cr (seen++[x]) rest by conv=>lhs;unfold Cr;rw[AI hm]]
   rw[Bu,Do]at ih;rw[<-ih];show (Bk Γ 1 IB (.int seen.length) _).turn _=_;have t:Bk Γ 1 IB (.int seen.length) [sh (At PT),s1]=.next [sh (At PT),si seen.length]:=by
    generalize At PT=T at *;generalize At seen=T0 at *;generalize Am Ab x=X at *;simp[Bk,IB,s,c,ix,slE]
   rw[t];rfl
theorem mY(hN:N=n)(l:biD .len [T]=.ok (.int N))(h:N<=1000)(h0:0<=N):FP Γ [sh T,Ad] (.rng (.bi .len (.cons (.var 0) .nil)))=.ok (Cq 0 n):=by
 have rg:Du 0 N=.ok (Cq 0 (N-0).toNat):=Ma (by decide) (by decide) (by omega) (by omega)
 have q:(N-0).toNat=n:=by omega
 rw[q]at rg;generalize Cq 0 n=RR at *;have e:evE Γ [sh T,Ad] (.bi .len (.cons (.var 0) .nil))=.ok (.int N):=by simp[l]
 rw[RZ,Tj];simp only[T7,e,R.bind_ok,L8];exact rg
theorem ZW(pts:Ac R3)(hz:pts.length<=1000):Of.run Γ [At pts]=.ok (VJ (Cr [] pts)):=by
 obtain⟨ρ',e⟩:=Ti (Γ:=Γ) pts [] Ad rfl;have e':Cj (Bk Γ 1 IB) (Cq 0 pts.length) [sh (At pts),Ad]=_:=e;have r:=mY (Γ:=Γ) (T:=At pts) (n:=pts.length) rfl (OR pts) (by omega) (by omega)
 generalize Cq 0 pts.length=RR at *;generalize At pts=T at *;show (evSs Γ [sh T,Ad] (.cons (.fors 1 (.rng (.bi .len (.cons (.var 0) .nil))) IB) (.cons (.ret .non) .nil))).ans Ae=_;rw[G4,Nc,r,Nt,e'];cases Cr [] pts<;>rfl
theorem PC{r:R D}(h1:Γ.F 194 [At pts]=alO (Cr [] pts))(h2:Cr [] pts=Ad->Γ.F 109 [.int p,At pts]=r)(hr:∀ d,r=.ok d->d=.non):J8.run Γ [.int p,At pts]=(match Cr [] pts with
  |some x=>.exn (alk x)
  | none=>r):=by
 cases hd:Cr [] pts with
 |some x=>
  rw[hd]at h1;have h1:Γ.F 194 [At pts]=.exn (alk x):=h1;generalize At pts=T at *;simp[J8,Df.run,BA,h1]
 |none=>
  rw[hd]at h1;have h1:Γ.F 194 [At pts]=.ok .non:=h1;have h2:=h2 hd;generalize At pts=T at *;cases r with
  |ok d=>rw[hr d rfl]at h2 ⊢;simp[J8,Df.run,BA,h1,h2]
  |exn x=>simp[J8,Df.run,BA,h1,h2]
  |bad=>simp[J8,Df.run,BA,h1,h2]
end
noncomputable def KN:Ss:=(.cons (.asg 2 Ab (.call 222 (.cons (.var 0) (.cons (.sl (.var 1) .non (.var 3)) (.cons (.var 4) (.cons (.var 2) .nil)))))) .nil)
noncomputable def Nz:Df:=⟨5,Ab,(.cons (.asg 2 Ab (.call 69 (.cons (.var 0) .nil))) (.cons (.forT [3,4] (.enm (.var 1)) KN) (.cons (.ret (.var 2)) .nil)))⟩
theorem O5(l:Ac R3):Ea Ab (At l)=Ab:=by
 show (Ab&&(l.map (Am Ab)).all (nlD 5))=Ab;rw[VZ,CM];intro d hd;obtain⟨x,_,rfl⟩:=B4.mp hd;rfl
section
variable{Γ:Gam}{p:Af}
noncomputable abbrev ow(l:Ac R3):Sl:=Aa (.lst (l.map (Am Ab)),Ab)
theorem RH(h:Mk Γ)(f2:Γ.fr 222=Ab)(hp:P4 p){PT:Ac R3}(np:∀ x∈PT,NF p x)(nd:PT.Nodup):∀(rest seen left:Ac R3)(s3 s4:Sl),PT=seen++rest->(∀ x∈left,NF p x)->∃ s3' s4',Cj (E4 Γ [3,4] KN) (Fe seen.length (rest.map (Am Ab))) [si p,sh (At PT),ow left,s3,s4]=.next [si p,sh (At PT),ow (IG p seen rest left),s3',s4']
 |[],seen,left,s3,s4,_,_=>⟨s3,s4,rfl⟩
 |f::rest,seen,left,s3,s4,e,nl=>by
  have nf:NF p f:=np f (by rw[e];simp)
  have ns:∀ x∈seen,NF p x:=fun x hx=>np x (by rw[e];simp[hx])
  have ni:f∉seen:=fun z=>by
   rw[e,ER]at nd;exact nd.2.2 f z f AE rfl
  have e1:Γ.F 222 [.int p,At seen,Am Ab f,.lst (left.map (Am Ab))]=.ok (.lst ((left.filter (stq p seen f)).map (Am Ab))):=h p seen f left hp ns nf ni nl;have cl:Ea Ab (.lst ((left.filter (stq p seen f)).map (Am Ab)))=Ab:=O5 _;obtain⟨s3',s4',ih⟩:=RH h f2 hp np nd rest (seen++[f]) (left.filter (stq p seen f)) (si seen.length) (sh (Am Ab f)) (by rw[e];simp) fun x hx=>nl x (Ct.mp hx).1
  refine⟨s3',s4',?_⟩;rw[Bu,Do]at ih;rw[show IG p seen (f::rest) left=IG p (seen++[f]) rest (left.filter (stq p seen f)) from rfl,<-ih]
  have s1:=Pj PT seen (f::rest) e;show (E4 Γ [3,4] KN (.tup [.int seen.length,Am Ab f]) _).turn _=_;have t:E4 Γ [3,4] KN (.tup [.int seen.length,Am Ab f]) [si p,sh (At PT),ow left,s3,s4]=.next [si p,sh (At PT),ow (left.filter (stq p seen f)),si seen.length,sh (Am Ab f)]:=by
   unfold ow;generalize (left.filter (stq p seen f)).map (Am Ab)=T3 at *;generalize left.map (Am Ab)=T2 at *;generalize At PT=T1 at *;generalize At seen=T0 at *;generalize Am Ab f=F at *;simp[E4,KN,E3,DX,s1,e1,slE,Dh,f2,cl]
  rw[t];rfl
theorem lJ(h:Mk Γ)(f2:Γ.fr 222=Ab)(f6:Γ.fr 69=Ab)(ht:∀ p,P4 p->Γ.F 69 [.int p]=.ok (At (Ew p)))(pts:Ac R3)(hp:P4 p)(np:∀ x∈pts,NF p x)(nd:pts.Nodup):Nz.run Γ [.int p,At pts]=.ok (At (Ik p pts)):=by
 obtain⟨s3,s4,e⟩:=RH h f2 hp np nd pts [] (Ew p) Ad Ad rfl fun x hx=>(Ke hp).mp hx
 have e1:Γ.F 69 [.int p]=.ok (.lst ((Ew p).map (Am Ab))):=ht p hp;have sq:De (At pts)=.ok (pts.map (Am Ab)):=rfl;unfold Ik;show _=R.ok (D.lst ((IG p [] pts (Ew p)).map (Am Ab)));unfold ow at e;generalize (IG p [] pts (Ew p)).map (Am Ab)=T3 at *;generalize (Ew p).map (Am Ab)=T2 at *;generalize pts.map (Am Ab)=M at *;generalize At pts=T at *;have e':Cj (E4 Γ [3,4] KN) (Fe 0 M) [si p,sh T,Aa (.lst T2,Ab),Ad,Ad]=.next [si p,sh T,Aa (.lst T3,Ab),s3,s4]:=e;simp[Nz,Df.run,BA,e1,sq,e',Dh,f6,isL]
theorem Tg(h:Mk Γ)(f2:Γ.fr 222=Ab)(hp:P4 p){PT:D}:∀(f:Ag)(told left:Ac R3)(s4:Sl),left.length<=f->(∀ x∈told,NF p x)->(∀ x∈left,NF p x)->(∀ x∈left,x∉told)->told.length+left.length<=1000->∃ told' s4',Gu (whC Γ M5) (whB Γ OA) (f+1) [si p,sh PT,ow told,sh (At left),s4]=.next [si p,sh PT,ow told',sh (At []),s4']
 | f,told,[],s4,_,_,_,_,_=>⟨told,s4,by
   have l:biD .len [At []]=.ok (.int 0):=rfl;rw[ZB (by
    generalize At []=T at *;simp[whC,M5,l])]⟩
 |0,told,x::r,s4,hf,_,_,_,_=>by simp at hf
 |f+1,told,x::r,s4,hf,nt,nl,dj,hz=>by
  have nx:=nl x AE;have e1:Γ.F 222 [.int p,.lst (told.map (Am Ab)),Am Ab x,At (x::r)]=.ok (.lst (((x::r).filter (stq p told x)).map (Am Ab))):=h p told x (x::r) hp nt nx (dj x AE) nl;have cl:Ea Ab (.lst (((x::r).filter (stq p told x)).map (Am Ab)))=Ab:=O5 _;have fx:(x::r).filter (stq p told x)=r.filter (stq p told x):=by
   rw[E8,AI (by unfold stq;simp)]
  rw[fx]at e1 cl;have lf:(r.filter (stq p told x)).length<=r.length:=Gy _ _;have hf':r.length+1<=f+1:=hf;have hz':told.length+(r.length+1)<=1000:=hz;obtain⟨told',s4',ih⟩:=Tg h f2 hp (PT:=PT) f (told++[x]) (r.filter (stq p told x)) (sh (Am Ab x)) (by omega) (fun y hy=>by
   rcases C5.mp hy with hy|hy
   ·exact nt y hy
   ·rw[Bv.mp hy];exact nx) (fun y hy=>nl y (AA _ (Ct.mp hy).1)) (fun y hy hy'=>by
   obtain⟨h1,h2⟩:=Ct.mp hy;rcases C5.mp hy' with hy'|hy'
   ·exact dj y (AA _ h1) hy'
   ·rw[Bv.mp hy']at h2;unfold stq at h2;simp at h2) (by rw[Bu,Do];omega)
  refine⟨told',s4',?_⟩;rw[<-ih];have l:biD .len [At (x::r)]=.ok (.int ((r.length:Af)+1)):=by
   show R.ok (D.int ((((x::r).map (Am Ab)).length:Ag):Af))=_;simp
  have ix:DQ (At (x::r)) (.int 0)=.ok (Am Ab x):=F5 (pts:=x::r) (i:=0) (by simp)
  have sz:Ci ((told.map (Am Ab)).length+1)=Ab:=by rw[Bm];exact Dq (by omega)
  have ap:(told.map (Am Ab))++[Am Ab x]=(told++[x]).map (Am Ab):=by simp
  have pos:(0:Af)<(r.length:Af)+1:=by omega
  unfold ow;rw[<-ap];have e2:At (r.filter (stq p told x))=.lst ((r.filter (stq p told x)).map (Am Ab)):=rfl;rw[e2];generalize (r.filter (stq p told x)).map (Am Ab)=T3 at *;generalize told.map (Am Ab)=TT at *;generalize At (x::r)=T at *;generalize Am Ab x=X at *;generalize (r.length:Af)+1=N at *;rw[cH (ρ':=[si p,sh PT,Aa (.lst (TT++[X]),Ab),sh (.lst T3),sh X]) (by simp[whC,M5,l,pos]) (by simp[whB,OA,ix,e1,f2,cl,Cv,sz])]
theorem RW:∀(rest seen left:Ac R3),(IG p seen rest left).length<=left.length
 |[],_,_=>AU _
 |f::rest,seen,left=>BU (RW rest _ _) (Gy _ _)
theorem RV{x f:R3}:∀{rest seen left:Ac R3},x∈IG p seen rest left->f∈rest->x≠f
 |g::rest,seen,left,h,hf=>by
  rcases AD.mp hf with rfl|hf
  ·have k:=(Ct.mp (O0 (rest:=rest) h)).2;intro z;subst z;unfold stq at k;simp at k
  ·exact RV (rest:=rest) h hf
theorem TB(hp:P4 p):(Ew p).length<=133:=by
 unfold Ew;rw[Bm,List.length_range];rcases hp with rfl|rfl|rfl|rfl<;>decide
theorem dP(h:Mk Γ)(f2:Γ.fr 222=Ab)(f3:Γ.fr 223=Ab)(hf:U7 Γ)(pts:Ac R3)(hp:P4 p)(np:∀ x∈pts,NF p x)(nd:pts.Nodup)(hz:pts.length<=500)(e0:Γ.F 260 [.int p,At pts]=.ok .non):∃ told:Ac R3,K8.run Γ [.int p,At pts]=.ok (At told):=by
 have e1:Γ.F 223 [.int p,.lst (pts.map (Am Ab))]=.ok (.lst ((Ik p pts).map (Am Ab))):=hf p pts hp np nd (by omega)
 have cl:Ea Ab (.lst ((Ik p pts).map (Am Ab)))=Ab:=O5 _;have la:(Ik p pts).length<=133:=BU (RW _ _ _) (TB hp);obtain⟨told,s4,e⟩:=Tg h f2 hp (PT:=At pts) 4095 pts (Ik p pts) Ad (by omega) np (fun x hx=>(Ke hp).mp (O0 hx)) (fun x hx hx'=>RV hx hx' rfl) (by omega)
 refine⟨told,?_⟩;have l0:biD .list [At pts]=.ok (.lst (pts.map (Am Ab))):=rfl;have e2:At (Ik p pts)=.lst ((Ik p pts).map (Am Ab)):=rfl;rw[e2]at e;unfold ow at e;show _=R.ok (D.lst (told.map (Am Ab)));have e':∀ x,x=4095+1->Gu _ _ x _=_:=fun x hx=>hx ▸ e
 have e'':=e' NW rfl
 clear e e'
 generalize (Ik p pts).map (Am Ab)=T3 at *;generalize told.map (Am Ab)=TT at *;generalize pts.map (Am Ab)=M at *;generalize At pts=T at *;simp[K8,Df.run,BA,e0,l0,Dh,e1,f3,cl,e'',isL]
theorem ZU(e0:Γ.F 260 [.int p,T]=.exn e):K8.run Γ [.int p,T]=.exn e:=by
 simp[K8,Df.run,BA,e0]
end
noncomputable def Oa:Df:=⟨2,Ae,(.cons (.asg 1 Ae (.bin .Mod (.var 1) (.bin .Add (.bin .Add (.bin .Mult (.var 0) (.var 0)) (.var 0)) (.int 1)))) (.cons (.ife (.cmp .Eq (.var 1) (.int 0)) (.cons (.ret (.tup (.cons (.int 0) (.cons (.int 0) (.cons (.int 1) .nil))))) .nil) .nil) (.cons (.ife (.cmp .LtE (.var 1) (.var 0)) (.cons (.ret (.tup (.cons (.int 0) (.cons (.int 1) (.cons (.bin .Sub (.var 1) (.int 1)) .nil))))) .nil) .nil) (.cons (.ret (.tup (.cons (.int 1) (.cons (.bin .FloorDiv (.bin .Sub (.bin .Sub (.var 1) (.var 0)) (.int 1)) (.var 0)) (.cons (.bin .Mod (.bin .Sub (.bin .Sub (.var 1) (.var 0)) (.int 1)) (.var 0)) .nil))))) .nil))))⟩
section
variable{Γ:Gam}{ns:Ac Af}{p:Af}
theorem Zn(x:R3)(l:Ac R3):BO .NotIn (Am Ab x) (At l)=.ok (.bl (!decide (x∈l))):=by
 have h:=Pd x l;have h:(if (flD 5 (Am Ab x)&&(l.map (Am Ab)).all (flD 5))=Ab then R.ok (D.bl ((l.map (Am Ab)).any fun y=>eqD y (Am Ab x))) else .bad)=_:=h
 show (if (flD 5 (Am Ab x)&&(l.map (Am Ab)).all (flD 5))=Ab then R.ok (D.bl (!(l.map (Am Ab)).any fun y=>eqD y (Am Ab x))) else .bad)=_
 split at h
 ·rename_i hc;rw[AG hc]
  injection h with h
  injection h with h
  rw[h]
 ·cases h
end
noncomputable def K6:Df:=⟨4,Ae,(.cons (.expr (.call 194 (.cons (.var 1) .nil))) (.cons (.asg 2 Ae (.call 65 (.cons (.var 0) (.cons (.var 1) .nil)))) (.cons (.ife (.cmp .IsNot (.var 2) .non) (.cons (.ret (.tup (.cons (.str (Bh "line")) (.cons (.var 2) .nil)))) .nil) .nil) (.cons (.expr (.bi .len .nil)) .nil))))⟩
noncomputable def MQ:Df:=⟨9,Ae,(.cons (.ife (.cmp .Eq (.var 3) (.int 0)) (.cons (.ret (.lst (.cons (.tup .nil) .nil))) .nil) .nil) (.cons (.expr (.bi .len .nil)) .nil))⟩
noncomputable def KM:Df:=⟨4,Ae,(.cons (.expr (.call 260 (.cons (.var 0) (.cons (.var 1) .nil)))) (.cons (.asg 3 Ae (.call 265 (.cons (.var 0) (.cons (.var 1) (.cons (.call 223 (.cons (.var 0) (.cons (.var 1) .nil))) (.cons (.var 2) .nil)))))) (.cons (.ife (.cmp .Gt (.bi .len (.cons (.var 3) .nil)) (.glob 0)) (.cons (.rais 15 (.cons (.str (Bh "there are more than three hundred further sets")) .nil)) .nil) .nil) (.cons (.ret (.var 3)) .nil))))⟩
noncomputable def KO:Df:=⟨2,Ae,(.cons (.asg 1 Ab (.lst (.cons (.isi (.var 0) [.cls 0]) (.cons (.isi (.var 0) [.verr]) .nil)))) (.cons (.app 1 (.isi (.var 0) [.cls 15,.cls 13])) (.cons (.ife (.isi (.var 0) [.cls 107]) (.cons (.app 1 (.tup (.cons (.str (Bh "alike")) (.cons (.fld (.var 0) (Bh "triple")) .nil)))) .nil) .nil) (.cons (.ife (.isi (.var 0) [.cls 118]) (.cons (.app 1 (.tup (.cons (.str (Bh "line")) (.cons (.fld (.var 0) (Bh "points")) .nil)))) .nil) .nil) (.cons (.ret (.var 1)) .nil)))))⟩
noncomputable def G5:Df:=⟨6,Ae,(.cons (.asg 3 Ae .non) (.cons (.asg 4 Ae .non) (.cons (.tryx (.cons (.ife (.cmp .Eq (.var 2) (.int 0)) (.cons (.asg 4 Ae (.call 261 (.cons (.var 0) (.cons (.var 1) .nil)))) .nil) (.cons (.ife (.cmp .Lt (.var 2) (.int 4)) (.cons (.asg 4 Ae (.call 266 (.cons (.var 0) (.cons (.var 1) (.cons (.bin .Sub (.var 2) (.int 1)) .nil))))) .nil) (.cons (.asg 4 Ae (.call 227 (.cons (.var 0) (.cons (.var 1) .nil)))) .nil)) .nil)) .nil) 0 5 (.cons (.asg 3 Ae (.call 272 (.cons (.var 5) .nil))) .nil)) (.cons (.ret (.tup (.cons (.var 4) (.cons (.var 3) .nil)))) .nil))))⟩
section
variable{Γ:Gam}{ns:Ac Af}{p:Af}
noncomputable def lAl(x:D):D:=.lst [.bl Ab,.bl Ab,.bl Ae,.tup [.str "alike", x]]
noncomputable def lLi(x:D):D:=.lst [.bl Ab,.bl Ab,.bl Ae,.tup [.str "line", x]]
noncomputable def onZ(d:D):Ex:=⟨118,[(Bh "points", d)]⟩
def U77(Γ:Gam):Prop:=Γ.up 107=[107,0]/\Γ.up 118=[118,0]
theorem lH(u:U77 Γ)(X:D):KO.run Γ [.exc 107 [("triple", X)]]=.ok (lAl X):=by
 obtain⟨u1,u2⟩:=u;simp[KO,Df.run,BA,Dh,kiD,Ev,LC,u1,u2,Cv,Ci,lAl]
theorem nK(u:U77 Γ)(X:D):KO.run Γ [.exc 118 [("points", X)]]=.ok (lLi X):=by
 obtain⟨u1,u2⟩:=u;simp[KO,Df.run,BA,Dh,kiD,Ev,LC,u1,u2,Cv,Ci,lLi]
theorem MC{K:D}(hw:w=0\/w=1\/w=2\/w=3\/w=4)(r:R D)(h0:w=0->Γ.F 261 [.int p,T]=r)(h1:0<w->w<4->Γ.F 266 [.int p,T,.int (w-1)]=r)(h4:w=4->Γ.F 227 [.int p,T]=r)(hr:r=.ok d/\K=.non\/∃ c fs,r=.exn ⟨c,fs⟩/\Γ.up c=[c,0]/\Γ.F 272 [.exc c fs]=.ok K/\d=.non):G5.run Γ [.int p,T,.int w]=.ok (.tup [d,K]):=by
 rcases hr with ⟨rfl,rfl⟩|⟨c,fs,rfl,hc,k,rfl⟩
 ·rcases hw with rfl|rfl|rfl|rfl|rfl
  ·simp[G5,Df.run,BA,h0 rfl]
  ·have e:=h1 (by decide) (by decide);simp at e;simp[G5,Df.run,BA,e]
  ·have e:=h1 (by decide) (by decide);simp at e;simp[G5,Df.run,BA,e]
  ·have e:=h1 (by decide) (by decide);simp at e;simp[G5,Df.run,BA,e]
  ·simp[G5,Df.run,BA,h4 rfl]
 ·rcases hw with rfl|rfl|rfl|rfl|rfl
  ·simp[G5,Df.run,BA,h0 rfl,hc,k]
  ·have e:=h1 (by decide) (by decide);simp at e;simp[G5,Df.run,BA,e,hc,k]
  ·have e:=h1 (by decide) (by decide);simp at e;simp[G5,Df.run,BA,e,hc,k]
  ·have e:=h1 (by decide) (by decide);simp at e;simp[G5,Df.run,BA,e,hc,k]
  ·simp[G5,Df.run,BA,h4 rfl,hc,k]
theorem tI(h:Γ.F 260 [.int p,T]=.exn e):KM.run Γ [.int p,T,.int m]=.exn e:=by
 simp[KM,Df.run,BA,h]
theorem tK{L:D}:MQ.run Γ [.int p,T,L,.int 0]=.ok (.lst [.tup []]):=by
 simp[MQ,Df.run,BA]
theorem tJ{L:D}(g:Γ.G 0=.int 300)(h:Γ.F 260 [.int p,T]=.ok .non)(h2:Γ.F 223 [.int p,T]=.ok L)(h3:Γ.F 265 [.int p,T,L,.int 0]=.ok (.lst [.tup []])):KM.run Γ [.int p,T,.int 0]=.ok (.lst [.tup []]):=by
 simp[KM,Df.run,BA,h,h2,h3,g]
theorem tG(h:Γ.F 194 [T]=.exn e):K6.run Γ [.int p,T]=.exn e:=by
 simp[K6,Df.run,BA,h]
theorem tH{ds:Ac D}(h:Γ.F 194 [T]=.ok .non)(h2:Γ.F 65 [.int p,T]=.ok (.tup ds)):K6.run Γ [.int p,T]=.ok (.tup [.str "line", .tup ds]):=by
 simp[K6,Df.run,BA,h,h2]
end
section
variable{p:Af}
theorem Lf(hp:P4 p){s:Af}(s0:0<=s)(s1:s<p)(t0:0<=t)(t1:t<p)(ne:s≠t):(t-s)%p≠0:=by
 rcases hp with rfl|rfl|rfl|rfl<;>omega
theorem mB(hp:P4 p){z:R3}(hx:x∈Eu p)(hy:y∈Eu p)(hz:z∈Eu p)(n1:x≠y)(n2:x≠z)(n3:y≠z):Av x y z%p≠0:=by
 have p0:=hp.pos;have fm:∀{w:R3},w∈Eu p->w=(0,0,1)\/∃ t:Af,0<=t/\t<p/\w=(1,t,t*t):=fun {w} hw=>by
  unfold Eu at hw;rcases AD.mp hw with h|h
  ·exact .inl h
  ·obtain⟨t,ht,rfl⟩:=B4.mp h;have:=Ba.mp ht;exact .inr ⟨t,by omega,by omega,rfl⟩
 have df:∀{s t:Af},((1:Af),s,s*s)≠(1,t,t*t)->s≠t:=fun h z=>h (by rw[z])
 rcases fm hx with rfl|⟨s,s0,s1,rfl⟩
 ·rcases fm hy with rfl|⟨t,t0,t1,rfl⟩
  ·exact absurd rfl n1
  ·rcases fm hz with rfl|⟨u,u0,u1,rfl⟩
   ·exact absurd rfl n2
   ·have k:=Lf hp t0 t1 u0 u1 (df n3);rw[show Av ((0:Af),0,1) (1,t,t*t) (1,u,u*u)=u-t by unfold Av det;simp]
    exact k
 ·rcases fm hy with rfl|⟨t,t0,t1,rfl⟩
  ·rcases fm hz with rfl|⟨u,u0,u1,rfl⟩
   ·exact absurd rfl n3
   ·have k:=Lf hp u0 u1 s0 s1 (fun z=>df n2 z.symm)
    rw[show Av ((1:Af),s,s*s) (0,0,1) (1,u,u*u)=s-u by unfold Av det;simp;try grind]
    exact k
  ·rcases fm hz with rfl|⟨u,u0,u1,rfl⟩
   ·have k:=Lf hp s0 s1 t0 t1 (df n1);rw[show Av ((1:Af),s,s*s) (1,t,t*t) (0,0,1)=t-s by unfold Av det;simp;try grind]
    exact k
   ·have k1:=Lf hp s0 s1 t0 t1 (df n1);have k2:=Lf hp s0 s1 u0 u1 (df n2);have k3:=Lf hp t0 t1 u0 u1 (df n3);rw[show Av ((1:Af),s,s*s) (1,t,t*t) (1,u,u*u)=(t-s)*((u-s)*(u-t)) by unfold Av det;grind]
    exact D9 hp k1 (D9 hp k2 k3)
def N3s(p:Af)(L:Ac R3):Prop:=∀ x∈L,∀ y∈L,∀ z∈L,x≠y->x≠z->y≠z->Av x y z%p≠0
theorem jE(a b c x y z:R3):Av (ap a b c x) (ap a b c y) (ap a b c z)=Av a b c*Av x y z:=by unfold Av det ap BJ;grind
theorem jB(d e f:Af)(x y z:R3):Av (BW d x) (BW e y) (BW f z)=d*(e*(f*Av x y z)):=by unfold Av det BW;grind
theorem jC(hp:P4 p){z z':R3}(hx:Pr p x x')(hy:Pr p y y')(hz:Pr p z z')(h:Av x' y' z'%p≠0):Av x y z%p≠0:=by
 obtain⟨d,dz,ed⟩:=hx;obtain⟨e,ez,ee⟩:=hy;obtain⟨f,fz,ef⟩:=hz;have c:=Px ed ee ef;rw[jB]at c;rw[show Av x y z%p=_ from c]
 exact D9 hp dz (D9 hp ez (D9 hp fz h))
theorem gG(hp:P4 p){a b c:R3}(G:Av a b c%p≠0):N3s p ((Eu p).map fun x=>nrm p (ap a b c x)):=by
 intro x hx y hy z hz n1 n2 n3;obtain⟨x0,hx0,rfl⟩:=B4.mp hx;obtain⟨y0,hy0,rfl⟩:=B4.mp hy;obtain⟨z0,hz0,rfl⟩:=B4.mp hz;have sp:∀ {w},w∈Eu p->Pr p (nrm p (ap a b c w)) (ap a b c w):=fun {w} hw=>by
  obtain⟨_,l,el⟩:=Mq hp hw;obtain⟨k,ek⟩:=Lb hp G el CgR.rfl;exact(Kf hp ek).2
 refine jC hp (sp hx0) (sp hy0) (sp hz0) ?_;rw[jE];exact D9 hp G (mB hp hx0 hy0 hz0 (fun z=>n1 (by rw[z])) (fun z=>n2 (by rw[z])) (fun z=>n3 (by rw[z])))
theorem pW(h:z0_ p pts=Ad){k:Ag}(h1:i<j)(h2:j<k)(h3:k<pts.length):Av (atZ pts i) (atZ pts j) (atZ pts k)%p≠0:=by
 unfold z0_ at h;rw[CA]at h;have a:=h i (Ba.mpr (by omega))
 unfold z1_ at a;rw[CA]at a;have b:=a (j-(i+1)) (Ba.mpr (by omega))
 rw[show i+1+(j-(i+1))=j by omega]at b
 unfold z2_ at b;rw[CA]at b;have c:=b (k-(j+1)) (Ba.mpr (by omega))
 rw[show j+1+(k-(j+1))=k by omega]at c
 unfold z3_ at c;split at c
 ·cases c
 ·assumption
theorem pX(h:∀ i j k,i<j->j<k->k<pts.length->Av (atZ pts i) (atZ pts j) (atZ pts k)%p≠0):z0_ p pts=Ad:=by
 unfold z0_;rw[CA];intro i hi;unfold z1_;rw[CA];intro m hm;unfold z2_;rw[CA];intro n hn;have a:=Ba.mp hi;have b:=Ba.mp hm;have c:=Ba.mp hn;unfold z3_;rw[AI (h i (i+1+m) (i+1+m+1+n) (by omega) (by omega) (by omega))]
theorem NK(h:z0_ p pts=Aa d):∃ x∈pts,∃ y∈pts,∃ z∈pts,d=.tup [Am Ab x,Am Ab y,Am Ab z]:=by
 unfold z0_ at h;obtain⟨i,hi,h⟩:=El h;unfold z1_ at h;obtain⟨m,hm,h⟩:=El h;unfold z2_ at h;obtain⟨n,hn,h⟩:=El h;have a:=Ba.mp hi;have b:=Ba.mp hm;have c:=Ba.mp hn;have mem:∀{k:Ag},k<pts.length->atZ pts k∈pts:=fun {k} hk=>by
  have e:atZ pts k=pts[k]:=by simp[atZ,hk]
  rw[e];exact B1 hk
 unfold z3_ at h;split at h
 ·cases h;exact⟨_,mem (by omega),_,mem (by omega),_,mem (by omega),rfl⟩
 ·cases h
theorem ID{k:Ag}(hk:k<pts.length):atZ pts k=pts[k]:=by simp[atZ,hk]
theorem pY(nd:pts.Nodup)(h:N3s p pts):z0_ p pts=Ad:=pX fun i j k h1 h2 h3=>by
 have ne:∀{a b:Ag}(ha:a<pts.length)(hb:b<pts.length),a<b->pts[a]≠pts[b]:=fun {a b} ha hb hab z=>by
  have:=(HK nd).mp z;omega
 rw[ID (by omega),ID (by omega),ID h3]
 exact h _ (B1 _) _ (B1 _) _ (B1 _) (ne _ _ h1) (ne _ _ (by omega)) (ne _ _ h2)
theorem kP{z:R3}(hx:x∈pts)(hy:y∈pts)(hz:z∈pts)(n1:x≠y)(n2:x≠z)(n3:y≠z)(h:Av x y z%p=0):∃ d,z0_ p pts=Aa d:=by
 cases e:z0_ p pts with
 |some d=>exact⟨d,rfl⟩
 |none=>
  exfalso
  obtain⟨i,hi,rfl⟩:=DL hx;obtain⟨j,hj,rfl⟩:=DL hy;obtain⟨k,hk,rfl⟩:=DL hz;have m1:i≠j:=fun z=>n1 (by subst z;rfl)
  have m2:i≠k:=fun z=>n2 (by subst z;rfl)
  have m3:j≠k:=fun z=>n3 (by subst z;rfl)
  have nz:∀{a b c:Ag}(ha:a<pts.length)(hb:b<pts.length)(hc:c<pts.length),a<b->b<c->Av pts[a] pts[b] pts[c]%p≠0:=fun {a b c} ha hb hc h1 h2=>by
   have q:=pW e h1 h2 hc;rw[ID ha,ID hb,ID hc]at q;exact q
  have s1:∀ x y z:R3,Av x y z=- Av y x z:=fun x y z=>by unfold Av det;grind
  have s2:∀ x y z:R3,Av x y z=- Av x z y:=fun x y z=>by unfold Av det;grind
  have ng:∀{u:Af},u%p=0->(-u)%p=0:=fun {u} hu=>by
   have:=Int.dvd_of_emod_eq_zero hu;exact Int.emod_eq_zero_of_dvd (Int.dvd_neg.mpr this)
  have o1:∀{x y z:R3},Av x y z%p=0->Av y x z%p=0:=fun {x y z} h=>by rw[s1];exact ng h
  have o2:∀{x y z:R3},Av x y z%p=0->Av x z y%p=0:=fun {x y z} h=>by rw[s2];exact ng h
  rcases Hh m1 with a|a<;>rcases Hh m2 with b|b<;>rcases Hh m3 with c|c
  ·exact nz hi hj hk a c h
  ·exact nz hi hk hj b c (o2 h)
  ·omega
  ·exact nz hk hi hj b a (o1 (o2 h))
  ·exact nz hj hi hk a b (o1 h)
  ·omega
  ·exact nz hj hk hi c b (o2 (o1 h))
  ·exact nz hk hj hi c a (o1 (o2 (o1 h)))
theorem Zr(h:¬ ∃ l,Bq p (tri r)=Aa l):r.1%p=0/\r.2.1%p=0/\r.2.2%p=0:=by
 by_cases h0:r.1%p=0
 ·by_cases h1:r.2.1%p=0
  ·by_cases h2:r.2.2%p=0
   ·exact⟨h0,h1,h2⟩
   ·exact absurd ⟨r.2.2%p,by simp[Bq,tri,h0,h1,h2]⟩ h
  ·exact absurd ⟨r.2.1%p,by simp[Bq,tri,h0,h1]⟩ h
 ·exact absurd ⟨r.1%p,by simp[Bq,tri,h0]⟩ h
theorem sO(n:NF p r)(h:r.1%p=0/\r.2.1%p=0/\r.2.2%p=0):AW:=by
 have e:=n.2;simp[Bq,tri,h.1,h.2.1,h.2.2]at e
theorem PJ(hp:P4 p)(nx:NF p x)(ny:NF p y)(ne:x≠y){e:Af}(h:CgR p (x.1+y.1,x.2.1+y.2.1,x.2.2+y.2.2) (BW e x)):AW:=by
 obtain⟨h0,h1,h2⟩:=h;have k:∀{a b:Af},(a+b)%p=(e*a)%p->b%p=((e-1)*a)%p:=fun {a b} h=>by
  have q:(a+b-a)%p=(e*a-a)%p:=by rw[HI,h,<-HI]
  rw[show a+b-a=b by omega,show e*a-a=(e-1)*a by grind]at q
  exact q
 have c:CgR p y (BW (e-1) x):=⟨k h0,k h1,k h2⟩;by_cases z:(e-1)%p=0
 ·refine sO ny ?_;have m:∀ a:Af,((e-1)*a)%p=0:=fun a=>by rw[BS,z];simp
  exact⟨(show y.1%p=_ from c.1).trans (m _),(show y.2.1%p=_ from c.2.1).trans (m _),(show y.2.2%p=_ from c.2.2).trans (m _)⟩
 ·exact ne (Ms hp ny nx ⟨e-1,z,c⟩).symm
theorem third(hp:P4 p)(nx:NF p x)(ny:NF p y)(ne:x≠y):∃ q,NF p q/\Av x y q%p=0/\q≠x/\q≠y:=by
 have el:∃ l,Bq p (tri (x.1+y.1,x.2.1+y.2.1,x.2.2+y.2.2))=Aa l:=V0 fun h=>by
  obtain⟨h0,h1,h2⟩:=Zr h;have k:∀{u:Af},u%p=0->∀ a:Af,u%p=((0:Af)*a)%p:=fun {u} h a=>by rw[h,Jo,Cz]
  exact PJ hp nx ny ne (e:=0) ⟨k h0 _,k h1 _,k h2 _⟩
 obtain⟨l,el⟩:=el;obtain⟨n,pr⟩:=Kf hp el;refine⟨_,n,?_,fun z=>?_,fun z=>?_⟩
 ·obtain⟨d,_,e⟩:=pr;have c:=Px (CgR.rfl (p:=p) (a:=x)) (CgR.rfl (a:=y)) e;rw[show Av x y (BW d (x.1+y.1,x.2.1+y.2.1,x.2.2+y.2.2))=0 by unfold Av det BW;grind]at c
  exact(show _%p=0%p from c).trans (Cz p)
 ·rw[z]at pr;obtain⟨e,_,c⟩:=pr.symm hp;exact PJ hp nx ny ne c
 ·rw[z]at pr;obtain⟨e,_,c⟩:=pr.symm hp;refine PJ hp ny nx ne.symm (e:=e) ?_;rw[Jn y.1,Jn y.2.1,Jn y.2.2];exact c
end
noncomputable def KC:E:=(.call 231 (.cons (.var 1) (.cons (.var 14) .nil)))
noncomputable def L6:E:=(.and (.cons (.cmp .Eq (.call 233 (.cons (.var 1) (.cons (.var 5) (.cons (.var 15) .nil)))) (.int 0)) (.cons (.cmp .NotIn (.var 15) (.var 2)) .nil)))
noncomputable def MU:E:=(.var 15)
noncomputable def HW:Ss:=(.cons (.asgT [12,13] (.call 273 (.cons (.var 1) (.cons (.var 10) (.cons (.var 11) .nil))))) (.cons (.ife (.and (.cons (.cmp .Eq (.var 11) (.int 4)) (.cons (.cmp .Is (.var 9) .non) .nil))) (.cons (.ife (.or (.cons (.cmp .IsNot (.var 13) .non) (.cons (.cmp .NotEq (.var 12) (.tup (.cons (.str (Bh "line")) (.cons (.idx (.idx (.var 8) (.int 3)) (.int 1)) .nil)))) .nil))) (.cons (.ret (.bl Ae)) .nil) .nil) .nil) (.cons (.ife (.or (.cons (.cmp .IsNot (.var 12) .non) (.cons (.cmp .NotEq (.var 13) (.var 8)) (.cons (.no (.isi (.idx (.idx (.var 13) (.int 3)) (.int 1)) [.tuple])) .nil)))) (.cons (.ret (.bl Ae)) .nil) .nil) .nil)) (.cons (.ife (.cmp .NotEq (.var 10) (.var 3)) (.cons (.ret (.bl Ae)) .nil) .nil) .nil)))
noncomputable def Hq:Df:=⟨16,Ae,(.cons (.asg 1 Ae (.call 229 (.cons (.var 0) .nil))) (.cons (.asg 2 Ae (.call 251 (.cons (.var 0) (.cons (.int 20) (.cons (.call 290 (.cons (.var 1) (.cons (.call 250 (.cons (.var 1) (.cons (.var 0) (.cons (.int 2) .nil)))) .nil))) .nil))))) (.cons (.asg 2 Ae (.sl (.var 2) .non (.bin .Add (.int 2) (.bin .Mod (.call 228 (.cons (.var 0) (.cons (.int 9) .nil))) (.var 1))))) (.cons (.asg 3 Ab (.bi .list (.cons (.var 2) .nil))) (.cons (.asg 4 Ae (.bin .Mod (.call 228 (.cons (.var 0) (.cons (.int 10) .nil))) (.int 3))) (.cons (.asg 5 Ae (.call 232 (.cons (.var 1) (.cons (.idx (.var 2) (.int 0)) (.cons (.idx (.var 2) (.bin .Add (.bin .Mod (.call 228 (.cons (.var 0) (.cons (.int 11) .nil))) (.bin .Sub (.bi .len (.cons (.var 2) .nil)) (.int 1))) (.int 1))) .nil))))) (.cons (.asg 6 Ae (.comp KC 14 (.rng (.bin .Add (.bin .Add (.bin .Mult (.var 1) (.var 1)) (.var 1)) (.int 1))) Et)) (.cons (.asg 6 Ae (.comp MU 15 (.e (.var 6)) L6)) (.cons (.ife (.cmp .NotEq (.var 4) (.int 1)) (.cons (.ins 3 (.bin .Mod (.call 228 (.cons (.var 0) (.cons (.int 12) .nil))) (.bin .Add (.bi .len (.cons (.var 3) .nil)) (.int 1))) (.idx (.var 6) (.bin .Mod (.call 228 (.cons (.var 0) (.cons (.int 13) .nil))) (.bi .len (.cons (.var 6) .nil))))) .nil) .nil) (.cons (.ife (.cmp .Gt (.var 4) (.int 0)) (.cons (.asg 7 Ae (.idx (.var 3) (.bin .Mod (.call 228 (.cons (.var 0) (.cons (.int 14) .nil))) (.bi .len (.cons (.var 3) .nil))))) (.cons (.ins 3 (.bin .Mod (.call 228 (.cons (.var 0) (.cons (.int 15) .nil))) (.bin .Add (.bi .len (.cons (.var 3) .nil)) (.int 1))) (.var 7)) .nil)) .nil) (.cons (.asg 8 Ae (.lst (.cons (.bl Ab) (.cons (.bl Ab) (.cons (.bl Ae) (.cons (.tup (.cons (.str (Bh "line")) (.cons (.call 234 (.cons (.var 1) (.cons (.var 3) .nil))) .nil))) .nil)))))) (.cons (.asg 9 Ae (.call 238 (.cons (.var 3) .nil))) (.cons (.ife (.cmp .IsNot (.var 9) .non) (.cons (.asg 8 Ae (.lst (.cons (.bl Ab) (.cons (.bl Ab) (.cons (.bl Ae) (.cons (.tup (.cons (.str (Bh "alike")) (.cons (.var 9) .nil))) .nil)))))) .nil) .nil) (.cons (.asg 10 Ae (.bi .list (.cons (.var 3) .nil))) (.cons (.fors 11 (.rng (.int 5)) HW) (.cons (.ret (.and (.cons (.cmp .Eq (.call 273 (.cons (.var 1) (.cons (.bi .list (.cons (.var 2) .nil)) (.cons (.int 1) .nil)))) (.tup (.cons (.lst (.cons (.tup .nil) .nil)) (.cons .non .nil)))) (.cons (.cmp .Is (.idx (.call 273 (.cons (.var 1) (.cons (.bi .list (.cons (.var 2) .nil)) (.cons (.int 0) .nil)))) (.int 1)) .non) .nil)))) .nil))))))))))))))))⟩
section
variable{Γ:Gam}{ns:Ac Af}{p:Af}
theorem bF{S GD LN OT X T:D}(hX:X=.tup xs)(f1:flD 5 (lAl X)=Ab)(f2:eqD (lAl X) (lAl X)=Ab)(f3:flD 5 (.lst P)=Ab)(f4:eqD (.lst P) (.lst P)=Ab)(h:Γ.F 273 [.int p,.lst P,.int w]=.ok (.tup [.non,lAl X])):Bk Γ 11 HW (.int w) [sh S,si p,sh GD,Aa (.lst P,Ab),si fl,sh LN,sh OT,s7,sh (lAl X),sh X,sh (.lst P),s11,s12,s13,s14,s15]=.next [sh S,si p,sh GD,Aa (.lst P,Ab),si fl,sh LN,sh OT,s7,sh (lAl X),sh X,sh (.lst P),si w,sh .non,sh (lAl X),s14,s15]:=by
 subst hX;have ix:DQ (lAl (.tup xs)) (.int 3)=.ok (.tup [.str "alike", .tup xs]):=rfl;have iy:DQ (.tup [.str "alike", .tup xs]) (.int 1)=.ok (.tup xs):=rfl;generalize hA:lAl (.tup xs)=AL at *;by_cases w4:w=4
 ·subst w4;simp[Bk,HW,h,H9,E3,DX,f1,f2,f3,f4,ix,iy]
 ·simp[Bk,HW,h,H9,E3,DX,f1,f2,f3,f4,ix,iy,w4]
theorem bD{S GD LN OT X T:D}(hX:X=.tup xs)(w4:w≠4)(f1:flD 5 (lLi X)=Ab)(f2:eqD (lLi X) (lLi X)=Ab)(f3:flD 5 (.lst P)=Ab)(f4:eqD (.lst P) (.lst P)=Ab)(h:Γ.F 273 [.int p,.lst P,.int w]=.ok (.tup [.non,lLi X])):Bk Γ 11 HW (.int w) [sh S,si p,sh GD,Aa (.lst P,Ab),si fl,sh LN,sh OT,s7,sh (lLi X),sh .non,sh (.lst P),s11,s12,s13,s14,s15]=.next [sh S,si p,sh GD,Aa (.lst P,Ab),si fl,sh LN,sh OT,s7,sh (lLi X),sh .non,sh (.lst P),si w,sh .non,sh (lLi X),s14,s15]:=by
 subst hX;have ix:DQ (lLi (.tup xs)) (.int 3)=.ok (.tup [.str "line", .tup xs]):=rfl;have iy:DQ (.tup [.str "line", .tup xs]) (.int 1)=.ok (.tup xs):=rfl;generalize hA:lLi (.tup xs)=AL at *;simp[Bk,HW,h,H9,E3,DX,f1,f2,f3,f4,ix,iy,w4]
theorem bE{S GD LN OT X T:D}(hX:X=.tup xs)(f1:flD 5 (.tup [.str "line", X])=Ab)(f2:eqD (.tup [.str "line", X]) (.tup [.str "line", X])=Ab)(f3:flD 5 (.lst P)=Ab)(f4:eqD (.lst P) (.lst P)=Ab)(h:Γ.F 273 [.int p,.lst P,.int 4]=.ok (.tup [.tup [.str "line", X],.non])):
  Bk Γ 11 HW (.int 4) [sh S,si p,sh GD,Aa (.lst P,Ab),si fl,sh LN,sh OT,s7,sh (lLi X),sh .non,sh (.lst P),s11,s12,s13,s14,s15]=.next [sh S,si p,sh GD,Aa (.lst P,Ab),si fl,sh LN,sh OT,s7,sh (lLi X),sh .non,sh (.lst P),si 4,sh (.tup [.str "line", X]),sh .non,s14,s15]:=by
 have ix:DQ (lLi X) (.int 3)=.ok (.tup [.str "line", X]):=rfl;have iy:DQ (.tup [.str "line", X]) (.int 1)=.ok X:=rfl;generalize hA:lLi X=AL at *;have f1':flD 5 (.tup [.str (Bh "line"),X])=Ab:=f1;have f2':eqD (.tup [.str (Bh "line"),X]) (.tup [.str (Bh "line"),X])=Ab:=f2;have hh:Γ.F 273 [.int p,.lst P,.int 4]=.ok (.tup [.tup [.str (Bh "line"),X],.non]):=h;have e0:(Bh "line")=("line" : Ai):=rfl;generalize hL:D.tup [.str (Bh "line"),X]=LX at *;have ix':DQ AL (.int 3)=.ok LX:=by rw[ix,<-hL]
 have iy':DQ LX (.int 1)=.ok X:=by rw[<-hL];rfl
 have cm:evA Γ [sh S,si p,sh GD,Aa (.lst P,Ab),si fl,sh LN,sh OT,s7,sh AL,sh .non,sh (.lst P),si 4,sh LX,sh .non,s14,s15] (.cons (.str (Bh "line")) (.cons (.idx (.idx (.var 8) (.int 3)) (.int 1)) .nil))=.ok [.str (Bh "line"),X]:=by
  simp[ix',iy']
 show Bk Γ 11 HW (.int 4) _=.next [sh S,si p,sh GD,Aa (.lst P,Ab),si fl,sh LN,sh OT,s7,sh AL,sh .non,sh (.lst P),si 4,sh LX,sh .non,s14,s15];simp[Bk,HW,hh,H9,E3,DX,f1',f2',f3,f4,ix',iy',hL]
structure G77 (Γ:Gam) (p:Af) (GD:D):Prop where
 li:biD .list [GD]=.ok GD
 a1:Γ.F 273 [.int p,GD,.int 1]=.ok (.tup [.lst [.tup []],.non])
 a0:∃ G1,Γ.F 273 [.int p,GD,.int 0]=.ok (.tup [G1,.non])
theorem eA{S GD LN OT X D3:D}(g:G77 Γ p GD)(hX:X=.tup xs)(c1:Ea (Γ.fr 234) D3=Ab)(c2:Ea (Γ.fr 238) X=Ab)(f1:flD 5 (lAl X)=Ab)(f3:flD 5 (.lst P)=Ab)(h3:Γ.F 234 [.int p,.lst P]=.ok D3)(h8:Γ.F 238 [.lst P]=.ok X)(li:biD .list [.lst P]=.ok (.lst P))(h:∀ w:Af,w=0\/w=1\/w=2\/w=3\/w=4->Γ.F 273 [.int p,.lst P,.int w]=.ok (.tup [.non,lAl X])):evSs Γ [sh S,si p,sh GD,Aa (.lst P,Ab),si fl,sh LN,sh OT,s7,Ad,Ad,Ad,Ad,Ad,Ad,Ad,Ad] (Hq.body.drop 10)=.ret (.bl Ab) Ae:=by
 have f2:=K5 5 _ f1;have f4:=K5 5 _ f3;have rg:Du 0 5=.ok [.int 0,.int 1,.int 2,.int 3,.int 4]:=rfl;have t:∀(w:Af)(s11 s12 s13:Sl),w=0\/w=1\/w=2\/w=3\/w=4->_:=fun w s11 s12 s13 hw=>bF (S:=S) (GD:=GD) (LN:=LN) (OT:=OT) (fl:=fl) (s7:=s7) (s11:=s11) (s12:=s12) (s13:=s13) (s14:=Ad) (s15:=Ad) (T:=.non) hX f1 f2 f3 f4 (h w hw)
 obtain⟨G1,g0⟩:=g.a0;have g1:=g.a1;have gl:=g.li;have xn:BO .IsNot X .non=.ok (.bl Ab):=by rw[hX];rfl
 have lp:Cj (Bk Γ 11 HW) [.int 0,.int 1,.int 2,.int 3,.int 4] [sh S,si p,sh GD,Aa (.lst P,Ab),si fl,sh LN,sh OT,s7,sh (lAl X),sh X,sh (.lst P),Ad,Ad,Ad,Ad,Ad]=.next [sh S,si p,sh GD,Aa (.lst P,Ab),si fl,sh LN,sh OT,s7,sh (lAl X),sh X,sh (.lst P),si 4,sh .non,sh (lAl X),Ad,Ad]:=by
  simp only[Cj,t 0 _ _ _ (by simp),t 1 _ _ _ (by simp),t 2 _ _ _ (by simp),t 3 _ _ _ (by simp),t 4 _ _ _ (by simp),O.turn]
 have al:lAl X=.lst [.bl Ab,.bl Ab,.bl Ae,.tup [.str (Bh "alike"),X]]:=rfl;rw[al]at lp;generalize [D.int 0,.int 1,.int 2,.int 3,.int 4]=RL at *;have gx:Di [G1,D.non] 1=.ok .non:=rfl;simp[Hq,Ss.drop,h3,c1,h8,c2,xn,li,rg,lp,gl,g1,g0,gx,Dh]
theorem dZ{S GD LN OT X:D}(g:G77 Γ p GD)(hX:X=.tup xs)(c1:Ea (Γ.fr 234) X=Ab)(c2:Ea (Γ.fr 238) .non=Ab)(f1:flD 5 (lLi X)=Ab)(f0:flD 5 (.tup [.str "line", X])=Ab)(f3:flD 5 (.lst P)=Ab)(h3:Γ.F 234 [.int p,.lst P]=.ok X)(h8:Γ.F 238 [.lst P]=.ok .non)(li:biD .list [.lst P]=.ok (.lst P))(h:∀ w:Af,w=0\/w=1\/w=2\/w=3->Γ.F 273 [.int p,.lst P,.int w]=.ok (.tup [.non,lLi X]))(h4:Γ.F 273 [.int p,.lst P,.int 4]=.ok (.tup [.tup [.str "line", X],.non])):evSs Γ [sh S,si p,sh GD,Aa (.lst P,Ab),si fl,sh LN,sh OT,s7,Ad,Ad,Ad,Ad,Ad,Ad,Ad,Ad] (Hq.body.drop 10)=.ret (.bl Ab) Ae:=by
 have f2:=K5 5 _ f1;have f2':=K5 5 _ f0;have f4:=K5 5 _ f3;have rg:Du 0 5=.ok [.int 0,.int 1,.int 2,.int 3,.int 4]:=rfl;have t:∀(w:Af)(s11 s12 s13:Sl),w=0\/w=1\/w=2\/w=3->_:=fun w s11 s12 s13 hw=>bD (S:=S) (GD:=GD) (LN:=LN) (OT:=OT) (fl:=fl) (s7:=s7) (s11:=s11) (s12:=s12) (s13:=s13) (s14:=Ad) (s15:=Ad) (T:=.non) hX (by rcases hw with rfl|rfl|rfl|rfl<;>decide) f1 f2 f3 f4 (h w hw)
 have t4:∀(s11 s12 s13:Sl),_:=fun s11 s12 s13=>bE (S:=S) (GD:=GD) (LN:=LN) (OT:=OT) (fl:=fl) (s7:=s7) (s11:=s11) (s12:=s12) (s13:=s13) (s14:=Ad) (s15:=Ad) (T:=.non) hX f0 f2' f3 f4 h4
 obtain⟨G1,g0⟩:=g.a0;have g1:=g.a1;have gl:=g.li;have gx:Di [G1,D.non] 1=.ok .non:=rfl;have lp:Cj (Bk Γ 11 HW) [.int 0,.int 1,.int 2,.int 3,.int 4] [sh S,si p,sh GD,Aa (.lst P,Ab),si fl,sh LN,sh OT,s7,sh (lLi X),sh .non,sh (.lst P),Ad,Ad,Ad,Ad,Ad]=.next [sh S,si p,sh GD,Aa (.lst P,Ab),si fl,sh LN,sh OT,s7,sh (lLi X),sh .non,sh (.lst P),si 4,sh (.tup [.str "line", X]),sh .non,Ad,Ad]:=by
  simp only[Cj,t 0 _ _ _ (by simp),t 1 _ _ _ (by simp),t 2 _ _ _ (by simp),t 3 _ _ _ (by simp),t4 _ _ _,O.turn]
 have al:lLi X=.lst [.bl Ab,.bl Ab,.bl Ae,.tup [.str (Bh "line"),X]]:=rfl;rw[al]at lp;generalize [D.int 0,.int 1,.int 2,.int 3,.int 4]=RL at *;simp[Hq,Ss.drop,h3,c1,h8,c2,li,rg,lp,gl,g1,g0,gx,Dh]
def U6(Γ:Gam):Prop:=∀(p n:Af),P4 p->Γ.F 231 [.int p,.int n]=.ok (Am Ab (ptI p (n%(p*p+p+1))))
def uO(Γ:Gam)(ns:Ac Af):Prop:=∀ k:Af,0<=k->∃ m,0<=m/\Γ.F 228 [scr ns,.int k]=.ok (.int m)
theorem XV(h:U6 Γ)(hp:P4 p){S GD LN PO:D}:Cb (cG Γ [sh S,si p,sh GD,Aa (PO,Ab),si fl,sh LN,Ad,Ad,Ad,Ad,Ad,Ad,Ad,Ad,Ad,Ad] 14 Et) (cF Γ [sh S,si p,sh GD,Aa (PO,Ab),si fl,sh LN,Ad,Ad,Ad,Ad,Ad,Ad,Ad,Ad,Ad,Ad] 14 KC) (Cq 0 (p*p+p+1).toNat)=.ok ((Ew p).map (Am Ab)):=by
 have N1:0<=p*p+p+1/\p*p+p+1<=1000:=by rcases hp with rfl|rfl|rfl|rfl<;>decide
 have key:∀ L:Ac Ag,(∀ k∈L,(k:Af)<p*p+p+1)->Cb (cG Γ [sh S,si p,sh GD,Aa (PO,Ab),si fl,sh LN,Ad,Ad,Ad,Ad,Ad,Ad,Ad,Ad,Ad,Ad] 14 Et) (cF Γ [sh S,si p,sh GD,Aa (PO,Ab),si fl,sh LN,Ad,Ad,Ad,Ad,Ad,Ad,Ad,Ad,Ad,Ad] 14 KC) (L.map fun(k:Ag)=>D.int (0+(k:Af)))=.ok ((L.map fun(n:Ag)=>ptI p n).map (Am Ab)):=by
  intro L
  induction L with
  |nil=>intro _;rfl
  |cons k L ih=>
   intro hL;have e:=h p k hp;rw[A6 (by omega) (hL k AE)]at e
   have f:cF Γ [sh S,si p,sh GD,Aa (PO,Ab),si fl,sh LN,Ad,Ad,Ad,Ad,Ad,Ad,Ad,Ad,Ad,Ad] 14 KC (.int (0+(k:Af)))=.ok (Am Ab (ptI p k)):=by
    rw[Ek];simp[cF,KC,e]
   have ih':=ih fun m hm=>hL m (AA _ hm)
   show (R.ok Ab).bind _=_;rw[R.bind_ok,AG rfl,f,R.bind_ok,show Cb _ _ (LQ _ L)=_ from ih']
   rfl
 unfold Ew Cq;exact key _ fun k hk=>by have:=Ba.mp hk;omega
noncomputable def Ji(p:Af)(good:Ac R3)(g0 gj q:R3):Ao:=decide (Av g0 gj q%p=0) && !decide (q∈good)
theorem XU(hs:Ja Γ)(hp:P4 p)(good:Ac R3)(g0 gj:R3){S PO AL:D}:Cb (cG Γ [sh S,si p,sh (At good),Aa (PO,Ab),si fl,sh (Am Ab (mdR p (crs g0 gj))),sh AL,Ad,Ad,Ad,Ad,Ad,Ad,Ad,Ad,Ad] 15 L6) (cF Γ [sh S,si p,sh (At good),Aa (PO,Ab),si fl,sh (Am Ab (mdR p (crs g0 gj))),sh AL,Ad,Ad,Ad,Ad,Ad,Ad,Ad,Ad,Ad] 15 MU) ((Ew p).map (Am Ab))=.ok (((Ew p).filter (Ji p good g0 gj)).map (Am Ab)):=by
 refine OZ (q:=Ji p good g0 gj) (Ew p) fun x hx=>?_
 have nx:=(Ke hp).mp hx;have e:=hs p Ab Ab (mdR p (crs g0 gj)) x hp.pos ((Ih hp (NQ hp.pos _)).b3 (by decide)) ((Ih hp nx.1).b3 (by decide))
 have q:BJ (mdR p (crs g0 gj)) x%p=Av g0 gj x%p:=by
  have c:=IE (CgR.md (p:=p) (a:=mdR p (crs g0 gj)) _root_.rfl) (CgR.rfl (a:=x));have d:BJ (crs g0 gj) x=Av g0 gj x:=by unfold BJ crs Av det;grind
  rw[d]at c;exact c
 rw[q]at e;have n:=Zn x good;unfold Ji;generalize Am Ab (mdR p (crs g0 gj))=LN at *;generalize At good=GD at *;generalize Am Ab x=X at *;generalize Av g0 gj x%p=w at *;generalize decide (x∈good)=B at *;constructor
 ·by_cases z:w=0
  ·cases B<;>simp[cG,L6,e,n,z]
  ·simp[cG,L6,e,n,z]
 ·simp[cF,MU]
theorem tZ{S RR OO MM GD A0 AJ LN:D}{AL OL:Ac D}{n m9 m10 m11:Af}(hp:P4 p)(e1:Γ.F 229 [S]=.ok (.int p))(e2:Γ.F 250 [.int p,S,.int 2]=.ok RR)(e3:Γ.F 290 [.int p,RR]=.ok OO)(e4:Γ.F 251 [S,.int 20,OO]=.ok MM)(e9:Γ.F 228 [S,.int 9]=.ok (.int m9))(sl:slD MM Ad (Aa (2+m9%p))=.ok GD)(li:biD .list [GD]=.ok (.lst PL))(e10:Γ.F 228 [S,.int 10]=.ok (.int m10))(i0:DQ GD (.int 0)=.ok A0)(ln:biD .len [GD]=.ok (.int n))(e11:Γ.F 228 [S,.int 11]=.ok (.int m11))(n1:0<n-1)(n2:n-1<1000)(ij:DQ GD (.int (m11%(n-1)+1))=.ok AJ)(e5:Γ.F 232 [.int p,A0,AJ]=.ok LN)(c1:Cb (cG Γ [sh S,si p,sh GD,Aa (.lst PL,Ab),si (m10%3),sh LN,Ad,Ad,Ad,Ad,Ad,Ad,Ad,Ad,Ad,Ad] 14 Et) (cF Γ [sh S,si p,sh GD,Aa (.lst PL,Ab),si (m10%3),sh LN,Ad,Ad,Ad,Ad,Ad,Ad,Ad,Ad,Ad,Ad] 14 KC) (Cq 0 (p*p+p+1).toNat)=.ok AL)(c2:Cb (cG Γ [sh S,si p,sh GD,Aa (.lst PL,Ab),si (m10%3),sh LN,sh (.lst AL),Ad,Ad,Ad,Ad,Ad,Ad,Ad,Ad,Ad] 15 L6) (cF Γ [sh S,si p,sh GD,Aa (.lst PL,Ab),si (m10%3),sh LN,sh (.lst AL),Ad,Ad,Ad,Ad,Ad,Ad,Ad,Ad,Ad] 15 MU) AL=.ok OL):evSs Γ [sh S,Ad,Ad,Ad,Ad,Ad,Ad,Ad,Ad,Ad,Ad,Ad,Ad,Ad,Ad,Ad] (Hq.body.take 8)=.next [sh S,si p,sh GD,Aa (.lst PL,Ab),si (m10%3),sh LN,sh (.lst OL),Ad,Ad,Ad,Ad,Ad,Ad,Ad,Ad,Ad]:=by
 have p0:=hp.pos;have ph:=hp.hi;have pp:EB p p=Ab:=Jb (by have:=hp.lo;omega) (by have:=hp.hi;omega)
 have N1:0<=p*p+p+1/\p*p+p+1<=1000:=by rcases hp with rfl|rfl|rfl|rfl<;>decide
 have rg:Du 0 (p*p+p+1)=.ok (Cq 0 (p*p+p+1-0).toNat):=Ma (by decide) (by decide) (by omega) (by omega)
 rw[HJ]at rg;have pb:p<1073741824:=by omega
 have nb:n-1<1073741824:=by omega
 generalize hN:p*p+p+1=N at *;generalize Cq 0 N.toNat=RL at *;generalize hk:n-1=k at *;simp[Hq,Ss.take,e1,e2,e3,e4,e9,p0,pb,slE,sl,li,Dh,e10,i0,ln,e11,hk,n1,nb,ij,e5,pp,hN,rg,c1,c2]
theorem RX(ρ:Rho)(i:Ag)(k e:E):evS Γ ρ (.ins i k e)=O.of ρ (Cv ρ i) fun xs=>O.of ρ ((top ρ k (evE Γ ρ k)).bind EK) fun j=>O.of ρ (evE Γ ρ e) fun d=>if (Ci (xs.length+1)&&decide (0<=j)&&decide (j<=xs.length))=Ab then .next (ρ.set i (Aa (.lst (xs.take j.toNat++d::xs.drop j.toNat),Ab))) else .bad:=rfl
noncomputable def Gw(l:Ac R3)(j:Ag)(x:R3):Ac R3:=l.take j++x::l.drop j
theorem Su(l:Ac R3)(j:Ag)(x:R3):(l.map (Am Ab)).take j++Am Ab x::(l.map (Am Ab)).drop j=(Gw l j x).map (Am Ab):=by
 unfold Gw;rw[FA,BE,Wl,Wk]
theorem Kg{l:Ac R3}:y∈Gw l j x↔y=x\/y∈l:=by
 unfold Gw;rw[List.mem_append,AD];constructor
 ·rintro (h|h|h)
  ·exact .inr (GH h)
  ·exact .inl h
  ·exact .inr (Wn h)
 ·rintro (h|h)
  ·exact .inr (.inl h)
  ·rw[<-Dp j l]at h;rcases C5.mp h with h|h
   ·exact .inl h
   ·exact .inr (.inr h)
theorem K3(l:Ac R3)(j:Ag)(x:R3):(Gw l j x).length=l.length+1:=by
 unfold Gw;rw[Bu,Bs,Em,E9];omega
theorem st8{S GD LN:D}{ot:Ac R3}{m12 m13:Af}(hf:fl≠1)(l1:pl.length<=100)(o1:0<ot.length)(o2:ot.length<=1000)(e12:Γ.F 228 [S,.int 12]=.ok (.int m12))(e13:Γ.F 228 [S,.int 13]=.ok (.int m13)):∃(j:Ag)(q:R3),q∈ot/\evS Γ [sh S,si p,sh GD,Aa (.lst (pl.map (Am Ab)),Ab),si fl,sh LN,sh (.lst (ot.map (Am Ab))),s7,Ad,Ad,Ad,Ad,Ad,Ad,Ad,Ad] (.ife (.cmp .NotEq (.var 4) (.int 1)) (.cons (.ins 3 (.bin .Mod (.call 228 (.cons (.var 0) (.cons (.int 12) .nil))) (.bin .Add (.bi .len (.cons (.var 3) .nil)) (.int 1))) (.idx (.var 6) (.bin .Mod (.call 228 (.cons (.var 0) (.cons (.int 13) .nil))) (.bi .len (.cons (.var 6) .nil))))) .nil) .nil)=.next [sh S,si p,sh GD,Aa (.lst ((Gw pl j q).map (Am Ab)),Ab),si fl,sh LN,sh (.lst (ot.map (Am Ab))),s7,Ad,Ad,Ad,Ad,Ad,Ad,Ad,Ad]:=by
 have a0:=AZ m12 (show ((pl.length:Af)+1)≠0 by omega)
 have a1:=AX m12 (show (0:Af)<(pl.length:Af)+1 by omega)
 have b0:=AZ m13 (show (ot.length:Af)≠0 by omega)
 have b1:=AX m13 (show (0:Af)<(ot.length:Af) by omega)
 have hk:(m13%(ot.length:Af)).toNat<ot.length:=by omega
 refine⟨(m12%((pl.length:Af)+1)).toNat,ot[(m13%(ot.length:Af)).toNat],B1 hk,?_⟩;rw[<-Su];have ix:Di (ot.map (Am Ab)) (m13%(ot.length:Af))=.ok (Am Ab ot[(m13%(ot.length:Af)).toNat]):=by
  have q:=Pu hk;rw[Fp b0]at q;rw[q,ID hk]
 have lP:(pl.map (Am Ab)).length=pl.length:=Bm _;have lO:(ot.map (Am Ab)).length=ot.length:=Bm _;have sz:Ci (pl.length+1)=Ab:=Dq (by omega)
 have pz:(0:Af)<(pl.length:Af)+1:=by omega
 have oz:0<ot.length:=o1;have ob:(ot.length:Af)<1073741824:=by omega
 have pb:(pl.length:Af)+1<1073741824:=by omega
 have a2:m12%((pl.length:Af)+1)<=(pl.length:Af):=by omega
 generalize Am Ab ot[(m13%(ot.length:Af)).toNat]=Q at *;generalize pl.map (Am Ab)=PL at *;generalize ot.map (Am Ab)=OL at *;simp[hf,RX,Cv,e12,e13,lP,lO,pz,oz,ix,sz,a0,a2]
theorem Yb{S GD LN OT:D}:evS Γ [sh S,si p,sh GD,Aa (.lst PL,Ab),si 1,sh LN,sh OT,s7,Ad,Ad,Ad,Ad,Ad,Ad,Ad,Ad] (.ife (.cmp .NotEq (.var 4) (.int 1)) (.cons (.ins 3 (.bin .Mod (.call 228 (.cons (.var 0) (.cons (.int 12) .nil))) (.bin .Add (.bi .len (.cons (.var 3) .nil)) (.int 1))) (.idx (.var 6) (.bin .Mod (.call 228 (.cons (.var 0) (.cons (.int 13) .nil))) (.bi .len (.cons (.var 6) .nil))))) .nil) .nil)=.next [sh S,si p,sh GD,Aa (.lst PL,Ab),si 1,sh LN,sh OT,s7,Ad,Ad,Ad,Ad,Ad,Ad,Ad,Ad]:=by
 simp
theorem st9{S GD LN OT:D}{m14 m15:Af}(hf:0<fl)(l0:0<pl.length)(l1:pl.length<=100)(e14:Γ.F 228 [S,.int 14]=.ok (.int m14))(e15:Γ.F 228 [S,.int 15]=.ok (.int m15)):∃(j:Ag)(q:R3),q∈pl/\evS Γ [sh S,si p,sh GD,Aa (.lst (pl.map (Am Ab)),Ab),si fl,sh LN,sh OT,s7,Ad,Ad,Ad,Ad,Ad,Ad,Ad,Ad] (.ife (.cmp .Gt (.var 4) (.int 0)) (.cons (.asg 7 Ae (.idx (.var 3) (.bin .Mod (.call 228 (.cons (.var 0) (.cons (.int 14) .nil))) (.bi .len (.cons (.var 3) .nil))))) (.cons (.ins 3 (.bin .Mod (.call 228 (.cons (.var 0) (.cons (.int 15) .nil))) (.bin .Add (.bi .len (.cons (.var 3) .nil)) (.int 1))) (.var 7)) .nil)) .nil)=.next [sh S,si p,sh GD,Aa (.lst ((Gw pl j q).map (Am Ab)),Ab),si fl,sh LN,sh OT,sh (Am Ab q),Ad,Ad,Ad,Ad,Ad,Ad,Ad,Ad]:=by
 have a0:=AZ m15 (show ((pl.length:Af)+1)≠0 by omega)
 have a1:=AX m15 (show (0:Af)<(pl.length:Af)+1 by omega)
 have b0:=AZ m14 (show (pl.length:Af)≠0 by omega)
 have b1:=AX m14 (show (0:Af)<(pl.length:Af) by omega)
 have hk:(m14%(pl.length:Af)).toNat<pl.length:=by omega
 refine⟨(m15%((pl.length:Af)+1)).toNat,pl[(m14%(pl.length:Af)).toNat],B1 hk,?_⟩;rw[<-Su];have ix:Di (pl.map (Am Ab)) (m14%(pl.length:Af))=.ok (Am Ab pl[(m14%(pl.length:Af)).toNat]):=by
  have q:=Pu hk;rw[Fp b0]at q;rw[q,ID hk]
 have lP:(pl.map (Am Ab)).length=pl.length:=Bm _;have sz:Ci (pl.length+1)=Ab:=Dq (by omega)
 have pz:(0:Af)<(pl.length:Af)+1:=by omega
 have a2:m15%((pl.length:Af)+1)<=(pl.length:Af):=by omega
 generalize Am Ab pl[(m14%(pl.length:Af)).toNat]=Q at *;generalize pl.map (Am Ab)=PL at *;simp[hf,RX,Cv,e14,e15,lP,pz,l0,ix,sz,a0,a2]
theorem X9{S GD LN OT:D}:evS Γ [sh S,si p,sh GD,Aa (.lst PL,Ab),si 0,sh LN,sh OT,s7,Ad,Ad,Ad,Ad,Ad,Ad,Ad,Ad] (.ife (.cmp .Gt (.var 4) (.int 0)) (.cons (.asg 7 Ae (.idx (.var 3) (.bin .Mod (.call 228 (.cons (.var 0) (.cons (.int 14) .nil))) (.bi .len (.cons (.var 3) .nil))))) (.cons (.ins 3 (.bin .Mod (.call 228 (.cons (.var 0) (.cons (.int 15) .nil))) (.bin .Add (.bi .len (.cons (.var 3) .nil)) (.int 1))) (.var 7)) .nil)) .nil)=.next [sh S,si p,sh GD,Aa (.lst PL,Ab),si 0,sh LN,sh OT,s7,Ad,Ad,Ad,Ad,Ad,Ad,Ad,Ad]:=by
 simp
theorem S8{l:Ac R3}(h:x∈l):∃ y,Cr [] (Gw l j x)=Aa y:=by
 cases e:Cr [] (Gw l j x) with
 |some y=>exact⟨y,rfl⟩
 |none=>
  exfalso
  have nd:=(Nh e).1;unfold Gw at nd;rw[<-Dp j l]at h;rw[ER]at nd;obtain⟨_,n2,n3⟩:=nd;rw[Cu]at n2;rcases C5.mp h with h|h
  ·exact n3 x h x AE rfl
  ·exact n2.1 h
theorem Zm{l:Ac R3}(nd:l.Nodup)(h:x∉l):(Gw l j x).Nodup:=by
 unfold Gw;have q:=nd;rw[<-Dp j l,ER]at q;obtain⟨n1,n2,n3⟩:=q;rw[ER];refine⟨n1,Cu.mpr ⟨fun z=>h (Wn z),n2⟩,fun a ha b hb=>?_⟩
 rcases AD.mp hb with rfl|hb
 ·exact fun z=>h (z ▸ GH ha)
 ·exact n3 a ha b hb
theorem mC(hp:P4 p){g0 gj:R3}(nf:∀ x∈good,NF p x)(n3:N3s p good)(h0:g0∈good)(hj:gj∈good)(ne:g0≠gj):0<((Ew p).filter (Ji p good g0 gj)).length:=by
 obtain⟨q,nq,dz,q0,qj⟩:=third hp (nf g0 h0) (nf gj hj) ne;refine List.length_pos_of_mem (a:=q) (Ct.mpr ⟨(Ke hp).mpr nq,?_⟩);unfold Ji;rw[DR dz,VZ,BY]
 ·rfl
 ·exact fun z=>n3 g0 h0 gj hj q z ne (fun z=>q0 z.symm) (fun z=>qj z.symm) dz
theorem tS(A:Ac R3):flD 5 (.lst (A.map (Am Ab)))=Ab:=by
 show ((A.map (Am Ab)).all (flD 4))=Ab;rw[CM];intro x hx;obtain⟨r,_,rfl⟩:=B4.mp hx;rfl
structure H77 (Γ:Gam) (ns:Ac Af):Prop where
 prime:∃ p,P4 p/\Γ.F 229 [scr ns]=.ok (.int p)
 tb:iQ Γ ns
 ov:pT Γ
 ord:hG Γ ns
 mix:uO Γ ns
 pt:U6 Γ
 crs:Kj Γ
 sum:Ja Γ
 f4:Γ.fr 234=Ae
 f8:Γ.fr 238=Ae
 th:∀(p:Af)(pts:Ac R3),P4 p->(∀ x∈pts,NF p x)->pts.length<=1000->Γ.F 234 [.int p,At pts]=.ok ((z0_ p pts).getD .non)
 fa:∀ pts:Ac R3,pts.length<=1000->Γ.F 238 [At pts]=.ok (VJ (Cr [] pts))
 asD:∀(p:Af)(pts:Ac R3)(x:R3)(w:Af),P4 p->(∀ x∈pts,NF p x)->pts.length<=1000->Cr [] pts=Aa x->(w=0\/w=1\/w=2\/w=3\/w=4)->Γ.F 273 [.int p,At pts,.int w]=.ok (.tup [.non,lAl (Am Ab x)])
 asL:∀(p:Af)(pts:Ac R3)(d:D)(w:Af),P4 p->(∀ x∈pts,NF p x)->pts.length<=1000->Cr [] pts=Ad->z0_ p pts=Aa d->(w=0\/w=1\/w=2\/w=3)->Γ.F 273 [.int p,At pts,.int w]=.ok (.tup [.non,lLi d])
 as4:∀(p:Af)(pts:Ac R3)(d:D),P4 p->(∀ x∈pts,NF p x)->pts.length<=1000->Cr [] pts=Ad->z0_ p pts=Aa d->Γ.F 273 [.int p,At pts,.int 4]=.ok (.tup [.tup [.str "line", d],.non])
 asG:∀(p:Af)(pts:Ac R3),P4 p->(∀ x∈pts,NF p x)->pts.length<=500->Cr [] pts=Ad->z0_ p pts=Ad->Γ.F 273 [.int p,At pts,.int 1]=.ok (.tup [.lst [.tup []],.non])/\∃ G1,Γ.F 273 [.int p,At pts,.int 0]=.ok (.tup [G1,.non])
theorem kD(h:H77 Γ ns)(hp:P4 p){S LN OT:D}{P:Ac R3}(ng:∀ x∈good,NF p x)(lg:good.length<=100)(dg:good.Nodup)(zg:N3s p good)(nP:∀ x∈P,NF p x)(lP:P.length<=100)(hd:(∃ x,Cr [] P=Aa x)\/(Cr [] P=Ad/\∃ d,z0_ p P=Aa d)):evSs Γ [sh S,si p,sh (At good),Aa (.lst (P.map (Am Ab)),Ab),si fl,sh LN,sh OT,s7,Ad,Ad,Ad,Ad,Ad,Ad,Ad,Ad] (Hq.body.drop 10)=.ret (.bl Ab) Ae:=by
 have dn:Cr [] good=Ad:=OQ dg fun _ _ z=>by cases z
 have zn:=pY dg zg;obtain⟨a1,a0⟩:=h.asG p good hp ng (by omega) dn zn
 have g:G77 Γ p (At good):=⟨rfl,a1,a0⟩;have f3:flD 5 (.lst (P.map (Am Ab)))=Ab:=tS P;have li:biD .list [.lst (P.map (Am Ab))]=.ok (.lst (P.map (Am Ab))):=rfl;have h3:=h.th p P hp nP (by omega)
 have h8:=h.fa P (by omega)
 rcases hd with ⟨x,hx⟩|⟨hx,d,hd⟩
 ·rw[hx]at h8;have c1:Ea (Γ.fr 234) ((z0_ p P).getD .non)=Ab:=by
   rw[h.f4];cases e:z0_ p P with
   |none=>rfl
   |some d=>obtain⟨x,_,y,_,z,_,rfl⟩:=NK e;rfl
  exact eA g (xs:=[.int x.1,.int x.2.1,.int x.2.2]) rfl c1 (by rw[h.f8];rfl) rfl f3 h3 h8 li fun w hw=>h.asD p P x w hp nP (by omega) hx hw
 ·rw[hx]at h8;rw[hd]at h3;obtain⟨x,_,y,_,z,_,rfl⟩:=NK hd;exact dZ g rfl (by rw[h.f4];rfl) (by rw[h.f8];rfl) rfl rfl f3 h3 h8 li (fun w hw=>h.asL p P _ w hp nP (by omega) hx hd hw) (h.as4 p P _ hp nP (by omega) hx hd)
theorem nZ(h:H77 Γ ns):Hq.run Γ [scr ns]=.ok (.bl Ab):=by
 obtain⟨p,hp,e1⟩:=h.prime;obtain⟨a,b,c,G,e2⟩:=h.tb p 2 hp (by decide)
 have e3:=h.ov p a b c G;have ll:4<=((Eu p).map fun x=>nrm p (ap a b c x)).length/\((Eu p).map fun x=>nrm p (ap a b c x)).length<=60:=by rw[Bm];exact aJ hp
 have nO:∀ x∈((Eu p).map fun x=>nrm p (ap a b c x)),NF p x:=fun x hx=>by
  obtain⟨w,hw,rfl⟩:=B4.mp hx;obtain⟨_,l,el⟩:=Mq hp hw;obtain⟨k,ek⟩:=Lb hp G.nz el CgR.rfl;exact(Kf hp ek).1
 have dO:=gE hp G.nz;have zO:=gG hp G.nz;obtain⟨M,pm,e4⟩:=h.ord 20 _ (by decide) ll.2
 obtain⟨m9,q9,e9⟩:=h.mix 9 (by decide)
 obtain⟨m10,q10,e10⟩:=h.mix 10 (by decide)
 obtain⟨m11,q11,e11⟩:=h.mix 11 (by decide)
 obtain⟨m12,q12,e12⟩:=h.mix 12 (by decide)
 obtain⟨m13,q13,e13⟩:=h.mix 13 (by decide)
 obtain⟨m14,q14,e14⟩:=h.mix 14 (by decide)
 obtain⟨m15,q15,e15⟩:=h.mix 15 (by decide)
 have lM:M.length=_:=pm.length_eq;have b9:=AZ m9 (V5 hp.pos);generalize ((Eu p).map fun x=>nrm p (ap a b c x))=OL at *
 have sl:=Qn M (i:=2+m9%p) (by omega)
 generalize hg:M.take (2+m9%p).toNat=good at *;have mg:∀ x∈good,x∈OL:=fun x hx=>by rw[<-hg]at hx;exact pm.mem_iff.mp (GH hx)
 have lg:good.length=min (2+m9%p).toNat M.length:=by rw[<-hg,Em]
 have l2:2<=good.length:=by omega
 have l60:good.length<=60:=by omega
 have ng:∀ x∈good,NF p x:=fun x hx=>nO x (mg x hx)
 have dg:good.Nodup:=by rw[<-hg];exact(pm.nodup_iff.mpr dO).sublist (Wq _ _)
 have zg:N3s p good:=fun x hx y hy z hz=>zO x (mg x hx) y (mg y hy) z (mg z hz)
 have j0:=AZ m11 (show ((good.length:Af)-1)≠0 by omega)
 have j1:=AX m11 (show (0:Af)<(good.length:Af)-1 by omega)
 have hj:(m11%((good.length:Af)-1)+1).toNat<good.length:=by omega
 have h0:0<good.length:=by omega
 have i0:DQ (At good) (.int 0)=.ok (Am Ab good[0]):=by
  have q:=F5 (pts:=good) (i:=0) h0;rw[ID h0]at q;exact q
 have ij:DQ (At good) (.int (m11%((good.length:Af)-1)+1))=.ok (Am Ab good[(m11%((good.length:Af)-1)+1).toNat]):=by
  have q:=F5 (pts:=good) hj;rw[ID hj,Fp (by omega)]at q
  exact q
 have ne:good[0]≠good[(m11%((good.length:Af)-1)+1).toNat]:=fun z=>by
  have:=(HK dg).mp z;omega
 have m0:good[0]∈good:=B1 h0;have mj:good[(m11%((good.length:Af)-1)+1).toNat]∈good:=B1 hj;generalize good[0]=g0 at *;generalize good[(m11%((good.length:Af)-1)+1).toNat]=gj at *;have b3:∀ {r},In3 p r->B3 r:=fun h=>(Ih hp h).b3 (by decide)
 have e5:=h.crs p Ab Ab g0 gj hp.pos (b3 (ng g0 m0).1) (b3 (ng gj mj).1);have li:biD .list [At good]=.ok (.lst (good.map (Am Ab))):=rfl;have hd:=tZ hp e1 e2 e3 e4 e9 sl li e10 i0 (OR good) e11 (by omega) (by omega) ij e5 (XV h.pt hp) (XU h.sum hp good g0 gj)
 have oz:=mC hp ng zg m0 mj ne;have ol:((Ew p).filter (Ji p good g0 gj)).length<=1000:=BU (Gy _ _) (BU (TB hp) (by decide))
 have no:∀ x∈(Ew p).filter (Ji p good g0 gj),NF p x/\Av g0 gj x%p=0/\x∉good:=fun x hx=>by
  obtain⟨k1,k2⟩:=Ct.mp hx;unfold Ji at k2;simp only[Aj,AT,Bp,uZ]at k2;exact⟨(Ke hp).mp k1,k2.1,k2.2⟩
 generalize (Ew p).filter (Ji p good g0 gj)=ot at *;have f0:=AZ m10 (show (3:Af)≠0 by decide)
 have f1:=AX m10 (show (0:Af)<3 by decide)
 generalize m10%3=fl at *;generalize Am Ab (mdR p (crs g0 gj))=LN at *;show (evSs Γ [sh (scr ns),Ad,Ad,Ad,Ad,Ad,Ad,Ad,Ad,Ad,Ad,Ad,Ad,Ad,Ad,Ad] Hq.body).ans Ae=_;rw[O2 Γ 8,hd,JE];show (evSs Γ _ (.cons (.ife (.cmp .NotEq (.var 4) (.int 1)) (.cons (.ins 3 (.bin .Mod (.call 228 (.cons (.var 0) (.cons (.int 12) .nil))) (.bin .Add (.bi .len (.cons (.var 3) .nil)) (.int 1))) (.idx (.var 6) (.bin .Mod (.call 228 (.cons (.var 0) (.cons (.int 13) .nil))) (.bi .len (.cons (.var 6) .nil))))) .nil) .nil) (.cons (.ife (.cmp .Gt (.var 4) (.int 0)) (.cons (.asg 7 Ae (.idx (.var 3) (.bin .Mod (.call 228 (.cons (.var 0) (.cons (.int 14) .nil))) (.bi .len (.cons (.var 3) .nil))))) (.cons (.ins 3 (.bin .Mod (.call 228 (.cons (.var 0) (.cons (.int 15) .nil))) (.bin .Add (.bi .len (.cons (.var 3) .nil)) (.int 1))) (.var 7)) .nil)) .nil) (Hq.body.drop 10)))).ans Ae=_;have fin:∀{P:Ac R3}{s7:Sl},(∀ x∈P,NF p x)->P.length<=100->((∃ x,Cr [] P=Aa x)\/(Cr [] P=Ad/\∃ d,z0_ p P=Aa d))->(evSs Γ [sh (scr ns),si p,sh (At good),Aa (.lst (P.map (Am Ab)),Ab),si fl,sh LN,sh (.lst (ot.map (Am Ab))),s7,Ad,Ad,Ad,Ad,Ad,Ad,Ad,Ad] (Hq.body.drop 10)).ans Ae=.ok (.bl Ab):=fun {P s7} nP lP hP=>by
  rw[kD h hp ng (by omega) dg zg nP lP hP]
  rfl
 have cases3:fl=0\/fl=1\/fl=2:=by omega
 rcases cases3 with rfl|rfl|rfl
 ·obtain⟨j,q,hq,e8⟩:=st8 (Γ:=Γ) (p:=p) (S:=scr ns) (GD:=At good) (LN:=LN) (pl:=good) (ot:=ot) (fl:=0) (s7:=Ad) (by decide) (by omega) oz ol e12 e13
  rw[G4,e8,JE,G4,X9,JE];obtain⟨nq,dz,qn⟩:=no q hq;refine fin (fun x hx=>?_) (by rw[K3];omega) (.inr ⟨OQ (Zm dg qn) (fun _ _ z=>by cases z),?_⟩)
  ·rcases Kg.mp hx with rfl|hx
   ·exact nq
   ·exact ng x hx
  ·exact kP (Kg.mpr (.inr m0)) (Kg.mpr (.inr mj)) (Kg.mpr (.inl rfl)) ne (fun z=>qn (z ▸ m0)) (fun z=>qn (z ▸ mj)) dz
 ·obtain⟨j,q,hq,e9'⟩:=st9 (Γ:=Γ) (p:=p) (S:=scr ns) (GD:=At good) (LN:=LN) (OT:=.lst (ot.map (Am Ab))) (pl:=good) (fl:=1) (s7:=Ad) (by decide) h0 (by omega) e14 e15
  rw[G4,Yb,JE,G4,e9',JE];refine fin (fun x hx=>?_) (by rw[K3];omega) (.inl (S8 hq))
  rcases Kg.mp hx with rfl|hx
  ·exact ng _ hq
  ·exact ng x hx
 ·obtain⟨j,q,hq,e8⟩:=st8 (Γ:=Γ) (p:=p) (S:=scr ns) (GD:=At good) (LN:=LN) (pl:=good) (ot:=ot) (fl:=2) (s7:=Ad) (by decide) (by omega) oz ol e12 e13
  obtain⟨j2,q2,hq2,e9'⟩:=st9 (Γ:=Γ) (p:=p) (S:=scr ns) (GD:=At good) (LN:=LN) (OT:=.lst (ot.map (Am Ab))) (pl:=Gw good j q) (fl:=2) (s7:=Ad) (by decide) (by rw[K3];omega) (by rw[K3];omega) e14 e15
  rw[G4,e8,JE,G4,e9',JE];have n1:∀ x∈Gw good j q,NF p x:=fun x hx=>by
   rcases Kg.mp hx with rfl|hx
   ·exact(no _ hq).1
   ·exact ng x hx
  refine fin (fun x hx=>?_) (by rw[K3,K3];omega) (.inl (S8 hq2))
  rcases Kg.mp hx with rfl|hx
  ·exact n1 _ hq2
  ·exact n1 x hx
end
section
variable{Γ:Gam}{p:Af}
theorem lG{u:R3}(hp:P4 p)(hx:In3 p x)(hy:In3 p y)(hu:In3 p u)(e:d=.tup [Am Ab x,Am Ab y,Am Ab u]):mkX 118 "points" [d]=.ok (onZ d):=by
 have ph:=hp.hi;have one:∀{a:R3},In3 p a->xfD 1 (Am Ab a)=Ab:=fun {a} h=>by
  obtain⟨⟨x0,x1⟩,⟨y0,y1⟩,z0,z1⟩:=h;show (C8 3 8&&([D.int a.1,.int a.2.1,.int a.2.2].all (xfD 0)))=Ab;simp[xfD];omega
 have e2:xfD 2 d=Ab:=by
  rw[e];show (C8 3 8&&([Am Ab x,Am Ab y,Am Ab u].all (xfD 1)))=Ab;simp[one hx,one hy,one hu]
 show (if (xfD 1 d||xfD 2 d)=Ab then R.ok (onZ d) else .bad)=_
 rw[e2,HH];rfl
noncomputable def K9:Df:=⟨3,Ae,(.cons (.asg 2 Ae (.call 65 (.cons (.var 0) (.cons (.var 1) .nil)))) (.cons (.ife (.cmp .IsNot (.var 2) .non) (.cons (.rais 118 (.cons (.var 2) .nil)) .nil) .nil) .nil))⟩
theorem cK(e:Γ.F 65 [.int p,PP]=.ok .non):K9.run Γ [.int p,PP]=.ok .non:=by
 simp[K9,Df.run,BA,e]
theorem ZY{ds:Ac D}(e:Γ.F 65 [.int p,PP]=.ok (.tup ds))(hx:Γ.xn 118 [.tup ds]=.ok (onZ (.tup ds))):K9.run Γ [.int p,PP]=.exn (onZ (.tup ds)):=by
 simp[K9,Df.run,BA,e,hx]
end
noncomputable def uQ:Ag->Ac Ag
 |2=>[2,0]
 |3=>[3,0]
 |4=>[4,0]
 |5=>[5,0]
 |13=>[13,0]
 |15=>[15,0]
 |107=>[107,0]
 |118=>[118,0]
 |_=>[]
noncomputable def Ig:Ag->Ac D->R Ex
 |2,_=>.ok ⟨2,[]⟩
 |3,_=>.ok ⟨3,[]⟩
 |4,_=>.ok ⟨4,[]⟩
 |5,_=>.ok ⟨5,[]⟩
 |13,_=>.ok ⟨13,[]⟩
 |15,_=>.ok ⟨15,[]⟩
 |107,ds=>mkX 107 "triple" ds
 |118,ds=>mkX 118 "points" ds
 |_,_=>.bad
noncomputable def Q77:Prg:=⟨Ab,fun
 |1=>Qb
 |9=>MZ
 |17=>M4
 |23=>On
 |24=>Qc
 |56=>N3
 |57=>Ny
 |61=>OI
 |65=>Ot
 |194=>L7
 |109=>K9
 |69=>OH
 |221=>Mg
 |222=>MV
 |223=>Nz
 |227=>K6
 |260=>J8
 |261=>K8
 |265=>MQ
 |266=>KM
 |228=>MY
 |229=>N9
 |288=>Os
 |231=>Oa
 |232=>Ob
 |233=>OJ
 |234=>N8
 |250=>MX
 |289=>Oo
 |290=>MT
 |251=>JY
 |272=>KO
 |273=>G5
 |238=>Of
 |274=>Hq
 |_=>⟨0,Ae,.nil⟩,fun
 |0=>.int 300
 | _=>.non,uQ,Ig⟩
theorem rP(ns:Ac Af):(gam Q77 10).F 274 [scr ns]=.ok (.bl Ab):=by
 have gF:∀ n i ds,(gam Q77 (n+1)).F i ds=EM Ab ((Q77.defs i).run (gam Q77 n) ds):=fun _ _ _=>rfl
 have d56:Q77.defs 56=N3:=rfl;have d57:Q77.defs 57=Ny:=rfl;have d65:Q77.defs 65=Ot:=rfl;have d194:Q77.defs 194=L7:=rfl;have d109:Q77.defs 109=K9:=rfl;have d69:Q77.defs 69=OH:=rfl;have d221:Q77.defs 221=Mg:=rfl;have d222:Q77.defs 222=MV:=rfl;have d223:Q77.defs 223=Nz:=rfl;have d227:Q77.defs 227=K6:=rfl;have d260:Q77.defs 260=J8:=rfl;have d261:Q77.defs 261=K8:=rfl;have d265:Q77.defs 265=MQ:=rfl;have d266:Q77.defs 266=KM:=rfl;have d231:Q77.defs 231=Oa:=rfl;have d234:Q77.defs 234=N8:=rfl;have d250:Q77.defs 250=MX:=rfl;have d290:Q77.defs 290=MT:=rfl;have d251:Q77.defs 251=JY:=rfl;have d272:Q77.defs 272=KO:=rfl;have d273:Q77.defs 273=G5:=rfl;have d238:Q77.defs 238=Of:=rfl;have rs:∀ n,Lk (gam Q77 (n+1)):=fun n p m hp=>Gq (nC _ p m hp)
 have mi:∀ n,Ll (gam Q77 (n+1)) 228 ns:=fun n k hk=>let ⟨m,m0,e⟩:=nI _ ns k hk;⟨m,m0,Gq e⟩
 have tu:∀ n,OM (gam Q77 (n+2)):=fun n p m hp z=>let ⟨t,t1,t2,t3,e⟩:=YS (rs n) p m hp z;⟨t,t1,t2,t3,Gq e⟩
 have fo:∀ n,TC (gam Q77 (n+3)):=fun n p b xs l t hp e it=>Gq (dQ (rs (n+1)) (tu n) hp e it)
 have me:∀ n,Ml (gam Q77 (n+2)):=fun n p q a b c hp ha hb hc=>Gq (dN (rs n) p q a b c hp ha hb hc)
 have jo:∀ n,Qf (gam Q77 (n+4)):=fun n p a b hp ia ib la lb ne=>let ⟨y,h1,h2,h3,e⟩:=lI (fun a b ha hb ne=>Gq (YT _ a b ha hb ne)) (fo n) p a b hp ia ib la lb ne;⟨y,h1,h2,h3,Gq e⟩
 have ly:∀ n,Uf (gam Q77 (n+2)):=fun n p x y hp ix iy=>Gq (nJ (rs n) p x y hp ix iy)
 have on:∀ n,Qe (gam Q77 (n+3)):=fun n p x y hp ix iy=>by rw[gF,d56,nG (ly n) p x y hp ix iy];rfl
 have an:∀ n,U8 (gam Q77 (n+4)):=fun n p x ls hp ix hl=>by rw[gF,d221,tL (on n) x ls hp ix hl];rfl
 have st:∀ n,Mk (gam Q77 (n+5)):=fun n p pts f left hp np nf ni nl=>by rw[gF,d222,dJ (jo n) (an n) pts f left hp np nf ni nl];rfl
 have tr:∀ n p,P4 p->(gam Q77 (n+1)).F 69 [.int p]=.ok (At (Ew p)):=fun n p hp=>by rw[gF,d69,tF _ p hp];rfl
 have fr2:∀ n,(gam Q77 n).fr 222=Ab:=fun n=>by cases n<;>rfl
 have fr3:∀ n,(gam Q77 n).fr 223=Ab:=fun n=>by cases n<;>rfl
 have fr6:∀ n,(gam Q77 n).fr 69=Ab:=fun n=>by cases n<;>rfl
 have ft:∀ n,U7 (gam Q77 (n+6)):=fun n p pts hp np nd hz=>by rw[gF,d223,lJ (st n) (fr2 _) (fr6 _) (fun p hp=>tr (n+4) p hp) pts hp np nd];rfl
 have up:∀ n,U77 (gam Q77 n):=fun n=>by cases n<;>exact⟨rfl,rfl⟩
 have x7:∀ n (p:Af) (a:R3),P4 p->In3 p a->(gam Q77 n).xn 107 [Am Ab a]=.ok (alk a):=fun n p a hp ia=>by cases n<;>exact oU hp ia
 have x8:∀ n (p:Af) (x y z:R3),P4 p->In3 p x->In3 p y->In3 p z->(gam Q77 n).xn 118 [.tup [Am Ab x,Am Ab y,Am Ab z]]=.ok (onZ (.tup [Am Ab x,Am Ab y,Am Ab z])):=fun n p x y z hp hx hy hz=>by cases n<;>exact lG hp hx hy hz rfl
 have un:∀ n (p:Af) (pts:Ac R3),P4 p->(∀ x∈pts,NF p x)->(gam Q77 (n+1)).F 194 [At pts]=alO (Cr [] pts):=fun n p pts hp np=>by rw[gF,d194,ZQ pts fun x hx=>x7 n p x hp (np x hx).1];rfl
 have fi:∀ n (p:Af) (pts:Ac R3),P4 p->(∀ x∈pts,NF p x)->pts.length<=1000->(gam Q77 (n+3)).F 65 [.int p,At pts]=.ok ((z0_ p pts).getD .non):=fun n p pts hp np hz=>by rw[gF,d65,ZV (me n) hp (fun x hx=>(np x hx).1) (by show pts.length<20000;omega)];rfl
 have ask0:∀ n (p:Af) (pts:Ac R3),P4 p->(∀ x∈pts,NF p x)->pts.length<=1000->z0_ p pts=Ad->(gam Q77 (n+4)).F 109 [.int p,At pts]=.ok .non:=fun n p pts hp np hz h=>by
  have e:=fi n p pts hp np hz;rw[h]at e;rw[gF,d109,cK e];rfl
 have ask1:∀ n (p:Af) (pts:Ac R3) (d:D),P4 p->(∀ x∈pts,NF p x)->pts.length<=1000->z0_ p pts=Aa d->(gam Q77 (n+4)).F 109 [.int p,At pts]=.exn (onZ d):=fun n p pts d hp np hz h=>by
  have e:=fi n p pts hp np hz;rw[h]at e;obtain⟨x,hx,y,hy,z,hz',rfl⟩:=NK h;rw[gF,d109,ZY e (x8 _ p x y z hp (np x hx).1 (np y hy).1 (np z hz').1)];rfl
 have seD:∀ n (p:Af) (pts:Ac R3) (x:R3),P4 p->(∀ x∈pts,NF p x)->Cr [] pts=Aa x->(gam Q77 (n+5)).F 260 [.int p,At pts]=.exn (alk x):=fun n p pts x hp np h=>by
  rw[gF,d260,PC (r:=.ok .non) (un (n+3) p pts hp np) (fun z=>by rw[h]at z;cases z) (fun d hd=>by cases hd;rfl),h];rfl
 have seL:∀ n (p:Af) (pts:Ac R3) (d:D),P4 p->(∀ x∈pts,NF p x)->pts.length<=1000->Cr [] pts=Ad->z0_ p pts=Aa d->(gam Q77 (n+5)).F 260 [.int p,At pts]=.exn (onZ d):=fun n p pts d hp np hz h1 h2=>by
  rw[gF,d260,PC (r:=.exn (onZ d)) (un (n+3) p pts hp np) (fun _=>ask1 n p pts d hp np hz h2) (fun d hd=>by cases hd),h1];rfl
 have seG:∀ n (p:Af) (pts:Ac R3),P4 p->(∀ x∈pts,NF p x)->pts.length<=1000->Cr [] pts=Ad->z0_ p pts=Ad->(gam Q77 (n+5)).F 260 [.int p,At pts]=.ok .non:=fun n p pts hp np hz h1 h2=>by
  rw[gF,d260,PC (r:=.ok .non) (un (n+3) p pts hp np) (fun _=>ask0 n p pts hp np hz h2) (fun d hd=>by cases hd;rfl),h1];rfl
 have ki:∀ n X,(gam Q77 (n+1)).F 272 [.exc 107 [("triple", X)]]=.ok (lAl X):=fun n X=>by rw[gF,d272,lH (up _) X];rfl
 have kl:∀ n X,(gam Q77 (n+1)).F 272 [.exc 118 [("points", X)]]=.ok (lLi X):=fun n X=>by rw[gF,d272,nK (up _) X];rfl
 have grX:∀(p:Af)(T:D)(e:Ex),(gam Q77 7).F 260 [.int p,T]=.exn e->(gam Q77 8).F 261 [.int p,T]=.exn e:=fun p T e h=>by rw[gF,d261,ZU h];rfl
 have fuX:∀(p m:Af)(T:D)(e:Ex),(gam Q77 7).F 260 [.int p,T]=.exn e->(gam Q77 8).F 266 [.int p,T,.int m]=.exn e:=fun p m T e h=>by rw[gF,d266,tI h];rfl
 have sm:∀ n,Ja (gam Q77 (n+1)):=fun n p q q' a x p0 ha hx=>Gq (ZS _ p q q' a x p0 ha hx)
 have cs:∀ n,Kj (gam Q77 (n+1)):=fun n p q q' a x p0 ha hx=>Gq (ZX _ p q q' a x p0 ha hx)
 have fm:∀ n,TD (gam Q77 (n+1)):=fun n p b xs l t hp e it=>Gq (dR _ hp e it)
 have le:∀ n,R7 (gam Q77 (n+2)):=fun n p t q q' a b c x G hx lx=>Gq (ZT (sm n) (fm n) p t q q' a b c x G hx lx)
 have h:H77 (gam Q77 9) ns:=by
  refine⟨?_,fun p at_ hp ha=>?_,fun p a b c G=>?_,fun at_ L ha hL=>?_,mi 8,fun p n hp=>?_,cs 8,sm 8,rfl,rfl,fun p pts hp np hz=>?_,fun pts hz=>?_,fun p pts x w hp np hz hd hw=>?_,fun p pts d w hp np hz hd hz0 hw=>?_,fun p pts d hp np hz hd hz0=>?_,fun p pts hp np hz hd hz0=>⟨?_,?_⟩⟩
  ·obtain⟨p,hp,e⟩:=dL (mi 7);exact⟨p,hp,Gq e⟩
  ·obtain⟨a,b,c,g,e⟩:=dI (mi 7) p at_ hp ha;exact⟨a,b,c,g,Gq e⟩
  ·rw[gF,d290,nF (le 6) p a b c G];rfl
  ·obtain⟨M,pm,e⟩:=dM (mi 7) at_ L ha hL;exact⟨M,pm,by rw[gF,d251,e];rfl⟩
  ·rw[gF,d231,show Oa=LY from rfl,nE _ p n hp];rfl
  ·rw[gF,d234,ZR (cs 7) (sm 7) hp (fun x hx=>(np x hx).1) hz];rfl
  ·rw[gF,d238,ZW pts hz];rfl
  ·have e:=seD 2 p pts x hp np hd;have u:=un 7 p pts hp np;rw[hd]at u;have u':(gam Q77 7).F 194 [At pts]=.exn (alk x):=by
    have v:=un 6 p pts hp np;rw[hd]at v;exact v
   rw[gF,d273,MC (K:=lAl (Am Ab x)) (d:=.non) hw (.exn (alk x)) (fun _=>grX p _ _ e) (fun _ _=>fuX p _ _ _ e) (fun _=>by rw[gF,d227,tG u'];rfl) (.inr ⟨107,_,rfl,(up 8).1,ki 7 _,rfl⟩)];rfl
  ·have e:=seL 2 p pts d hp np hz hd hz0;rw[gF,d273,MC (K:=lLi d) (d:=.non) (by omega) (.exn (onZ d)) (fun _=>grX p _ _ e) (fun _ _=>fuX p _ _ _ e) (fun z=>by omega) (.inr ⟨118,_,rfl,(up 8).2,kl 7 _,rfl⟩)];rfl
  ·have u:(gam Q77 7).F 194 [At pts]=.ok .non:=by
    have v:=un 6 p pts hp np;rw[hd]at v;exact v
   have f:=fi 4 p pts hp np hz;rw[hz0]at f;obtain⟨x,hx,y,hy,z,hz',rfl⟩:=NK hz0;rw[gF,d273,MC (K:=.non) (d:=.tup [.str "line", .tup [Am Ab x,Am Ab y,Am Ab z]]) (by omega) (.ok (.tup [.str "line", .tup [Am Ab x,Am Ab y,Am Ab z]])) (fun z=>by omega) (fun _ z=>by omega) (fun _=>by rw[gF,d227,tH u f];rfl) (.inl ⟨rfl,rfl⟩)];rfl
  ·have e:=seG 2 p pts hp np (by omega) hd hz0
   have nd:=(Nh hd).1;have f:(gam Q77 7).F 265 [.int p,At pts,At (Ik p pts),.int 0]=.ok (.lst [.tup []]):=by rw[gF,d265,tK];rfl
   rw[gF,d273,MC (K:=.non) (d:=.lst [.tup []]) (by omega) (.ok (.lst [.tup []])) (fun z=>by omega) (fun _ _=>by rw[gF,d266,show (1:Af)-1=0 from rfl,tJ rfl e (ft 1 p pts hp np nd (by omega)) f];rfl) (fun z=>by omega) (.inl ⟨rfl,rfl⟩)];rfl
  ·have e:=seG 2 p pts hp np (by omega) hd hz0
   have nd:=(Nh hd).1;obtain⟨told,g⟩:=dP (st 2) (fr2 _) (fr3 _) (ft 1) pts hp np nd hz e;refine⟨At told,?_⟩;rw[gF,d273,MC (K:=.non) (d:=At told) (by omega) (.ok (At told)) (fun _=>by rw[gF,d261,g];rfl) (fun z=>by omega) (fun z=>by omega) (.inl ⟨rfl,rfl⟩)];rfl
 exact Gq (nZ h)
end OvC
namespace OvC
open PySem PySem.Spec PyProof.Rows Ov L2
variable{l:Gf}
noncomputable def UR:Ac (Ai×Ag×Ag):=([("rest", 1,2),("turned_over", 9,2),("one_form", 17,2),("crossed", 23,2),("lies", 24,3),("on", 56,3),("join", 57,3),("measure", 61,4),("first_three", 65,2),("ask_unlike", 194,1),("ask_no_three", 109,2),("triples", 69,1),("on_any", 221,3),("still_fitting", 222,4),("fitting", 223,2),("look", 227,2),("ask_set", 260,2),("grown", 261,2),("further_rows", 265,4),("further", 266,3),("_law_mixed", 228,2),("_law_prime", 229,1),("_law_form", 288,2),("_law_point", 231,2),("_law_cross", 232,3),("_law_sum", 233,3),("_law_three", 234,2),("_law_table", 250,3),("_law_led", 289,3),("_law_oval", 290,2)]:Ac (Ai×Ag×Ag))++([("_law_order", 251,3),("_law_kinds", 272,1001),("_law_asked", 273,3),("_law_first_alike", 238,1),("law", 274,1)]:Ac (Ai×Ag×Ag))
noncomputable def Vy:Ac Ai:=["ValueError", "enumerate", "isinstance", "len", "list", "range", "tuple", "zip"]
noncomputable def Qk:Ac (Ai×Ag):=[("NoOver", 2),("NoTriple", 3),("Alike", 107),("OnLine", 118),("TooMany", 15),("OvalError", 0)]
noncomputable def Qo:Ac (Ai×Ag):=[("Alike", 107),("OnLine", 118),("OvalError", 0),("TooMany", 15),("NoCount", 13)]
noncomputable def U0:Ac (Ai×Ag):=[("MOST", 0)]
noncomputable abbrev C77(h:Ao)(ps N:Ac Ai)(i d:Ag):Ao:=Il 80 h UR Vy Qk Qo U0 ps N (tp77 i) (Q77.defs d)
theorem nV:C77 Ae ["p", "n"] ["p", "n"] 11 1=Ab:=by decide +kernel
theorem nS:C77 Ae ["p", "n"] ["p", "n", "turned"] 12 9=Ab:=by decide +kernel
theorem nR:C77 Ae ["p", "numbers"] ["p", "numbers", "rests", "first", "factor", "#5", "#6"] 14 17=Ab:=by decide +kernel
theorem nQ:C77 Ae ["one", "other"] ["one", "other"] 15 23=Ab:=by decide +kernel
theorem nN:C77 Ae ["p", "point", "line"] ["p", "point", "line"] 16 24=Ab:=by decide +kernel
theorem nM:C77 Ae ["p", "point", "line"] ["p", "point", "line"] 18 56=Ab:=by decide +kernel
theorem nL:C77 Ae ["p", "one", "other"] ["p", "one", "other"] 19 57=Ab:=by decide +kernel
theorem oS:C77 Ae ["p", "one", "other", "third"] ["p", "one", "other", "third"] 20 61=Ab:=by decide +kernel
theorem oR:C77 Ae ["p", "points"] ["p", "points", "i", "one", "j", "k"] 21 65=Ab:=by decide +kernel
theorem oQ:C77 Ae ["points"] ["points", "place", "point"] 22 194=Ab:=by decide +kernel
theorem iN:C77 Ae ["p", "points"] ["p", "points", "three"] 23 109=Ab:=by decide +kernel
theorem iM:C77 Ae ["p"] ["p", "told", "z", "y", "#4"] 24 69=Ab:=by decide +kernel
theorem iL:C77 Ae ["p", "point", "lines"] ["p", "point", "lines", "line"] 51 221=Ab:=by decide +kernel
theorem iK:C77 Ae ["p", "points", "further_point", "left"] ["p", "points", "further_point", "left", "lines", "#5", "#6"] 52 222=Ab:=by decide +kernel
theorem iJ:C77 Ae ["p", "points"] ["p", "points", "left", "place", "point"] 53 223=Ab:=by decide +kernel
theorem iI:C77 Ae ["p", "points"] ["p", "points", "three", "left"] 57 227=Ab:=by decide +kernel
theorem iH:C77 Ae ["p", "points"] ["p", "points"] 58 260=Ab:=by decide +kernel
theorem iG:C77 Ae ["p", "points"] ["p", "points", "told", "left", "point"] 59 261=Ab:=by decide +kernel
theorem iF:C77 Ae ["p", "points", "left", "many"] ["p", "points", "left", "many", "rows", "place", "point", "behind", "row"] 60 265=Ab:=by decide +kernel
theorem iE:C77 Ae ["p", "points", "many"] ["p", "points", "many", "rows"] 61 266=Ab:=by decide +kernel
theorem iD:C77 Ae ["_law_script", "_law_k"] ["_law_script", "_law_k", "_law_cell"] 63 228=Ab:=by decide +kernel
theorem iC:C77 Ae ["_law_script"] ["_law_script"] 64 229=Ab:=by decide +kernel
theorem iB:C77 Ae ["_law_p", "_law_numbers"] ["_law_p", "_law_numbers", "_law_rests_here", "_law_first", "_law_back", "#5", "#6", "#7", "#8"] 65 288=Ab:=by decide +kernel
theorem iA:C77 Ae ["_law_p", "_law_number"] ["_law_p", "_law_number"] 66 231=Ab:=by decide +kernel
theorem hZ:C77 Ae ["_law_p", "_law_one", "_law_other"] ["_law_p", "_law_one", "_law_other", "_law_x", "_law_y", "_law_z"] 67 232=Ab:=by decide +kernel
theorem hV:C77 Ae ["_law_p", "_law_one", "_law_other"] ["_law_p", "_law_one", "_law_other"] 68 233=Ab:=by decide +kernel
theorem jO:C77 Ae ["_law_p", "_law_points"] ["_law_p", "_law_points", "_law_i", "_law_j", "_law_line", "_law_k"] 69 234=Ab:=by decide +kernel
theorem jN:C77 Ae ["_law_p", "_law_script", "_law_at"] ["_law_p", "_law_script", "_law_at", "_law_rows", "_law_k", "_law_number", "_law_i", "_law_j", "_law_many", "#9", "#10", "#11"] 71 250=Ab:=by decide +kernel
theorem jM:C77 Ae ["_law_p", "_law_rows", "_law_point_here"] ["_law_p", "_law_rows", "_law_point_here", "#3"] 72 289=Ab:=by decide +kernel
theorem jL:C77 Ae ["_law_p", "_law_rows"] ["_law_p", "_law_rows", "_law_points", "_law_t"] 73 290=Ab:=by decide +kernel
theorem jK:C77 Ae ["_law_script", "_law_at", "_law_things"] ["_law_script", "_law_at", "_law_things", "_law_told", "_law_k", "_law_spot"] 74 251=Ab:=by decide +kernel
theorem jJ:C77 Ab ["_law_e"] ["_law_e", "_law_kinds_here"] 77 272=Ab:=by decide +kernel
theorem jI:C77 Ae ["_law_p", "_law_points", "_law_way"] ["_law_p", "_law_points", "_law_way", "_law_kinds_here", "_law_found", "_law_e"] 78 273=Ab:=by decide +kernel
theorem jH:C77 Ae ["_law_points"] ["_law_points", "_law_k"] 79 238=Ab:=by decide +kernel
theorem Td:C77 Ae ["_law_script"] ["_law_script", "_law_p", "_law_good", "_law_points", "_law_fault", "_law_line", "_law_others", "_law_again", "_law_due", "_law_twice", "_law_handed", "_law_way", "_law_found", "_law_kinds_here", "#14", "#15"] 80 274=Ab:=by decide +kernel
theorem fR:NX "OvalError" "triple" "triple" (NT (tp77 8))=Ab:=by decide +kernel
theorem fQ:NX "OvalError" "points" "points" (NT (tp77 9))=Ab:=by decide +kernel
noncomputable def Gx(x0 x1 x2 x3 x4 x5:Ah):ClA
 |2=>Aa x0
 |3=>Aa x1
 |107=>Aa x2
 |118=>Aa x3
 |15=>Aa x4
 |0=>Aa x5
 |_=>Ad
set_option maxHeartbeats 0 in
theorem all77{w:AB}{K:Fg}{h:AF}{mg:Ai->An Ak}{fa f0 f1 f2 f3 f4 f5 f6 f7 f8 f9 f10 f11 f12 f13 f14 f15 f16 f17 f18 f19 f20 f21 f22 f23 f24 f25 f26 f27 f28 f29 f30 f31 f32 f33 f34 x0 x1 x2 x3 x4 x5 x6 ix2 ix3:Ah}(X:K.In h)(G:h.Ns A8 mg)(hfa:mg "law" = Aa (.ref fa)){gu0:CN}(a0:FnI K f0 "rest" (tp77 11))(a1:FnI K f1 "turned_over" (tp77 12))(a2:FnI K f2 "one_form" (tp77 14))(a3:FnI K f3 "crossed" (tp77 15))(a4:FnI K f4 "lies" (tp77 16))(a5:FnI K f5 "on" (tp77 18))(a6:FnI K f6 "join" (tp77 19))(a7:FnI K f7 "measure" (tp77 20))(a8:FnI K f8 "first_three" (tp77 21))(a9:FnI K f9 "ask_unlike" (tp77 22))(a10:FnI K f10 "ask_no_three" (tp77 23))(a11:FnI K f11 "triples" (tp77 24))(a12:FnI K f12 "on_any" (tp77 51))(a13:FnI K f13 "still_fitting" (tp77 52))(a14:FnI K f14 "fitting" (tp77 53))(a15:FnI K f15 "look" (tp77 57))(a16:FnI K f16 "ask_set" (tp77 58))(a17:FnI K f17 "grown" (tp77 59))(a18:FnI K f18 "further_rows" (tp77 60))(a19:FnI K f19 "further" (tp77 61))(a20:FnI K f20 "_law_mixed" (tp77 63))(a21:FnI K f21 "_law_prime" (tp77 64))(a22:FnI K f22 "_law_form" (tp77 65))(a23:FnI K f23 "_law_point" (tp77 66))(a24:FnI K f24 "_law_cross" (tp77 67))(a25:FnI K f25 "_law_sum" (tp77 68))(a26:FnI K f26 "_law_three" (tp77 69))(a27:FnI K f27 "_law_table" (tp77 71))(a28:FnI K f28 "_law_led" (tp77 72))(a29:FnI K f29 "_law_oval" (tp77 73))(a30:FnI K f30 "_law_order" (tp77 74))(a31:FnI K f31 "_law_kinds" (tp77 77))(a32:FnI K f32 "_law_asked" (tp77 78))(a33:FnI K f33 "_law_first_alike" (tp77 79))(a34:FnI K f34 "law" (tp77 80))(nx0:BB K A8 "NoOver" = Aa (Aa (.ref x0)))(dcx0:FO K x0=Ab)(ftx0:Aw K (.ref x0) "triple" = Aa Ad)(fpx0:Aw K (.ref x0) "points" = Aa Ad)(ex0:Fi K x0 [.type "ValueError", .type "Exception", .type "BaseException", .type "object"] "ValueError.__new__" = Ab)(gax0:Aw K (.ref x0) "__getattribute__" = Aa (Aa (.builtin "BaseException.__getattribute__")))(gtx0:Aw K (.ref x0) "__getattr__" = Aa Ad)(clx0:Aw K (.ref x0) "__class__" = Aa (Aa (.builtin "object.__class__")))(obx0:BR K x0 (.type "object")=Aa Ab)(bex0:Az K (.ref x0) (.type "BaseException")=Aa Ab)(svx0:Az K (.ref x0) (.type "ValueError")=Aa Ab)(nx1:BB K A8 "NoTriple" = Aa (Aa (.ref x1)))(dcx1:FO K x1=Ab)(ftx1:Aw K (.ref x1) "triple" = Aa Ad)(fpx1:Aw K (.ref x1) "points" = Aa Ad)(ex1:Fi K x1 [.type "ValueError", .type "Exception", .type "BaseException", .type "object"] "ValueError.__new__" = Ab)(gax1:Aw K (.ref x1) "__getattribute__" = Aa (Aa (.builtin "BaseException.__getattribute__")))(gtx1:Aw K (.ref x1) "__getattr__" = Aa Ad)(clx1:Aw K (.ref x1) "__class__" = Aa (Aa (.builtin "object.__class__")))(obx1:BR K x1 (.type "object")=Aa Ab)(bex1:Az K (.ref x1) (.type "BaseException")=Aa Ab)(svx1:Az K (.ref x1) (.type "ValueError")=Aa Ab)(nx2:BB K A8 "Alike" = Aa (Aa (.ref x2)))(dcx2:FO K x2=Ab)(ftx2:Aw K (.ref x2) "triple" = Aa Ad)(fpx2:Aw K (.ref x2) "points" = Aa Ad)(fix2:Aw K (.ref x2) "__init__" = Aa (Aa (.ref ix2)))(iix2:InI K ix2 "Alike.__init__" (NT (tp77 8)))(tix2:Dt K (.ref ix2)=Aa (.type "function"))(ex2:Eh K x2 (Aa (.ref ix2))=Ab)(snx2:Aw K (.ref x2) "__setattr__" = Aa (Aa (.builtin "object.__setattr__")))(gax2:Aw K (.ref x2) "__getattribute__" = Aa (Aa (.builtin "BaseException.__getattribute__")))(gtx2:Aw K (.ref x2) "__getattr__" = Aa Ad)(clx2:Aw K (.ref x2) "__class__" = Aa (Aa (.builtin "object.__class__")))(obx2:BR K x2 (.type "object")=Aa Ab)(bex2:Az K (.ref x2) (.type "BaseException")=Aa Ab)(svx2:Az K (.ref x2) (.type "ValueError")=Aa Ab)(nx3:BB K A8 "OnLine" = Aa (Aa (.ref x3)))(dcx3:FO K x3=Ab)(ftx3:Aw K (.ref x3) "triple" = Aa Ad)(fpx3:Aw K (.ref x3) "points" = Aa Ad)(fix3:Aw K (.ref x3) "__init__" = Aa (Aa (.ref ix3)))(iix3:InI K ix3 "OnLine.__init__" (NT (tp77 9)))(tix3:Dt K (.ref ix3)=Aa (.type "function"))(ex3:Eh K x3 (Aa (.ref ix3))=Ab)(snx3:Aw K (.ref x3) "__setattr__" = Aa (Aa (.builtin "object.__setattr__")))(gax3:Aw K (.ref x3) "__getattribute__" = Aa (Aa (.builtin "BaseException.__getattribute__")))(gtx3:Aw K (.ref x3) "__getattr__" = Aa Ad)(clx3:Aw K (.ref x3) "__class__" = Aa (Aa (.builtin "object.__class__")))(obx3:BR K x3 (.type "object")=Aa Ab)(bex3:Az K (.ref x3) (.type "BaseException")=Aa Ab)(svx3:Az K (.ref x3) (.type "ValueError")=Aa Ab)(nx4:BB K A8 "TooMany" = Aa (Aa (.ref x4)))(dcx4:FO K x4=Ab)(ftx4:Aw K (.ref x4) "triple" = Aa Ad)(fpx4:Aw K (.ref x4) "points" = Aa Ad)(ex4:Fi K x4 [.type "ValueError", .type "Exception", .type "BaseException", .type "object"] "ValueError.__new__" = Ab)(gax4:Aw K (.ref x4) "__getattribute__" = Aa (Aa (.builtin "BaseException.__getattribute__")))(gtx4:Aw K (.ref x4) "__getattr__" = Aa Ad)(clx4:Aw K (.ref x4) "__class__" = Aa (Aa (.builtin "object.__class__")))(obx4:BR K x4 (.type "object")=Aa Ab)(bex4:Az K (.ref x4) (.type "BaseException")=Aa Ab)(svx4:Az K (.ref x4) (.type "ValueError")=Aa Ab)(nx5:BB K A8 "OvalError" = Aa (Aa (.ref x5)))(sax5:ET K (.ref x5) "__getattribute__" = Aa (Aa (.builtin "type.__getattribute__")))(sbx5:FD K x5 (.type "type")=Ab)(scx5:FC K (.ref x5) (.type "type") "__init__" = Aa (.val (.builtin "ValueError.__init__")))(dcx5:FO K x5=Ab)(ftx5:Aw K (.ref x5) "triple" = Aa Ad)(fpx5:Aw K (.ref x5) "points" = Aa Ad)(ex5:Fi K x5 [.type "ValueError", .type "Exception", .type "BaseException", .type "object"] "ValueError.__new__" = Ab)(gax5:Aw K (.ref x5) "__getattribute__" = Aa (Aa (.builtin "BaseException.__getattribute__")))(gtx5:Aw K (.ref x5) "__getattr__" = Aa Ad)(clx5:Aw K (.ref x5) "__class__" = Aa (Aa (.builtin "object.__class__")))(obx5:BR K x5 (.type "object")=Aa Ab)(bex5:Az K (.ref x5) (.type "BaseException")=Aa Ab)(svx5:Az K (.ref x5) (.type "ValueError")=Aa Ab)(nx6:BB K A8 "NoCount" = Aa (Aa (.ref x6)))(csx6:BR K x6 (.type "object")=Aa Ab)(tyx6:Dt K (.ref x6)=Aa (.type "type"))(sux0x2:Az K (.ref x0) (.ref x2)=Aa Ae)(sux0x3:Az K (.ref x0) (.ref x3)=Aa Ae)(sux0x5:Az K (.ref x0) (.ref x5)=Aa Ab)(sux0x4:Az K (.ref x0) (.ref x4)=Aa Ae)(sux0x6:Az K (.ref x0) (.ref x6)=Aa Ae)(sux1x2:Az K (.ref x1) (.ref x2)=Aa Ae)(sux1x3:Az K (.ref x1) (.ref x3)=Aa Ae)(sux1x5:Az K (.ref x1) (.ref x5)=Aa Ab)(sux1x4:Az K (.ref x1) (.ref x4)=Aa Ae)(sux1x6:Az K (.ref x1) (.ref x6)=Aa Ae)(sux2x2:Az K (.ref x2) (.ref x2)=Aa Ab)(sux2x3:Az K (.ref x2) (.ref x3)=Aa Ae)(sux2x5:Az K (.ref x2) (.ref x5)=Aa Ab)(sux2x4:Az K (.ref x2) (.ref x4)=Aa Ae)(sux2x6:Az K (.ref x2) (.ref x6)=Aa Ae)(sux3x2:Az K (.ref x3) (.ref x2)=Aa Ae)(sux3x3:Az K (.ref x3) (.ref x3)=Aa Ab)(sux3x5:Az K (.ref x3) (.ref x5)=Aa Ab)(sux3x4:Az K (.ref x3) (.ref x4)=Aa Ae)(sux3x6:Az K (.ref x3) (.ref x6)=Aa Ae)(sux4x2:Az K (.ref x4) (.ref x2)=Aa Ae)(sux4x3:Az K (.ref x4) (.ref x3)=Aa Ae)(sux4x5:Az K (.ref x4) (.ref x5)=Aa Ab)(sux4x4:Az K (.ref x4) (.ref x4)=Aa Ab)(sux4x6:Az K (.ref x4) (.ref x6)=Aa Ae)(sux5x2:Az K (.ref x5) (.ref x2)=Aa Ae)(sux5x3:Az K (.ref x5) (.ref x3)=Aa Ae)(sux5x5:Az K (.ref x5) (.ref x5)=Aa Ab)(sux5x4:Az K (.ref x5) (.ref x4)=Aa Ae)(sux5x6:Az K (.ref x5) (.ref x6)=Aa Ae)(gn0:BB K A8 "MOST" = Aa (Aa (.int 300 gu0)))(z0:BB K A8 "ValueError" = Aa Ad)(z1:BB K A8 "enumerate" = Aa Ad)(z2:BB K A8 "isinstance" = Aa Ad)(z3:BB K A8 "len" = Aa Ad)(z4:BB K A8 "list" = Aa Ad)(z5:BB K A8 "range" = Aa Ad)(z6:BB K A8 "tuple" = Aa Ad)(z7:BB K A8 "zip" = Aa Ad):
  ∃ fd:BV,(∀(s:Ar)(v:Ak),Gz s fd ⟨[v],[]⟩ [("_law_script", v)])/\∀ base:AF,K.In base->base.Ns A8 mg->FnOk l.prog w K mg base (CXR l.prog w) 10 fa fd ["_law_script"] (NS K):=by
 obtain⟨_,F,e⟩:=a34;obtain⟨_,_,_,_,_,_,_,_,_,rfl,_,_⟩:=F.ex;cases hfa.symm.trans (BM X G e);have yx0:=Nm ex0;have Xx0:XcOk K x0:=Lq yx0 gax0 gtx0 clx0 obx0 bex0 svx0;have yx1:=Nm ex1;have Xx1:XcOk K x1:=Lq yx1 gax1 gtx1 clx1 obx1 bex1 svx1;have yx2:=ex2;have Xx2:XcOk K x2:=Lq yx2 gax2 gtx2 clx2 obx2 bex2 svx2;have Ix2:XIn K mg x2 "triple" := TY iix2 fR (fun _ _ _ _ _ _ _ _=>rfl) yx2 dcx2 tix2 (BM X G nx5) sax5 sbx5 scx5 ftx2 snx2
 have yx3:=ex3;have Xx3:XcOk K x3:=Lq yx3 gax3 gtx3 clx3 obx3 bex3 svx3;have Ix3:XIn K mg x3 "points" := TY iix3 fQ (fun _ _ _ _ _ _ _ _=>rfl) yx3 dcx3 tix3 (BM X G nx5) sax5 sbx5 scx5 fpx3 snx3
 have yx4:=Nm ex4;have Xx4:XcOk K x4:=Lq yx4 gax4 gtx4 clx4 obx4 bex4 svx4;have yx5:=Nm ex5;have Xx5:XcOk K x5:=Lq yx5 gax5 gtx5 clx5 obx5 bex5 svx5;have XT77:XT Q77.up Q77.xn (Gx x0 x1 x2 x3 x4 x5) Qk Qo K mg:=by
  refine⟨?_,all_cons ⟨_,rfl,BM X G nx0⟩ (all_cons ⟨_,rfl,BM X G nx1⟩ (all_cons ⟨_,rfl,BM X G nx2⟩ (all_cons ⟨_,rfl,BM X G nx3⟩ (all_cons ⟨_,rfl,BM X G nx4⟩ (all_cons ⟨_,rfl,BM X G nx5⟩ (Mj)))))),all_cons ⟨_,BM X G nx2,?kx2,?sx2⟩ (all_cons ⟨_,BM X G nx3,?kx3,?sx3⟩ (all_cons ⟨_,BM X G nx5,?kx5,?sx5⟩ (all_cons ⟨_,BM X G nx4,?kx4,?sx4⟩ (all_cons ⟨_,BM X G nx6,?kx6,?sx6⟩ (Mj))))),?_,?_,?_⟩
  case refine_1=>
   intro c C q;unfold Gx at q;split at q
   ·cases q;exact Xx0
   ·cases q;exact Xx1
   ·cases q;exact Xx2
   ·cases q;exact Xx3
   ·cases q;exact Xx4
   ·cases q;exact Xx5
   ·cases q
  case refine_2=>
   intro c C ds q;unfold Gx at q;split at q
   ·cases q;exact NR (fun ds=>by show Ig 2 ds=.bad\/Ig 2 ds=.ok ⟨2,[]⟩;first|exact .inr rfl|exact .inl rfl) yx0 ds
   ·cases q;exact NR (fun ds=>by show Ig 3 ds=.bad\/Ig 3 ds=.ok ⟨3,[]⟩;first|exact .inr rfl|exact .inl rfl) yx1 ds
   ·cases q;exact UU (fun _=>rfl) Ix2 ds
   ·cases q;exact UU (fun _=>rfl) Ix3 ds
   ·cases q;exact NR (fun ds=>by show Ig 15 ds=.bad\/Ig 15 ds=.ok ⟨15,[]⟩;first|exact .inr rfl|exact .inl rfl) yx4 ds
   ·cases q;exact NR (fun ds=>by show Ig 0 ds=.bad\/Ig 0 ds=.ok ⟨0,[]⟩;first|exact .inr rfl|exact .inl rfl) yx5 ds
   ·cases q
  case refine_3=>
   intro c C q;unfold Gx at q;split at q
   ·cases q;exact Ln dcx0 ftx0 fpx0
   ·cases q;exact Ln dcx1 ftx1 fpx1
   ·cases q;exact Ln dcx2 ftx2 fpx2
   ·cases q;exact Ln dcx3 ftx3 fpx3
   ·cases q;exact Ln dcx4 ftx4 fpx4
   ·cases q;exact Ln dcx5 ftx5 fpx5
   ·cases q
  case refine_4=>
   intro c q ds;show Ig c ds=.bad;unfold Ig;split<;>first|rfl|exact absurd rfl (q ("NoOver", 2) (by decide))|exact absurd rfl (q ("NoTriple", 3) (by decide))|exact absurd rfl (q ("Alike", 107) (by decide))|exact absurd rfl (q ("OnLine", 118) (by decide))|exact absurd rfl (q ("TooMany", 15) (by decide))|exact absurd rfl (q ("OvalError", 0) (by decide))
  case kx2=>
   intro c C q;unfold Gx at q;split at q
   ·cases q;exact Eg yx0 yx2 sux0x2
   ·cases q;exact Eg yx1 yx2 sux1x2
   ·cases q;exact Eg yx2 yx2 sux2x2
   ·cases q;exact Eg yx3 yx2 sux3x2
   ·cases q;exact Eg yx4 yx2 sux4x2
   ·cases q;exact Eg yx5 yx2 sux5x2
   ·cases q
  case sx2=>
   intro c C q;unfold Gx at q;split at q
   ·cases q;exact sux0x2
   ·cases q;exact sux1x2
   ·cases q;exact sux2x2
   ·cases q;exact sux3x2
   ·cases q;exact sux4x2
   ·cases q;exact sux5x2
   ·cases q
  case kx3=>
   intro c C q;unfold Gx at q;split at q
   ·cases q;exact Eg yx0 yx3 sux0x3
   ·cases q;exact Eg yx1 yx3 sux1x3
   ·cases q;exact Eg yx2 yx3 sux2x3
   ·cases q;exact Eg yx3 yx3 sux3x3
   ·cases q;exact Eg yx4 yx3 sux4x3
   ·cases q;exact Eg yx5 yx3 sux5x3
   ·cases q
  case sx3=>
   intro c C q;unfold Gx at q;split at q
   ·cases q;exact sux0x3
   ·cases q;exact sux1x3
   ·cases q;exact sux2x3
   ·cases q;exact sux3x3
   ·cases q;exact sux4x3
   ·cases q;exact sux5x3
   ·cases q
  case kx5=>
   intro c C q;unfold Gx at q;split at q
   ·cases q;exact Eg yx0 yx5 sux0x5
   ·cases q;exact Eg yx1 yx5 sux1x5
   ·cases q;exact Eg yx2 yx5 sux2x5
   ·cases q;exact Eg yx3 yx5 sux3x5
   ·cases q;exact Eg yx4 yx5 sux4x5
   ·cases q;exact Eg yx5 yx5 sux5x5
   ·cases q
  case sx5=>
   intro c C q;unfold Gx at q;split at q
   ·cases q;exact sux0x5
   ·cases q;exact sux1x5
   ·cases q;exact sux2x5
   ·cases q;exact sux3x5
   ·cases q;exact sux4x5
   ·cases q;exact sux5x5
   ·cases q
  case kx4=>
   intro c C q;unfold Gx at q;split at q
   ·cases q;exact Eg yx0 yx4 sux0x4
   ·cases q;exact Eg yx1 yx4 sux1x4
   ·cases q;exact Eg yx2 yx4 sux2x4
   ·cases q;exact Eg yx3 yx4 sux3x4
   ·cases q;exact Eg yx4 yx4 sux4x4
   ·cases q;exact Eg yx5 yx4 sux5x4
   ·cases q
  case sx4=>
   intro c C q;unfold Gx at q;split at q
   ·cases q;exact sux0x4
   ·cases q;exact sux1x4
   ·cases q;exact sux2x4
   ·cases q;exact sux3x4
   ·cases q;exact sux4x4
   ·cases q;exact sux5x4
   ·cases q
  case kx6=>
   intro c C q;unfold Gx at q;split at q
   ·cases q;exact K0 yx0 csx6 tyx6 sux0x6
   ·cases q;exact K0 yx1 csx6 tyx6 sux1x6
   ·cases q;exact K0 yx2 csx6 tyx6 sux2x6
   ·cases q;exact K0 yx3 csx6 tyx6 sux3x6
   ·cases q;exact K0 yx4 csx6 tyx6 sux4x6
   ·cases q;exact K0 yx5 csx6 tyx6 sux5x6
   ·cases q
  case sx6=>
   intro c C q;unfold Gx at q;split at q
   ·cases q;exact sux0x6
   ·cases q;exact sux1x6
   ·cases q;exact sux2x6
   ·cases q;exact sux3x6
   ·cases q;exact sux4x6
   ·cases q;exact sux5x6
   ·cases q
 have T:Tab K mg (Gx x0 x1 x2 x3 x4 x5) UR Vy Qk Qo U0 Q77 80:=⟨XT77,all_cons (CP X G z0) (all_cons (CP X G z1) (all_cons (CP X G z2) (all_cons (CP X G z3) (all_cons (CP X G z4) (all_cons (CP X G z5) (all_cons (CP X G z6) (all_cons (CP X G z7) (Mj)))))))),all_cons (pL (BM X G gn0)) (Mj),all_cons (Gv 2 1 X G a0 rfl nV fun _ _ _ _ _ _ _ _=>rfl) (all_cons (Gv 2 9 X G a1 rfl nS fun _ _ _ _ _ _ _ _=>rfl) (all_cons (Gv 2 17 X G a2 rfl nR fun _ _ _ _ _ _ _ _=>rfl) (all_cons (Gv 2 23 X G a3 rfl nQ fun _ _ _ _ _ _ _ _=>rfl) (all_cons (Ic 3 24 X G a4 rfl nN fun _ _ _ _ _ _ _ _ _=>rfl) (all_cons (Ic 3 56 X G a5 rfl nM fun _ _ _ _ _ _ _ _ _=>rfl) (all_cons (Ic 3 57 X G a6 rfl nL fun _ _ _ _ _ _ _ _ _=>rfl) (all_cons (QQ 4 61 X G a7 rfl oS fun _ _ _ _ _ _ _ _ _ _=>rfl) (all_cons (Gv 2 65 X G a8 rfl oR fun _ _ _ _ _ _ _ _=>rfl) (all_cons (LA 1 194 X G a9 rfl oQ fun _ _ _ _ _ _ _=>rfl) (all_cons (Gv 2 109 X G a10 rfl iN fun _ _ _ _ _ _ _ _=>rfl) (all_cons (LA 1 69 X G a11 rfl iM fun _ _ _ _ _ _ _=>rfl) (all_cons (Ic 3 221 X G a12 rfl iL fun _ _ _ _ _ _ _ _ _=>rfl) (all_cons (QQ 4 222 X G a13 rfl iK fun _ _ _ _ _ _ _ _ _ _=>rfl) (all_cons (Gv 2 223 X G a14 rfl iJ fun _ _ _ _ _ _ _ _=>rfl) (all_cons (Gv 2 227 X G a15 rfl iI fun _ _ _ _ _ _ _ _=>rfl) (all_cons (Gv 2 260 X G a16 rfl iH fun _ _ _ _ _ _ _ _=>rfl) (all_cons (Gv 2 261 X G a17 rfl iG fun _ _ _ _ _ _ _ _=>rfl) (all_cons (QQ 4 265 X G a18 rfl iF fun _ _ _ _ _ _ _ _ _ _=>rfl) (all_cons (Ic 3 266 X G a19 rfl iE fun _ _ _ _ _ _ _ _ _=>rfl) (all_cons (Gv 2 228 X G a20 rfl iD fun _ _ _ _ _ _ _ _=>rfl) (all_cons (LA 1 229 X G a21 rfl iC fun _ _ _ _ _ _ _=>rfl) (all_cons (Gv 2 288 X G a22 rfl iB fun _ _ _ _ _ _ _ _=>rfl) (all_cons (Gv 2 231 X G a23 rfl iA fun _ _ _ _ _ _ _ _=>rfl) (all_cons (Ic 3 232 X G a24 rfl hZ fun _ _ _ _ _ _ _ _ _=>rfl) (all_cons (Ic 3 233 X G a25 rfl hV fun _ _ _ _ _ _ _ _ _=>rfl) (all_cons (Gv 2 234 X G a26 rfl jO fun _ _ _ _ _ _ _ _=>rfl) (all_cons (Ic 3 250 X G a27 rfl jN fun _ _ _ _ _ _ _ _ _=>rfl) (all_cons (Ic 3 289 X G a28 rfl jM fun _ _ _ _ _ _ _ _ _=>rfl) (all_cons (Gv 2 290 X G a29 rfl jL fun _ _ _ _ _ _ _ _=>rfl) (all_cons (Ic 3 251 X G a30 rfl jK fun _ _ _ _ _ _ _ _ _=>rfl) (all_cons (LA 1001 272 X G a31 rfl jJ fun _ _ _ _ _ _ _=>rfl) (all_cons (Ic 3 273 X G a32 rfl jI fun _ _ _ _ _ _ _ _ _=>rfl) (all_cons (LA 1 238 X G a33 rfl jH fun _ _ _ _ _ _ _=>rfl) (all_cons (LA 1 274 X G ⟨_,F,e⟩ rfl Td fun _ _ _ _ _ _ _=>rfl) (Mj)))))))))))))))))))))))))))))))))))⟩
 exact⟨_,fun s v=>.of_eq rfl,fun base _ _=>law_fn (Uy T (PH T 9) F rfl Td) rP⟩
theorem walk77{q:AS}{loose:Ac Ai}{XP:(Ai->An Ak)->AF->Prop}{YP:AB->AF->Prop}{d:DefRec}{K:LU->Fg}(hn:l.most=Aa 63)(hdf:d.params.defaults=[])(hY:∀(w:AB)(h:AF),YP w h->(K w.params).In h)(F:∀(w:AB)(mg:Ai->An Ak)(fa:Ah)(h:AF),(K w.params).In h->h.Ns A8 mg->mg d.name=Aa (.ref fa) ->
   ∃ fd:BV,(∀(s:Ar)(u:Ak),Gz s fd ⟨[u],[]⟩ [("_law_script", u)])/\∀ base:AF,(K w.params).In base->base.Ns A8 mg->FnOk l.prog w (K w.params) mg base (CXR l.prog w) 10 fa fd ["_law_script"] (NS (K w.params))):Xf q loose XP YP l.row.toRowW d [] (fun f vs=>KA f vs):=
 L2.walk_of (n:=63) (k:=10) (x := "_law_script") (CX:=fun w=>CXR l.prog w) (sp:=fun w=>NS (K w.params)) hn (by decide) hdf ⟨rfl,by decide,by decide,rfl⟩ hY F (fun _ H a ns hl _ hS=>⟨a,ns,rfl,hl,hS,fun _ _ z=>z⟩) fun _ _ _ _ _ z=>oH z
end OvC
open PySem PySem.W PyProof.Rows
set_option hygiene false
set_option maxRecDepth 100000 in
set_option maxHeartbeats 0 in
theorem PySem.Challenge.cw_ovalfield_k77_sets_refused_holds : PySem.Challenge.rw_ovalfield_k77_sets_refused.Holds := by
 refine OvC.hold77.go OvC.reck77_1 OvC.reck77_2 OvC.reck77_3 OvC.reck77_4 OvC.reck77_5 OvC.reck77_6 OvC.reck77_7 OvC.reck77_8 OvC.reck77_9 OvC.reck77_10 OvC.reck77_11 ?_;intro said;refine OvC.walk77 (l:=PySem.Challenge.rw_ovalfield_k77_sets_refused) rfl rfl (fun w h Y=>Xh Y) ?F
 case F=>
  intro w mg fa h KX G hmg
  refine' OvC.all77 KX G hmg ?a0 ?a1 ?a2 ?a3 ?a4 ?a5 ?a6 ?a7 ?a8 ?a9 ?a10 ?a11 ?a12 ?a13 ?a14 ?a15 ?a16 ?a17 ?a18 ?a19 ?a20 ?a21 ?a22 ?a23 ?a24 ?a25 ?a26 ?a27 ?a28 ?a29 ?a30 ?a31 ?a32 ?a33 ?a34 ?nx0 ?dcx0 ?ftx0 ?fpx0 ?ex0 ?gax0 ?gtx0 ?clx0 ?obx0 ?bex0 ?svx0 ?nx1 ?dcx1 ?ftx1 ?fpx1 ?ex1 ?gax1 ?gtx1 ?clx1 ?obx1 ?bex1 ?svx1 ?nx2 ?dcx2 ?ftx2 ?fpx2 ?fix2 ?iix2 ?tix2 ?ex2 ?snx2 ?gax2 ?gtx2 ?clx2 ?obx2 ?bex2 ?svx2 ?nx3 ?dcx3 ?ftx3 ?fpx3 ?fix3 ?iix3 ?tix3 ?ex3 ?snx3 ?gax3 ?gtx3 ?clx3 ?obx3 ?bex3 ?svx3 ?nx4 ?dcx4 ?ftx4 ?fpx4 ?ex4 ?gax4 ?gtx4 ?clx4 ?obx4 ?bex4 ?svx4 ?nx5 ?sax5 ?sbx5 ?scx5 ?dcx5 ?ftx5 ?fpx5 ?ex5 ?gax5 ?gtx5 ?clx5 ?obx5 ?bex5 ?svx5 ?nx6 ?csx6 ?tyx6 ?sux0x2 ?sux0x3 ?sux0x5 ?sux0x4 ?sux0x6 ?sux1x2 ?sux1x3 ?sux1x5 ?sux1x4 ?sux1x6 ?sux2x2 ?sux2x3 ?sux2x5 ?sux2x4 ?sux2x6 ?sux3x2 ?sux3x3 ?sux3x5 ?sux3x4 ?sux3x6 ?sux4x2 ?sux4x3 ?sux4x5 ?sux4x4 ?sux4x6 ?sux5x2 ?sux5x3 ?sux5x5 ?sux5x4 ?sux5x6 ?gn0 ?z0 ?z1 ?z2 ?z3 ?z4 ?z5 ?z6 ?z7
  case a0|a1|a2|a3|a4|a5|a6|a7|a8|a9|a10|a11|a12|a13|a14|a15|a16|a17|a18|a19|a20|a21|a22|a23|a24|a25|a26|a27|a28|a29|a30|a31|a32|a33|a34=>(refine' Ov.fni ?a ?l ?c ?k;(case a=>k_is);(case l=>k_is);(case c=>k_is);(case k=>k_is))
  (case nx0=>k_is)
  (case dcx0=>kernel_rfl)
  (case ftx0=>k_is)
  (case fpx0=>k_is)
  (case ex0=>k_exc)
  (case gax0=>k_is)
  (case gtx0=>k_is)
  (case clx0=>k_is)
  (case obx0=>k_is)
  (case bex0=>k_is)
  (case svx0=>k_is)
  (case nx1=>k_is)
  (case dcx1=>kernel_rfl)
  (case ftx1=>k_is)
  (case fpx1=>k_is)
  (case ex1=>k_exc)
  (case gax1=>k_is)
  (case gtx1=>k_is)
  (case clx1=>k_is)
  (case obx1=>k_is)
  (case bex1=>k_is)
  (case svx1=>k_is)
  (case nx2=>k_is)
  (case dcx2=>kernel_rfl)
  (case ftx2=>k_is)
  (case fpx2=>k_is)
  (case fix2=>k_is)
  (case iix2=>(refine' Ov.ini_mk ?l ?c ?k;(case l=>k_is);(case c=>k_is);(case k=>k_is)))
  (case tix2=>k_is)
  (case ex2=>kernel_rfl)
  (case snx2=>k_is)
  (case gax2=>k_is)
  (case gtx2=>k_is)
  (case clx2=>k_is)
  (case obx2=>k_is)
  (case bex2=>k_is)
  (case svx2=>k_is)
  (case nx3=>k_is)
  (case dcx3=>kernel_rfl)
  (case ftx3=>k_is)
  (case fpx3=>k_is)
  (case fix3=>k_is)
  (case iix3=>(refine' Ov.ini_mk ?l ?c ?k;(case l=>k_is);(case c=>k_is);(case k=>k_is)))
  (case tix3=>k_is)
  (case ex3=>kernel_rfl)
  (case snx3=>k_is)
  (case gax3=>k_is)
  (case gtx3=>k_is)
  (case clx3=>k_is)
  (case obx3=>k_is)
  (case bex3=>k_is)
  (case svx3=>k_is)
  (case nx4=>k_is)
  (case dcx4=>kernel_rfl)
  (case ftx4=>k_is)
  (case fpx4=>k_is)
  (case ex4=>k_exc)
  (case gax4=>k_is)
  (case gtx4=>k_is)
  (case clx4=>k_is)
  (case obx4=>k_is)
  (case bex4=>k_is)
  (case svx4=>k_is)
  (case nx5=>k_is)
  (case sax5=>k_is)
  (case sbx5=>k_is)
  (case scx5=>k_is)
  (case dcx5=>kernel_rfl)
  (case ftx5=>k_is)
  (case fpx5=>k_is)
  (case ex5=>k_exc)
  (case gax5=>k_is)
  (case gtx5=>k_is)
  (case clx5=>k_is)
  (case obx5=>k_is)
  (case bex5=>k_is)
  (case svx5=>k_is)
  (case nx6=>k_is)
  (case csx6=>k_is)
  (case tyx6=>k_is)
  (case sux0x2=>k_is)
  (case sux0x3=>k_is)
  (case sux0x5=>k_is)
  (case sux0x4=>k_is)
  (case sux0x6=>k_is)
  (case sux1x2=>k_is)
  (case sux1x3=>k_is)
  (case sux1x5=>k_is)
  (case sux1x4=>k_is)
  (case sux1x6=>k_is)
  (case sux2x2=>k_is)
  (case sux2x3=>k_is)
  (case sux2x5=>k_is)
  (case sux2x4=>k_is)
  (case sux2x6=>k_is)
  (case sux3x2=>k_is)
  (case sux3x3=>k_is)
  (case sux3x5=>k_is)
  (case sux3x4=>k_is)
  (case sux3x6=>k_is)
  (case sux4x2=>k_is)
  (case sux4x3=>k_is)
  (case sux4x5=>k_is)
  (case sux4x4=>k_is)
  (case sux4x6=>k_is)
  (case sux5x2=>k_is)
  (case sux5x3=>k_is)
  (case sux5x5=>k_is)
  (case sux5x4=>k_is)
  (case sux5x6=>k_is)
  (case gn0=>k_is)
  (case z0=>k_is)
  (case z1=>k_is)
  (case z2=>k_is)
  (case z3=>k_is)
  (case z4=>k_is)
  (case z5=>k_is)
  (case z6=>k_is)
  (case z7=>k_is)
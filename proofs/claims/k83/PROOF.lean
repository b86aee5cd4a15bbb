import PyProof.Rows.All
import Wide.All
import OpenK.AllK
import Wide.FinOn
import PyProof.EqAt
import KE.KSortTup
import PyProof.EqKinds
import PyProof.TupleCall
import Lean
import PySem.Challenge.RW_ovalfield_k83_keeping_refused
set_option Elab.async false
set_option linter.all false
set_option maxRecDepth 100000
set_option maxHeartbeats 4000000
open Option renaming some→Aa,none→Af,bind_eq_some_iff→AQ,isSome_iff_exists→Eu,map_some→FM,map→F0,bind_some→Y_3,getD_none→Y_4,isNone_iff_eq_none→Y_5
open Bool renaming true→Ab,false→Ad,and_eq_true→Am,false_ne_true→AG,not_eq_true'→BN,or_eq_true→CB,eq_iff_iff→D8,or_false→EL,false_eq_true→Ho,and_false→Jc,or_true→JP,and_true→Yy
open _root_ renaming List→Ac,Int→Ae,Nat→Ag,Bool→Ak,Option→Ao,if_pos→Az,if_neg→AK,decide_eq_true_eq→AO,of_decide_eq_true→AV,beq_iff_eq→AZ,False→A3,Array→A9,decide_eq_false→BD,or_false→Cc,dif_neg→Cr,decide_eq_true→CS,String→Dy,beq_eq_false_iff_ne→DW,not_or→Ei,if_true→Fe,beq_self_eq_true→Fp,Unit→F9,Decidable→GF,bne_iff_ne→HM,True→Ic,if_false→IC,ne_eq→Mq,beq_false_of_ne→jq
open PySem renaming wpAny_bind→Ah,Value→Ai,Str→Aj,Addr→Al,Expr→An,Shared→Ar,wpAny→Au,wpAny_pure→Av,starEach→Aw,Heap→AB,World→AF,Pos→AL,Program→AS,Stmt→AW,Around→A6,mainGlobals→Bo,wpAny_field→Bp,wpAny_mono→Bu,wpAny_holding→BV,wpAny_seqItems→B4,FuncData→B9,wpAny_setField_rec→Ca,wpAny_callSpecial?_slot→Ch,backTo→Cj,rawInt→Ct,Scope→Cv,wpAny_loadPart_at→Cz,binaryOp→CA,assignEach→CF,cLine→CG,Env→CI,excClassObj→CJ,wpAny_newObj_type→CP,wpAny_call_entry→C1,Obj→C4,mem_of_lookup→C7,cellsFrom→De,Tok→Dj,foldedSetIterable→Do,compareOp→Dq,bootBuiltins→Dv,sizeLine_eq→Dx,swapsWith→DH,CmpOp→DM,wpAny_truthy_bool→DS,wpAny_onRaise→DU,wpAny_standAt→Ee,pyNext→Eh,codeAny_call_builtin→Em,OwnTail→Eo,NameKind→Ey,checkBuiltinCall→Ez,codeAny_builtin→EO,wpAny_Call_Name_kw→EQ,GenState→ET,IsPair→E7,codeAny→E9,ExceptHandler→Ft,wpAny_attempt→Fv,wpAny_newFunctionEnv_cells→Fw,sliceBounds→FA,wpAny_isSubtype_exc→FC,wpAny_execs_nil→FQ,wpAny_passesOwn→FR,Operator→FT,PassesOwn→FU,codeAny_mono→FV,Keyword→F2,wpAny_setField→F4,wpAny_pyIter_list→F8,wpAny_letGo→Gr,swappedStores→Gv,BindsTo→GJ,codeAny_call_function→GK,IsZip→GR,letOwnedTupleGo→GU,wpAny_call→GV,wpAny_rule→GW,wpAny_updateSeq→GX,wpAny_updateSeq_pair→GY,Sem→Hc,recursionLimit→Hd,Model→Hn,noteFrame→Hv,pushCells→Hw,wpAny_pyIter_tuple→Hx,attributeBase→Hy,behindInMarks→Hz,plainId_quiet→HA,swapsWithSole→HB,isInstance→HL,OsState→HN,callerA→HP,ExcBaseFacts→HZ,IsPart→H9,Paired→Ia,wpAny_execs_cons→Ib,Drawn→IG,pushCells_keeps→II,setFlight→IJ,wpAny_specialOf→IK,wpAny_of_eq→IN,Result→Jf,isTrue→Jh,newFunctionEnv→Ji,notedBy→Jj,wpAny_newTuple→Jk,bindArgs→Jl,bindC→Jm,bindL→Jn,builtinsNs→Jo,typeLookup→Jp,Comprehension→JM,callSpecial?→JW,callType_new→JX,codeAny_func→JY,concat_meets→JZ,onTheHeap→J_3,preSum→J_4,seqIndex_neg→J_5,updateSeq→J_6,UnaryOp→Kv,getItem→Kw,standAt→Kx,keywordEach→Kz,seqIndex_of→KA,handleBy→KB,PyData→K9,StoreFacts→Lb,call→Ld,pyIter→Le,sysModules→Lf,wpAny_Name→Lg,Arguments→Mm,IntMulOk→Ms,Params→Mt,backToKw→Mu,builtinLookup_eq_fast→bD,call_sum_walkG→bE,codeAny_of_tree→bF,firstArgMember→bG,isSubtype_stop→bH,noFill_tuple_add→bJ,refuseLoop_ref→bK,slot_list_getitem→bL,typeLookup_type→bM,wpAny_assign_Name→bN,wpAny_comprehension_free→bO,wpAny_isInstance→bP,wpAny_pyIter_enum→bQ,wpAny_pyIter_zip→bR,wpAny_pyNext_list_end→bS,wpAny_pyNext_list_item→bT
open PySem.Heap renaming get?_push_of_some→As,lt_size→AD,get?_push_size→AE,size_push→BG,get?_update_self→BW,get?_update_other→B7,get?_none_of_le→DN,SameBut→Ew,ExtBut→IM,MadeExcOf→Je,get?_push_at→Z_1,get?_push_cases→Z_2,get?_update_ne→Z_4
open List renaming mem_cons→Ax,mem_cons_of_mem→AN,size_toArray→AU,mem_cons_self→AX,not_mem_nil→A1,length_set→Bc,mem_filter→Be,getElem?_eq_some_iff→Bl,mem_singleton→BA,mem_append_right→BJ,length_map→BO,length_cons→BY,lookup_cons→BZ,getElem?_eq_getElem→B8,all_eq_true→Ce,range→Cm,append_nil→CT,map_cons→C3,isEmpty_eq_false_iff→Da,getElem?_set_self→Ds,mem_map→Dt,length_append→DD,mem_range→DE,mem_of_getElem?→DL,getElem?_map→DP,forIn_nil→DX,forIn_cons→D9,getD_eq_getElem?_getD→Eb,getElem?_cons_succ→EE,getElem?_cons_zero→EF,nodup_cons→EN,take_of_length_le→ES,map_map→E2,any_eq_true→Ff,getElem_mem→Fh,drop_eq_getElem_cons→FK,getElem?_append_left→FL,toArray→FS,getElem?_set_self'→F5,lookup→Gk,all_cons→Gs,length_take→Gw,zipIdx_cons→Gz,take_append_drop→GH,getElem?_set_ne→GL,mem_append_left→GM,of_mem_zip→GN,zipIdx_nil→GO,filterMap_cons→G6,getElem_of_mem→G7,map_congr_left→G8,replicate→Hb,contains_cons→Hq,zip_cons_cons→Hr,getElem?_set→HJ,filter_cons→HU,isEmpty_iff→HV,map_nil→HW,map_append→IE,mem_append→IF,any_cons→JL,all_map→YG,contains_eq_mem→YH,drop_eq_nil_of_le→YI,drop_zero→YJ,ext_getElem?→YK,getElem?_append_right→YL,getElem?_of_mem→YM,getElem?_replicate→YN,getElem?_toArray→YO,length_drop→YQ,length_replicate→YR,length_singleton→YS,lookup_cons_self→YT,mem_or_eq_of_mem_set→YU,reverse_cons→YV,set_set→YW
open Nat renaming lt_of_lt_of_le→AH,le_refl→A5,ne_of_lt→Bk,lt_irrefl→Bx,le_trans→Ci,ble→Dr,ne_of_gt→Du,lt_of_le_of_lt→DF,lt_succ_of_lt→DQ,pow_le_pow_right→Ej,le_add_right→Et,le_of_ble_eq_true→E3,le_of_lt→E5,not_lt→FZ,zero_le→Gn,lt_succ_self→GA,ble_eq_true_of_le→GI,zero_add→GP,add_le_add_left→G9,mod_eq_of_lt→HX,le_of_eq→YX,le_succ→YY,lt_trans→YZ,min_eq_left→Y_0,min_self→Y_1,not_lt_zero→Y_2
open Int renaming emod_lt_of_pos→AI,emod_nonneg→AM,emod_eq_of_lt→AT,emod_emod_of_dvd→AY,mul_emod→Bj,zero_emod→Bw,dvd_refl→BH,mul_comm→BP,one_mul→CH,mul_zero→DK,zero_add→Er,mul_one→ER,toNat_natCast→EY,mul_assoc→Fs,zero_mul→HS,le_refl→IL,sub_zero→JQ,mul_pos→Ky,add_emod→YA,add_mul_emod_self_left→YB,mul_nonneg→YC,mul_sub→YD,sub_add_cancel→YE,sub_emod→YF
open PySem.W renaming findIn→AR,mg_of→BU,nsIn→BX,subIn→B6,keepIn→Co,mg_none_of→CD,fnOf→CQ,looks_findIn→CZ,fencedOpening→Dh,mroIn→Di,kitOne→Dl,clsIn→DT,typeIn→DY,codeIn→Ep,openEnds→EU,specialIn→EZ,topFrom→Fx,findCls→FO,readsIn→FP,OpenLaw→Gp,cellsFrom_some→Gq,callWith_K→Ht,codeRec_of→Hu,methodObj→HK,kitAny→Jg,excIn→JO,WalkO→aS,isNs_of_in→aU,kIn_of→aV,kitMeta→aW,looks_subIn→aX,nsOkIn→aY,tail_of_in→aZ
open PySem.Builtin.SmallTypes renaming nextOf→A2,ownedTupleIsFree→A4,ownedTupleHandOut→Dc
open PySem.W.Fast renaming te10274390034422433532→Bf,te14082659384304107361→Bg,te14289696077712309145→Bh,te14364793385576792824→Bi,te1435165496053646825→Bm
open False renaming elim→Bs
open PySem.Str renaming ofString→By,empty→JV
open Option.some renaming inj→BE,injEq→Cy
open Prod renaming ext→BF
open PySem.Value renaming ref→BQ,none→Dk,builtin→Dz,type→F3,bool→Lc,int→Mo,str→Mp,bytes→aO,float→aP
open PySem.NameKind renaming cell→Cf,free→Ed
open PyProof.Rows renaming callWith_type1→Cw,envOfC→E6,AllBare→F1,boot_tuple→F6,boot_isinstance→GQ,IntsAre→Jd,IsTup→Ku,Call_→K8,boot_list→Y_6,boot_zip→Y_7,slicePart_none→Y_8,slot_tuple_getitem→Y_9,subscriptTail_builtinR→Za
open PySem.F renaming slot_zip_next→CC,slot_tuple_iterator_next→Ec,args_zip_next_1→Eg,entry_zip_next→Ev,excBase_ValueError→Fu,plain_extend_loop→FB,attr_ValueError→F7,args_object_init_2→ZM,args_tuple_add_2→ZN,args_tuple_iterator_next_1→ZO,called_zip→ZP,entry_bexc_ga→ZQ,entry_extend_loop→ZR,entry_tuple_add→ZS,entry_tuple_iterator_next→ZT,entry_zip_new→ZU,plain_list_iadd→ZV,plain_tuple_new→ZW,slot_tuple_add→ZX,slot_zip_iter→ZY,typeOf_object_class→ZZ
open Array renaming getElem?_eq_getElem→CN,length_toList→ED,getElem?_eq_some_iff→Fq,getElem?_push→G5,forIn_toList→Yu,size_push→Yv,toArray_toList→Yw,toList→Yx
open PySem.Obj renaming mapSeq→Db,data_mapFields→DG,isFreed_of_fields→E8,mapFields→Gu,cls_mapFields→Z_5
open PySem.Builtin.Tuple renaming tupleExact→Dd
open Ne renaming symm→DR
open PySem.PyData renaming shownAll→Ea,depthAll→IH,hasDictAll→Z_8,showableAll→Z_9
open PySem.Around renaming under_plainId→Ek,under→JS
open PySem.Builtin.Slice renaming slicePlaces→El,sliceAdjust→FN,sliceApplied→Zf
open ForInStep renaming yield→EM
open Classical renaming choose_spec→E1,byContradiction→FJ,choose→Yz
open PySem.Calls renaming evalArgs_plain→Fi,Name_function_global→Zg,callWith_builtin→Zh,spliced_cons→Zi,spliced_nil→Zj
open PySem.Shared renaming heap→Go
open PySem.SeqAt renaming EqAt→GS,RcNeAt→JU,RcAt→La
open PySem.Heap.SameBut renaming update→Ha,refl→Z_0
open PySem.Code renaming quiet_builtin→Hs,isFrame→JT,frames→Zk
open Function renaming comp_def→HI
open Sum renaming inl→HQ,inr→HR
open Nat.succ renaming inj→HY
open List.cons renaming injEq→ID
open PySem.Value.ref renaming inj→JN
open PyProof.Rows.IsTup renaming new→JR
open NeZero renaming ne→Ml
open PySem.Data renaming cell→Mn,seq→Mr
open Eq renaming symm→Nq
open PySem.Builtin.Int renaming intBits→Zb
open PySem.Builtin.List renaming listExtendWith→Zc,listSameRef→Zd
open PySem.Builtin.ObjectAttr renaming storeInDict→Ze
open PySem.EntryCells renaming newEntry→Zl
open PySem.Expr renaming Attribute→Zm,BinOp→Zo,BoolOp→Zq,Call→Zs,Compare→Zu,Constant→Zw,List→Zy,ListComp→ZA,Name→ZC,Slice→ZE,Subscript→ZG,Tuple→ZI,UnaryOp→ZK
open PySem.Expr.Attribute renaming elim→Zn
open PySem.Expr.BinOp renaming elim→Zp
open PySem.Expr.BoolOp renaming elim→Zr
open PySem.Expr.Call renaming elim→Zt
open PySem.Expr.Compare renaming elim→Zv
open PySem.Expr.Constant renaming elim→Zx
open PySem.Expr.List renaming elim→Zz
open PySem.Expr.ListComp renaming elim→ZB
open PySem.Expr.Name renaming elim→ZD
open PySem.Expr.Slice renaming elim→ZF
open PySem.Expr.Subscript renaming elim→ZH
open PySem.Expr.Tuple renaming elim→ZJ
open PySem.Expr.UnaryOp renaming elim→ZL
open PySem.Paired renaming length→Z_6
open PySem.PassesOwn renaming leaving→Z_7
open PySem.SeqAt.EqAt renaming of_refs→aA,same→aC
open PySem.Stmt renaming Assign→aD,Expr→aF,Raise→aJ,Return→aL
open PySem.Stmt.Assign renaming elim→aE
open PySem.Stmt.Expr renaming elim→aG
open PySem.Stmt.For renaming elim→aH
open PySem.Stmt.If renaming elim→aI
open PySem.Stmt.Raise renaming elim→aK
open PySem.Stmt.Return renaming elim→aM
open PySem.W.WData renaming int→aQ
open PySem.W.WShape renaming has→aR
abbrev Fg:=PySem.W.Frag
abbrev Pn:=Ac (PySem.Addr×PySem.Obj)
abbrev Vq:=PySem.Value->PySem.Shared->Prop
set_option genSizeOfSpec false
section
open PySem PySem.W PyProof.Rows
namespace OvC
set_option genInjectivity false in
structure Eleven (P:Prop) where
 (α1 α2 α3 α4 α5 α6 α7 α8 α9 α10 α11:Type)
 (l1 r1:AF->α1)
 (l2 r2:AF->α2)
 (l3 r3:AF->α3)
 (l4 r4:AF->α4)
 (l5 r5:AF->α5)
 (l6 r6:AF->α6)
 (l7 r7:AF->α7)
 (l8 r8:AF->α8)
 (l9 r9:AF->α9)
 (l10 r10:AF->α10)
 (l11 r11:AF->α11)
 X:Prop
 go:(∀ w,l1 w=r1 w)->(∀ w,l2 w=r2 w)->(∀ w,l3 w=r3 w)->(∀ w,l4 w=r4 w)->(∀ w,l5 w=r5 w)->(∀ w,l6 w=r6 w)->(∀ w,l7 w=r7 w)->(∀ w,l8 w=r8 w)->(∀ w,l9 w=r9 w)->(∀ w,l10 w=r10 w)->(∀ w,l11 w=r11 w)->X->P
theorem map_pair{Z α β:Type}{A:Z->α}{B:Z->β}{r:Ao Z}{a:α}{b:β}(h1:F0 A r=Aa a)(h2:F0 B r=Aa b):F0 (λs=>(A s,B s)) r=Aa (a,b):=by
 cases r with
 |none=>cases h1
 |some s=>cases h1;cases h2;rfl
theorem map_take{Z α:Type}{B:Z->Ac α}{r:Ao Z}{v:Ac α}(n:Ag)(h1:F0 (λs=>(B s).take n) r=Aa (v.take n))(h2:F0 (λs=>(B s).drop n) r=Aa (v.drop n)):F0 B r=Aa v:=by
 cases r with
 |none=>cases h1
 |some s=>
  have e1:(B s).take n=v.take n:=by injection h1
  have e2:(B s).drop n=v.drop n:=by injection h2
  show Aa (B s)=Aa v;rw[<-GH n (B s),<-GH n v,e1,e2]
end OvC
namespace OvC
noncomputable def tp83(i:Ag):AW:=PySem.Challenge.pw_ovalfield_k83_keeping_refused.main.body.getD i (.Pass ⟨0,0,0,0⟩)
end OvC
noncomputable def OvC.view83:PySem.Program:={ PySem.Challenge.pw_ovalfield_k83_keeping_refused with main:={PySem.Challenge.pw_ovalfield_k83_keeping_refused.main with body:=[OvC.tp83 1,OvC.tp83 2,OvC.tp83 3,OvC.tp83 4,OvC.tp83 5,OvC.tp83 6,OvC.tp83 7,OvC.tp83 8,OvC.tp83 9,OvC.tp83 11,OvC.tp83 12,OvC.tp83 14,OvC.tp83 15,OvC.tp83 17,OvC.tp83 18,OvC.tp83 19,OvC.tp83 20,OvC.tp83 21,OvC.tp83 23,OvC.tp83 24,OvC.tp83 25,OvC.tp83 26,OvC.tp83 27,OvC.tp83 28,OvC.tp83 29,OvC.tp83 31,OvC.tp83 32,OvC.tp83 33,OvC.tp83 34,OvC.tp83 36,OvC.tp83 37,OvC.tp83 38,OvC.tp83 40,OvC.tp83 41,OvC.tp83 42,OvC.tp83 44,OvC.tp83 45,OvC.tp83 46,OvC.tp83 47,OvC.tp83 48,OvC.tp83 49,OvC.tp83 51,OvC.tp83 52,OvC.tp83 53,OvC.tp83 54,OvC.tp83 55,OvC.tp83 56,OvC.tp83 57,OvC.tp83 58,OvC.tp83 59,OvC.tp83 60,OvC.tp83 61,OvC.tp83 62,OvC.tp83 63,OvC.tp83 64,OvC.tp83 65,OvC.tp83 66,OvC.tp83 67,OvC.tp83 68,OvC.tp83 69,OvC.tp83 70,OvC.tp83 71]} }
set_option hygiene false
local macro_rules | `(tactic| o_head $H)=>`(tactic| refine holds_open (q:=OvC.view83) (loose:=[]) (Xt:=fun s=>xlAt OvC.view83 [] s&&recOk (RowW.records (OpenRow.toRowW (PySem.Challenge.rw_ovalfield_k83_keeping_refused.row))) s) (XP:=XL OvC.view83 []) (Yf:=Hook.obs $H) (Ya:=Hook.val $H) (YP:=Hook.says $H) (N:=7460) ?hl (Hook.of $H) (Hook.keeps $H) (fun s e=>xl_of s (Bool.and_eq_true_iff.mp e).1) XL.keeps (by rfl) (by rfl) (by rfl) (fun s e=>recFacts_of (Bool.and_eq_true_iff.mp e).2) (by rfl) (by first|assumption|decide +kernel) (by decide +kernel) ⟨rfl,rfl,rfl,rfl,rfl,by decide +kernel⟩ ?hw ?hc)
set_option maxRecDepth 100000 in
set_option maxHeartbeats 0 in
noncomputable def OvC.hold83:OvC.Eleven PySem.Challenge.rw_ovalfield_k83_keeping_refused.Holds:=by
 refine' ⟨_,_,_,_,_,_,_,_,_,_,_,_,_,_,_,_,_,_,_,_,_,_,_,_,_,_,_,_,_,_,_,_,_,_,λg1 g2 g3 g4 g5 g6 g7 g8 g9 g10 g11 x=>_⟩
 rotate_right
 w_on;refine holds_law (by decide+kernel) λsaid=>?_;k_head
 (case hl=>intro w;refine OvC.map_pair ?p1 (OvC.map_take 100 ?p2 ?p3);(case p1=>rw[PySem.W.Fast.te4187177175401517315];unfold PySem.W.Fast.tw4187177175401517315 openGood;refine OvC.map_pair ?q1 (OvC.map_pair ?q2 (OvC.map_pair ?q3 (OvC.map_pair ?q4 (OvC.map_pair ?q5 (OvC.map_pair ?q6 (OvC.map_pair ?q7 (OvC.map_pair ?q8 ?q9)))))));(case q1=>unfold EU Dh Fx;rw[Bf,Bi,Bm,Bh,Bg];exact g1 w);(case q2=>unfold EU Dh Fx;rw[Bf,Bi,Bm,Bh,Bg];exact g2 w);(case q3=>unfold EU Dh Fx;rw[Bf,Bi,Bm,Bh,Bg];exact g3 w);(case q4=>unfold EU Dh Fx;rw[Bf,Bi,Bm,Bh,Bg];exact g4 w);(case q5=>unfold EU Dh Fx;rw[Bf,Bi,Bm,Bh,Bg];exact g5 w);(case q6=>unfold EU Dh Fx;rw[Bf,Bi,Bm,Bh,Bg];exact g6 w);(case q7=>unfold EU Dh Fx;rw[Bf,Bi,Bm,Bh,Bg];exact g7 w);(case q8=>unfold EU Dh Fx;rw[Bf,Bi,Bm,Bh,Bg];exact g8 w);(case q9=>unfold EU Dh Fx;rw[Bf,Bi,Bm,Bh,Bg];exact g9 w);skip);(case p2=>unfold EU Dh Fx;rw[Bf,Bi,Bm,Bh,Bg];exact g10 w);(case p3=>unfold EU Dh Fx;rw[Bf,Bi,Bm,Bh,Bg];exact g11 w))
 (case hw=>w_witness2)
 k_fill
 revert said
 exact x
theorem OvC.reck83_1(w:AF):OvC.hold83.l1 w=OvC.hold83.r1 w:=by kernel_rfl
theorem OvC.reck83_2(w:AF):OvC.hold83.l2 w=OvC.hold83.r2 w:=by kernel_rfl
theorem OvC.reck83_3(w:AF):OvC.hold83.l3 w=OvC.hold83.r3 w:=by kernel_rfl
theorem OvC.reck83_4(w:AF):OvC.hold83.l4 w=OvC.hold83.r4 w:=by kernel_rfl
theorem OvC.reck83_5(w:AF):OvC.hold83.l5 w=OvC.hold83.r5 w:=by kernel_rfl
theorem OvC.reck83_6(w:AF):OvC.hold83.l6 w=OvC.hold83.r6 w:=by kernel_rfl
theorem OvC.reck83_7(w:AF):OvC.hold83.l7 w=OvC.hold83.r7 w:=by kernel_rfl
theorem OvC.reck83_8(w:AF):OvC.hold83.l8 w=OvC.hold83.r8 w:=by kernel_rfl
theorem OvC.reck83_9(w:AF):OvC.hold83.l9 w=OvC.hold83.r9 w:=by kernel_rfl
theorem OvC.reck83_10(w:AF):OvC.hold83.l10 w=OvC.hold83.r10 w:=by kernel_rfl
theorem OvC.reck83_11(w:AF):OvC.hold83.l11 w=OvC.hold83.r11 w:=by kernel_rfl
end
-- CHANGE: your row's module here,as the last of these rows
namespace L2
open PySem PySem.Spec PyProof.Rows
abbrev Key:=Sum Ae Aj
noncomputable def Ye:Key->Ai->Ak
 |.inl k,v=>Value.isInt k v
 |.inr x,v=>Value.isStrOf x v
noncomputable def cS(w:AF):Key->Ae
 |.inl k=>hashInt k
 |.inr x=>hashStr w x
theorem Jq:∀{k:Key}{v:Ai},Ye k v=Ab->(∃ i t,k=HQ i/\v=Mo i t)\/(∃ x t,k=HR x/\v=Mp x t)
 |.inl i,v,h=>by
  obtain⟨t,e⟩:=Value.isInt_shape (k:=i) (v:=v) h;exact .inl ⟨i,t,rfl,e⟩
 |.inr x,v,h=>by
  obtain⟨t,e⟩:=Value.isStrOf_shape (x:=x) (v:=v) h;exact .inr ⟨x,t,rfl,e⟩
theorem zH(a b:Ae):decide ((HQ a:Key)=HQ b)=(a==b):=by
 by_cases e:a=b
 .subst e;simp
 .have h:¬ (HQ a:Key)=HQ b:=λq=>e (Sum.inl.inj q)
  rw[BD h];exact(DW.mpr e).symm
theorem zE(a b:Aj):decide ((HR a:Key)=HR b)=decide (a=b):=by
 by_cases e:a=b
 .subst e;simp
 .have h:¬ (HR a:Key)=HR b:=λq=>e (Sum.inr.inj q)
  rw[BD h,BD e]
theorem zG(a:Ae)(b:Aj):decide ((HQ a:Key)=HR b)=Ad:=BD (λq=>nomatch q)
theorem zF(a:Aj)(b:Ae):decide ((HR a:Key)=HQ b)=Ad:=BD (λq=>nomatch q)
noncomputable def QL(prog:AS)(w:AF):PySem.KeyKind prog w Key where
 is:=Ye
 hash:=cS w
 inj:=λv a b ha hb=>by
  rcases Jq ha with ⟨i,t,rfl,rfl⟩|⟨x,t,rfl,rfl⟩
  .rcases Jq hb with ⟨j,u,rfl,e⟩|⟨y,u,rfl,e⟩
   .injection e with e1 _;rw[e1]
   .exact nomatch e
  .rcases Jq hb with ⟨j,u,rfl,e⟩|⟨y,u,rfl,e⟩
   .exact nomatch e
   .injection e with e1 _;rw[e1]
 byValue:=λk v h=>by
  rcases Jq h with ⟨i,t,rfl,rfl⟩|⟨x,t,rfl,rfl⟩<;>rfl
 pyHash:=λhv h=>by
  rcases Jq hv with ⟨i,t,rfl,rfl⟩|⟨x,t,rfl,rfl⟩
  .exact wpAny_pyHash_int h
  .exact wpAny_pyHash_str h
 eqBool:=λhu hv h=>by
  rcases Jq hu with ⟨i,t,rfl,rfl⟩|⟨x,t,rfl,rfl⟩
  .rcases Jq hv with ⟨j,u,rfl,rfl⟩|⟨y,u,rfl,rfl⟩
   .rw[zH]at h;exact wpAny_eqBool_int h
   .rw[zG]at h;exact SeqAt.EqAt.int_str i t y u _ _ _ _ h
  .rcases Jq hv with ⟨j,u,rfl,rfl⟩|⟨y,u,rfl,rfl⟩
   .rw[zF]at h;exact SeqAt.EqAt.str_int x t j u _ _ _ _ h
   .rw[zE]at h;exact wpAny_eqBool_str h
 «strs»:=λk x t v h=>by
  rcases Jq h with ⟨i,u,rfl,e⟩|⟨y,u,rfl,e⟩
  .exact nomatch e
  .injection e with e1 _
   subst e1;cases v<;>rfl
end L2
namespace L2
open PySem PySem.Spec PyProof.Rows
variable{us:Ac Ai}{a b it:Al}{P:AS}{h:AB}{o:C4}{g':A9 ET}{t' i k n:Ag}{d':IG}{ch fp:Ac Al}{x qual:Aj}{M:Hn}{u:Ai}{Q:F9->Ar->Prop}{e tg:An}{s:Ar}{pos p:AL}{pI:Pn}{es:Ac An}{body:Ac AW}{f:Ai->Ai->Hc Ai}{g:Ae->Ae->Ae}{op:DM}{kw:Ac (Aj×Ai)}{fd:B9}{ps:Ac Aj}{scope:Cv}
inductive V where
 |non|bl (b:Ak)|int (i:Ae)|str (x:Aj)|byt (b:A9 UInt8)|flt (b:UInt64)|ref (a:Al)|ty (n:Dy)
 deriving DecidableEq
variable{xs vs:Ac V}{v:V}
def BS:V->Ai->Prop
 |.non,u=>u=Dk
 |.bl b,u=>u=Lc b
 |.int i,u=>∃ t,u=Mo i t
 |.str x,u=>∃ t,u=Mp x t
 |.byt b,u=>∃ t,u=aO b t
 |.flt b,u=>∃ t,u=aP b t
 |.ref a,u=>u=BQ a
 |.ty n,u=>u=F3 n
noncomputable abbrev Bq:Ac V->Ac Ai->Prop:=Ia BS
theorem Bq.length(r:Bq xs us):xs.length=us.length:=Z_6 r
theorem Bq.get:∀{xs:Ac V}{us:Ac Ai}{i:Ag}{x:V},Bq xs us->xs[i]?=Aa x->∃ u,us[i]?=Aa u/\BS x u
 |_,_,_,_,.nil,e=>by simp at e
 |_,_,0,_,.cons r _,e=>by simp at e;subst e;exact⟨_,rfl,r⟩
 |_,_,i+1,x,.cons _ t,e=>by
  obtain⟨u,h1,h2⟩:=Bq.get (i:=i) (x:=x) t (by simpa using e)
  exact⟨u,by simpa using h1,h2⟩
theorem Bq.set{x:V}{u:Ai}(r:BS x u):∀{xs:Ac V}{us:Ac Ai}(i:Ag),Bq xs us->Bq (xs.set i x) (us.set i u)
 |_,_,_,.nil=>.nil
 |_,_,0,.cons _ t=>.cons r t
 |_,_,i+1,.cons q t=>.cons q (Bq.set r i t)
theorem Bq.append:∀{xs ys:Ac V}{us ws:Ac Ai},Bq xs us->Bq ys ws->Bq (xs++ys) (us++ws)
 |_,_,_,_,.nil,s=>s
 |_,_,_,_,.cons r t,s=>.cons r (Bq.append t s)
theorem Bq.take:∀{xs:Ac V}{us:Ac Ai}(n:Ag),Bq xs us->Bq (xs.take n) (us.take n)
 |_,_,0,_=>.nil
 |_,_,_+1,.nil=>.nil
 |_,_,n+1,.cons r t=>.cons r (Bq.take n t)
theorem Bq.drop:∀{xs:Ac V}{us:Ac Ai}(n:Ag),Bq xs us->Bq (xs.drop n) (us.drop n)
 |_,_,0,r=>r
 |_,_,_+1,.nil=>.nil
 |_,_,n+1,.cons _ t=>Bq.drop n t
def Nn:Ao V->Ao Ai->Prop
 |some v,Aa u=>BS v u
 |none,Af=>Ic
 |_,_=>A3
def KV{κ:Type}:Ac (κ×V)->Ac (κ×Ai)->Prop:=Ia fun(p:κ×V)(q:κ×Ai)=>p.1=q.1/\BS p.2 q.2
noncomputable def kV:Key->V
 |.inl i=>.int i
 |.inr x=>.str x
inductive HO where
 /-- a list -/
 |lst (xs:Ac V)
 /-- a tuple (never changes) -/
 |tup (xs:Ac V)
 /-- a dict whose keys are ints and texts;one whose keys are tuples of ints and texts (the empty one is both) -/
 |dK (kvs:Ac (Key×V))|dT (kvs:Ac (Ac Key×V))
 /-- a set of ints: its members,its size -/
 |set (S:Ae->Ak) (n:Ag)
 /-- an instance of the class at C,its dict at dx,its attributes -/
 |ins (C dx:Al) (fs:Ac (Aj×V))
 /-- the dict of the instance at x -/
 |own (x:Al)
 /-- the dict of an exception -/
 |xd (fs:Ac (Aj×V))
 /-- a bound method,f of x -/
 |met (f x:Al)
 /-- a range object lo,lo+1,.. below hi -/
 |rng (lo hi:Ae)
 /-- a thing that is known to the object (the script;a dict while a loop walks it): read,never written while it is so -/
 |frz (o:C4) (u:HO)
 /-- a code object's table -/
 |tbl (ps:A9 Ai)
 /-- any other thing,by what is Ab of its one object (a def of one's own: SetO a S n:=HO.ext fun h=>..) -/
 |ext (φ:AB->Prop)
abbrev Hp:=Al->Ao HO
variable{H:Hp}
noncomputable def upd(H:Hp)(a:Al)(o:HO):Hp:=λb=>if b=a then Aa o else H b
theorem FW{o:HO}:upd H a o a=Aa o:=by unfold upd;rw[Az rfl]
theorem BR{o:HO}(h:b≠a):upd H a o b=H b:=by unfold upd;rw[AK h]
theorem VU{o u:HO}:upd (upd H a o) a u=upd H a u:=by
 funext b;unfold upd;split<;>rfl
theorem Gb{o:HO}(h:H a=Aa o)(h':H b=Af):a≠b:=by
 intro e;subst e;rw[h]at h';cases h'
section
variable(P:AS)(w:AF)
def ObjOk(H:Hp)(h:AB)(a:Al):HO->Prop
  |.lst xs=>xs.length<=sizeLine/\∃(its:Ac Ai)(n:Ag),Bq xs its/\h.get? a=Aa { cls:=.type "list",data:=.seq its.toArray n }
  |.tup xs=>xs.length<=sizeLine/\∃ its:Ac Ai,Bq xs its/\Ku h a its.toArray
  |.dK kvs=>kvs.length<=sizeLine/\(a==Lf)=Ad/\∃ vs,KV kvs vs/\h.DictOf (QL P w) a vs
  |.dT kvs=>kvs.length<=sizeLine/\(a==Lf)=Ad/\∃ xs:Ac (Ac Key×Al×Ai),
      Ia (fun(p:Ac Key×V)(q:Ac Key×Al×Ai)=>p.1=q.1/\H q.2.1=Aa (.tup (p.1.map kV))/\BS p.2 q.2.2) kvs xs /\
      ∃ o es ep,h.get? a=Aa o/\o.ExactDict/\o.data=.dict es ep/\es.toList=xs.map (entryOfKey (tupleKind (QL P w)))/\(xs.map (·.1)).Nodup
  |.set S n=>h.SetOf (intKind P w) a S n
  |.ins C dx fs=>H dx=Aa (.own a)/\fs.length<=1000/\dx≠a/\h.get? a=Aa (PySem.W.instObj C dx) /\
      ∃ mA,h.Ns1 dx mA/\(∀ f,Nn (fs.lookup f) (mA f))/\PySem.Within mA (fs.map (·.1))
  |.own _=>∃ o,h.get? a=Aa o
  |.xd fs=>∃ mA,h.Ns1 a mA/\∀ f,Nn (fs.lookup f) (mA f)
  |.rng lo hi=>∃ t u v,h.get? a=Aa { cls:=.type "range",data:=.fields #[.int lo t,.int hi u,.int 1 v] }
  |.frz o u=>h.get? a=Aa o/\ObjOk H h a u
  |.tbl ps=>h.get? a=Aa {cls:=.none,data:=.fields ps}
  |.met f x=>h.get? a=Aa (HK (.ref f) (.ref x))
  |.ext φ=>φ h/\(∃ o,h.get? a=Aa o)/\∀ h1 h2:AB,φ h1->(∀ o,h1.get? a=Aa o->h2.get? a=Aa o)->φ h2
def HOk(H:Hp)(h:AB):Prop:=∀ a o,H a=Aa o->ObjOk P w H h a o
end
section
variable{P:AS}{w:AF}{H H':Hp}{h h':AB}{a:Al}{o:HO}
theorem ObjOk.lt(x:ObjOk P w H h a o):a<h.objs.size:=by
 cases o with
 |lst xs=>obtain⟨_,_,_,_,e⟩:=x;exact AD e
 |tup xs=>obtain⟨_,_,_,p⟩:=x;exact p.lt
 |dK kvs=>obtain⟨_,_,_,_,o,_,_,e,_⟩:=x;exact AD e
 |dT kvs=>obtain⟨_,_,_,_,o,_,_,e,_⟩:=x;exact AD e
 |set S n=>obtain⟨o,_,_,_,e,_⟩:=x;exact AD e
 |ins C dx fs=>obtain⟨_,_,_,e,_⟩:=x;exact AD e
 |own y=>obtain⟨_,e⟩:=x;exact AD e
 |xd fs=>obtain⟨_,⟨_,_,_,e,_⟩,_⟩:=x;exact AD e
 |rng lo hi=>obtain⟨_,_,_,e⟩:=x;exact AD e
 |frz ob u=>obtain⟨e,_⟩:=x;exact AD e
 |tbl ps=>exact AD (show h.get? a=Aa _ from x)
 |met f y=>exact AD (show h.get? a=Aa _ from x)
 |ext φ=>obtain⟨_,⟨_,e⟩,_⟩:=x;exact AD e
theorem Ia.mapP{α β:Type}{F G:α->β->Prop}:∀{l₁:Ac α}{l₂:Ac β},Ia F l₁ l₂->(∀ a b,F a b->G a b)->Ia G l₁ l₂
 |_,_,.nil,_=>.nil
 |_,_,.cons r t,f=>.cons (f _ _ r) (Ia.mapP t f)
theorem ObjOk.stay(x:ObjOk P w H h a o)(k:∀ b u,(b=a\/H b=Aa (.own a))->h.get? b=Aa u->h'.get? b=Aa u)(ho:∀ b,H b=Aa (.own a)->H' b=Aa (.own a))(ht:∀ b xs,H b=Aa (.tup xs)->H' b=Aa (.tup xs)):ObjOk P w H' h' a o:=by
 induction o with
 |lst xs=>obtain⟨z,its,n,r,e⟩:=x;exact⟨z,its,n,r,k _ _ (.inl rfl) e⟩
 |tup xs=>obtain⟨z,its,r,ob,e,c⟩:=x;exact⟨z,its,r,ob,k _ _ (.inl rfl) e,c⟩
 |dK kvs=>obtain⟨z,y,vs,r,ob,es,ep,e,c⟩:=x;exact⟨z,y,vs,r,ob,es,ep,k _ _ (.inl rfl) e,c⟩
 |dT kvs=>
  obtain⟨z,y,xs,r,ob,es,ep,e,c⟩:=x;exact⟨z,y,xs,Ia.mapP r λp q z=>⟨z.1,ht _ _ z.2.1,z.2.2⟩,ob,es,ep,k _ _ (.inl rfl) e,c⟩
 |set S n=>obtain⟨ob,es,ep,t,e,c⟩:=x;exact⟨ob,es,ep,t,k _ _ (.inl rfl) e,c⟩
 |ins C dx fs=>
  obtain⟨d,z,ne,e,mA,⟨od,es,ep,e2,c⟩,r⟩:=x;exact⟨ho _ d,z,ne,k _ _ (.inl rfl) e,mA,⟨od,es,ep,k _ _ (.inr d) e2,c⟩,r⟩
 |own y=>obtain⟨ob,e⟩:=x;exact⟨ob,k _ _ (.inl rfl) e⟩
 |xd fs=>obtain⟨mA,⟨od,es,ep,e,c⟩,r⟩:=x;exact⟨mA,⟨od,es,ep,k _ _ (.inl rfl) e,c⟩,r⟩
 |rng lo hi=>obtain⟨t,u,v,e⟩:=x;exact⟨t,u,v,k _ _ (.inl rfl) e⟩
 |frz ob u ih=>obtain⟨e,q⟩:=x;exact⟨k _ _ (.inl rfl) e,ih q⟩
 |tbl ps=>
  have e:h.get? a=Aa {cls:=.none,data:=.fields ps}:=x;show h'.get? a=Aa {cls:=.none,data:=.fields ps};exact k a _ (.inl rfl) e
 |met f y=>
  have e:h.get? a=Aa (HK (.ref f) (.ref y)):=x;show h'.get? a=Aa (HK (.ref f) (.ref y));exact k a _ (.inl rfl) e
 |ext φ=>obtain⟨p,⟨o,e⟩,st⟩:=x;exact⟨st _ _ p λo q=>k _ _ (.inl rfl) q,⟨o,k _ _ (.inl rfl) e⟩,st⟩
theorem HOk.lt(x:HOk P w H h)(e:H a=Aa o):a<h.objs.size:=(x a o e).lt
theorem HOk.fresh(x:HOk P w H h)(e:h.objs.size<=a):H a=Af:=by
 cases q:H a with
 |none=>rfl
 |some u=>exact absurd (AH (x.lt q) e) (Bx _)
theorem HOk.kept(x:HOk P w H h)(k:∀ b u,h.get? b=Aa u->h'.get? b=Aa u):HOk P w H h':=λa o e=>
 (x a o e).stay (λb u _ q=>k b u q) (λ_ q=>q) λ_ _ q=>q
theorem HOk.laid(x:HOk P w H h)(k:∀ b u,h.get? b=Aa u->h'.get? b=Aa u)(hp:h.objs.size<=a)(new:ObjOk P w (upd H a o) h' a o):HOk P w (upd H a o) h':=λb u e=>by
 have hn:=x.fresh hp;by_cases hb:b=a
 .subst hb;rw[FW]at e;cases e;exact new
 .rw[BR hb]at e;exact(x b u e).stay (λc v _ q=>k c v q) (λc q=>by rw[BR (Gb q hn)];exact q) λc xs q=>by rw[BR (Gb q hn)];exact q
end
def Rd(H:Hp)(a:Al)(u:HO):Prop:=H a=Aa u\/∃ o,H a=Aa (.frz o u)
theorem Rd.ok{w:AF}{u:HO}(r:Rd H a u)(x:HOk P w H h):ObjOk P w H h a u:=by
 rcases r with r|⟨o,r⟩
 .exact x a u r
 .obtain⟨_,q⟩:=x a _ r;exact q
def Mut:Ao HO->Prop
 |some (.lst _)=>Ic
 |some (.dK _)=>Ic
 |some (.dT _)=>Ic
 |some (.set _ _)=>Ic
 |some (.ins _ _ _)=>Ic
 |some (.ext _)=>Ic
 |_=>A3
section
variable{P:AS}{w:AF}{H:Hp}{h h':AB}{x e:Al}{o':HO}
theorem HOk.write(ok:HOk P w H h)(mu:Mut (H x))(he:e=x\/H e=Aa (.own x))(k:∀ b u,b≠e->h.get? b=Aa u->h'.get? b=Aa u)(heo:∃ u,h'.get? e=Aa u)(new:ObjOk P w (upd H x o') h' x o'):HOk P w (upd H x o') h':=λb u q=>by
 have nown:∀ c y,H c=Aa (.own y)->c≠x:=λc y r z=>by subst z;rw[r]at mu;exact mu
 have ntup:∀ c xs,H c=Aa (.tup xs)->c≠x:=λc xs r z=>by subst z;rw[r]at mu;exact mu
 by_cases hb:b=x
 .subst hb;rw[FW]at q;cases q;exact new
 .rw[BR hb]at q;by_cases hbe:b=e
  .have q':H b=Aa (.own x):=by
    rcases he with z|z
    .exact absurd (hbe.trans z) hb
    .rw[hbe];exact z
   rw[q]at q';cases q';obtain⟨v,hv⟩:=heo;exact⟨v,by rw[hbe];exact hv⟩
  .refine(ok b u q).stay (λc v hc r=>k c v ?_ r) (λc r=>by rw[BR (nown c b r)];exact r) λc xs r=>by rw[BR (ntup c xs r)];exact r
   rcases hc with rfl|hc
   .exact hbe
   .rintro rfl;rcases he with z|z
    .exact nown c b hc z
    .rw[hc]at z;cases z;exact hb rfl
end
structure Un (fs ex:Ac Al) (H H':Hp) (h h':AB):Prop where
 keep:∀ b o,h.get? b=Aa o->H b=Af->b∉fs->b∉ex->h'.get? b=Aa o
 slot:∀ b o,h.get? b=Aa o->H b=Af->b∈fs->b∉ex->∃ sl,h'.get? b=Aa {o with slots:=sl}
 free:∀ b o,h.get? b=Aa o->H b=Af->b∉ex->H' b=Af
 there:∀ b o,h.get? b=Aa o->b∉ex->∃ o',h'.get? b=Aa o'
 tups:∀ b xs,H b=Aa (.tup xs)->H' b=Aa (.tup xs)
 frzs:∀ b o u,H b=Aa (.frz o u)->H' b=Aa (.frz o u)
 tbls:∀ b ps,H b=Aa (.tbl ps)->∃ more,H' b=Aa (.tbl (ps++more))
section
variable{fs fs' ex ex':Ac Al}{H H1 H2:Hp}{h h1 h2 h':AB}{a x e:Al}{o:HO}
theorem Un.any(u:Un fs ex H H1 h h1){ob:C4}(q:h.get? b=Aa ob)(n:H b=Af)(hx:b∉ex):∃ sl,h1.get? b=Aa {ob with slots:=sl}:=by
 by_cases hb:b∈fs
 .exact u.slot b ob q n hb hx
 .exact⟨ob.slots,u.keep b ob q n hb hx⟩
theorem Un.kept(k:∀ b u,h.get? b=Aa u->h'.get? b=Aa u):Un fs ex H H h h':=
 ⟨λb ob q _ _ _=>k b ob q,λb ob q _ _ _=>⟨ob.slots,k b ob q⟩,λ_ _ _ n _=>n,λb ob q _=>⟨ob,k b ob q⟩,λ_ _ q=>q,λ_ _ _ q=>q,λ_ ps q=>⟨#[],by rw[q];simp⟩⟩
theorem Un.refl:Un fs ex H H h h:=Un.kept λ_ _ q=>q
theorem Un.laid(k:∀ b u,h.get? b=Aa u->h'.get? b=Aa u)(hp:h.objs.size<=a)(hn:H a=Af):Un fs ex H (upd H a o) h h' where
 keep:=λb u q _ _ _=>k b u q
 slot:=λb u q _ _ _=>⟨u.slots,k b u q⟩
 free:=λb u q n _=>by rw[BR (Bk (AH (AD q) hp))];exact n
 there:=λb u q _=>⟨u,k b u q⟩
 tups:=λb xs q=>by rw[BR (Gb q hn)];exact q
 frzs:=λb u xs q=>by rw[BR (Gb q hn)];exact q
 tbls:=λb ps q=>⟨#[],by rw[BR (Gb q hn),q];simp⟩
theorem Un.write(mu:Mut (H x))(he:e=x\/H e=Aa (.own x))(k:∀ b u,b≠e->h.get? b=Aa u->h'.get? b=Aa u)(heo:∃ u,h'.get? e=Aa u):Un fs ex H (upd H x o) h h':=by
 have hx:∀ b,H b=Af->b≠x:=λb n z=>by subst z;rw[n]at mu;exact mu
 have hb:∀ b,H b=Af->b≠e:=λb n z=>by
  subst z;rcases he with r|r
  .exact hx b n r
  .rw[n]at r;cases r
 have hm:∀ b u,H b=Aa u->¬ Mut (Aa u)->b≠x:=λb u q nm z=>by subst z;rw[q]at mu;exact nm mu
 refine⟨λb u q n _ _=>k b u (hb b n) q,λb u q n _ _=>⟨u.slots,k b u (hb b n) q⟩,λb u q n _=>by rw[BR (hx b n)];exact n,λb u q _=>?_,
  λb xs q=>by rw[BR (hm b _ q λz=>z)];exact q,λb u xs q=>by rw[BR (hm b _ q λz=>z)];exact q,λb ps q=>⟨#[],by rw[BR (hm b _ q λz=>z),q];simp⟩⟩
 by_cases hbe:b=e
 .subst hbe;exact heo
 .exact⟨u,k b u hbe q⟩
end
noncomputable def trk(h:AB)(H:Hp):Ac Al:=(Cm h.objs.size).filter λa=>(H a).isSome
noncomputable def JE(h:AB)(H:Hp):AB:=PySem.W.hideAll h (trk h H)
theorem iF(h:AB)(H:Hp):(JE h H).objs.size=h.objs.size:=PySem.W.hideAll_size _ _
theorem jT(e:h.get? b=Aa o)(n:H b=Af):(JE h H).get? b=Aa o:=
 PySem.W.hideAll_get _ e λhm=>by
  have q:(H b).isSome=Ab:=(Be.mp hm).2;rw[n]at q;simp at q
theorem sG(e:(JE h H).get? b=Aa o):h.get? b=Aa o/\H b=Af:=by
 have e':h.get? b=Aa o:=PySem.W.of_hideAll (trk h H) e;refine⟨e',?_⟩;cases q:H b with
 |none=>rfl
 |some x=>
  have hm:b∈trk h H:=Be.mpr ⟨DE.mpr (AD e'),by simp[q]⟩
  have z:(JE h H).get? b=Af:=PySem.W.hideAll_none (trk h H) hm;rw[z]at e;cases e
noncomputable def tE(g h:AB)(L:Al):Pn:=(Cm h.objs.size).filterMap λa=>if a=L\/(g.get? a).isSome=Ab then Af else (h.get? a).map λo=>(a,o)
noncomputable def rest(g h:AB)(L d:Al):Pn:=(tE g h L).filter λp=>decide (p.1≠d)
structure Mod (K:Fg) (mg:Aj->Ao Ai) (base:AB):Prop where
 kin:K.In base
 glob:base.Ns Bo mg
 blt:∃ mb,base.Ns Jo mb/\∀ x:Aj,x≠"__name__"->mb x=Dv x
 nolimit:base.NoLimit
structure Cx where
 prog:AS
 w:AF
 K:Fg
 mg:Aj->Ao Ai
 base:AB
 A:A6
 N:Ac Aj
 s₀:Ar
 H₀:Hp
 env:CI
 outer:Ac CI
 stack:Ac CI
 ex:Ac Al
 fn:Aj->Ak
 calm:Ak
 pn:Pn
 xe:Ai->Ar->Prop
variable{X:Cx}
noncomputable def frs(l:Ac CI):Ac Al:=l.filterMap (·.frame)
noncomputable abbrev Cx.fs(X:Cx):Ac Al:=frs X.outer
def Vis(sc:Cv)(x:Aj):Prop:=sc.names.lookup x=Aa .local\/sc.names.lookup x=Aa .cell\/sc.names.lookup x=Aa .free
def Loc(sc:Cv)(x:Aj):Prop:=sc.names.lookup x=Aa .local\/sc.names.lookup x=Aa .cell
noncomputable def eK(env:CI)(h:AB)(m:Aj->Ao Ai)(x:Aj)(u:Ai):Prop:=
 (env.kindOf x=Aa .local/\m x=Aa u)\/((env.kindOf x=Aa .cell\/env.kindOf x=Aa .free)/\∃ c,env.cells.lookup x=Aa c/\h.IsCell c (Aa u))
structure Cx.Ok (X:Cx):Prop where
 mod:Mod X.K X.mg X.base
 kind:X.env.scope.kind=.function
 glob:X.env.globals=Bo
 blt:X.env.builtins=Jo
 above:X.s₀.heap.objs.size<=X.env.locals
 inj:∀ x y c,X.env.cells.lookup x=Aa c->X.env.cells.lookup y=Aa c->x=y
 has:∀ x,(X.env.kindOf x=Aa .cell\/X.env.kindOf x=Aa .free)->∃ c,X.env.cells.lookup x=Aa c
 cab:∀ x c,X.fn x=Ab->X.env.cells.lookup x=Aa c->X.s₀.heap.objs.size<=c
 hd:X.calm=Ab->X.A.handled=Af
 frames:X.A.frames=Aa X.stack
 stk:X.stack=X.outer\/(X.stack=X.env::X.outer/\X.env.frame=Aa X.env.locals)
 exf:∀ b∈X.ex,b≠X.env.locals/\∀ x c,X.env.cells.lookup x=Aa c->c≠b
 bs:∀ b o,X.base.get? b=Aa o->X.s₀.heap.get? b=Aa o/\X.H₀ b=Af
 bsz:X.base.objs.size<=X.s₀.heap.objs.size
 noex:∀ b o,X.base.get? b=Aa o->b∉X.ex
 exfs:∀ b∈X.ex,b∉X.fs
 funs:X.s₀.heap.FunFrames X.base X.outer
 frf:∀ b∈X.fs,X.H₀ b=Af
structure Inv (X:Cx) (pI:Pn) (Z:Ac (Ao V)) (H:Hp) (s:Ar):Prop where
 ok:X.Ok
 os:s.os=X.s₀.os
 bare:F1 s.gens
 base:Un X.fs X.ex X.H₀ H X.s₀.heap s.heap
 loc:∃ m,s.heap.Ns X.env.locals m/\∀(i:Ag)(x:Aj)(v:V),X.N[i]?=Aa x->Z[i]?=Aa (Aa v)->Vis X.env.scope x->∃ u,BS v u/\eK X.env s.heap m x u
 cell:∀ x c,X.env.cells.lookup x=Aa c->∃ v,s.heap.IsCell c v
 free:H X.env.locals=Af
 freeC:∀ x c,X.env.cells.lookup x=Aa c->H c=Af
 pin:∀ p∈X.pn++pI,s.heap.get? p.1=Aa p.2/\H p.1=Af/\p.1≠X.env.locals/\p.1∉X.fs/\∀ v,p.2.data≠.cell v
 hok:HOk X.prog X.w H s.heap
 len:Z.length=X.N.length
section
variable{X:Cx}{pI:Pn}{Z:Ac (Ao V)}{H H':Hp}{s:Ar}{h':AB}
theorem Cx.Ok.nofr(ok:X.Ok)(e:X.base.get? b=Aa o):b∉X.fs:=λhb=>by
 have:=(ok.funs.mem hb).1;rw[e]at this;cases this
theorem Inv.bs(I:Inv X pI Z H s):∀ b o,X.base.get? b=Aa o->s.heap.get? b=Aa o/\H b=Af:=λb o e=>
 ⟨I.base.keep b o (I.ok.bs b o e).1 (I.ok.bs b o e).2 (I.ok.nofr e) (I.ok.noex b o e),I.base.free b o (I.ok.bs b o e).1 (I.ok.bs b o e).2 (I.ok.noex b o e)⟩
theorem Inv.bk(I:Inv X pI Z H s):∀ b o,X.base.get? b=Aa o->s.heap.get? b=Aa o:=λb o e=>(I.bs b o e).1
theorem Inv.mod(I:Inv X pI Z H s):Mod X.K X.mg X.base:=I.ok.mod
theorem Inv.kIn(I:Inv X pI Z H s):X.K.In s.heap:=I.ok.mod.kin.keeps I.bk
theorem Inv.lt(I:Inv X pI Z H s):X.env.locals<s.heap.objs.size:=let ⟨_,hn,_⟩:=I.loc;hn.lt
theorem Inv.sz(I:Inv X pI Z H s):X.s₀.heap.objs.size<=s.heap.objs.size:=Ci I.ok.above (E5 I.lt)
theorem Inv.nofs(I:Inv X pI Z H s)(h:s.heap.objs.size<=a):a∉X.fs:=λhb=>by
 obtain⟨_,o,ho,_⟩:=I.ok.funs.mem hb;exact absurd (AH (AD ho) (Ci I.sz h)) (Bx _)
theorem Inv.cne(I:Inv X pI Z H s):∀ x c,X.env.cells.lookup x=Aa c->c≠X.env.locals:=λx c e z=>by
 obtain⟨v,o,ho,hd⟩:=I.cell x c e;obtain⟨m,⟨o',es,ep,ho',hd',_⟩,_⟩:=I.loc;rw[z,ho']at ho;cases ho;rw[hd']at hd;cases hd
theorem Inv.funs(I:Inv X pI Z H s):s.heap.FunFrames X.base X.outer:=by
 have all:∀(l:Ac CI),(∀ b∈frs l,b∈X.fs)->X.s₀.heap.FunFrames X.base l->s.heap.FunFrames X.base l:=by
  intro l
  induction l with
  |nil=>intro _ _;trivial
  |cons env r ih=>
   intro hs hl;obtain⟨hk,⟨L,o,hf,hn,ho,hd⟩,hr⟩:=hl;have hL:L∈X.fs:=hs L (by unfold frs;rw[G6,hf];exact AX)
   obtain⟨sl,e⟩:=I.base.slot L o ho (I.ok.frf L hL) hL λz=>I.ok.exfs L z hL
   exact⟨hk,⟨L,_,hf,hn,e,hd⟩,ih (λb hb=>hs b (by unfold frs;rw[G6,hf];exact AN _ hb)) hr⟩
 exact all X.outer (λ_ hb=>hb) I.ok.funs
theorem Inv.stack(I:Inv X pI Z H s):s.heap.FunFrames X.base X.stack:=by
 rcases I.ok.stk with e|⟨e,hf⟩
 .rw[e];exact I.funs
 .rw[e];obtain⟨m,hn,_⟩:=I.loc;refine .cons (by rw[I.ok.kind];decide) hf hn ?_ I.funs
  exact DN (Ci I.ok.bsz I.ok.above)
theorem Inv.stkSub(I:Inv X pI Z H s):∀ b∈frs X.stack,b∈X.env.locals::X.fs:=λb hb=>by
 rcases I.ok.stk with e|⟨e,hf⟩
 .rw[e]at hb;exact AN _ hb
 .rw[e]at hb;unfold frs at hb;rw[G6,hf]at hb;exact hb
theorem Inv.stkFree(I:Inv X pI Z H s):∀ b∈frs X.stack,H b=Af:=λb hb=>by
 rcases Ax.mp (I.stkSub b hb) with e|hb
 .rw[e];exact I.free
 .obtain⟨_,o,ho,_⟩:=I.ok.funs.mem hb;exact I.base.free b o ho (I.ok.frf b hb) λz=>I.ok.exfs b z hb
theorem Inv.step(I:Inv X pI Z H s)(hch:∀ b∈ch,(b∈X.ex\/X.s₀.heap.objs.size<=b)/\b≠X.env.locals/\(∀ x c,X.env.cells.lookup x=Aa c->c≠b)/\∀ p∈X.pn++pI,p.1≠b)(keep:∀ b o,b≠X.env.locals->b∉X.fs->b∉ch->s.heap.get? b=Aa o->H b=Af->h'.get? b=Aa o)(slot:∀ b o,b≠X.env.locals->b∈X.fs->b∉ch->s.heap.get? b=Aa o->H b=Af->∃ sl,h'.get? b=Aa {o with slots:=sl})(free:∀ b o,b∉ch->s.heap.get? b=Aa o->H b=Af->H' b=Af)(there:∀ b o,b∉ch->s.heap.get? b=Aa o->∃ o',h'.get? b=Aa o')(tups:∀ b xs,H b=Aa (.tup xs)->H' b=Aa (.tup xs))(frzs:∀ b o u,H b=Aa (.frz o u)->H' b=Aa (.frz o u))(tbls:∀ b ps,H b=Aa (.tbl ps)->∃ more,H' b=Aa (.tbl (ps++more)))(ns:∀ m,s.heap.Ns X.env.locals m->h'.Ns X.env.locals m)(hok:HOk X.prog X.w H' h')(hg:F1 g'):Inv X pI Z H' {s with heap:=h',gens:=g',drawn:=d',toks:=t'}:=by
 have neL:∀ b o,X.s₀.heap.get? b=Aa o->b≠X.env.locals:=λb o e=>Bk (AH (AD e) I.ok.above)
 have neC:∀ b o,X.s₀.heap.get? b=Aa o->b∉X.ex->b∉ch:=λb o e hx hb=>by
  rcases (hch b hb).1 with z|z
  .exact hx z
  .exact absurd (AH (AD e) z) (Bx _)
 have cellK:∀ x c,X.env.cells.lookup x=Aa c->∀ v,s.heap.IsCell c v->h'.IsCell c v:=λx c e v ⟨o,ho,hd⟩=>by
  have nch:c∉ch:=λz=>(hch c z).2.2.1 x c e rfl
  by_cases hc:c∈X.fs
  .obtain⟨sl,q⟩:=slot c o (I.cne x c e) hc nch ho (I.freeC x c e);exact⟨_,q,hd⟩
  .exact⟨o,keep c o (I.cne x c e) hc nch ho (I.freeC x c e),hd⟩
 refine⟨I.ok,I.os,hg,⟨λb o e n hb hx=>?_,λb o e n hb hx=>?_,λb o e n hx=>?_,λb o e hx=>?_,λb xs e=>tups b xs (I.base.tups b xs e),λb o xs e=>frzs b o xs (I.base.frzs b o xs e),λb ps e=>?_⟩,?_,λx c e=>?_,?_,λx c e=>?_,λp hp=>?_,hok,I.len⟩
 .exact keep b o (neL b o e) hb (neC b o e hx) (I.base.keep b o e n hb hx) (I.base.free b o e n hx)
 .obtain⟨sl,e1⟩:=I.base.slot b o e n hb hx;obtain⟨sl',e2⟩:=slot b _ (neL b o e) hb (neC b o e hx) e1 (I.base.free b o e n hx);exact⟨sl',e2⟩
 .obtain⟨o',e1⟩:=I.base.there b o e hx;exact free b o' (neC b o e hx) e1 (I.base.free b o e n hx)
 .obtain⟨o',e1⟩:=I.base.there b o e hx;exact there b o' (neC b o e hx) e1
 .obtain⟨m1,e1⟩:=I.base.tbls b ps e;obtain⟨m2,e2⟩:=tbls b _ e1;exact⟨m1++m2,by rw[e2,Array.append_assoc]⟩
 .obtain⟨m,hn,hl⟩:=I.loc;refine⟨m,ns m hn,λi x v e1 e2 e3=>?_⟩
  obtain⟨u,r,l⟩:=hl i x v e1 e2 e3;refine⟨u,r,?_⟩;rcases l with l|⟨k,c,e,z⟩
  .exact .inl l
  .exact .inr ⟨k,c,e,cellK x c e _ z⟩
 .obtain⟨v,z⟩:=I.cell x c e;exact⟨v,cellK x c e v z⟩
 .obtain⟨m,⟨o,_,_,ho,_⟩,_⟩:=I.loc;exact free _ o (λz=>(hch _ z).2.1 rfl) ho I.free
 .obtain⟨v,o,ho,hd⟩:=I.cell x c e;exact free c o (λz=>(hch c z).2.2.1 x c e rfl) ho (I.freeC x c e)
 .obtain⟨e,n,ne,nf,d⟩:=I.pin p hp;have nch:p.1∉ch:=λz=>(hch p.1 z).2.2.2 p hp rfl
  exact⟨keep p.1 p.2 ne nf nch e n,free p.1 p.2 nch e n,ne,nf,d⟩
theorem Inv.un(I:Inv X pI Z H s)(u:Un X.fs [] H H' s.heap h')(hok:HOk X.prog X.w H' h'):Inv X pI Z H' {s with heap:=h',toks:=t'}:=by
 obtain⟨m,⟨o,es,ep,ho,r⟩,_⟩:=id I.loc;obtain⟨sl,hL⟩:=u.any ho I.free (by simp)
 exact I.step (g':=s.gens) (d':=s.drawn) (ch:=[]) (λ_ z=>nomatch z) (λb o _ hb _ e n=>u.keep b o e n hb (by simp)) (λb o _ hb _ e n=>u.slot b o e n hb (by simp)) (λb o _ e n=>u.free b o e n (by simp)) (λb o _ e=>u.there b o e (by simp)) u.tups u.frzs u.tbls (λm' hm=>by
  obtain⟨o',es',ep',ho',r'⟩:=hm;rw[ho]at ho';cases ho';exact⟨_,es',ep',hL,r'⟩) hok I.bare
theorem Inv.call(I:Inv X pI Z H s)(u:Un (frs X.stack) ch H H' s.heap h')(hok:HOk X.prog X.w H' h')(hg:F1 g')(hch:∀ b∈ch,(b∈X.ex\/X.s₀.heap.objs.size<=b)/\b≠X.env.locals/\(∀ x c,X.env.cells.lookup x=Aa c->c≠b)/\∀ p∈X.pn++pI,p.1≠b):Inv X pI Z H' {s with heap:=h',gens:=g',drawn:=d',toks:=t'}:=by
 obtain⟨m,⟨o,es,ep,ho,r⟩,_⟩:=id I.loc;obtain⟨sl,hL⟩:=u.any ho I.free λz=>(hch _ z).2.1 rfl
 exact I.step (ch:=ch) hch (λb o hL hb hc e n=>u.keep b o e n (λz=>(Ax.mp (I.stkSub b z)).elim hL hb) hc) (λb o _ _ hc e n=>u.any e n hc) (λb o hc e n=>u.free b o e n hc) (λb o hc e=>u.there b o e hc) u.tups u.frzs u.tbls (λm' hm=>by
  obtain⟨o',es',ep',ho',r'⟩:=hm;rw[ho]at ho';cases ho';exact⟨_,es',ep',hL,r'⟩) hok hg
theorem Inv.turned(I:Inv X pI Z H s)(k:∀ b o,b≠it->s.heap.get? b=Aa o->h'.get? b=Aa o)(hn:H it=Af)(hL:it≠X.env.locals)(h1:it∈X.ex\/X.s₀.heap.objs.size<=it)(h2:∀ x c,X.env.cells.lookup x=Aa c->c≠it)(h3:∀ p∈X.pn++pI,p.1≠it):Inv X pI Z H {s with heap:=h',toks:=t'}:=by
 have nit:∀ b u,H b=Aa u->b≠it:=λb u e z=>by rw[z,hn]at e;cases e
 refine I.step (g':=s.gens) (d':=s.drawn) (ch:=[it]) (λb hb=>?_) (λb o _ _ hc e _=>k b o (λz=>hc (by simp[z])) e) (λb o _ _ hc e _=>⟨o.slots,k b o (λz=>hc (by simp[z])) e⟩) (λ_ _ _ _ n=>n)
  (λb o hc e=>⟨o,k b o (λz=>hc (by simp[z])) e⟩) (λ_ _ e=>e) (λ_ _ _ e=>e) (λb ps e=>⟨#[],by rw[e];simp⟩) (λm hm=>?_) (λb u e=>?_) I.bare
 .have e:b=it:=by simpa using hb
  subst e;exact⟨h1,hL,h2,h3⟩
 .obtain⟨o,es,ep,ho,r⟩:=hm;exact⟨o,es,ep,k _ o (DR hL) ho,r⟩
 .refine(I.hok b u e).stay (λc v hc q=>k c v ?_ q) (λ_ q=>q) λ_ _ q=>q
  rcases hc with z|z
  .rw[z];exact nit b u e
  .exact nit c _ z
theorem Inv.tok(I:Inv X pI Z H s)(t:Ag):Inv X pI Z H {s with toks:=t}:=I.un (h':=s.heap) (t':=t) Un.refl I.hok
theorem Inv.kept{t':Ag}(I:Inv X pI Z H s)(k:∀ b u,s.heap.get? b=Aa u->h'.get? b=Aa u):Inv X pI Z H {s with heap:=h',toks:=t'}:=I.un (Un.kept k) (I.hok.kept k)
theorem Inv.laid{a:Al}{o:HO}{t':Ag}(I:Inv X pI Z H s)(k:∀ b u,s.heap.get? b=Aa u->h'.get? b=Aa u)(hp:s.heap.objs.size<=a)(new:ObjOk X.prog X.w (upd H a o) h' a o):Inv X pI Z (upd H a o) {s with heap:=h',toks:=t'}:=I.un (Un.laid k hp (I.hok.fresh hp)) (I.hok.laid k hp new)
theorem Inv.write{x e:Al}{o:HO}{t':Ag}(I:Inv X pI Z H s)(mu:Mut (H x))(he:e=x\/H e=Aa (.own x))(k:∀ b u,b≠e->s.heap.get? b=Aa u->h'.get? b=Aa u)(heo:∃ u,h'.get? e=Aa u)(new:ObjOk X.prog X.w (upd H x o) h' x o):Inv X pI Z (upd H x o) {s with heap:=h',toks:=t'}:=I.un (Un.write mu he k heo) (I.hok.write mu he k heo new)
theorem Inv.pins_of{pins':Pn}(I:Inv X pI Z H s)(h:∀ p∈pins',s.heap.get? p.1=Aa p.2/\H p.1=Af/\p.1≠X.env.locals/\p.1∉X.fs/\∀ v,p.2.data≠.cell v):Inv X pins' Z H s:=
 ⟨I.ok,I.os,I.bare,I.base,I.loc,I.cell,I.free,I.freeC,λp hp=>(IF.mp hp).elim (λz=>I.pin p (GM _ z)) (h p),I.hok,I.len⟩
theorem Qr{N:Ac Aj}(hN:N.Nodup){j:Ag}(a:N[i]?=Aa x)(b:N[j]?=Aa x):i=j:=by
 obtain⟨h1,e1⟩:=Bl.mp a;obtain⟨h2,e2⟩:=Bl.mp b;exact(List.getElem_inj hN).mp (e1.trans e2.symm)
theorem TV{A:A6}{E:Vq}(I:Inv X pI Z H s)(hN:X.N.Nodup)(hi:X.N[i]?=Aa x)(hx:Loc X.env.scope x)(r:BS v u)(h:∀ s',Inv X pI (Z.set i (Aa v)) H s'->(∃ a,Ew a s.heap s'.heap/\(a=X.env.locals\/X.env.cells.lookup x=Aa a))->Q () s')(hf:X.fn x=Ab\/X.env.scope.names.lookup x=Aa .local:=by first|exact .inl rfl|exact .inr rfl|assumption):Au M A (storeName X.env x u) Q E s:=by
 obtain⟨m,hn,hl⟩:=id I.loc;have hcls:(X.env.scope.kind==.class||(X.env.scope.kind==.module&&X.env.locals != X.env.globals))=Ad:=by rw[I.ok.kind];rfl
 have hiσ:i<Z.length:=by rw[I.len];exact(Bl.mp hi).1
 have cne:=I.cne;have tracked:∀{a:Al}{h':AB},(∃ o,s.heap.get? a=Aa o/\H a=Af)->Ew a s.heap h'->HOk X.prog X.w H h':=λ{a h'} ha hs b ob e=>by
  obtain⟨_,_,hfree⟩:=ha;refine(I.hok b ob e).stay (λc w' hc q=>(hs.2 c ?_).trans q) (λ_ q=>q) λ_ _ q=>q
  rintro rfl;rcases hc with rfl|hc
  .rw[hfree]at e;cases e
  .rw[hfree]at hc;cases hc
 rcases hx with hk|hk
 .refine wpAny_storeName_local hk hn (λh' hn' hs=>?_) hcls
  obtain⟨oL,_,_,hoL,_⟩:=id hn;refine h _ ⟨I.ok,I.os,I.bare,⟨λb o e n hb hx=>?_,λb o e n hb hx=>?_,I.base.free,λb o e hx=>?_,I.base.tups,I.base.frzs,I.base.tbls⟩,⟨_,hn',λj y v' e1 e2 e3=>?_⟩,λy c e=>?_,I.free,I.freeC,λp hp=>?_,tracked ⟨oL,hoL,I.free⟩ hs,by simpa using I.len⟩ ⟨_,hs,.inl rfl⟩
  .exact(hs.2 b (Bk (AH (AD e) I.ok.above))).trans (I.base.keep b o e n hb hx)
  .obtain⟨sl,e1⟩:=I.base.slot b o e n hb hx;exact⟨sl,(hs.2 b (Bk (AH (AD e) I.ok.above))).trans e1⟩
  .obtain⟨o',e1⟩:=I.base.there b o e hx;exact⟨o',(hs.2 b (Bk (AH (AD e) I.ok.above))).trans e1⟩
  .by_cases hj:j=i
   .subst hj;rw[hi]at e1;cases e1;rw[Ds hiσ]at e2;cases e2;exact⟨u,r,.inl ⟨hk,by simp⟩⟩
   .rw[GL (DR hj)]at e2;obtain⟨u',r',q⟩:=hl j y v' e1 e2 e3;refine⟨u',r',?_⟩;rcases q with ⟨k,e⟩|⟨k,c,e,z⟩
    .refine .inl ⟨k,?_⟩;have:y≠x:=λe=>hj (Qr hN e1 (e ▸ hi))
     simp[this,e]
    .exact .inr ⟨k,c,e,z.sameBut hs (cne y c e)⟩
  .obtain⟨w',z⟩:=I.cell y c e;exact⟨w',z.sameBut hs (cne y c e)⟩
  .obtain⟨e,n,ne,nf,d⟩:=I.pin p hp;exact⟨(hs.2 p.1 ne).trans e,n,ne,nf,d⟩
 .have hfn:X.fn x=Ab:=by
   rcases hf with z|z
   .exact z
   .rw[z]at hk;cases hk
  obtain⟨c,hc⟩:=I.ok.has x (.inl hk);obtain⟨w',z⟩:=I.cell x c hc;refine wpAny_storeName_cell I.ok.kind hk hc z (λh' hc' hs=>?_)
  obtain⟨oc,hoc,hocd⟩:=id z;refine h {s with heap:=h'} ⟨I.ok,I.os,I.bare,⟨λb o e n hb hx=>?_,λb o e n hb hx=>?_,I.base.free,λb o e hx=>?_,I.base.tups,I.base.frzs,I.base.tbls⟩,⟨m,hn.sameBut hs (DR (cne x c hc)),λj y v' e1 e2 e3=>?_⟩,λy c' e=>?_,I.free,I.freeC,λp hp=>?_,tracked ⟨oc,hoc,I.freeC x c hc⟩ hs,by simpa using I.len⟩ ⟨c,hs,.inr hc⟩
  .exact(hs.2 b (Bk (AH (AD e) (I.ok.cab x c hfn hc)))).trans (I.base.keep b o e n hb hx)
  .obtain⟨sl,e1⟩:=I.base.slot b o e n hb hx;exact⟨sl,(hs.2 b (Bk (AH (AD e) (I.ok.cab x c hfn hc)))).trans e1⟩
  .obtain⟨o',e1⟩:=I.base.there b o e hx;exact⟨o',(hs.2 b (Bk (AH (AD e) (I.ok.cab x c hfn hc)))).trans e1⟩
  .by_cases hj:j=i
   .subst hj;rw[hi]at e1;cases e1;rw[Ds hiσ]at e2;cases e2;exact⟨u,r,.inr ⟨.inl hk,c,hc,hc'⟩⟩
   .rw[GL (DR hj)]at e2;obtain⟨u',r',q⟩:=hl j y v' e1 e2 e3;refine⟨u',r',?_⟩;rcases q with q|⟨k,c',e,z'⟩
    .exact .inl q
    .refine .inr ⟨k,c',e,z'.sameBut hs ?_⟩;rintro rfl;exact hj (Qr hN e1 (I.ok.inj _ _ _ e hc ▸ hi))
  .by_cases hcc:c'=c
   .subst hcc;exact⟨_,hc'⟩
   .obtain⟨w2,z2⟩:=I.cell y c' e;exact⟨w2,z2.sameBut hs hcc⟩
  .obtain⟨e,n,ne,nf,d⟩:=I.pin p hp;refine⟨(hs.2 p.1 ?_).trans e,n,ne,nf,d⟩;intro q;rw[q,hoc]at e;have q':oc=p.2:=BE e;exact d w' (by rw[<-q'];exact hocd)
theorem QA{A:A6}{E:Vq}(I:Inv X pI Z H s)(hN:X.N.Nodup)(hi:X.N[i]?=Aa x)(hx:Loc X.env.scope x)(r:BS v u)(h:∀ s',Inv X pI (Z.set i (Aa v)) H s'->Q () s')(hf:X.fn x=Ab\/X.env.scope.names.lookup x=Aa .local:=by first|exact .inl rfl|exact .inr rfl|assumption):Au M A (storeName X.env x u) Q E s:=
 TV I hN hi hx r (λs' I' _=>h s' I') hf
theorem Inv.call'{s':Ar}(I:Inv X pI Z H s)(ho:s'.os=s.os)(u:Un (frs X.stack) ch H H' s.heap s'.heap)(hok:HOk X.prog X.w H' s'.heap)(hg:F1 s'.gens)(hch:∀ b∈ch,(b∈X.ex\/X.s₀.heap.objs.size<=b)/\b≠X.env.locals/\(∀ x c,X.env.cells.lookup x=Aa c->c≠b)/\∀ p∈X.pn++pI,p.1≠b):Inv X pI Z H' s':=by
 obtain⟨h',g',d',t',o'⟩:=s';have e:o'=s.os:=ho;subst e;exact I.call (g':=g') (t':=t') (d':=d') u hok hg hch
end
abbrev XK:=Ai->Ao Al->Hp->Prop
abbrev St:=Ac (Ao V)
variable{Z:St}
abbrev VK:=V->Hp->Prop
abbrev TE:=St->Hp->VK->Prop
variable{te:TE}
abbrev TT:=St->Hp->(Ak->Hp->Prop)->Prop
abbrev TA:=St->Hp->(Ac V->Hp->Prop)->Prop
variable{ta:TA}
structure Ends where
 nx:St->Hp->Prop
 rt:VK
 bk:St->Hp->Prop:=λ_ _=>A3
 ct:St->Hp->Prop:=λ_ _=>A3
abbrev TS:=Ends->St->Hp->Prop
def EP(X:Cx)(pI:Pn)(Z:St)(Q:VK)(u:Ai)(s':Ar):Prop:=∃ v H',Inv X pI Z H' s'/\BS v u/\Q v H'
def TP(X:Cx)(pI:Pn)(Z:St)(Q:Ak->Hp->Prop)(b:Ak)(s':Ar):Prop:=∃ H',Inv X pI Z H' s'/\Q b H'
def AP(X:Cx)(pI:Pn)(Z:St)(Q:Ac V->Hp->Prop)(us:Ac Ai)(s':Ar):Prop:=∃ vs H',Inv X pI Z H' s'/\Bq vs us/\Q vs H'
noncomputable def SP(X:Cx)(pI:Pn)(D:Ends)(f:Flow)(s':Ar):Prop:=
  match f with
  |.next=>∃ Z' H',Inv X pI Z' H' s'/\D.nx Z' H'
  |.brk=>∃ Z' H',Inv X pI Z' H' s'/\D.bk Z' H'
  |.cont=>∃ Z' H',Inv X pI Z' H' s'/\D.ct Z' H'
  |.ret u=>∃ v Z' H',Inv X pI Z' H' s'/\BS v u/\D.rt v H'
noncomputable def PE(X:Cx)(e:An)(t:TE):Prop:=
 ∀(pI:Pn)(s:Ar)(Z:St)(H:Hp)(Q:VK),Inv X pI Z H s->t Z H Q->Au (model X.prog X.w) X.A (eval e X.env) (EP X pI Z Q) X.xe s
noncomputable def PT(X:Cx)(e:An)(t:TT):Prop:=
 ∀(pI:Pn)(s:Ar)(Z:St)(H:Hp)(Q:Ak->Hp->Prop),Inv X pI Z H s->t Z H Q->Au (model X.prog X.w) X.A (Jh e X.env (eval e X.env)) (TP X pI Z Q) X.xe s
noncomputable def PW(X:Cx)(e:An)(t:TT):Prop:=
 ∀(whole:Hc Ai)(pI:Pn)(s:Ar)(Z:St)(H:Hp)(Q:Ak->Hp->Prop),Inv X pI Z H s->t Z H Q->Au (model X.prog X.w) X.A (Jh e X.env whole) (TP X pI Z Q) X.xe s
theorem PW.pt{t:TT}(h:PW X e t):PT X e t:=h _
noncomputable def PA(X:Cx)(es:Ac An)(t:TA):Prop:=
 ∀(pos:AL)(pI:Pn)(s:Ar)(Z:St)(H:Hp)(Q:Ac V->Hp->Prop),Inv X pI Z H s->t Z H Q->Au (model X.prog X.w) X.A (spliced (Cj pos (Aw es X.env))) (AP X pI Z Q) X.xe s
noncomputable def PS(X:Cx)(st:AW)(t:TS):Prop:=
 ∀(pI:Pn)(s:Ar)(Z:St)(H:Hp)(D:Ends),Inv X pI Z H s->t D Z H->Au (model X.prog X.w) X.A (exec st X.env) (SP X pI D) X.xe s
noncomputable def PSs(X:Cx)(st:Ac AW)(t:TS):Prop:=
 ∀(pI:Pn)(s:Ar)(Z:St)(H:Hp)(D:Ends),Inv X pI Z H s->t D Z H->Au (model X.prog X.w) X.A (execs st X.env) (SP X pI D) X.xe s
theorem thn{α:Type}{t:Hc α}{Q Q':α->Ar->Prop}{A:A6}{E:Vq}(h:Au M A t Q E s)(hQ:∀ a s,Q a s->Q' a s):Au M A t Q' E s:=Bu h hQ λ_ _ x=>x
section
variable{X:Cx}
def G4(i:Ag):TE:=λZ H Q=>∃ v,Z[i]?=Aa (Aa v)/\Q v H
def tC(v:V):TE:=λ_ H Q=>Q v H
theorem Od(hN:X.N[i]?=Aa x)(hv:Vis X.env.scope x)(hd:(x==("__debug__" : Aj))=Ad:=by decide)(hcd:(x==("__classdict__" : Aj))=Ad:=by decide):PE X (.Name x pos) (G4 i):=by
 intro pI s Z H Q I h;obtain⟨v,e,h⟩:=h;obtain⟨m,hn,hl⟩:=I.loc;obtain⟨u,r,l⟩:=hl i x v hN e hv;have fin:EP X pI Z Q u s:=⟨v,H,I,r,h⟩;rcases l with ⟨hk,hm⟩|⟨hk,c,hc,hcell⟩
 .exact Lg (wpAny_loadName_local I.ok.kind hk hn hm fin) hd
 .rcases hk with hk|hk
  .exact Lg (wpAny_loadName_cell I.ok.kind hk hc hcell fin) hd
  .exact Lg (wpAny_loadName_free I.ok.kind hk hc hcell fin hcd) hd
theorem wX{i j pos}:PE X (.Constant (.int i) j pos) (tC (.int i)):=λ_ _ _ H _ I h=>wpAny_Constant_int ⟨.int i,H,I.tok _,⟨_,rfl⟩,h⟩
theorem j9{b j pos}:PE X (.Constant (.bool b) j pos) (tC (.bl b)):=λ_ _ _ H _ I h=>Constant_bool ⟨.bl b,H,I,rfl,h⟩
theorem wV{j pos}:PE X (.Constant .none j pos) (tC .non):=λ_ _ _ H _ I h=>Constant_none ⟨.non,H,I,rfl,h⟩
theorem WU{x j pos}:PE X (.Constant (.str x) j pos) (tC (.str x)):=λ_ _ _ H _ I h=>Calls.Constant_str ⟨.str x,H,I.tok _,⟨_,rfl⟩,h⟩
def Gl(X:Cx)(x:Aj):Prop:=X.env.kindOf x=Aa .globalImplicit
theorem Kb{E:Vq}{Q:Vq}(I:Inv X pI Z H s)(hg:Gl X x)(hm:X.mg x=Aa u)(h:Q u s)(hd:(x==("__debug__" : Aj))=Ad:=by decide):Au (model X.prog X.w) X.A (eval (.Name x pos) X.env) Q E s:=
 Zg I.ok.kind hg (Calls.loadGlobal_global (by rw[I.ok.glob];exact I.mod.glob.keeps I.bk) hm h) hd
theorem Ju{E:Vq}{Q:Vq}(I:Inv X pI Z H s)(hg:Gl X x)(hm:X.mg x=Af)(hv:Dv x=Aa u)(h:Q u s)(hn:x≠"__name__" := by decide)(hd:(x==("__debug__" : Aj))=Ad:=by decide):Au (model X.prog X.w) X.A (eval (.Name x pos) X.env) Q E s:=by
 obtain⟨mb,h1,h2⟩:=I.mod.blt;exact Zg I.ok.kind hg (Calls.loadGlobal_builtin (by rw[I.ok.glob];exact I.mod.glob.keeps I.bk) hm (by rw[I.ok.blt];exact h1.keeps I.bk) ((h2 x hn).trans hv) h) hd
theorem Wa(hg:Gl X x)(hm:X.mg x=Aa u)(r:BS v u)(hd:(x==("__debug__" : Aj))=Ad:=by decide):PE X (.Name x pos) (tC v):=
 λ_ _ _ H _ I h=>Kb I hg hm ⟨v,H,I,r,h⟩ hd
theorem Wc(hg:Gl X x)(hm:X.mg x=Af)(hv:Dv x=Aa u)(r:BS v u)(hn:x≠"__name__" := by decide)(hd:(x==("__debug__" : Aj))=Ad:=by decide):PE X (.Name x pos) (tC v):=
 λ_ _ _ H _ I h=>Ju I hg hm hv ⟨v,H,I,r,h⟩ hn hd
variable{a b:An}{ta tb:TE}{pos:AL}
def tB(t:TE):TT:=λZ H Q=>t Z H λx H1=>∃ c,x=.bl c/\Q c H1
variable{tA tB':TT}{rest:Ac An}
def dL(t u:TT):TT:=λZ H Q=>t Z H λc H1=>if c=Ab then u Z H1 Q else Q Ad H1
def tOr(t u:TT):TT:=λZ H Q=>t Z H λc H1=>if c=Ab then Q Ab H1 else u Z H1 Q
def dE(t:TT):TT:=λZ H Q=>t Z H λc H1=>Q (!c) H1
theorem pG(ha:PT X a tA):PW X (.BoolOp .And [a] pos) tA:=by
 intro wh pI s Z H Q I h;refine isTrue_and (thn (ha pI s Z H Q I h) λc s1 e=>?_)
 cases c with
 |true=>exact isTrue_and_nil e
 |false=>exact e
theorem wJ(ha:PT X a tA):PW X (.BoolOp .Or [a] pos) tA:=by
 intro wh pI s Z H Q I h;refine isTrue_or (thn (ha pI s Z H Q I h) λc s1 e=>?_)
 cases c with
 |false=>exact isTrue_or_nil e
 |true=>exact e
theorem wK(ha:PT X a tA)(hb:PW X (.BoolOp .And (b::rest) pos) tB'):PW X (.BoolOp .And (a::b::rest) pos) (dL tA tB'):=by
 intro wh pI s Z H Q I h;refine isTrue_and (thn (ha pI s Z H _ I h) λc s1 ⟨H1,I1,q1⟩=>?_)
 cases c with
 |true=>exact hb wh pI s1 Z H1 Q I1 q1
 |false=>exact⟨H1,I1,q1⟩
theorem ce(ha:PT X a tA)(hb:PW X (.BoolOp .Or (b::rest) pos) tB'):PW X (.BoolOp .Or (a::b::rest) pos) (tOr tA tB'):=by
 intro wh pI s Z H Q I h;refine isTrue_or (thn (ha pI s Z H _ I h) λc s1 ⟨H1,I1,q1⟩=>?_)
 cases c with
 |true=>exact⟨H1,I1,q1⟩
 |false=>exact hb wh pI s1 Z H1 Q I1 q1
theorem wL(ha:PT X a tA):PT X (.UnaryOp .Not a pos) (dE tA):=by
 intro pI s Z H Q I h;exact isTrue_not (ha pI s Z H (λc H1=>Q (!c) H1) I h)
def b9(ta tb:TE):TE:=λZ H Q=>ta Z H λx H1=>∃ c,x=.bl c/\if c=Ab then tb Z H1 Q else Q (.bl Ad) H1
def dD(ta tb:TE):TE:=λZ H Q=>ta Z H λx H1=>∃ c,x=.bl c/\if c=Ab then Q (.bl Ab) H1 else tb Z H1 Q
def ay(ta:TE):TE:=λZ H Q=>ta Z H λx H1=>∃ c,x=.bl c/\Q (.bl (!c)) H1
theorem wT{op}{t:TE}(h:PE X a t):PE X (.BoolOp op [a] pos) t:=λpI s Z H Q I hw=>BoolOp_one (h pI s Z H Q I hw)
theorem wZ(ha:PE X a ta)(hb:PE X (.BoolOp .And (b::rest) pos) tb):PE X (.BoolOp .And (a::b::rest) pos) (b9 ta tb):=by
 intro pI s Z H Q I h;refine BoolOp_and (thn (ha pI s Z H _ I h) λv s1 ⟨x,H1,I1,r1,q1⟩=>?_)
 obtain⟨c,rfl,q1⟩:=q1;cases r1;refine DS ?_;cases c with
 |true=>exact hb pI s1 Z H1 Q I1 q1
 |false=>exact⟨.bl Ad,H1,I1,rfl,q1⟩
theorem cq(ha:PE X a ta)(hb:PE X (.BoolOp .Or (b::rest) pos) tb):PE X (.BoolOp .Or (a::b::rest) pos) (dD ta tb):=by
 intro pI s Z H Q I h;refine BoolOp_or (thn (ha pI s Z H _ I h) λv s1 ⟨x,H1,I1,r1,q1⟩=>?_)
 obtain⟨c,rfl,q1⟩:=q1;cases r1;refine DS ?_;cases c with
 |false=>exact hb pI s1 Z H1 Q I1 q1
 |true=>exact⟨.bl Ab,H1,I1,rfl,q1⟩
theorem wU(ha:PE X a ta):PE X (.UnaryOp .Not a pos) (ay ta):=by
 intro pI s Z H Q I h;refine UnaryOp_ (thn (ha pI s Z H _ I h) λv s1 ⟨x,H1,I1,r1,q1⟩=>?_)
 obtain⟨c,rfl,q1⟩:=q1;cases r1;exact not_of (DS ⟨.bl (!c),H1,I1,rfl,q1⟩)
end
noncomputable def SqL(K:Fg)(H:Hp)(a:Al)(xs:Ac V):Prop:=
 Rd H a (.lst xs) \/
  ∃(o:C4)(its:A9 Ai)(n:Ag),K.lookup a=Aa o/\o.cls=.type "list"/\o.dict=Af/\o.data=.seq its n/\its.size<=sizeLine/\Bq xs its.toList
noncomputable def SqT(K:Fg)(H:Hp)(a:Al)(xs:Ac V):Prop:=
 Rd H a (.tup xs) \/
  ∃(o:C4)(its:A9 Ai)(n:Ag),K.lookup a=Aa o/\o.cls=.type "tuple"/\o.data=.seq its n/\its.size<=sizeLine/\Bq xs its.toList
noncomputable def eF:Ai->Ao V
 |.none=>Aa .non
 |.bool b=>Aa (.bl b)
 |.int i _=>Aa (.int i)
 |.str x _=>Aa (.str x)
 |.bytes b _=>Aa (.byt b)
 |.float b _=>Aa (.flt b)
 |.ref a=>Aa (.ref a)
 |.type n=>Aa (.ty n)
 |_=>Af
theorem BS.abs{x:V}(r:BS x u):eF u=Aa x:=by
 cases x with
 |non=>cases r;rfl
 |bl _=>cases r;rfl
 |int _=>obtain⟨t,rfl⟩:=r;rfl
 |str _=>obtain⟨t,rfl⟩:=r;rfl
 |byt _=>obtain⟨t,rfl⟩:=r;rfl
 |flt _=>obtain⟨t,rfl⟩:=r;rfl
 |ref _=>cases r;rfl
 |ty _=>cases r;rfl
theorem BS.inj{x y:V}(r:BS x u)(q:BS y u):x=y:=BE (r.abs.symm.trans q.abs)
theorem Bq.inj:∀{xs ys:Ac V}{us:Ac Ai},Bq xs us->Bq ys us->xs=ys
 |_,_,_,.nil,.nil=>rfl
 |_,_,_,.cons r t,.cons r' t'=>by rw[r.inj r',Bq.inj t t']
section
variable{X:Cx}{pI:Pn}{Z:St}{H:Hp}{s:Ar}{a:Al}{xs ys:Ac V}
theorem SqL.of{K:Fg}(h:H a=Aa (.lst xs)):SqL K H a xs:=.inl (.inl h)
theorem SqT.of{K:Fg}(h:H a=Aa (.tup xs)):SqT K H a xs:=.inl (.inl h)
theorem Inv.list(I:Inv X pI Z H s)(h:SqL X.K H a xs):∃ its:Ac Ai,Bq xs its/\PlainL s.heap a its.toArray/\xs.length<=sizeLine:=by
 rcases h with h|⟨o,its,n,hk,hc,hd,hs,hz,r⟩
 .obtain⟨z,its,n,r,e⟩:=h.ok I.hok;exact⟨its,r,⟨_,n,e,rfl,rfl,rfl⟩,z⟩
 .refine⟨its.toList,r,⟨o,n,I.kIn a o hk,hc,hd,by simpa using hs⟩,?_⟩
  have e:=r.length;simp only[ED]at e;omega
theorem Inv.tuple(I:Inv X pI Z H s)(h:SqT X.K H a xs):∃ its:Ac Ai,Bq xs its/\Ku s.heap a its.toArray/\xs.length<=sizeLine:=by
 rcases h with h|⟨o,its,n,hk,hc,hs,hz,r⟩
 .obtain⟨z,its,r,p⟩:=h.ok I.hok;exact⟨its,r,p,z⟩
 .refine⟨its.toList,r,⟨o,I.kIn a o hk,hc,n,by simpa using hs⟩,?_⟩
  have e:=r.length;simp only[ED]at e;omega
theorem Inv.list_inj(I:Inv X pI Z H s)(h:SqL X.K H a xs)(h':SqL X.K H a ys):xs=ys:=by
 obtain⟨its,r,⟨o,n,e,_,_,d⟩,_⟩:=I.list h;obtain⟨its',r',⟨o',n',e',_,_,d'⟩,_⟩:=I.list h';rw[e]at e';cases e';rw[d]at d'
 injection d' with d1 _
 have:its=its':=by simpa using congrArg Yx d1
 subst this;exact r.inj r'
theorem Inv.tuple_inj(I:Inv X pI Z H s)(h:SqT X.K H a xs)(h':SqT X.K H a ys):xs=ys:=by
 obtain⟨its,r,⟨o,e,_,n,d⟩,_⟩:=I.tuple h;obtain⟨its',r',⟨o',e',_,n',d'⟩,_⟩:=I.tuple h';rw[e]at e';cases e';rw[d]at d'
 injection d' with d1 _
 have:its=its':=by simpa using congrArg Yx d1
 subst this;exact r.inj r'
end
noncomputable abbrev Cx.wish(X:Cx)(E:Vq):Cx:={X with xe:=E}
noncomputable abbrev Cx.nox(X:Cx):Cx:=X.wish λ_ _=>A3
theorem Cx.Ok.wish(ok:X.Ok)(E:Vq):(X.wish E).Ok:=
 ⟨ok.mod,ok.kind,ok.glob,ok.blt,ok.above,ok.inj,ok.has,ok.cab,ok.hd,ok.frames,ok.stk,ok.exf,ok.bs,ok.bsz,ok.noex,ok.exfs,ok.funs,ok.frf⟩
theorem Cx.Ok.unwish{E:Vq}(ok:(X.wish E).Ok):X.Ok:=
 ⟨ok.mod,ok.kind,ok.glob,ok.blt,ok.above,ok.inj,ok.has,ok.cab,ok.hd,ok.frames,ok.stk,ok.exf,ok.bs,ok.bsz,ok.noex,ok.exfs,ok.funs,ok.frf⟩
section
variable{X:Cx}{pI:Pn}{Z:St}{H:Hp}{s:Ar}{E:Vq}
theorem Inv.wish(I:Inv X pI Z H s)(E:Vq):Inv (X.wish E) pI Z H s:=⟨I.ok.wish E,I.os,I.bare,I.base,I.loc,I.cell,I.free,I.freeC,I.pin,I.hok,I.len⟩
theorem Inv.unwish(I:Inv (X.wish E) pI Z H s):Inv X pI Z H s:=⟨I.ok.unwish,I.os,I.bare,I.base,I.loc,I.cell,I.free,I.freeC,I.pin,I.hok,I.len⟩
theorem SP.unwish{D:Ends}{f:Flow}{s':Ar}(h:SP (X.wish E) pI D f s'):SP X pI D f s':=by
 cases f with
 |next=>obtain⟨Z',H',I,q⟩:=h;exact⟨Z',H',I.unwish,q⟩
 |brk=>obtain⟨Z',H',I,q⟩:=h;exact⟨Z',H',I.unwish,q⟩
 |cont=>obtain⟨Z',H',I,q⟩:=h;exact⟨Z',H',I.unwish,q⟩
 |ret u=>obtain⟨v,Z',H',I,r,q⟩:=h;exact⟨v,Z',H',I.unwish,r,q⟩
theorem PSs.nox{st:Ac AW}{t:TS}(h:PSs X.nox st t):PSs X st t:=λpI s Z H D I hw=>
 Bu (h pI s Z H D (I.wish _) hw) (λ_ _ q=>q.unwish) λ_ _ z=>Bs z
end
section
variable{X:Cx}{st:AW}{rest:Ac AW}{t u:TS}{e:An}{te:TE}{pos:AL}
def az:TS:=λD Z H=>D.nx Z H
def dB(t u:TS):TS:=λD Z H=>t {D with nx:=u D} Z H
theorem pM:PSs X [] az:=λ_ _ Z H _ I h=>FQ ⟨Z,H,I,h⟩
theorem UJ(h1:PS X st t)(h2:PSs X rest u):PSs X (st::rest) (dB t u):=by
 intro pI s Z H D I h;refine Ib (thn (h1 pI s Z H {D with nx:=u D} I h) λf s1 q=>?_)
 cases f with
 |next=>
  obtain⟨Z',H',I',q⟩:=q;exact h2 pI s1 Z' H' D I' q
 |ret v=>exact q
 |brk=>exact q
 |cont=>exact q
theorem MO(h1:PS X st t):PSs X [st] t:=by
 intro pI s Z H D I h;refine Ib (thn (h1 pI s Z H D I h) λf s1 q=>?_)
 cases f with
 |next=>exact FQ q
 |ret v=>exact q
 |brk=>exact q
 |cont=>exact q
theorem Inv.quiet(I:Inv X pI Z H s):interactive X.env=Ad:=by simp[interactive,I.ok.kind]
def b6(te:TE):TS:=λD Z H=>te Z H λ_ H1=>D.nx Z H1
theorem MP(he:PE X e te)(hs:DH e Af pos.line X.env=pure Ad:=by rfl):PS X (.Expr e pos) (b6 te):=by
 intro pI s Z H D I h;exact wpAny_Expr_any (thn (he pI s Z H _ I h) λv s1 ⟨x,H1,I1,r1,q1⟩=>⟨Z,H1,I1,q1⟩) I.quiet hs
def dC(te:TE):TS:=λD Z H=>te Z H D.rt
theorem QY(he:PE X e te):PS X (.Return (Aa e) pos) (dC te):=by
 intro pI s Z H D I h;exact wpAny_Return_some (thn (he pI s Z H _ I h) λv s1 ⟨x,H1,I1,r1,q1⟩=>⟨x,Z,H1,I1,r1,q1⟩)
def dH(c:TT)(t u:TS):TS:=λD Z H=>c Z H λb H1=>if b=Ab then t D Z H1 else u D Z H1
theorem cf{c:An}{a b:Ac AW}{tc:TT}(hc:PT X c tc)(ha:PSs X a t)(hb:PSs X b u):PS X (.If c a b pos) (dH tc t u):=by
 intro pI s Z H D I h;refine wpAny_If (thn (hc pI s Z H _ I h) λd s1 ⟨H1,I1,q1⟩=>?_)
 cases d with
 |true=>exact ha pI s1 Z H1 D I1 q1
 |false=>exact hb pI s1 Z H1 D I1 q1
end
abbrev TG:=V->St->Hp->(St->Hp->Prop)->Prop
abbrev TGs:=Ac V->St->Hp->(St->Hp->Prop)->Prop
noncomputable def PG(X:Cx)(target:An)(t:TG):Prop:=
 ∀(pI:Pn)(s:Ar)(Z:St)(H:Hp)(v:V)(u:Ai)(Q:St->Hp->Prop),Inv X pI Z H s->BS v u->t v Z H Q ->
  Au (model X.prog X.w) X.A (assign target X.env u) (λ_ s'=>∃ Z' H',Inv X pI Z' H' s'/\Q Z' H') X.xe s
noncomputable def PGs(X:Cx)(ts:Ac An)(t:TGs):Prop:=
 ∀(pI:Pn)(s:Ar)(Z:St)(H:Hp)(vs:Ac V)(us:Ac Ai)(Q:St->Hp->Prop),Inv X pI Z H s->Bq vs us->t vs Z H Q ->
  Au (model X.prog X.w) X.A (assignInOrder ((CF ts X.env).map (·.2)) us) (λ_ s'=>∃ Z' H',Inv X pI Z' H' s'/\Q Z' H') X.xe s
abbrev O6:=V->V->V->Hp->(Hp->Prop)->Prop
noncomputable def Tu(X:Cx)(t:O6):Prop:=
 ∀(pI:Pn)(s:Ar)(Z:St)(H:Hp)(o i v:V)(ov iv u:Ai)(Q:Hp->Prop),Inv X pI Z H s->BS o ov->BS i iv->BS v u->t o i v H Q ->
  Au (model X.prog X.w) X.A (setItem ov iv u) (λ_ s'=>∃ H',Inv X pI Z H' s'/\Q H') X.xe s
section
variable{X:Cx}{pos:AL}
def FF(i:Ag):TG:=λv Z H Q=>Q (Z.set i (Aa v)) H
theorem MQ(hN:X.N.Nodup)(hi:X.N[i]?=Aa x)(hx:Loc X.env.scope x)(hf:X.fn x=Ab\/X.env.scope.names.lookup x=Aa .local:=by first|exact .inl rfl|exact .inr rfl|assumption):PG X (.Name x pos) (FF i):=by
 intro pI s Z H v u Q I r h;exact bN (QA I hN hi hx r (λs' I'=>⟨_,H,I',h⟩) hf)
def Iy:TGs:=λvs Z H Q=>vs=[]/\Q Z H
def Iq(t:TG)(u:TGs):TGs:=λvs Z H Q=>∃ v r,vs=v::r/\t v Z H λZ' H'=>u r Z' H' Q
theorem V9:PGs X [] Iy:=by
 intro pI s Z H vs us Q I r h;obtain⟨e,h⟩:=h;subst e;cases r;exact assignInOrder_nil ⟨Z,H,I,h⟩
theorem UK{t:TG}{u:TGs}(h1:PG X e t)(h2:PGs X es u)(hs:(CF (e::es) X.env).map (·.2)=assign e X.env::(CF es X.env).map (·.2):=by rfl):PGs X (e::es) (Iq t u):=by
 intro pI s Z H vs us Q I r h;obtain⟨v,vr,e1,h⟩:=h;subst e1;cases r with
 |cons r rr=>
  rw[hs];refine assignInOrder_cons (thn (h1 pI s Z H _ _ _ I r h) λ_ s1 ⟨Z1,H1,I1,q1⟩=>?_)
  exact h2 pI s1 Z1 H1 _ _ Q I1 rr q1
def Mh(K:Fg)(n:Ag)(t:TGs):TG:=λv Z H Q=>∃ a xs,v=.ref a/\SqT K H a xs/\xs.length=n/\t xs Z H Q
theorem Rl{t:TGs}(hc:X.calm=Ab)(h:PGs X es t)(hn:(CF es X.env).length=n:=by rfl)(hst:(CF es X.env).findIdx? (·.1)=Af:=by rfl):PG X (.Tuple es k pos) (Mh X.K n t):=by
 intro pI s Z H v u Q I r hw;obtain⟨a,xs,e1,hq,hl,hw⟩:=hw;subst e1;cases r;obtain⟨its,rv,ht,hz⟩:=I.tuple hq;refine assign_Tuple_tuple (I.ok.hd hc) ht (by simp[hn,<-hl,rv.length]) hst λh' hx=>?_
 have I1:Inv X pI Z H {s with heap:=h'}:=I.kept (t':=s.toks) λb o e=>hx b o (Bk (AD e)) e
 exact h pI _ Z H xs _ Q I1 (by simpa using rv) hw
def dR(to ti:TE)(t:O6):TG:=λv Z H Q=>to Z H λo H1=>ti Z H1 λi H2=>t o i v H2 λH3=>Q Z H3
theorem wS{o i:An}{to ti:TE}{t:O6}(ho:PE X o to)(hi:PE X i ti)(hs:Tu X t)(ha:∀ v,assign (.Subscript o i pos) X.env v=(do
   let ov <-holding [v] (eval o X.env)
   let iv <-holding [v,ov] (eval i X.env)
   Kx pos
   holding [v,ov,iv] (setItem ov iv v)
   release [v,ov,iv] []):=by intro _;rfl):PG X (.Subscript o i pos) (dR to ti t):=by
 intro pI s Z H v u Q I r h;rw[ha];refine Ah (BV (thn (ho pI s Z H _ I h) λov s1 ⟨x,H1,I1,r1,q1⟩=>?_))
 refine Ah (BV (thn (hi pI s1 Z H1 _ I1 q1) λiv s2 ⟨y,H2,I2,r2,q2⟩=>?_))
 refine Ah (Ee (Ah (BV (thn (hs pI s2 Z H2 x y v ov iv u _ I2 r1 r2 r q2) λ_ s3 ⟨H3,I3,q3⟩=>?_))))
 exact wpAny_release ⟨Z,H3,I3,q3⟩
def OR(te:TE)(g:TG):TS:=λD Z H=>te Z H λx H1=>g x Z H1 D.nx
theorem WS{g:TG}(he:PE X e te)(hg:PG X tg g)(hs:HB [tg] e pos.line X.env=pure Ad:=by rfl)(hw:Gv [tg] e X.env=pure Af:=by rfl)(h1:(CF [tg] X.env).map (·.2)=[assign tg X.env]:=by rfl):PS X (.Assign [tg] e pos) (OR te g):=by
 intro pI s Z H D I h;refine wpAny_Assign_stores (thn (he pI s Z H _ I h) λv s1 ⟨x,H1,I1,r1,q1⟩=>?_) hs hw
 rw[h1];exact thn (hg pI s1 Z H1 x v _ I1 r1 q1) λ_ s2 q=>q
theorem Oc{pos':AL}(hN:X.N.Nodup)(hi:X.N[i]?=Aa x)(hx:Loc X.env.scope x)(he:PE X e te)(hs:DH e (Aa (.Name x pos')) pos.line X.env=pure Ad:=by rfl)(hf:X.fn x=Ab\/X.env.scope.names.lookup x=Aa .local:=by first|exact .inl rfl|exact .inr rfl|assumption):PS X (.Assign [.Name x pos'] e pos) (OR te (FF i)):=by
 intro pI s Z H D I h;refine wpAny_Assign_Name (thn (he pI s Z H _ I h) λv s1 ⟨y,H1,I1,r1,q1⟩=>?_) hs
 exact QA I1 hN hi hx r1 (λs2 I2=>⟨_,H1,I2,q1⟩) hf
end
section
variable{X:Cx}{pos:AL}
end
structure It where
 go:Ag->Hp->Prop
 yld:Ag->Hp->V->Hp->Prop
 stop:Ag->Hp->Prop
noncomputable def Hm(X:Cx)(pI:Pn)(H:Hp)(b:Al):Prop:=
 H b=Af/\b≠X.env.locals/\b∉X.fs/\(b∈X.ex\/X.s₀.heap.objs.size<=b)/\(∀ x c,X.env.cells.lookup x=Aa c->c≠b)/\∀ p∈X.pn++pI,p.1≠b
theorem Inv.fpOk{H':Hp}(I:Inv X pI Z H s)(hb:s.heap.objs.size<=b)(hn:H' b=Af):Hm X pI H' b:=by
 refine⟨hn,Du (AH I.lt hb),I.nofs hb,.inr (Ci I.sz hb),λx c e z=>?_,λp hp z=>?_⟩
 .obtain⟨v,q⟩:=I.cell x c e;exact absurd (AH q.lt (by rw[z];exact hb)) (Bx _)
 .exact absurd (AH (AD (I.pin p hp).1) (by rw[z];exact hb)) (Bx _)
structure Turn (P:AS) (w:AF) (K:Fg) (tg:An) (J_:It) (fp:Ac Al) (it:Al) (tn:Ag->AB->Prop):Prop where
 mem:it∈fp
 obj:∀ i h,tn i h->∀ b∈fp,∃ o,h.get? b=Aa o/\∀ v,o.data≠.cell v
 keep:∀ i h h',tn i h->(∀ b∈fp,∀ o,h.get? b=Aa o->h'.get? b=Aa o)->tn i h'
 item:∀(X:Cx),X.prog=P->X.w=w->X.K=K->X.calm=Ab->∀(i:Ag)(pI:Pn)(s:Ar)(Z:St)(H:Hp)(E:Vq),Inv X pI Z H s->(∀ b∈fp,Hm X pI H b)->tn i s.heap->J_.go i H ->
  Au (model P w) X.A (Eh (.ref it)) (λr s1=>∃ u,r=Aa u /\
   Au (model P w) X.A (GU tg (.ref it) u) (λ_ s2=>∃ x H',Inv X pI Z H' s2/\BS x u/\J_.yld i H x H'/\tn (i+1) s2.heap/\∀ b∈fp,H' b=Af) E s1) E s
 done:∀(X:Cx),X.prog=P->X.w=w->X.K=K->X.calm=Ab->∀(i:Ag)(pI:Pn)(s:Ar)(Z:St)(H:Hp)(E:Vq),Inv X pI Z H s->(∀ b∈fp,Hm X pI H b)->tn i s.heap->J_.stop i H ->
  Au (model P w) X.A (Eh (.ref it)) (λr s1=>r=Af/\Inv X pI Z H s1) E s
 self:∀(A:A6)(i:Ag)(s:Ar)(Q:Vq)(E:Vq),tn i s.heap->Q (.ref it) s->Au (model P w) A (Le (.ref it)) Q E s
abbrev TI:=St->Hp->(It->Hp->Prop)->Prop
noncomputable def PIE(X:Cx)(pI:Pn)(Z:St)(tg:An)(R:It->Hp->Prop)(itv:Ai)(s2:Ar):Prop:=
 ∃(it:Al)(fp:Ac Al)(tn:Ag->AB->Prop)(J_:It)(H':Hp),itv=.ref it/\Inv X pI Z H' s2/\Turn X.prog X.w X.K tg J_ fp it tn/\tn 0 s2.heap/\(∀ b∈fp,Hm X pI H' b)/\R J_ H'
noncomputable def PI(X:Cx)(tg iter:An)(wi:TI):Prop:=
 ∀(pI:Pn)(s:Ar)(Z:St)(H:Hp)(R:It->Hp->Prop),Inv X pI Z H s->wi Z H R ->
  Au (model X.prog X.w) X.A (eval iter X.env) (λv s1=>Au (model X.prog X.w) X.A (Le v) (PIE X pI Z tg R) X.xe s1) X.xe s
theorem RJ{A:A6}{E:Vq}{n:Dy}{vs:A9 Ai}(ho:s.heap.get? it=Aa o)(hc:o.cls=.type n)(hd:o.data=.fields vs)(hn:["enumerate", "zip", "dict_itemiterator", "dict_reverseitemiterator", "odict_iterator", "itertools.zip_longest", "itertools.pairwise"].contains n=Ad)(hQ:Q () s):Au M A (GU tg (.ref it) u) Q E s:=by
  unfold GU;cases tg<;>first
    |exact Av hQ
    | (cases u<;>first
        |exact Av hQ
        | (refine Ah (wpAny_load ho ?_)
           rw[hc,hd];show Au M A (if (["enumerate", "zip", "dict_itemiterator", "dict_reverseitemiterator", "odict_iterator", "itertools.zip_longest", "itertools.pairwise"].contains n&&vs[0]? == Aa (Ct _))=Ab then _ else _) Q E s
           rw[AK (by intro h;rw[hn,Bool.false_and]at h;cases h)]
           exact Av hQ))
noncomputable def Itl(K:Fg)(a:Al):It:=
 ⟨λi H=>∃ xs x,SqL K H a xs/\xs[i]?=Aa x,λi H x H'=>H'=H/\∀ xs,SqL K H a xs->xs[i]?=Aa x,λi H=>∃ xs,SqL K H a xs/\xs.length<=i⟩
noncomputable def Itt(K:Fg)(a:Al):It:=
 ⟨λi H=>∃ xs x,SqT K H a xs/\xs[i]?=Aa x,λi H x H'=>H'=H/\∀ xs,SqT K H a xs->xs[i]?=Aa x,λi H=>∃ xs,SqT K H a xs/\xs.length<=i⟩
noncomputable def Itr(lo:Ae)(n:Ag):It:=⟨λi _=>i<n,λi H x H'=>H'=H/\x=.int (lo+i),λi _=>n<=i⟩
theorem gM{w:AF}{K:Fg}(a it:Al):Turn P w K tg (Itl K a) [it] it (λi h=>h.IsListIter it a i) where
  mem:=by simp
  obj:=λi h st b hb=>by
    have e:b=it:=by simpa using hb
    subst e;obtain⟨o,e,c,d⟩:=st;exact⟨o,e,λv z=>by rw[d]at z;cases z⟩
  keep:=λi h h' st k=>st.at λo e=>k it (by simp) o e
  item:=by
    intro X hP hw hK hc i pI s Z H E I hf st hg;subst hP hw hK;obtain⟨xs,x,hq,hx⟩:=hg;obtain⟨its,rv,p,hz⟩:=I.list hq;obtain⟨u,hu,ru⟩:=rv.get hx;obtain⟨f0,f1,f2,f3,f4,f5⟩:=hf it (by simp)
    refine bT st p.isList (x:=u) (by simpa using hu) λh' st' sb=>?_
    have I1:Inv X pI Z H {s with heap:=h'}:=I.turned (t':=s.toks) (λb o hb e=>(sb.2 b hb).trans e) f0 f1 f3 f4 f5
    obtain⟨o,e,c,d⟩:=id st';exact⟨u,rfl,RJ (s:={s with heap:=h'}) e c d (by decide) ⟨x,H,I1,ru,⟨rfl,λys hy=>by rw[I.list_inj hy hq];exact hx⟩,st',λb hb=>(hf b hb).1⟩⟩
  done:=by
    intro X hP hw hK hc i pI s Z H E I hf st hg;subst hP hw hK;obtain⟨xs,hq,hx⟩:=hg;obtain⟨its,rv,p,hz⟩:=I.list hq;obtain⟨f0,f1,f2,f3,f4,f5⟩:=hf it (by simp)
    have hl:=rv.length;exact bS (I.ok.hd hc) st p.isList (by simp;omega) λh' eb=>⟨rfl,I.turned (t':=s.toks) (λb o hb e=>eb b o hb e) f0 f1 f3 f4 f5⟩
  self:=λ_ _ _ _ _ st h=>wpAny_pyIter_listiter st h
theorem fV{w:AF}{K:Fg}(a it:Al):Turn P w K tg (Itt K a) [it] it (λi h=>h.IsTupleIter it a i) where
  mem:=by simp
  obj:=λi h st b hb=>by
    have e:b=it:=by simpa using hb
    subst e;obtain⟨o,e,c,d⟩:=st;exact⟨o,e,λv z=>by rw[d]at z;cases z⟩
  keep:=λi h h' st k=>st.at λo e=>k it (by simp) o e
  item:=by
    intro X hP hw hK hc i pI s Z H E I hf st hg;subst hP hw hK;obtain⟨xs,x,hq,hx⟩:=hg;obtain⟨its,rv,p,hz⟩:=I.tuple hq;obtain⟨u,hu,ru⟩:=rv.get hx;obtain⟨f0,f1,f2,f3,f4,f5⟩:=hf it (by simp)
    refine wpAny_pyNext_tuple_item st (show s.heap.IsTuple a its.toArray from p) (x:=u) (by simpa using hu) λh' st' sb=>?_
    have I1:Inv X pI Z H {s with heap:=h'}:=I.turned (t':=s.toks) (λb o hb e=>(sb.2 b hb).trans e) f0 f1 f3 f4 f5
    obtain⟨o,e,c,d⟩:=id st';exact⟨u,rfl,RJ (s:={s with heap:=h'}) e c d (by decide) ⟨x,H,I1,ru,⟨rfl,λys hy=>by rw[I.tuple_inj hy hq];exact hx⟩,st',λb hb=>(hf b hb).1⟩⟩
  done:=by
    intro X hP hw hK hc i pI s Z H E I hf st hg;subst hP hw hK;obtain⟨xs,hq,hx⟩:=hg;obtain⟨its,rv,p,hz⟩:=I.tuple hq;obtain⟨f0,f1,f2,f3,f4,f5⟩:=hf it (by simp)
    have hl:=rv.length;exact wpAny_pyNext_tuple_end (I.ok.hd hc) st (show s.heap.IsTuple a its.toArray from p) (by simp;omega) λh' eb=>⟨rfl,I.turned (t':=s.toks) (λb o hb e=>eb b o hb e) f0 f1 f3 f4 f5⟩
  self:=λ_ _ _ _ _ st h=>wpAny_pyIter_tupleiter st h
theorem fW{w:AF}{K:Fg}(it:Al)(lo:Ae)(n:Ag):Turn P w K tg (Itr lo n) [it] it (λi h=>IsRangeIter h it (lo+(i:Ag)*1) ((n:Ae)-(i:Ag)) 1) where
  mem:=by simp
  obj:=λi h st b hb=>by
    have e:b=it:=by simpa using hb
    subst e;exact⟨_,st,λv z=>by
      have z':Data.fields _=Mn v:=z;cases z'⟩
  keep:=λi h h' st k=>k it (by simp) _ st
  item:=by
    intro X hP hw hK hc i pI s Z H E I hf st hg;subst hP hw hK;obtain⟨f0,f1,f2,f3,f4,f5⟩:=hf it (by simp)
    have W:=Walks.range (prog:=X.prog) (w:=X.w) (I.ok.hd hc) it lo 1 n;refine W.item i s _ _ hg st λv h' tk hv st' kk=>?_
    obtain⟨t,rfl⟩:=hv;have I1:Inv X pI Z H {s with heap:=h',toks:=tk}:=I.turned (λb o hb e=>kk b o (by simpa using hb) e) f0 f1 f3 f4 f5
    refine⟨_,rfl,RJ (s:={s with heap:=h',toks:=tk}) (n := "range_iterator") st' rfl rfl (by decide) ⟨.int (lo+i),H,I1,⟨t,?_⟩,⟨rfl,rfl⟩,st',λb hb=>(hf b hb).1⟩⟩
    rw[ER]
  done:=by
    intro X hP hw hK hc i pI s Z H E I hf st hg;subst hP hw hK;obtain⟨f0,f1,f2,f3,f4,f5⟩:=hf it (by simp)
    exact wpAny_pyNext_range_end (I.ok.hd hc) st (by have:n<=i:=hg;omega) λh' eb=>⟨rfl,I.turned (t':=s.toks) (λb o hb e=>eb b o hb e) f0 f1 f3 f4 f5⟩
  self:=λ_ _ _ _ _ st h=>wpAny_pyIter_rangeiter st h
section
variable{X:Cx}{tg:An}
theorem U6{R:It->Hp->Prop}{E:Vq}{lo hi:Ae}{t u v:Dj}{tk:Ag}(I:Inv X pI Z H s)(h1:-(2 ^ 62)<=lo)(h2:lo<2 ^ 62)(h3:-(2 ^ 62)<=hi)(h4:hi<2 ^ 62)(q:R (Itr lo (hi-lo).toNat) H):Au (model X.prog X.w) X.A (Le (.ref s.heap.objs.size)) (PIE X pI Z tg R) E { s with heap:=s.heap.push { cls:=.type "range",data:=.fields #[.int lo t,.int hi u,.int 1 v] },toks:=tk }:=by
 refine wpAny_pyIter_range (IsRange.new ..) (small_one h1 h2 h3 h4) ?_;have I1:Inv X pI Z H { s with heap:=s.heap.push { cls:=.type "range",data:=.fields #[.int lo t,.int hi u,.int 1 v] },toks:=tk }:=I.kept λb o e=>As _ e
 refine⟨(s.heap.push { cls:=.type "range",data:=.fields #[.int lo t,.int hi u,.int 1 v] }).objs.size,[(s.heap.push { cls:=.type "range",data:=.fields #[.int lo t,.int hi u,.int 1 v] }).objs.size],_,_,H,rfl,
  I1.kept (t':=tk) λb o e=>As _ e,fW _ lo (hi-lo).toNat,?_,λb hb=>?_,q⟩
 .have e1:lo+((0:Ag):Ae)*1=lo:=by simp
  have e2:(((hi-lo).toNat:Ag):Ae)-((0:Ag):Ae)=Builtin.Range.rangeSize lo hi 1:=by rw[rangeSize_one];split<;>omega
  show IsRangeIter _ _ (lo+((0:Ag):Ae)*1) ((((hi-lo).toNat:Ag):Ae)-((0:Ag):Ae)) 1;rw[e1,e2];exact AE _ rfl
 .have e:b=(s.heap.push { cls:=.type "range",data:=.fields #[.int lo t,.int hi u,.int 1 v] }).objs.size:=by simpa using hb
  subst e;exact I1.fpOk (A5 _) (I1.hok.fresh (A5 _))
def j4(ta:TA):TI:=λZ H R=>ta Z H λvs H1=>∃ j:Ae,vs=[.int j]/\-(2 ^ 62)<=j/\j<2 ^ 62/\R (Itr 0 j.toNat) H1
def iw(ta:TA):TI:=λZ H R=>ta Z H λvs H1=>∃ i j:Ae,vs=[.int i,.int j]/\(-(2 ^ 62)<=i/\i<2 ^ 62/\-(2 ^ 62)<=j/\j<2 ^ 62)/\R (Itr i (j-i).toNat) H1
theorem iL{a:An}(hg:Gl X "range")(hm:X.mg "range" = Af)(ha:PA X [a] ta)(hs:Aw [a] X.env=[(Ad,eval a X.env)]:=by rfl):PI X tg (.Call (.Name "range" p) [a] [] pos) (j4 ta):=by
 intro pI s Z H R I h;refine K8 (Ju I hg hm boot_range (Cw (thn (ha pos pI s Z H _ I h) λus s1 ⟨vs,H1,I1,r1,q1⟩=>?_) hs rfl))
 obtain⟨j,e,q1,q2,q⟩:=q1;subst e;cases r1 with
 |cons r rr=>
  cases rr;obtain⟨t,rfl⟩:=r;exact call_range_1 (U6 I1 (by omega) (by omega) q1 q2 (by simpa using q))
theorem gL{a b:An}(hg:Gl X "range")(hm:X.mg "range" = Af)(ha:PA X [a,b] ta)(hs:Aw [a,b] X.env=[(Ad,eval a X.env),(Ad,eval b X.env)]:=by rfl)(hs2:Aw [b] X.env=[(Ad,eval b X.env)]:=by rfl):
  PI X tg (.Call (.Name "range" p) [a,b] [] pos) (iw ta):=by
 intro pI s Z H R I h;refine K8 (Ju I hg hm boot_range (Cw (thn (ha pos pI s Z H _ I h) λus s1 ⟨vs,H1,I1,r1,q1⟩=>?_) (by rw[hs,hs2]) (by rw[hs2];rfl)))
 obtain⟨i,j,e,⟨q1,q2,q3,q4⟩,q⟩:=q1;subst e;cases r1 with
 |cons r rr=>
  cases rr with
  |cons r' rr=>
   cases rr;obtain⟨t,rfl⟩:=r;obtain⟨t',rfl⟩:=r';exact call_range_2 (U6 I1 q1 q2 q3 q4 q)
def dI(wi:TI)(g:TG)(tb:TS):TS:=λD Z H=>wi Z H λJ_ H1=>∃ W:Ag->Ag->St->Hp->Prop,(∃ m,W 0 m Z H1)/\∀ i m Z H,W i m Z H ->
 (J_.stop i H/\D.nx Z H)\/(J_.go i H/\∃ N:St->Hp->Prop,(∀ Z' H',N Z' H'->∃ m',m'<m/\W (i+1) m' Z' H')/\∀ x H',J_.yld i H x H'->g x Z H' λZ2 H2=>tb {D with nx:=N,ct:=N,bk:=D.nx} Z2 H2)
noncomputable def KZ(fp:Ac Al)(h:AB):Pn:=fp.filterMap λb=>(h.get? b).map λo=>(b,o)
theorem NE(hb:b∈fp)(e:h.get? b=Aa o):(b,o)∈KZ fp h:=List.mem_filterMap.mpr ⟨b,hb,by rw[e];rfl⟩
theorem UA{p:Al×C4}(hp:p∈KZ fp h):p.1∈fp/\h.get? p.1=Aa p.2:=by
 obtain⟨b,hb,e⟩:=List.mem_filterMap.mp hp;cases q:h.get? b with
 |none=>rw[q]at e;cases e
 |some o=>
  rw[q]at e;have e':(b,o)=p:=BE e;subst e';exact⟨hb,q⟩
theorem Inv.pinned(I:Inv X pI Z H s)(hf:∀ b∈fp,Hm X pI H b)(ho:∀ b∈fp,∃ o,s.heap.get? b=Aa o/\∀ v,o.data≠.cell v):Inv X (pI++KZ fp s.heap) Z H s:=
 I.pins_of λp hp=>(IF.mp hp).elim (λz=>I.pin p (BJ _ z)) λz=>by
  obtain⟨hb,e⟩:=UA z;obtain⟨f0,f1,f2,_⟩:=hf p.1 hb;obtain⟨o,e',d⟩:=ho p.1 hb;rw[e]at e';cases e';exact⟨e,f0,f1,f2,d⟩
theorem Inv.unpinned{pI pl:Pn}(I:Inv X (pI++pl) Z H s):Inv X pI Z H s:=I.pins_of λp hp=>I.pin p (BJ _ (GM _ hp))
theorem wM{iter:An}{wi:TI}{g:TG}{tb:TS}(hp:FU (model X.prog X.w) X.A X.env X.xe)(hc:X.calm=Ab)(hi:PI X tg iter wi)(hg:PG X tg g)(hb:PSs X body tb)(hs:∀ x,Do iter X.env x=pure x:=by intro _;rfl):PS X (.For tg iter body [] pos) (dI wi g tb):=by
 intro pI s Z H D I h;refine wpAny_For (thn (hi pI s Z H _ I h) λv s1 h1=>thn h1 λitv s2 h2=>?_) hs
 obtain⟨it,fp,tn,J_,H2,e,I2,T,st2,f2,W,⟨m0,w0⟩,turn⟩:=h2;subst e
 -- what stays Ab of the iterator's objects through the loop
 have stat:∀{H':Hp},(∀ b∈fp,H' b=Af)->∀ b∈fp,Hm X pI H' b:=λhn b hb=>⟨hn b hb,(f2 b hb).2⟩
 refine codeAny_forLoop_any (λn s'=>∃ i Z' H',Inv X pI Z' H' s'/\tn i s'.heap/\(∀ b∈fp,H' b=Af)/\W i n Z' H') ?_ m0 ⟨0,Z,H2,I2,st2,λb hb=>(f2 b hb).1,w0⟩
 rintro n s3 ⟨i,Z3,H3,I3,st3,fr3,w3⟩;rcases turn i n Z3 H3 w3 with ⟨stop,qn⟩|⟨go,N,hN,step⟩
 .refine FR hp (thn (T.done X rfl rfl rfl hc i pI s3 Z3 H3 X.xe I3 (stat fr3) st3 stop) λr s4 ⟨hr,I4⟩=>?_)
  subst hr;exact FQ ⟨Z3,H3,I4,qn⟩
 .refine FR hp (thn (T.item X rfl rfl rfl hc i pI s3 Z3 H3 X.xe I3 (stat fr3) st3 go) λr s4 ⟨u,hr,h4⟩=>?_)
  subst hr;refine FR hp (thn h4 λ_ s5 ⟨x,H5,I5,r5,y5,st5,fr5⟩=>?_)
  have I5':=I5.pinned (stat fr5) (T.obj _ _ st5);refine FR hp (thn (hg _ s5 Z3 H5 x u _ I5' r5 (step x H5 y5)) λ_ s6 ⟨Z6,H6,I6,q6⟩=>?_)
  refine FR hp (thn (hb _ s6 Z6 H6 _ I6 q6) λf s7 q7=>?_)
  have again:∀{Z7:St}{H7:Hp},Inv X (pI++KZ fp s5.heap) Z7 H7 s7->N Z7 H7->∃ m,m<n/\∃ i Z' H',Inv X pI Z' H' s7/\tn i s7.heap/\(∀ b∈fp,H' b=Af)/\W i m Z' H':=λ{Z7 H7} I7 n7=>by
   obtain⟨m',hm,w7⟩:=hN Z7 H7 n7;refine⟨m',hm,i+1,Z7,H7,I7.unpinned,T.keep _ _ _ st5 λb hb o e=>(I7.pin (b,o) (BJ _ (BJ _ (NE hb e)))).1,λb hb=>?_,w7⟩
   obtain⟨o,e,d⟩:=T.obj _ _ st5 b hb;exact(I7.pin (b,o) (BJ _ (BJ _ (NE hb e)))).2.1
  cases f with
  |next=>obtain⟨Z7,H7,I7,n7⟩:=q7;exact again I7 n7
  |cont=>obtain⟨Z7,H7,I7,n7⟩:=q7;exact again I7 n7
  |brk=>obtain⟨Z7,H7,I7,q7⟩:=q7;exact⟨Z7,H7,I7.unpinned,q7⟩
  |ret v=>obtain⟨x7,Z7,H7,I7,r7,q7⟩:=q7;exact⟨x7,Z7,H7,I7.unpinned,r7,q7⟩
end
abbrev R2:=V->V->Hp->VK->Prop
variable{r:R2}
noncomputable def OpR(X:Cx)(f:Ai->Ai->Hc Ai)(r:R2):Prop:=
 ∀(pI:Pn)(s:Ar)(Z:St)(H:Hp)(x y:V)(v u:Ai)(Q:VK),Inv X pI Z H s->BS x v->BS y u->r x y H Q ->
  Au (model X.prog X.w) X.A (f v u) (EP X pI Z Q) X.xe s
noncomputable def UnR(X:Cx)(f:Ai->Hc Ai)(r:V->Hp->VK->Prop):Prop:=
 ∀(pI:Pn)(s:Ar)(Z:St)(H:Hp)(x:V)(v:Ai)(Q:VK),Inv X pI Z H s->BS x v->r x H Q ->
  Au (model X.prog X.w) X.A (f v) (EP X pI Z Q) X.xe s
noncomputable def Kg(X:Cx)(f:Ai)(r:Ac V->Hp->VK->Prop):Prop:=
 ∀(pI:Pn)(s:Ar)(Z:St)(H:Hp)(xs:Ac V)(us:Ac Ai)(Q:VK),Inv X pI Z H s->Bq xs us->r xs H Q ->
  Au (model X.prog X.w) X.A (call f us) (EP X pI Z Q) X.xe s
noncomputable def eI(X:Cx)(r:V->Hp->(Ak->Hp->Prop)->Prop):Prop:=
 ∀(pI:Pn)(s:Ar)(Z:St)(H:Hp)(x:V)(v:Ai)(Q:Ak->Hp->Prop),Inv X pI Z H s->BS x v->r x H Q ->
  Au (model X.prog X.w) X.A (truthy v) (TP X pI Z Q) X.xe s
def tOp(r:R2)(ta tb:TE):TE:=λZ H Q=>ta Z H λx H1=>tb Z H1 λy H2=>r x y H2 Q
def tUn(r:V->Hp->VK->Prop)(ta:TE):TE:=λZ H Q=>ta Z H λx H1=>r x H1 Q
def rI(C:Ae->Ae->Prop)(g:Ae->Ae->V):R2:=λx y H Q=>∃ i j,x=.int i/\y=.int j/\C i j/\Q (g i j) H
def rI0(g:Ae->Ae->V):R2:=λx y H Q=>∃ i j,x=.int i/\y=.int j/\Q (g i j) H
def rU(g:Ae->V):V->Hp->VK->Prop:=λx H Q=>∃ i,x=.int i/\Q (g i) H
section
variable{X:Cx}{a b c:An}{ta tb tc:TE}{pos:AL}
theorem Pa(ha:PE X a ta)(hb:PE X b tb){R:V->V->Hp->Prop}(I:Inv X pI Z H s)(h:ta Z H λx H1=>tb Z H1 λy H2=>R x y H2){Q:Vq}(hf:∀ v u s2 x y H2,Inv X pI Z H2 s2->BS x v->BS y u->R x y H2->Au (model X.prog X.w) X.A (f v u) Q X.xe s2):Au (model X.prog X.w) X.A (eval a X.env) (λv s₁=>Au (model X.prog X.w) X.A (eval b X.env) (λu s₂=>Au (model X.prog X.w) X.A (f v u) Q X.xe s₂) X.xe s₁) X.xe s:=by
 refine thn (ha pI s Z H _ I h) λv s1 ⟨x,H1,I1,r1,q1⟩=>?_
 refine thn (hb pI s1 Z H1 _ I1 q1) λu s2 ⟨y,H2,I2,r2,q2⟩=>?_
 exact hf v u s2 x y H2 I2 r1 r2 q2
theorem XJ{op:FT}(ho:OpR X (CA op) r)(ha:PE X a ta)(hb:PE X b tb):PE X (.BinOp a op b pos) (tOp r ta tb):=by
 intro pI s Z H Q I h;exact wpAny_BinOp (Pa ha hb I h λv u s2 x y H2 I2 rx ry q=>ho pI s2 Z H2 x y v u Q I2 rx ry q)
theorem cn{op:Kv}{r:V->Hp->VK->Prop}(ho:UnR X (unaryOp op) r)(ha:PE X a ta):PE X (.UnaryOp op a pos) (tUn r ta):=by
 intro pI s Z H Q I h;exact UnaryOp_ (thn (ha pI s Z H _ I h) λv s1 ⟨x,H1,I1,r1,q1⟩=>ho pI s1 Z H1 x v Q I1 r1 q1)
theorem opI{C:Ae->Ae->Prop}(rule:∀(i j:Ae)(t u:Dj)(s:Ar)(Q:Vq)(E:Vq),C i j->Q (.int (g i j) s.toks) {s with toks:=s.toks+1}->Au (model X.prog X.w) X.A (f (.int i t) (.int j u)) Q E s):OpR X f (rI C λi j=>.int (g i j)):=by
 intro pI s Z H x y v u Q I rx ry h;obtain⟨i,j,rfl,rfl,hc,q⟩:=h;obtain⟨t,rfl⟩:=rx;obtain⟨t',rfl⟩:=ry;exact rule i j t t' s _ _ hc ⟨.int (g i j),H,I.tok _,⟨_,rfl⟩,q⟩
theorem SY(rule:∀(i j:Ae)(t u:Dj)(s:Ar)(Q:Vq)(E:Vq),Q (.int (g i j) s.toks) {s with toks:=s.toks+1}->Au (model X.prog X.w) X.A (f (.int i t) (.int j u)) Q E s):OpR X f (rI0 λi j=>.int (g i j)):=by
 intro pI s Z H x y v u Q I rx ry h;obtain⟨i,j,rfl,rfl,q⟩:=h;obtain⟨t,rfl⟩:=rx;obtain⟨t',rfl⟩:=ry;exact rule i j t t' s _ _ ⟨.int (g i j),H,I.tok _,⟨_,rfl⟩,q⟩
theorem O2{g:Ae->Ae->Ak}(rule:∀(i j:Ae)(t u:Dj)(s:Ar)(Q:Vq)(E:Vq),Q (.bool (g i j)) s->Au (model X.prog X.w) X.A (f (.int i t) (.int j u)) Q E s):OpR X f (rI0 λi j=>.bl (g i j)):=by
 intro pI s Z H x y v u Q I rx ry h;obtain⟨i,j,rfl,rfl,q⟩:=h;obtain⟨t,rfl⟩:=rx;obtain⟨t',rfl⟩:=ry;exact rule i j t t' s _ _ ⟨.bl (g i j),H,I,rfl,q⟩
def eO(i j:Ae):Prop:=0<j/\j<1073741824
def eL(i j:Ae):Prop:=0<=j/\j<=1000000/\i.natAbs<2 ^ 64
def OZ(i j:Ae):Prop:=(-(2 ^ 64)<i/\i<2 ^ 64)\/(-(2 ^ 64)<j/\j<2 ^ 64)
theorem OZ.ok{i j:Ae}(h:OZ i j):Ms i j:=by
 rcases h with ⟨h1,h2⟩|⟨h1,h2⟩
 .exact .of_left (intBits_le_64 h1 h2)
 .exact .of_right (intBits_le_64 h1 h2)
theorem xF:OpR X (CA .Add) (rI0 λi j=>.int (i+j)):=SY λ_ _ _ _ _ _ _ q=>add_int q
theorem xB:OpR X (CA .Sub) (rI0 λi j=>.int (i-j)):=SY λ_ _ _ _ _ _ _ q=>sub_int q
theorem sC:OpR X (CA .FloorDiv) (rI eO λi j=>.int (i/j)):=opI λi j _ _ _ _ _ hc q=>by
 have h1:(0:Ae)<j:=hc.1;have h2:j<1073741824:=hc.2;exact floordiv_int (by omega) (by rw[Int.fdiv_eq_ediv_of_nonneg i (by omega)];exact q) (.inl (PyProof.noPylong_small (by omega)))
theorem xD:OpR X (CA .Mod) (rI (λ_ j=>0<j) λi j=>.int (i%j)):=opI λi j _ _ _ _ _ hc q=>by
 have h1:(0:Ae)<j:=hc;exact mod_int' (by omega) (by rw[Int.fmod_eq_emod_of_nonneg i (by omega)];exact q)
theorem xC:OpR X (CA .Pow) (rI eL λi j=>.int (i ^ j.toNat)):=opI λ_ _ _ _ _ _ _ hc q=>pow_int_small hc.1 hc.2.1 hc.2.2 q
theorem unI{f:Ai->Hc Ai}{g:Ae->Ae}(rule:∀(i:Ae)(t:Dj)(s:Ar)(Q:Vq)(E:Vq),Q (.int (g i) s.toks) {s with toks:=s.toks+1}->Au (model X.prog X.w) X.A (f (.int i t)) Q E s):UnR X f (rU λi=>.int (g i)):=by
 intro pI s Z H x v Q I rx h;obtain⟨i,rfl,q⟩:=h;obtain⟨t,rfl⟩:=rx;exact rule i t s _ _ ⟨.int (g i),H,I.tok _,⟨_,rfl⟩,q⟩
theorem vV:UnR X (unaryOp .USub) (rU λi=>.int (-i)):=unI λ_ _ _ _ _ q=>neg_int q
end
section
variable{X:Cx}{a b c:An}{ta tb tc:TE}{pos:AL}
theorem WA{Q:VK}{k k':Ak}(I:Inv X pI Z H s)(q:Q (.bl k) H)(e:k=k'):EP X pI Z Q (.bool k') s:=by
 subst e;exact⟨.bl k,H,I,rfl,q⟩
theorem jd:OpR X (Dq .Lt) (rI0 λi j=>.bl (decide (i<j))):=O2 λ_ _ _ _ _ _ _ q=>lt_int q
theorem je:OpR X (Dq .LtE) (rI0 λi j=>.bl (decide (i<=j))):=O2 λ_ _ _ _ _ _ _ q=>le_int q
theorem jf:OpR X (Dq .Gt) (rI0 λi j=>.bl (decide (j<i))):=O2 λ_ _ _ _ _ _ _ q=>gt_int q
theorem jg:OpR X (Dq .GtE) (rI0 λi j=>.bl (decide (j<=i))):=O2 λ_ _ _ _ _ _ _ q=>ge_int q
theorem xE:OpR X (Dq .Is) (λx y H Q=>y=.non/\Q (.bl (decide (x=.non))) H):=by
 intro pI s Z H x y v u Q I rx ry h;obtain⟨rfl,q⟩:=h;cases ry;refine is_none_gen (WA I q ?_);cases x<;>first
  |(cases rx;rfl)
  |(obtain⟨t,rfl⟩:=rx;rfl)
theorem oQ:OpR X (Dq .IsNot) (λx y H Q=>y=.non/\Q (.bl (!decide (x=.non))) H):=by
 intro pI s Z H x y v u Q I rx ry h;obtain⟨rfl,q⟩:=h;cases ry;refine isnot_none_gen (WA I q ?_);cases x<;>first
  |(cases rx;rfl)
  |(obtain⟨t,rfl⟩:=rx;rfl)
theorem pW(ho:OpR X (Dq op) r)(ha:PE X a ta)(hb:PE X b tb)(hm:Hz op b=Ad):PE X (.Compare a [op] [b] pos) (tOp r ta tb):=by
 intro pI s Z H Q I h;exact wpAny_Compare1 (Pa ha hb I h λv u s2 x y H2 I2 rx ry q=>ho pI s2 Z H2 x y v u Q I2 rx ry q) hm
def Xs(t:TE):TT:=λZ H Q=>t Z H λx H'=>∃ k,x=.bl k/\Q k H'
theorem pL(ho:OpR X (Dq op) r)(ha:PE X a ta)(hb:PE X b tb)(hm:Hz op b=Ad):PT X (.Compare a [op] [b] pos) (Xs (tOp r ta tb)):=by
 intro pI s Z H Q I h;refine wpAny_isTrue_Compare1 (thn (ha pI s Z H _ I h) λv s1 ⟨x,H1,I1,r1,q1⟩=>thn (hb pI s1 Z H1 _ I1 q1) λu s2 ⟨y,H2,I2,r2,q2⟩=>
  thn (ho pI s2 Z H2 x y v u _ I2 r1 r2 q2) λc s3 ⟨z,H3,I3,r3,k,e,q3⟩=>?_) hm
 subst e;cases r3;exact DS ⟨H3,I3,q3⟩
def uS(r r':R2)(ta tb tc:TE):TE:=λZ H Q=>ta Z H λx H1=>tb Z H1 λy H2=>r x y H2 λz H3=>∃ k,z=.bl k /\
 (if k=Ab then tc Z H3 λw' H4=>r' y w' H4 Q else Q (.bl Ad) H3)
theorem kX{op':DM}{r':R2}(ho:OpR X (Dq op) r)(ho':OpR X (Dq op') r')(ha:PE X a ta)(hb:PE X b tb)(hc:PE X c tc)(hm:lastMarks [op,op'] [b,c]=Ad:=by with_unfolding_all rfl):PT X (.Compare a [op,op'] [b,c] pos) (Xs (uS r r' ta tb tc)):=by
 intro pI s Z H Q I h;refine isTrue_chain (thn (ha pI s Z H _ I h) λv s1 ⟨x,H1,I1,r1,q1⟩=>test_link (thn (hb pI s1 Z H1 _ I1 q1) λu s2 ⟨y,H2,I2,r2,q2⟩=>
  thn (ho pI s2 Z H2 x y v u _ I2 r1 r2 q2) λd s3 ⟨z,H3,I3,r3,k,e,q3⟩=>?_)) hm
 subst e;cases r3;refine DS ?_;cases k with
 |false=>
  obtain⟨k',e',q'⟩:=q3;cases e';exact ite_ff ⟨H3,I3,q'⟩
 |true=>
  refine ite_tt (test_last (thn (hc pI s3 Z H3 _ I3 q3) λw' s4 ⟨z',H4,I4,r4,q4⟩=>thn (ho' pI s4 Z H4 y z' u w' _ I4 r2 r4 q4) λd' s5 ⟨z2,H5,I5,r5,k2,e2,q5⟩=>?_))
  subst e2;cases r5;exact DS ⟨H5,I5,q5⟩
noncomputable def Tr(K:Fg)(x:V)(H:Hp)(k:Ak):Prop:=
  match x with
  |.non=>k=Ad
  |.bl b=>k=b
  |.int i=>k=(i != 0)
  |.str y=>y.length<=sizeLine/\k=((y.length:Ae) != 0)
  |.byt y=>y.size<=sizeLine/\k=((y.size:Ae) != 0)
  |.ref p=>(∃ xs,SqL K H p xs/\k=!xs.isEmpty)\/(∃ xs,SqT K H p xs/\k=!xs.isEmpty)\/∃ kvs,H p=Aa (.dK kvs)/\k=!kvs.isEmpty
  |_=>A3
theorem fM{κ:Type}{kvs:Ac (κ×V)}{vs:Ac (κ×Ai)}(r:KV kvs vs):(!vs.isEmpty)=!kvs.isEmpty:=by
 cases r<;>rfl
theorem T5{its:Ac Ai}(r:Bq xs its):(!its.toArray.isEmpty)=!xs.isEmpty:=by
 cases r<;>simp
theorem LR:(sizeLine:Ag)<2 ^ 63:=by rw[Dx];decide
theorem vY:eI X (λx H Q=>∃ k,Tr X.K x H k/\Q k H):=by
 intro pI s Z H x v Q I rx h;obtain⟨k,e,q⟩:=h;have hl:=LR;have hs:sizeLine=16777216:=Dx;cases x with
 |non=>
  cases rx;have e':k=Ad:=e;subst e';exact truthy_none ⟨H,I,q⟩
 |bl b=>
  cases rx;have e':k=b:=e;subst e';exact DS ⟨H,I,q⟩
 |int i=>
  obtain⟨t,rfl⟩:=rx;have e':k=(i != 0):=e;subst e';exact PySem.P.truthy_int ⟨H,I,q⟩
 |str y=>
  obtain⟨t,rfl⟩:=rx;obtain⟨hy,e'⟩:y.length<=sizeLine/\k=((y.length:Ae) != 0):=e;subst e';exact PySem.P.truthy_str (by omega) ⟨H,I.tok _,q⟩
 |byt y=>
  obtain⟨t,rfl⟩:=rx;obtain⟨hy,e'⟩:y.size<=sizeLine/\k=((y.size:Ae) != 0):=e;subst e';exact PySem.W.truthy_bytes (by omega) ⟨H,I.tok _,q⟩
 |ref p=>
  cases rx;have e':(∃ xs,SqL X.K H p xs/\k=!xs.isEmpty)\/(∃ xs,SqT X.K H p xs/\k=!xs.isEmpty)\/∃ kvs,H p=Aa (.dK kvs)/\k=!kvs.isEmpty:=e;rcases e' with ⟨xs,hx,e'⟩|⟨xs,hx,e'⟩|⟨kvs,hx,e'⟩
  .subst e';obtain⟨its,r,pl,hz⟩:=I.list hx;have hlen:=r.length;exact wpAny_truthy_list pl.isList (by simp only[AU];omega) ⟨H,I.tok _,by rw[T5 r];exact q⟩
  .subst e';obtain⟨its,r,pl,hz⟩:=I.tuple hx;have hlen:=r.length;exact truthy_tuple pl (by simp only[AU];omega) ⟨H,I.tok _,by rw[T5 r];exact q⟩
  .subst e';obtain⟨hz,hS,vs,r,m⟩:kvs.length<=sizeLine/\(p==Lf)=Ad/\∃ vs,KV kvs vs/\s.heap.DictOf (QL X.prog X.w) p vs:=I.hok p _ hx;have hlen:kvs.length=vs.length:=Z_6 r;exact wpAny_truthy_dict hS m (by omega) ⟨H,I.tok _,by rw[fM r];exact q⟩
 |_=>exact(show A3 from e).elim
theorem kW(ha:PE X a ta)(he:∀ whole,Jh a X.env whole=(do let v <-whole;Kx a.pos;holding [v] (truthy v))):PT X a (λZ H Q=>ta Z H λx H'=>∃ k,Tr X.K x H' k/\Q k H'):=by
 intro pI s Z H Q I h;exact isTrue_plain (thn (ha pI s Z H _ I h) λv s1 ⟨x,H1,I1,r1,q1⟩=>vY pI s1 Z H1 x v Q I1 r1 q1) (he _)
theorem fZ:OpR X (CA .Add) (λx y H Q=>∃ i j,x=.str i/\y=.str j/\i.length+j.length<=sizeLine/\Q (.str (i++j)) H):=by
 intro pI s Z H x y v u Q I rx ry h;obtain⟨i,j,rfl,rfl,hz,q⟩:=h;obtain⟨t,rfl⟩:=rx;obtain⟨t',rfl⟩:=ry;exact add_str (λt' tk=>⟨.str (i++j),H,I.tok _,⟨_,rfl⟩,q⟩) hz
theorem K2{x:V}(r:Bq [x] us):∃ u,us=[u]/\BS x u:=by
 cases r with
 |cons r1 r2=>cases r2;exact⟨_,rfl,r1⟩
theorem M7{x y:V}(r:Bq [x,y] us):∃ u w',us=[u,w']/\BS x u/\BS y w':=by
 cases r with
 |cons r1 r2=>
  cases r2 with
  |cons r3 r4=>cases r4;exact⟨_,_,rfl,r1,r3⟩
end
section
variable{prog:AS}{w:AF}{A:A6}{E:Vq}{s:Ar}{K:Fg}{x dx C f:Al}{mA:Aj->Ao Ai}{name:Aj}{v:Ai}
end
theorem Nn.some_of{o:Ao Ai}(r:Nn (Aa v) o):∃ u,o=Aa u/\BS v u:=by
 cases o with
 |none=>exact(show A3 from r).elim
 |some u=>exact⟨u,rfl,r⟩
theorem iG(r:BS v u):PySem.W.handedIn u=Ab:=by
 cases v with
 |non=>cases (show u=Dk from r);rfl
 |bl b=>cases (show u=Lc b from r);rfl
 |int i=>obtain⟨t,e⟩:=(show ∃ t,u=Mo i t from r);cases e;rfl
 |str x=>obtain⟨t,e⟩:=(show ∃ t,u=Mp x t from r);cases e;rfl
 |byt b=>obtain⟨t,e⟩:=(show ∃ t,u=aO b t from r);cases e;rfl
 |flt b=>obtain⟨t,e⟩:=(show ∃ t,u=aP b t from r);cases e;rfl
 |ref a=>cases (show u=BQ a from r);rfl
 |ty n=>cases (show u=F3 n from r);rfl
section
variable{P:AS}{w:AF}{H H':Hp}{h h':AB}{a C dx:Al}{fs fs':Ac (Aj×V)}
end
section
variable{X:Cx}{pI:Pn}{Z:St}{H:Hp}{s:Ar}{a C dx:Al}{fs:Ac (Aj×V)}{f:Aj}{v:V}{A:A6}{E:Vq}
theorem sZ{prog:AS}{w:AF}{env:CI}{f:Aj}{Q:Vq}(hb:Hy e f env (eval e env)=eval e env)(h:Au (model prog w) A (eval e env) (λo s₁=>Au (model prog w) A (getAttr o f Ab) Q E s₁) E s):Au (model prog w) A (eval (.Attribute e f pos) env) Q E s:=
 Attribute_any_ h (by rw[arm_eval_Attribute,hb])
end
section
variable{X:Cx}{o e value:An}{f:Aj}{pos pos' tpos:AL}{ta tv:TE}
end
section
variable{X:Cx}{pI:Pn}{Z:St}{H:Hp}{s:Ar}{A:A6}{E:Vq}{Q:Vq}{c:Ai}{b:Ak}
end
structure Room (k:Ag) (A:A6):Prop where
 hd:A.handled=Af
 dp:A.depth+3*k+5<Hd
 un:A.units+16*k+200<CG
 gd:A.guards=Aa []
theorem Room.mono{j:Ag}{A:A6}(r:Room k A)(h:j<=k):Room j A:=⟨r.hd,by have:=r.dp;omega,by have:=r.un;omega,r.gd⟩
theorem Room.deeper{A:A6}(r:Room (k+1) A)(env:CI):Room k (A.deeper env):=
 ⟨r.hd,by have:=r.dp;show A.depth+1+3*k+5<_;omega,by have:=r.un;show A.units+3+16*k+200<_;omega,r.gd⟩
theorem fJ{A:A6}{C:Al}:(A.under (.builtin "type.__call__" ⟨.ref C::us,kw⟩)).depth=A.depth+1:=by
 first|rfl|simp[JS,Code.weight,Code.isCreation,Code.isGuard,Code.isCaller,Zk,JT,guardIds]
theorem fH{A:A6}{C:Al}:(A.under (.builtin "type.__call__" ⟨.ref C::us,kw⟩)).units=A.units+1:=by
 first|rfl|simp[JS,Code.cUnits,Zk,JT]
theorem Room.depth{A:A6}(r:Room k A):A.depth<Hd:=by have:=r.dp;omega
theorem Room.units{A:A6}(r:Room k A):A.units+64<CG:=by have:=r.un;omega
def dF:TA:=λ_ H Q=>Q [] H
def b7(ta:TE)(tr:TA):TA:=λZ H Q=>ta Z H λx H1=>tr Z H1 λxs H2=>Q (x::xs) H2
section
variable{X:Cx}{e:An}{es:Ac An}{te:TE}{t:TA}{pos:AL}
theorem GZ:PA X [] dF:=λ_ _ _ _ H Q I h=>Zj ⟨[],H,I,.nil,h⟩
theorem EA(ha:PE X e te)(hr:PA X es t)(hs:Aw (e::es) X.env=(Ad,eval e X.env)::Aw es X.env:=by rfl):PA X (e::es) (b7 te t):=by
 intro pos pI s Z H Q I h;rw[hs];show Au _ _ (spliced ((Ad,eval e X.env)::Cj pos (Aw es X.env))) _ _ s;refine Zi (thn (ha pI s Z H _ I h) λu s1 ⟨x,H1,I1,r1,q1⟩=>?_)
 exact thn (hr pos pI s1 Z H1 _ I1 q1) λus s2 ⟨xs,H2,I2,r2,q2⟩=>⟨x::xs,H2,I2,.cons r1 r2,q2⟩
def dA(t:TA):TE:=λZ H Q=>t Z H λxs H1=>xs.length<=sizeLine/\∀ p,H1 p=Af->Q (.ref p) (upd H1 p (.tup xs))
def dG(t:TA):TE:=λZ H Q=>t Z H λxs H1=>xs.length<=sizeLine/\∀ p,H1 p=Af->Q (.ref p) (upd H1 p (.lst xs))
theorem WT{x1}(h:PA X es t):PE X (.Tuple es x1 pos) (dA t):=by
 intro pI s Z H Q I hq;refine wpAny_Tuple_spliced (thn (h pos pI s Z H _ I hq) λus s1 ⟨xs,H1,I1,r,z,q⟩=>⟨by rw[<-r.length];exact z,?_⟩)
 have hf:H1 s1.heap.objs.size=Af:=I1.hok.fresh (A5 _);refine⟨.ref s1.heap.objs.size,upd H1 s1.heap.objs.size (.tup xs),I1.laid (t':=s1.toks) (λb u e=>As _ e) (A5 _) ?_,rfl,q _ hf⟩
 exact⟨z,us,r,⟨_,AE _ rfl,rfl,_,rfl⟩⟩
theorem wW(h:PA X es t):PE X (.List es pos) (dG t):=by
 intro pI s Z H Q I hq;refine wpAny_List_spliced (thn (h pos pI s Z H _ I hq) λus s1 ⟨xs,H1,I1,r,z,q⟩=>⟨by rw[<-r.length];exact z,?_⟩)
 have hf:H1 s1.heap.objs.size=Af:=I1.hok.fresh (A5 _);refine⟨.ref s1.heap.objs.size,upd H1 s1.heap.objs.size (.lst xs),I1.laid (t':=s1.toks) (λb u e=>As _ e) (A5 _) ?_,rfl,q _ hf⟩
 exact⟨z,us,0,r,AE _ rfl⟩
end
abbrev Sp:=Ac V->Hp->VK->XK->Prop
variable{sp:Sp}
abbrev CXT:=Ac CI->Hp->Ar->XK->Ai->Ar->Prop
variable{CX:CXT}
structure Env0 (P:AS) (w:AF) (K:Fg) (mg:Aj->Ao Ai) (base:AB) (A:A6) (outer:Ac CI) (s:Ar) (H:Hp):Prop where
 frames:A.frames=Aa outer
 mod:Mod K mg base
 bs:∀ b o,base.get? b=Aa o->s.heap.get? b=Aa o/\H b=Af
 bsz:base.objs.size<=s.heap.objs.size
 funs:s.heap.FunFrames base outer
 frf:∀ b∈frs outer,H b=Af
 hok:HOk P w H s.heap
 bare:F1 s.gens
noncomputable def CE(outer:Ac CI)(P:AS)(w:AF)(H:Hp)(s:Ar)(Q:VK)(u:Ai)(s':Ar):Prop:=
 ∃ v H',s'.os=s.os/\F1 s'.gens/\Un (frs outer) [] H H' s.heap s'.heap/\HOk P w H' s'.heap/\BS v u/\Q v H'
noncomputable def CR(CX:CXT)(outer:Ac CI)(P:AS)(w:AF)(H:Hp)(s:Ar)(Q:VK)(E:XK)(r:Jf)(s':Ar):Prop:=
  match r with
  |.ok (.ret u)=>CE outer P w H s Q u s'
  |.ok _=>A3
  |.error e=>CX outer H s E e s'
structure FnOk (P:AS) (w:AF) (K:Fg) (mg:Aj->Ao Ai) (base:AB) (CX:CXT) (k:Ag) (f:Al) (fd:B9) (ps:Ac Aj) (sp:Sp):Prop where
 len:∀ vs H Q E,sp vs H Q E->vs.length=ps.length
 run:∀(A:A6)(outer:Ac CI)(s:Ar)(H:Hp)(args:Args)(us:Ac Ai)(vs:Ac V)(Q:VK)(E:XK),Room k A->Env0 P w K mg base A outer s H->GJ s fd args (ps.zip us)->Bq vs us->sp vs H Q E ->
  E9 (model P w) A (.call (.ref f) args) (CR CX outer P w H s Q E) s
theorem FnOk.imp{w:AF}{K:Fg}{mg:Aj->Ao Ai}{base:AB}{f:Al}{sp':Sp}(F:FnOk P w K mg base CX k f fd ps sp)(h:∀ vs H Q E,sp' vs H Q E->sp vs H Q E):FnOk P w K mg base CX k f fd ps sp':=
 ⟨λvs H Q E q=>F.len vs H Q E (h _ _ _ _ q),λA outer s H args us vs Q E hr he hb hv hs=>F.run A outer s H args us vs Q E hr he hb hv (h _ _ _ _ hs)⟩
theorem Env0.make{w:AF}{K:Fg}{mg:Aj->Ao Ai}{base:AB}{A:A6}{outer:Ac CI}(e:Env0 P w K mg base A outer s H)(C:Al)(us:Ac Ai)(kw:Ac (Aj×Ai)):
    Env0 P w K mg base (A.under (.builtin "type.__call__" ⟨.ref C::us,kw⟩)) outer s H:=⟨by first|exact e.frames|(simpa [JS,Code.envs,JT,pushEnvs] using e.frames),e.mod,e.bs,e.bsz,e.funs,e.frf,e.hok,e.bare⟩
section
variable{X:Cx}{pI:Pn}{Z:St}{H:Hp}{s s':Ar}
theorem Inv.env0(I:Inv X pI Z H s):Env0 X.prog X.w X.K X.mg X.base X.A X.stack s H:=
 ⟨I.ok.frames,I.ok.mod,I.bs,Ci I.ok.bsz I.sz,I.stack,I.stkFree,I.hok,I.bare⟩
theorem Inv.after{Q:VK}(I:Inv X pI Z H s)(h:CE X.stack X.prog X.w H s Q u s'):EP X pI Z Q u s':=by
 obtain⟨v,H',os,bare,un,hok,r,q⟩:=h;obtain⟨hh,g,d,t,os'⟩:=s';obtain rfl:os'=s.os:=os;exact⟨v,H',I.call (h':=hh) (g':=g) (d':=d) (t':=t) (ch:=[]) un hok bare (λb z=>absurd z (by simp)),r,q⟩
end
def b8(sp:Sp)(dvs:Ac V)(E:XK)(t:TA):TE:=λZ H Q=>t Z H λvs H1=>sp (vs++dvs) H1 Q E
noncomputable def Ge(K:Fg)(fd:B9)(ps:Ac Aj)(ds:Ac Ai):Prop:=
 ∀(s:Ar)(us:Ac Ai),K.In s.heap->(us++ds).length=ps.length->GJ s fd ⟨us,[]⟩ (ps.zip (us++ds))
theorem Ge.all{K:Fg}(h:∀ us:Ac Ai,us.length=ps.length->Jl fd ⟨us,[]⟩=pure (ps.zip us)):Ge K fd ps []:=λs us _ hl=>by
 rw[CT]at hl ⊢;exact .of_eq (h us hl)
def LW(CX:CXT)(X:Cx)(E:XK):Prop:=∀(pI:Pn)(Z:St)(H:Hp)(s:Ar)(e:Ai)(s':Ar),Inv X pI Z H s->CX X.stack H s E e s'->X.xe e s'
section
variable{X:Cx}{CX:CXT}{k:Ag}{f C:Al}{fd:B9}{ps:Ac Aj}{sp:Sp}{dvs:Ac V}{ds:Ac Ai}{E:XK}{x m:Aj}{p pos apos:AL}{e o:An}{es:Ac An}{ta:TE}{t:TA}
theorem xJ{Q:VK}(F:FnOk X.prog X.w X.K X.mg X.base CX k f fd ps sp)(hr:Room k X.A)(hb:Ge X.K fd ps ds)(hd:Bq dvs ds)(hx:LW CX X E)(I:Inv X pI Z H s)(r:Bq vs us)(h:sp (vs++dvs) H Q E):Au (model X.prog X.w) X.A (call (.ref f) us) (EP X pI Z Q) X.xe s:=by
 have r2:Bq (vs++dvs) (us++ds):=r.append hd;have hl:(us++ds).length=ps.length:=by rw[<-r2.length];exact F.len _ _ _ _ h
 refine GV (FV (F.run X.A X.stack s H ⟨us,[]⟩ (us++ds) (vs++dvs) Q E hr I.env0 (hb s us I.kIn hl) r2 h) λr s' hq=>?_)
 cases r with
 |error e=>exact hx pI Z H s e s' I hq
 |ok fl=>
  cases fl with
  |ret u=>exact I.after hq
  |next=>exact Bs hq
  |brk=>exact Bs hq
  |cont=>exact Bs hq
theorem Wb(F:FnOk X.prog X.w X.K X.mg X.base CX k f fd ps sp)(hr:Room k X.A)(hg:Gl X x)(hm:X.mg x=Aa (.ref f))(hk:Co X.K (.ref f)=Ab)(hb:Ge X.K fd ps ds)(hd:Bq dvs ds)(hx:LW CX X E)(ha:PA X (e::es) t)(hdb:(x==("__debug__" : Aj))=Ad:=by decide)(he:Aw (e::es) X.env=(Ad,eval e X.env)::Aw es X.env:=by rfl)(hpl:(Cj pos (Aw es X.env)).any (·.1)=Ad:=by rfl):PE X (.Call (.Name x p) (e::es) [] pos) (b8 sp dvs E t):=by
 intro pI s Z H Q I h;refine EQ (Kb I hg hm ?_ hdb);refine Ht (h₀:=X.base) I.ok.mod.kin hk (thn (ha pos pI s Z H _ I h) λus s1 ⟨vs,H1,I1,r,q⟩=>⟨I1.kIn,?_⟩) he hpl
 exact xJ F hr hb hd hx I1 r q
end
section
variable{X:Cx}{CX:CXT}{k:Ag}{f C:Al}{fd:B9}{ps ks:Ac Aj}{sp:Sp}{E:XK}{x m:Aj}{p pos apos kpos:AL}{e o:An}{es:Ac An}{kws:Ac F2}{te ta:TE}{t tk:TA}{nm:Ao Aj}
variable{g:Ac Ai->Ac Ai->Ac Ai}{gV:Ac V->Ac V->Ac V}
end
structure FnScope (N P:Ac Aj) (sc:Cv):Prop where
 kind:sc.kind=.function
 co:sc.isCoroutine=Ad
 gen:sc.isGenerator=Ad
 nd:N.Nodup
 pre:N.take P.length=P
 par:∀ x∈P,sc.names.lookup x=Aa .local\/sc.names.lookup x=Aa .cell
 nofree:∀ y∈sc.names,y.2≠.free
theorem Ui{kindOf:Aj->Ao Ey}{x:Aj}:∀{binds:Ac (Aj×Ai)}{m:Aj->Ao Ai},(∀ v,(x,v)∉binds)->Jn kindOf binds m x=m x
 |[],_,_=>rfl
 |(n,v)::r,m,h=>by
  unfold Jn;rw[Ui λw hw=>h w (AN _ hw)]
  split
  .have:x≠n:=by rintro rfl;exact h v AX
   simp[this]
  .rfl
theorem Uk{kindOf:Aj->Ao Ey}{x:Aj}:∀{binds:Ac (Aj×Ai)}{m:Aj->Ao Ai},(∀ v,(x,v)∉binds)->Jm kindOf binds m x=m x
 |[],_,_=>rfl
 |(n,v)::r,m,h=>by
  unfold Jm;rw[Uk λw hw=>h w (AN _ hw)]
  split
  .rfl
  .have:x≠n:=by rintro rfl;exact h v AX
   simp[this]
theorem Uj{kindOf:Aj->Ao Ey}{x:Aj}{v:Ai}:∀{P:Ac Aj}{vs:Ac Ai}{i:Ag}{m:Aj->Ao Ai},P.Nodup->P[i]?=Aa x->vs[i]?=Aa v->kindOf x=Aa .local->Jn kindOf (P.zip vs) m x=Aa v
 |[],_,_,_,_,h,_,_=>by simp at h
 |_::_,[],_,_,_,_,h,_=>by simp at h
 |p::P,w::vs,0,m,nd,h1,h2,hk=>by
  simp at h1 h2;subst h1;subst h2;show Jn kindOf ((p,w)::P.zip vs) m p=_;unfold Jn;rw[Ui λv hv=>(EN.mp nd).1 (GN hv).1,Az hk]
  simp
 |p::P,w::vs,i+1,m,nd,h1,h2,hk=>by
  show Jn kindOf ((p,w)::P.zip vs) m x=_;unfold Jn;exact Uj (i:=i) (EN.mp nd).2 (by simpa using h1) (by simpa using h2) hk
theorem Ul{kindOf:Aj->Ao Ey}{x:Aj}{v:Ai}:∀{P:Ac Aj}{vs:Ac Ai}{i:Ag}{m:Aj->Ao Ai},P.Nodup->P[i]?=Aa x->vs[i]?=Aa v->kindOf x≠Aa .local->Jm kindOf (P.zip vs) m x=Aa v
 |[],_,_,_,_,h,_,_=>by simp at h
 |_::_,[],_,_,_,_,h,_=>by simp at h
 |p::P,w::vs,0,m,nd,h1,h2,hk=>by
  simp at h1 h2;subst h1;subst h2;show Jm kindOf ((p,w)::P.zip vs) m p=_;unfold Jm;rw[Uk λv hv=>(EN.mp nd).1 (GN hv).1,AK hk]
  simp
 |p::P,w::vs,i+1,m,nd,h1,h2,hk=>by
  show Jm kindOf ((p,w)::P.zip vs) m x=_;unfold Jm;exact Ul (i:=i) (EN.mp nd).2 (by simpa using h1) (by simpa using h2) hk
noncomputable def start(N:Ac Aj)(vs:Ac V):St:=vs.map Aa++Hb (N.length-vs.length) Af
noncomputable def Fd(CX:CXT)(P:AS)(w:AF)(K:Fg)(mg:Aj->Ao Ai)(base:AB)(N:Ac Aj)(qual:Aj)(scope:Cv)(f:Al)(cd:Ai)(A:A6)(outer:Ac CI)(s:Ar)(H:Hp)(E:XK):Cx where
 prog:=P
 w:=w
 K:=K
 mg:=mg
 base:=base
 A:=A.deeper (E6 qual scope s.heap.objs.size f cd)
 N:=N
 s₀:=s
 H₀:=H
 env:=E6 qual scope s.heap.objs.size f cd
 outer:=outer
 stack:=E6 qual scope s.heap.objs.size f cd::outer
 ex:=[]
 calm:=Ab
 fn:=λ_=>Ab
 pn:=[]
 xe:=λe s'=>Au (model P w) (A.deeper (E6 qual scope s.heap.objs.size f cd)) (leaving (E6 qual scope s.heap.objs.size f cd) e) (λ_ s''=>CX outer H s E e s'') (λe' s''=>CX outer H s E e' s'') s'
theorem U8{sc:Cv}(h:sc.names.lookup x=Aa .cell):∃ c,(De n sc.names []).lookup x=Aa c:=by
 have q:=Gq sc.names n [] (.inl h);exact Eu.mp q
theorem P5{w:AF}{K:Fg}{mg:Aj->Ao Ai}{base:AB}{N ps:Ac Aj}{f:Al}{cd:Ai}{A:A6}{outer:Ac CI}{s1:Ar}{E:XK}(S:FnScope N ps scope)(hd:A.handled=Af)(e0:Env0 P w K mg base A outer s H)(hl:vs.length=ps.length)(r:Bq vs us)(x:InCallC s s.heap.objs.size (Jn (E6 qual scope s.heap.objs.size f cd).kindOf (ps.zip us) λ_=>Af) (De (s.heap.objs.size+1) scope.names []) (Jm (E6 qual scope s.heap.objs.size f cd).kindOf (ps.zip us) λ_=>Af) s1):Inv (Fd CX P w K mg base N qual scope f cd A outer s H E) [] (start N vs) H s1:=by
 have hpl:ps.length<=N.length:=by have:=congrArg List.length S.pre;rw[Gw]at this;omega
 obtain⟨h1,tk,rfl,hk⟩:=x.done;have noA:∀ b:Al,b∉(Fd CX P w K mg base N qual scope f cd A outer s H E).ex:=λb z=>absurd (show b∈([]:Ac Al) from z) (by simp)
 refine⟨⟨e0.mod,S.kind,rfl,rfl,A5 _,λy z c h1 h2=>?_,λy hy=>?_,λy c _ h=>?_,λ_=>hd,Around.frames_deeper e0.frames,.inr ⟨rfl,rfl⟩,λb z=>absurd z (noA b),e0.bs,e0.bsz,λb _ _=>noA b,λb z=>absurd z (noA b),e0.funs,e0.frf⟩,
  rfl,e0.bare,Un.kept hk,⟨_,x.toInCall.ns,λi y v h1 h2 h3=>?_⟩,λy c h=>⟨_,x.cell y c h⟩,e0.hok.fresh (A5 _),λy c h=>?_,λp hp=>absurd (show p∈([]:Pn) from hp) (by simp),e0.hok.kept hk,?_⟩
 .exact name_of_addr x.apart (C7 h1) (C7 h2)
 .have hy:scope.names.lookup y=Aa .cell\/scope.names.lookup y=Aa .free:=hy;rcases hy with hy|hy
  .exact U8 hy
  .exact absurd rfl (S.nofree _ (C7 hy))
 .exact E5 (x.above y c (C7 h))
 .have hi:i<vs.length:=by
   unfold start at h2;by_cases hi:i<vs.length
   .exact hi
   .rw[YL (by simpa using hi)]at h2
    rw[YN]at h2;split at h2<;>cases h2
  have ha:vs[i]?=Aa v:=by
   unfold start at h2;rw[FL (by simpa using hi),DP]at h2
   cases e:vs[i]? with
   |none=>rw[e]at h2;cases h2
   |some a=>rw[e]at h2;cases h2;rfl
  obtain⟨u,hu,rv⟩:=r.get ha;have hp:ps[i]?=Aa y:=by
   rw[<-S.pre,List.getElem?_take_of_lt (by omega)];exact h1
  have ndP:ps.Nodup:=by rw[<-S.pre];exact S.nd.sublist (List.take_sublist _ _)
  refine⟨u,rv,?_⟩;rcases S.par y (DL hp) with k|k
  .exact .inl ⟨k,Uj ndP hp hu k⟩
  .obtain⟨c,e⟩:=U8 (n:=s.heap.objs.size+1) k;refine .inr ⟨.inl k,c,e,?_⟩;have q:=x.cell y c e;rw[Ul ndP hp hu (by show scope.names.lookup y≠_;rw[k];decide)]at q
   exact q
 .exact e0.hok.fresh (E5 (x.above y c (C7 h)))
 .unfold start;show _=N.length;rw[DD,BO,YR];omega
theorem X5{w:AF}{K:Fg}{mg:Aj->Ao Ai}{base:AB}{f:Al}{name:Aj}{params:Mm}{dV kV doc pm cdv ct oc:Ai}{an od:Ao Al}{osl:A9 (Ao Ai)}{N ps:Ac Aj}(lk:K.lookup f=Aa ⟨oc,od,.func (CQ name qual params body scope dV kV doc pm an cdv ct),osl⟩)(hcd:Ep K cdv qual=Ab)(S:FnScope N ps scope)(len:∀ vs H Q E,sp vs H Q E->vs.length=ps.length)(hbody:∀(A:A6)(outer:Ac CI)(s:Ar)(H:Hp)(vs:Ac V)(Q:VK)(E:XK),Room k (A.deeper (E6 qual scope s.heap.objs.size f cdv))->sp vs H Q E ->
   ∃ t,PSs (Fd CX P w K mg base N qual scope f cdv A outer s H E) body t/\t {nx:=λ_ H'=>Q .non H',rt:=Q} (start N vs) H):FnOk P w K mg base CX (k+1) f (CQ name qual params body scope dV kV doc pm an cdv ct) ps sp:=by
 refine⟨len,λA outer s H args us vs Q E hr e0 hb r hsp=>?_⟩
 have hl:=len _ _ _ _ hsp;have KX:K.In s.heap:=e0.mod.kin.keeps λb o e=>(e0.bs b o e).1
 have lim:s.heap.NoLimit:=e0.mod.nolimit.keeps λb o e=>(e0.bs b o e).1
 have hkind:∀ y∈ps.zip us,scope.names.lookup y.1=Aa .local\/(scope.names.lookup y.1=Aa .cell/\((De (s.heap.objs.size+1) scope.names []).lookup y.1).isSome=Ab):=λ⟨n,v⟩ hy=>by
  rcases S.par n (GN hy).1 with q|q
  .exact .inl q
  .exact .inr ⟨q,Gq _ _ _ (.inl q)⟩
 refine GK hr.depth (KX _ _ lk) rfl S.co S.gen rfl (Hu KX hcd) (hb _ _ _ _ ?_);refine Fw S.kind hkind λenv he s1 x=>?_
 subst he;refine⟨lim.keeps x.toInCall.keep,JY ?_⟩;obtain⟨t,ht,hq⟩:=hbody A outer s H vs Q E (hr.deeper _) hsp;have I:Inv (Fd CX P w K mg base N qual scope f cdv A outer s H E) [] (start N vs) H s1:=P5 S hr.hd e0 hl r x;refine Bu (ht [] s1 (start N vs) H _ I hq) (λfl s' hs=>?_) λe s' hs=>hs
 have fin:∀{Z':St}{H':Hp}{v:V}{u:Ai},Inv (Fd CX P w K mg base N qual scope f cdv A outer s H E) [] Z' H' s'->BS v u->Q v H'->CE outer P w H s Q u s':=
  λ{Z' H' v u} J_ rv q=>⟨v,H',J_.os,J_.bare,J_.base,J_.hok,rv,q⟩
 cases fl with
 |ret u=>
  obtain⟨v,Z',H',J_,rv,q⟩:=hs;exact fin J_ rv q
 |next=>
  obtain⟨Z',H',J_,q⟩:=hs;exact fin (v:=V.non) (u:=Dk) J_ rfl q
 |brk=>
  obtain⟨_,_,_,q⟩:=hs;exact Bs q
 |cont=>
  obtain⟨_,_,_,q⟩:=hs;exact Bs q
section
variable{X:Cx}{x:Aj}{p pos:AL}{e:An}{es:Ac An}{t:TA}{id T:Dy}{r:Ac V->Hp->VK->Prop}
def tCB(r:Ac V->Hp->VK->Prop)(t:TA):TE:=λZ H Q=>t Z H λvs H1=>r vs H1 Q
theorem MI(hc:Kg X (.builtin id) r)(hg:Gl X x)(hm:X.mg x=Af)(hv:Dv x=Aa (.builtin id))(ha:PA X (e::es) t)(hn:x≠"__name__" := by decide)(hdb:(x==("__debug__" : Aj))=Ad:=by decide)(he:Aw (e::es) X.env=(Ad,eval e X.env)::Aw es X.env:=by rfl)(hpl:(Cj pos (Aw es X.env)).any (·.1)=Ad:=by rfl):PE X (.Call (.Name x p) (e::es) [] pos) (tCB r t):=by
 intro pI s Z H Q I h;refine EQ (Ju I hg hm hv ?_ hn hdb);exact PyProof.Rows.callWith_builtin1 (thn (ha pos pI s Z H _ I h) λus s1 ⟨vs,H1,I1,r1,q1⟩=>hc pI s1 Z H1 vs us Q I1 r1 q1) he hpl
theorem Uy(hc:Kg X (.type T) r)(hg:Gl X x)(hm:X.mg x=Af)(hv:Dv x=Aa (.type T))(ha:PA X (e::es) t)(hn:x≠"__name__" := by decide)(hdb:(x==("__debug__" : Aj))=Ad:=by decide)(he:Aw (e::es) X.env=(Ad,eval e X.env)::Aw es X.env:=by rfl)(hpl:(Cj pos (Aw es X.env)).any (·.1)=Ad:=by rfl):PE X (.Call (.Name x p) (e::es) [] pos) (tCB r t):=by
 intro pI s Z H Q I h;refine EQ (Ju I hg hm hv ?_ hn hdb);exact Cw (thn (ha pos pI s Z H _ I h) λus s1 ⟨vs,H1,I1,r1,q1⟩=>hc pI s1 Z H1 vs us Q I1 r1 q1) he hpl
end
end L2
namespace HT
open PySem PyProof.Rows
variable{sl:Al}
section
open PySem.SeqAt
open PySem.AutoSeq1 (wpAny_loadPart')
open PySem.MeetsSeq PySem.MeetsSeq2 PySem.MeetsSeq3
end
section
variable{prog:AS}{w:AF}{A:A6}{E:Vq}{s:Ar}
theorem cat_tup{t b:Al}{vs ws:Ac Ai}{Q:Vq}(ht:Ku s.heap t vs.toArray)(hb:Ku s.heap b ws.toArray)(hv:vs≠[])(h1:ws=[]->Q (.ref t) s)(h2:ws≠[]->Q (.ref s.heap.objs.size) { s with heap:=s.heap.push { cls:=.type "tuple",data:=.seq (vs++ws).toArray } })(hsz:vs.length+ws.length<=sizeLine):Au (model prog w) A (CA .Add (.ref t) (.ref b)) Q E s:=by
 obtain⟨⟨cls,dd,data,sl⟩,ho,hc,n,hd⟩:=id ht;obtain⟨⟨cls2,dd2,data2,sl2⟩,ho2,hc2,n2,hd2⟩:=id hb;simp only at hc hd hc2 hd2;subst hc hd hc2 hd2;have e:vs.toArray++ws.toArray=(vs++ws).toArray:=by simp
 by_cases hw:ws=[]
 .exact JZ ⟨_,ho,rfl⟩ ⟨_,ho2,rfl⟩ bJ seq_tuple_add ZX ZS (ZN _ _)
   (tuple_addW1 t b vs.toArray ws.toArray n n2 dd dd2 sl sl2 (by simpa using hv) (by simp[hw])) ⟨ho,ho2,h1 hw⟩
 .refine JZ ⟨_,ho,rfl⟩ ⟨_,ho2,rfl⟩ bJ seq_tuple_add ZX ZS (ZN _ _)
   (tuple_addW2 t b vs.toArray ws.toArray n n2 dd dd2 sl sl2 (by simpa using hv) (by simpa using hw) (by rw[AU,AU];exact hsz)) ⟨ho,ho2,?_⟩
  rw[e];exact h2 hw
noncomputable def sIx(n d:Ag):Ao Ae->Ag
 |none=>d
 |some v=>if v<0 then (v+(n:Ae)).toNat else min v.toNat n
theorem xH(n d:Ag)(hd:d<=n)(o:Ao Ae):sIx n d o<=n:=by
 cases o with
 |none=>exact hd
 |some v=>
  show (if v<0 then (v+(n:Ae)).toNat else min v.toNat n)<=n
  by_cases hv:v<0
  .rw[Az hv];omega
  .rw[AK hv];exact Nat.min_le_right _ _
theorem V0(v:Ae)(n d:Ag):(if v<0 then max (v+(n:Ae)) 0 else min v (n:Ae))=((sIx n d (Aa v):Ag):Ae):=by
 show (if v<0 then max (v+(n:Ae)) 0 else min v (n:Ae))=(((if v<0 then (v+(n:Ae)).toNat else min v.toNat n):Ag):Ae)
 by_cases hv:v<0
 .simp only[Az hv];omega
 .simp only[AK hv];omega
theorem fO(lo hi:Ao Ae)(n:Ag):FN lo hi 1 (n:Ae)=(((sIx n 0 lo:Ag):Ae),((sIx n n hi:Ag):Ae)):=by
 have h1:¬ ((1:Ae)<0):=by omega
 unfold FN;simp only[h1,IC];refine BF ?_ ?_
 .cases lo with
  |none=>rfl
  |some v=>exact V0 v n 0
 .cases hi with
  |none=>rfl
  |some v=>exact V0 v n n
theorem fY(i j:Ag):El (i:Ae) (j:Ae) 1=j-i:=by
 unfold El;have h1:(1:Ae)>0:=by omega
 simp only[h1,Fe,Int.ediv_one];split<;>omega
theorem TY{v:Ai}{o:Ao Ae}{Q:Ao Ae->Ar->Prop}(p:H9 v o)(h:Q o s):Au (model prog w) A (Builtin.Slice.slicePartIndex v) Q E s:=by
 cases p with
 |none=>exact Y_8 h
 |int i t=>exact slicePart_int h
theorem eV{vl vu:Ai}{lo hi:Ao Ae}{n:Ag}{Q:Ae×Ae×Ag->Ar->Prop}(hs:s.heap.IsSliceOf sl vl vu .none)(pl:H9 vl lo)(pu:H9 vu hi)(h:Q (((sIx n 0 lo:Ag):Ae),1,sIx n n hi-sIx n 0 lo) s):Au (model prog w) A (Zf (.ref sl) (pure (n:Ae))) Q E s:=by
 obtain⟨os,hos,hcs,hds⟩:=id hs;unfold Zf Builtin.Slice.sliceFields;refine Ah (Ah (Bp hos hds (x:=vl) rfl (Ah (Bp hos hds (x:=vu) rfl (Ah (Bp hos hds (x:=.none) rfl (Av ?_)))))));refine Ah (Y_8 ?_);show Au _ _ (if ((1:Ae)==0)=Ab then _ else _) _ _ s
 rw[AK (by decide)]
 refine Ah (TY pl (Ah (TY pu (Ah (Av ?_)))));show Au _ _ (match FN lo hi 1 (n:Ae) with|(lo,hi)=>pure (lo,(1:Ae),El lo hi 1)) _ _ s
 rw[fO lo hi n];show Au _ _ (pure (((sIx n 0 lo:Ag):Ae),(1:Ae),El ((sIx n 0 lo:Ag):Ae) ((sIx n n hi:Ag):Ae) 1)) _ _ s;rw[fY];exact Av h
theorem lD(xs:A9 Ai)(i k:Ag):((Cm k).filterMap fun(m:Ag)=>xs[((i:Ae)+(m:Ae)*1).toNat]?).toArray=((xs.toList.drop i).take k).toArray:=by
 have e:(fun(m:Ag)=>xs[((i:Ae)+(m:Ae)*1).toNat]?)=λm=>xs[i+m]?:=by
  funext m
  have:((i:Ae)+(m:Ae)*1).toNat=i+m:=by omega
  rw[this]
 rw[e];have:=pick_run xs i k;rw[List.filterMap_map]at this;have e2:((λx=>xs[x]?) ∘ λx=>i+x)=λm=>xs[i+m]?:=rfl
 rw[e2]at this;rw[this]
theorem getItem_tuple_cut{t:Al}{items:A9 Ai}{vl vu:Ai}{lo hi:Ao Ae}{Q:Vq}(ht:Ku s.heap t items)(hs:s.heap.IsSliceOf sl vl vu .none)(pl:H9 vl lo)(pu:H9 vu hi)(hw:¬ (sIx items.size 0 lo=0/\sIx items.size items.size hi=items.size))(h:Q (.ref s.heap.objs.size) { s with heap:=s.heap.push { cls:=.type "tuple",data:=.seq ((items.toList.drop (sIx items.size 0 lo)).take (sIx items.size items.size hi-sIx items.size 0 lo)).toArray } })(hsz:items.size<=sizeLine):Au (model prog w) A (Kw (.ref t) (.ref sl)) Q E s:=by
 have htake:sizeOk (.seq ((items.toList.drop (sIx items.size 0 lo)).take (sIx items.size items.size hi-sIx items.size 0 lo)).toArray):=by
  show ((items.toList.drop (sIx items.size 0 lo)).take (sIx items.size items.size hi-sIx items.size 0 lo)).toArray.size<=sizeLine;rw[AU,Gw,YQ,ED];omega
 have hj:sIx items.size items.size hi<=items.size:=xH _ _ (A5 _) hi;obtain⟨os,hos,hcs,hds⟩:=id hs;have hTs:s.TypeIs (.ref sl) "slice" := ⟨os,hos,hcs⟩;unfold Kw
 try with_reducible refine BV ?_
 first|refine Ah (Av ?_)|skip
 refine Ah (wpAny_sequenceKey ht.typeIs (by decide) ?_)
 refine Ah (Ch (name:=By "__getitem__") ht.typeIs Y_9
  (C1 Y_9 ht.typeIs entry_tuple_getitem ?_ (args_tuple_getitem _ _)))
 show Au _ _ (Builtin.Tuple.tupleItemsOf (.ref t) >>= _) _ _ s;refine Ah (tupleItemsOf_ ht ?_);refine Ah (wpAny_typeOf hTs ?_);rw[Az (by decide)]
 refine Ah (eV hs pl pu ?_);have hno:¬ ((((sIx items.size 0 lo:Ag):Ae)==0&&(1:Ae)==1&&(sIx items.size items.size hi-sIx items.size 0 lo)==items.size)=Ab):=by
  intro q;rw[Am,Am]at q;have q1:((sIx items.size 0 lo:Ag):Ae)=0:=eq_of_beq q.1.1;have q2:sIx items.size items.size hi-sIx items.size 0 lo=items.size:=eq_of_beq q.2;exact hw ⟨by omega,by omega⟩
 show Au _ _ (if (((sIx items.size 0 lo:Ag):Ae)==0&&(1:Ae)==1&&(sIx items.size items.size hi-sIx items.size 0 lo)==items.size)=Ab then _ else _) _ _ s
 rw[AK hno,lD]
 first
  |exact Ah (m:=Dd _) (CP (Av ⟨_,rfl,Av h⟩) htake)
  |exact Ah (m:=Dd _) (CP (Ah (Av (Av ⟨_,rfl,Av h⟩))) htake)
  |exact Ah (Ah (m:=Dd _) (CP (Av (Av ⟨_,rfl,Av h⟩)) htake))
  |exact Ah (Ah (m:=Dd _) (CP (Av ⟨_,rfl,Av h⟩) htake))
end
end HT
namespace L2
open PySem PySem.Spec PyProof.Rows
variable{xs:Ac V}{us its its':Ac Ai}{n t':Ag}{i:Ae}{pI:Pn}{Z:St}{H:Hp}{s:Ar}{p:Al}
abbrev TO:=St->Hp->(Ao Ae->Hp->Prop)->Prop
noncomputable def PO(X:Cx)(e:Ao An)(t:TO):Prop:=
 ∀(pI:Pn)(s:Ar)(Z:St)(H:Hp)(Q:Ao Ae->Hp->Prop),Inv X pI Z H s->t Z H Q ->
  Au (model X.prog X.w) X.A (evalPart e X.env) (λu s'=>∃ o H',Inv X pI Z H' s'/\H9 u o/\Q o H') X.xe s
def nF:TO:=λ_ H Q=>Q Af H
def ax(t:TE):TO:=λZ H Q=>t Z H λx H1=>∃ i,x=.int i/\Q (Aa i) H1
section
variable{X:Cx}{e:An}{te:TE}{lo hi:Ao An}{tl th:TO}{pos p2:AL}
theorem pS:PO X Af nF:=by
 intro pI s Z H Q I h;rw[evalPart_none];exact Av ⟨Af,H,I,.none,h⟩
theorem pR(h:PE X e te):PO X (Aa e) (ax te):=by
 intro pI s Z H Q I hw;rw[evalPart_some];refine thn (h pI s Z H _ I hw) λu s1 ⟨x,H1,I1,r1,q1⟩=>?_
 obtain⟨i,rfl,q⟩:=q1;obtain⟨t,rfl⟩:=r1;exact⟨Aa i,H1,I1,.int i t,q⟩
noncomputable def SlR(X:Cx)(r:V->Ao Ae->Ao Ae->Hp->VK->Prop):Prop:=
 ∀(pI:Pn)(s:Ar)(Z:St)(H:Hp)(x:V)(v vl vu:Ai)(lo hi:Ao Ae)(sl:Al)(Q:VK),Inv X pI Z H s->BS x v->s.heap.IsSliceOf sl vl vu .none->H9 vl lo->H9 vu hi->r x lo hi H Q ->
  ∃ T id,Jp (.type T) "__getitem__" = pure (Aa (.builtin id))/\s.TypeIs v T/\Au (model X.prog X.w) X.A (Kw v (.ref sl)) (EP X pI Z Q) X.xe s
def tSl(r:V->Ao Ae->Ao Ae->Hp->VK->Prop)(te:TE)(tl th:TO):TE:=λZ H Q=>te Z H λx H1=>tl Z H1 λl H2=>th Z H2 λu H3=>r x l u H3 Q
theorem lF{r:V->Ao Ae->Ao Ae->Hp->VK->Prop}(hr:SlR X r)(he:PE X e te)(hl:PO X lo tl)(hu:PO X hi th):PE X (.Subscript e (.Slice lo hi Af p2) pos) (tSl r te tl th):=by
 intro pI s Z H Q I h;refine Subscript_ (thn (he pI s Z H _ I h) λv s1 ⟨x,H1,I1,r1,q1⟩=>?_)
 refine wpAny_Slice (thn (hl pI s1 Z H1 _ I1 q1) λvl s2 ⟨l,H2,I2,pl,q2⟩=>thn (hu pI s2 Z H2 _ I2 q2) λvu s3 ⟨u,H3,I3,pu,q3⟩=>?_)
 rw[evalPart_none];refine Av ?_;have I4:Inv X pI Z H3 { s3 with heap:=s3.heap.push { cls:=.type "slice",data:=.fields #[vl,vu,.none] } }:=I3.kept (t':=s3.toks) λb ob q=>As _ q
 obtain⟨T,id,hT,ht,hg⟩:=hr pI { s3 with heap:=s3.heap.push { cls:=.type "slice",data:=.fields #[vl,vu,.none] } } Z H3 x v vl vu l u s3.heap.objs.size Q I4 r1 (Heap.IsSliceOf.new ..) pl pu q3
 show Au (model X.prog X.w) X.A (subscriptTail e (.Slice lo hi Af p2) v (.ref s3.heap.objs.size)) (EP X pI Z Q) X.xe { s3 with heap:=s3.heap.push { cls:=.type "slice",data:=.fields #[vl,vu,.none] } }
 exact tail_any (ops:=[.ref s3.heap.objs.size,v]) ht hT hg (by with_unfolding_all rfl)
noncomputable def Kt(xs:Ac V)(lo hi:Ao Ae):Ac V:=(xs.drop (HT.sIx xs.length 0 lo)).take (HT.sIx xs.length xs.length hi-HT.sIx xs.length 0 lo)
theorem TN(xs:Ac V)(lo hi:Ao Ae):(Kt xs lo hi).length<=xs.length:=by
 unfold Kt;rw[Gw,YQ];omega
def SQ(K:Fg):V->Ao Ae->Ao Ae->Hp->VK->Prop:=λx lo hi H Q=>∃ a xs,x=.ref a/\SqT K H a xs /\
 ¬ (HT.sIx xs.length 0 lo=0/\HT.sIx xs.length xs.length hi=xs.length)/\∀ p,H p=Af->Q (.ref p) (upd H p (.tup (Kt xs lo hi)))
theorem vF:SlR X (SQ X.K):=by
 intro pI s Z H x v vl vu lo hi sl Q I rx hs pl pu h;obtain⟨a,xs,rfl,hx,hw,q⟩:=h;cases rx;obtain⟨its,r,ht,hz⟩:=I.tuple hx;have hlen:its.toArray.size=xs.length:=by rw[AU];exact r.length.symm
 refine⟨"tuple",_,PyProof.Rows.slot_tuple_getitem.lookup,ht.typeIs,?_⟩;refine HT.getItem_tuple_cut ht hs pl pu (by rw[hlen];exact hw) ?_ (by rw[hlen];exact hz)
 rw[hlen];refine⟨.ref s.heap.objs.size,_,I.laid (t':=s.toks) (o:=.tup (Kt xs lo hi)) (λb ob q=>As _ q) (A5 _) ?_,rfl,q _ (I.hok.fresh (A5 _))⟩
 exact⟨Ci (TN xs lo hi) hz,_,(r.drop (HT.sIx xs.length 0 lo)).take (HT.sIx xs.length xs.length hi-HT.sIx xs.length 0 lo),JR _ _⟩
def fu(K:Fg):R2:=λx y H Q=>∃ a b xs ys,x=.ref a/\y=.ref b/\SqT K H a xs/\SqT K H b ys/\xs≠[]/\xs.length+ys.length<=sizeLine /\
 (ys=[]->Q (.ref a) H)/\(ys≠[]->∀ p,H p=Af->Q (.ref p) (upd H p (.tup (xs++ys))))
theorem Bq.nil_iff(r:Bq xs us):us=[]↔xs=[]:=by
 cases r with
 |nil=>simp
 |cons _ _=>simp
theorem sD:OpR X (CA .Add) (fu X.K):=by
 intro pI s Z H x y v u Q I rx ry h;obtain⟨a,b,xs,ys,rfl,rfl,ha,hb,hx,hz,q1,q2⟩:=h;cases rx;cases ry;obtain⟨its,r1,p1,_⟩:=I.tuple ha;obtain⟨its2,r2,p2,_⟩:=I.tuple hb;refine HT.cat_tup p1 p2 (λz=>hx (r1.nil_iff.mp z)) (λz=>⟨.ref a,H,I,rfl,q1 (r2.nil_iff.mp z)⟩) (λz=>?_) (by rw[<-r1.length,<-r2.length];exact hz)
 refine⟨.ref s.heap.objs.size,_,I.laid (t':=s.toks) (o:=.tup (xs++ys)) (λb ob q=>As _ q) (A5 _) ?_,rfl,q2 (λw=>z (r2.nil_iff.mpr w)) _ (I.hok.fresh (A5 _))⟩
 exact⟨by rw[DD];exact hz,_,r1.append r2,JR _ _⟩
end
noncomputable def ixN(n:Ag)(i:Ae):Ao Ag:=if 0<=i then (if i<n then Aa i.toNat else Af) else if -(n:Ae)<=i then Aa (i+n).toNat else Af
noncomputable def atI{α:Type}(xs:Ac α)(i:Ae):Ao α:=(ixN xs.length i).bind λj=>xs[j]?
theorem V4{j:Ag}(h:ixN n i=Aa j):seqIndex? i n=Aa j/\j<n/\-(n:Ae)<=i/\i<n:=by
 unfold ixN at h;by_cases h0:0<=i
 .rw[Az h0]at h;by_cases h1:i<n
  .rw[Az h1]at h;have e:i.toNat=j:=BE h;exact⟨by rw[KA h0 h1,e],by omega,by omega,h1⟩
  .rw[AK h1]at h;cases h
 .rw[AK h0]at h;by_cases h1:-(n:Ae)<=i
  .rw[Az h1]at h;have e:(i+n).toNat=j:=BE h;exact⟨by rw[J_5 (by omega) h1,e],by omega,h1,by omega⟩
  .rw[AK h1]at h;cases h
theorem Wp{α:Type}{xs:Ac α}{v:α}(h:atI xs i=Aa v):∃ j,seqIndex? i xs.length=Aa j/\xs[j]?=Aa v/\j<xs.length/\-(xs.length:Ae)<=i/\i<xs.length:=by
 unfold atI at h;cases e:ixN xs.length i with
 |none=>rw[e]at h;cases h
 |some j=>
  rw[e]at h;obtain⟨h1,h2,h3,h4⟩:=V4 e;exact⟨j,h1,h,h2,h3,h4⟩
def QW(b:An):Prop:=∀ o i,subscripted b Ad o i=operate [o,i] (Kw o i)
noncomputable def IxR(X:Cx)(r:R2):Prop:=
 ∀(value slice:An)(pI:Pn)(s:Ar)(Z:St)(H:Hp)(x y:V)(v u:Ai)(Q:VK),Inv X pI Z H s->BS x v->BS y u->r x y H Q ->
  subscripted slice Ad v u=operate [v,u] (Kw v u)->Au (model X.prog X.w) X.A (subscriptTail value slice v u) (EP X pI Z Q) X.xe s
noncomputable def MtR(X:Cx)(id:Dy)(r:V->Ac V->Hp->VK->Prop):Prop:=
 ∀(pI:Pn)(s:Ar)(Z:St)(H:Hp)(x:V)(xs:Ac V)(v:Ai)(us:Ac Ai)(Q:VK),Inv X pI Z H s->BS x v->Bq xs us->r x xs H Q ->
  Au (model X.prog X.w) X.A (call (.builtin id) (v::us)) (EP X pI Z Q) X.xe s
section
variable{X:Cx}{a b:An}{ta tb:TE}{pos:AL}
theorem IxR.or{r r':R2}(h:IxR X r)(h':IxR X r'):IxR X (λx y H Q=>r x y H Q\/r' x y H Q):=by
 intro value slice pI s Z H x y v u Q I rx ry q hs;rcases q with q|q
 .exact h value slice pI s Z H x y v u Q I rx ry q hs
 .exact h' value slice pI s Z H x y v u Q I rx ry q hs
theorem j7{r:R2}(hr:IxR X r)(ha:PE X a ta)(hb:PE X b tb)(hs:QW b):PE X (.Subscript a b pos) (tOp r ta tb):=by
 intro pI s Z H Q I h;exact Subscript_ (Pa ha hb I h λv u s2 x y H2 I2 rx ry q=>hr a b pI s2 Z H2 x y v u Q I2 rx ry q (hs _ _))
def SV(K:Fg):R2:=λx y H Q=>∃ p xs i v,x=.ref p/\y=.int i/\SqL K H p xs/\atI xs i=Aa v/\Q v H
def SU(K:Fg):R2:=λx y H Q=>∃ p xs i v,x=.ref p/\y=.int i/\SqT K H p xs/\atI xs i=Aa v/\Q v H
theorem sN:IxR X (SV X.K):=by
 intro value slice pI s Z H x y v u Q I rx ry h hs;obtain⟨p,xs,i,z,rfl,rfl,hq,he,q⟩:=h;cases rx;obtain⟨t,rfl⟩:=ry;obtain⟨its,r,pl,hz⟩:=I.list hq;obtain⟨j,h1,h2,h3,h4,h5⟩:=Wp he;obtain⟨w,ew,rw'⟩:=r.get h2;have hl:=r.length;have hn:=LR;have fin:EP X pI Z Q w s:=⟨z,H,I,rw',q⟩;by_cases h0:0<=i
 .have hj:i.toNat=j:=by
   rw[KA h0 h5]at h1;exact BE h1
  exact item_listR pl.isList h0 (by omega) (by rw[hj];simpa using ew) fin hs
 .have hj:(i+(its.toArray.size:Ae)).toNat=j:=by
   rw[J_5 (by omega) h4]at h1
   rw[AU,<-hl];exact BE h1
  exact Za (x:=w) pl.isList.typeIs bL.lookup
   (wpAny_getItem_list_neg (Q:=λr s'=>r=w/\EP X pI Z Q r s') pl.isList (by omega) (by rw[AU]<;>omega) (by omega) (by rw[hj];simpa using ew) ⟨rfl,fin⟩) hs
theorem zJ:IxR X (SU X.K):=by
 intro value slice pI s Z H x y v u Q I rx ry h hs;obtain⟨p,xs,i,z,rfl,rfl,hq,he,q⟩:=h;cases rx;obtain⟨t,rfl⟩:=ry;obtain⟨its,r,pl,hz⟩:=I.tuple hq;obtain⟨j,h1,h2,h3,h4,h5⟩:=Wp he;obtain⟨w,ew,rw'⟩:=r.get h2;have hl:=r.length;have hn:=LR;have fin:EP X pI Z Q w s:=⟨z,H,I,rw',q⟩;exact Za (x:=w) pl.typeIs slot_tuple_getitem.lookup
  (getItem_tuple (j:=j) (Q:=λr s'=>r=w/\EP X pI Z Q r s') pl (by omega) (by omega) (by rw[AU,<-hl];exact h1) (by simpa using ew) ⟨rfl,fin⟩) hs
theorem gA(its:Ac Ai)(n j:Ag)(u:Ai):Db (·.setIfInBounds j u) { cls:=.type "list",data:=.seq its.toArray n }={ cls:=.type "list",data:=.seq (its.set j u).toArray n }:=by
 simp[Db]
theorem Inv.lst(I:Inv X pI Z H s)(h:H p=Aa (.lst xs)):
  ∃(its:Ac Ai)(n:Ag),Bq xs its/\s.heap.get? p=Aa { cls:=.type "list",data:=.seq its.toArray n }/\xs.length<=sizeLine:=by
 obtain⟨z,its,n,r,e⟩:=I.hok p _ h;exact⟨its,n,r,e,z⟩
theorem Inv.lstUpd{ys:Ac V}{n':Ag}{f:C4->C4}(I:Inv X pI Z H s)(h:H p=Aa (.lst xs))(ho:s.heap.get? p=Aa { cls:=.type "list",data:=.seq its.toArray n })(hf:f { cls:=.type "list",data:=.seq its.toArray n }={ cls:=.type "list",data:=.seq its'.toArray n' })(r:Bq ys its')(hz:ys.length<=sizeLine)(t:Ag):Inv X pI Z (upd H p (.lst ys)) {s with heap:=s.heap.update p f,toks:=t}:=by
 have e:(s.heap.update p f).get? p=Aa { cls:=.type "list",data:=.seq its'.toArray n' }:=by
  rw[BW f ho (by rw[hf]<;>rfl),hf]
 refine I.write (x:=p) (e:=p) (by rw[h];trivial) (.inl rfl) (λb u hb q=>(B7 _ _ (DR hb)).trans q) ⟨_,e⟩ ?_
 exact⟨hz,its',n',r,e⟩
def fq:V->V->V->Hp->(Hp->Prop)->Prop:=λo i v H Q=>∃ p xs k j,o=.ref p/\i=.int k/\H p=Aa (.lst xs)/\ixN xs.length k=Aa j/\Q (upd H p (.lst (xs.set j v)))
theorem iS:Tu X fq:=by
 intro pI s Z H o i v ov iv u Q I ro ri rv h;obtain⟨p,xs,k,j,rfl,rfl,hp,hj,q⟩:=h;cases ro;obtain⟨t,rfl⟩:=ri;obtain⟨its,n,r,ho,hz⟩:=I.lst hp;obtain⟨h1,h2,h3,h4⟩:=V4 hj;have hl:=r.length;have hn:=LR;have I':Inv X pI Z (upd H p (.lst (xs.set j v))) {s with heap:=s.heap.update p (Db (·.setIfInBounds j u))}:=
  I.lstUpd hp ho (gA its n j u) (r.set rv j) (by rw[Bc];exact hz) s.toks
 by_cases h0:0<=k
 .have hk:k.toNat=j:=by
   rw[KA h0 h4]at h1;exact BE h1
  exact PySem.W.ki_setAt ho h0 (by omega) (by rw[AU,<-hl];exact h4) (by rw[hk];exact⟨_,I',q⟩)
 .have hk:(k+(its.toArray.size:Ae)).toNat=j:=by
   rw[J_5 (by omega) h3]at h1
   rw[AU,<-hl];exact BE h1
  exact PySem.W.ki_setBack ho (by omega) (by rw[AU,<-hl];exact h3) (by omega) (by rw[hk];exact⟨_,I',q⟩)
theorem eW(lo hi:Ao Ae)(n:Ag):(FA lo hi Af n).1=((HT.sIx n 0 lo:Ag):Ae)/\(FA lo hi Af n).2.1=((HT.sIx n n hi:Ag):Ae)/\(FA lo hi Af n).2.2=1:=by
 refine⟨?_,?_,rfl⟩
 .cases lo with
  |none=>simp[FA,HT.sIx]
  |some i=>
   simp only[FA,HT.sIx,Y_4,show (1:Ae)>0 by decide,Fe]
   by_cases h:i<0
   .simp only[h,Fe]<;>omega
   .simp only[h,IC]<;>omega
 .cases hi with
  |none=>simp[FA,HT.sIx]
  |some i=>
   simp only[FA,HT.sIx,Y_4,show (1:Ae)>0 by decide,Fe]
   by_cases h:i<0
   .simp only[h,Fe]<;>omega
   .simp only[h,IC]<;>omega
theorem eY(its:Ac Ai)(lo hi:Ao Ae):slicePick its.toArray lo hi Af=((its.drop (HT.sIx its.length 0 lo)).take (HT.sIx its.length its.length hi-HT.sIx its.length 0 lo)).toArray:=by
 obtain⟨h1,h2,h3⟩:=eW lo hi its.toArray.size;unfold slicePick;rw[h1,h2,h3];simp only[sliceRange_one,pick_run,AU]<;>rfl
def SR(K:Fg):V->Ao Ae->Ao Ae->Hp->VK->Prop:=λx lo hi H Q=>∃ a xs,x=.ref a/\SqL K H a xs/\∀ p,H p=Af->Q (.ref p) (upd H p (.lst (Kt xs lo hi)))
theorem mE:SlR X (SR X.K):=by
 intro pI s Z H x v vl vu lo hi sl Q I rx hs pl pu h;obtain⟨a,xs,rfl,hx,q⟩:=h;cases rx;obtain⟨its,r,ht,hz⟩:=I.list hx;have hlen:=r.length;refine⟨"list",_,bL.lookup,ht.isList.typeIs,?_⟩;refine wpAny_getItem_list_slice ht.isList hs pl pu .none (by simp) ?_ (by rw[AU]<;>omega)
 rw[eY,<-hlen];refine⟨.ref s.heap.objs.size,_,I.laid (t':=s.toks) (o:=.lst (Kt xs lo hi)) (λb ob q=>As _ q) (A5 _) ?_,rfl,q _ (I.hok.fresh (A5 _))⟩
 exact⟨Ci (TN xs lo hi) hz,_,0,(r.drop (HT.sIx xs.length 0 lo)).take (HT.sIx xs.length xs.length hi-HT.sIx xs.length 0 lo),AE _ rfl⟩
theorem TF:Kg X (.builtin "len") (λxs H Q=>∃ p ys,xs=[.ref p]/\(SqL X.K H p ys\/SqT X.K H p ys)/\Q (.int ys.length) H):=by
 intro pI s Z H xs us Q I r h;obtain⟨p,ys,rfl,hq,q⟩:=h;obtain⟨u,rfl,rx⟩:=K2 r;cases rx;have hn:=LR;rcases hq with hq|hq
 .obtain⟨its,r',pl,hz⟩:=I.list hq;have hlen:=r'.length;exact Calls.call_len_list pl.isList (by simp only[AU]<;>omega) ⟨.int ys.length,H,I.tok _,⟨s.toks+1,by rw[AU,hlen]⟩,q⟩
 .obtain⟨its,r',pl,hz⟩:=I.tuple hq;have hlen:=r'.length;exact len_tuple pl (by simp only[AU]<;>omega) ⟨.int ys.length,H,I.tok _,⟨s.toks+1,by rw[AU,hlen]⟩,q⟩
theorem fA:Kg X (.builtin "len") (λxs H Q=>∃ z,xs=[.str z]/\z.length<=sizeLine/\Q (.int z.length) H):=by
 intro pI s Z H xs us Q I r h;obtain⟨z,rfl,hz,q⟩:=h;obtain⟨u,rfl,t,rfl⟩:=K2 r;have hn:=LR;exact len_str (by omega) ⟨.int z.length,H,I.tok _,⟨_,rfl⟩,q⟩
theorem TD:Kg X (.type "list") (λxs H Q=>∃ p ys,xs=[.ref p]/\(SqL X.K H p ys\/SqT X.K H p ys)/\∀ l,H l=Af->Q (.ref l) (upd H l (.lst ys))):=by
 intro pI s Z H xs us Q I r h;obtain⟨p,ys,rfl,hq,q⟩:=h;obtain⟨u,rfl,rx⟩:=K2 r;cases rx;have fin:∀(its:Ac Ai),Bq ys its->ys.length<=sizeLine->∀(h':AB)(c':Ag),(∀ b o',s.heap.get? b=Aa o'->h'.get? b=Aa o') ->
   h'.get? s.heap.objs.size=Aa { cls:=.type "list",dict:=Af,data:=.seq its.toArray c',slots:=#[] }->EP X pI Z Q (.ref s.heap.objs.size) {s with heap:=h'}:=λits r' hz h' c' kp e=>
  ⟨.ref s.heap.objs.size,_,I.laid (t':=s.toks) kp (A5 _) (show ObjOk X.prog X.w _ h' _ (.lst ys) from ⟨hz,its,c',r',e⟩),rfl,q _ (I.hok.fresh (A5 _))⟩
 rcases hq with hq|hq
 .obtain⟨its,r',pl,hz⟩:=I.list hq;have hlen:=r'.length;obtain⟨o,ho,hc,n,hd⟩:=pl.isList;exact call_list_seq p (.inl rfl) ho hc hd (λh' c' kp e=>fin its r' hz h' c' kp e) (by simp only[AU]<;>omega)
 .obtain⟨its,r',pl,hz⟩:=I.tuple hq;have hlen:=r'.length;obtain⟨o,ho,hc,n,hd⟩:=pl;exact call_list_seq p (.inr rfl) ho hc hd (λh' c' kp e=>fin its r' hz h' c' kp e) (by simp only[AU]<;>omega)
theorem TJ:Kg X (.type "tuple") (λxs H Q=>∃ p ys,xs=[.ref p]/\((SqL X.K H p ys/\∀ l,H l=Af->Q (.ref l) (upd H l (.tup ys)))\/(SqT X.K H p ys/\Q (.ref p) H))):=by
 intro pI s Z H xs us Q I r h;obtain⟨p,ys,rfl,h⟩:=h;obtain⟨u,rfl,rx⟩:=K2 r;cases rx;rcases h with ⟨hq,q⟩|⟨hq,q⟩
 .obtain⟨its,r',pl,hz⟩:=I.list hq;have hlen:=r'.length;refine call_tuple_list pl.isList (λh' kp=>?_) (by simp only[AU]<;>omega)
  have I1:Inv X pI Z H {s with heap:=h'}:=I.kept (t':=s.toks) kp
  have I2:Inv X pI Z (upd H h'.objs.size (.tup ys)) { s with heap:=h'.push { cls:=.type "tuple",data:=.seq its.toArray } }:=
   I1.laid (t':=s.toks) (λb o e=>As _ e) (A5 _) (show ObjOk X.prog X.w _ _ _ (.tup ys) from ⟨hz,its,r',JR _ _⟩)
  exact⟨.ref h'.objs.size,_,I2,rfl,q _ (I1.hok.fresh (A5 _))⟩
 .obtain⟨its,r',pl,hz⟩:=I.tuple hq;exact call_tuple_same pl ⟨.ref p,H,I,rfl,q⟩
def tyV(K:Fg)(T:Dy)(x:V)(H:Hp):Prop:=match x with
  |.str _=>T = "str"
  |.int _=>T = "int"
  |.ref p=>(T = "list"/\∃ xs,SqL K H p xs)\/(T = "tuple"/\∃ o,K.lookup p=Aa o/\o.cls=.type "tuple"/\o.dict=Af) \/
      (T = "dict"/\((∃ kvs,H p=Aa (.dK kvs))\/∃ kvs,H p=Aa (.dT kvs)))\/(T = "set"/\∃ S n,H p=Aa (.set S n))
  |_=>A3
theorem vW{T:Dy}{x:V}{v:Ai}(I:Inv X pI Z H s)(r:BS x v)(ty:tyV X.K T x H):s.TypeIs v T/\∀ a,v=.ref a->∃ ob,s.heap.get? a=Aa ob/\ob.dict=Af:=by
 cases x with
 |str z=>
  obtain⟨t,rfl⟩:=r;cases (show T = "str" from ty)
  exact⟨typeIs_str s z t,λ_ e=>nomatch e⟩
 |int i=>
  obtain⟨t,rfl⟩:=r;cases (show T = "int" from ty)
  exact⟨typeIs_int s i t,λ_ e=>nomatch e⟩
 |ref p=>
  cases r;rcases ty with ⟨rfl,xs,hq⟩|⟨rfl,o,hk,hc,hd⟩|⟨rfl,hk⟩|⟨rfl,S,n,hk⟩
  .obtain⟨its,_,pl,_⟩:=I.list hq;refine⟨pl.isList.typeIs,λa e=>?_⟩
   cases e;obtain⟨o,n,e,c,hd,_⟩:=pl;exact⟨o,e,hd⟩
  .refine⟨⟨o,I.kIn p o hk,hc⟩,λa e=>?_⟩
   cases e;exact⟨o,I.kIn _ o hk,hd⟩
  .have z:∃ o,s.heap.get? p=Aa o/\o.ExactDict:=by
    rcases hk with ⟨kvs,hk⟩|⟨kvs,hk⟩
    .obtain⟨_,_,_,_,o,_,_,e,ex,_⟩:=I.hok p _ hk;exact⟨o,e,ex⟩
    .obtain⟨_,_,_,_,o,_,_,e,ex,_⟩:=I.hok p _ hk;exact⟨o,e,ex⟩
   obtain⟨o,e,ex⟩:=z;refine⟨⟨o,e,ex.1⟩,λa e2=>?_⟩
   cases e2;exact⟨o,e,ex.2.1⟩
  .obtain⟨o,_,_,_,e,ex,_⟩:=I.hok p _ hk;refine⟨⟨o,e,ex.1⟩,λa e2=>?_⟩
   cases e2;exact⟨o,e,ex.2.1⟩
 |_=>exact Bs ty
def tBM(K:Fg)(T:Dy)(r:V->Ac V->Hp->VK->Prop)(to:TE)(t:TA):TE:=λZ H Q=>to Z H λx H1=>tyV K T x H1/\t Z H1 λxs H2=>r x xs H2 Q
variable{o e:An}{es:Ac An}{to:TE}{t:TA}{name:Aj}{apos cpos:AL}{T id:Dy}{r:V->Ac V->Hp->VK->Prop}
theorem j8(pa:PlainAttrs T)(slot:Slot T name id)(hty:typeOf (.builtin id)=pure (.type "method_descriptor"))(hm:MtR X id r)(ho:PE X o to)(ha:PA X (e::es) t)(hbase:Hy o name X.env (eval o X.env)=eval o X.env:=by rfl)(hfew:((Cj cpos (Aw (e::es) X.env)).all (λx=>!x.1)&&(Mu cpos (Kz [] X.env)).all (λx=>x.1.isSome)
   && decide ((e::es).length+([]:Ac F2).length+(if ([]:Ac F2).isEmpty then 0 else 1)<30))=Ab:=by rfl)(hline:(apos.endLine==cpos.line)=Ab:=by rfl)(hs:Aw (e::es) X.env=(Ad,eval e X.env)::Aw es X.env:=by rfl)(hplain:(Cj cpos (Aw es X.env)).any (·.1)=Ad:=by rfl):PE X (.Call (.Attribute o name apos) (e::es) [] cpos) (tBM X.K T r to t):=by
 intro pI s Z H Q I h;refine wpAny_Call_method_late hbase hfew hline rfl (thn (ho pI s Z H _ I h) λv s1 ⟨x,H1,I1,r1,ty,q1⟩=>?_)
 obtain⟨h1,h2⟩:=vW I1 r1 ty;refine⟨T,id,pa,slot,hty,h1,h2,?_⟩;have hA:=ha cpos pI s1 Z H1 _ I1 q1;rw[hs]at hA ⊢;refine Zh (by show (Ad||(Cj cpos (Aw es X.env)).any (·.1))=Ad;rw[hplain]<;>rfl) (Fi ?_)
 exact thn hA λus s2 ⟨vs,H2,I2,r2,q2⟩=>hm pI s2 Z H2 x vs v us Q I2 r1 r2 q2
/- xs.append(e),list.index on a module's tuple .. are MtR facts of 06m -/
end
noncomputable def MtM(X:Cx)(id:Dy)(r:V->Ac V->Hp->VK->Prop):Prop:=
 ∀(pI:Pn)(s:Ar)(Z:St)(H:Hp)(x:V)(xs:Ac V)(v:Ai)(us:Ac Ai)(Q:VK),Inv X pI Z H s->BS x v->Bq xs us->r x xs H Q ->
  Au (model X.prog X.w) X.A (call (.builtin id) (v::us)) (EP X pI Z Q) X.xe s
theorem Bq.one:∀{x:V}{us:Ac Ai},Bq [x] us->∃ u,us=[u]/\BS x u
 |_,_,.cons r .nil=>⟨_,rfl,r⟩
theorem Bq.zero:∀{us:Ac Ai},Bq [] us->us=[]
 |_,.nil=>rfl
theorem Bq.eraseIdx:∀{xs:Ac V}{us:Ac Ai}(i:Ag),Bq xs us->Bq (xs.eraseIdx i) (us.eraseIdx i)
 |_,_,_,.nil=>.nil
 |_,_,0,.cons _ t=>t
 |_,_,i+1,.cons r t=>.cons r (Bq.eraseIdx i t)
theorem Bq.reverse(h:Bq xs us):Bq xs.reverse us.reverse:=by
 induction h with
 |nil=>exact .nil
 |cons r t ih=>rw[YV,YV];exact Bq.append ih (.cons r .nil)
section
variable{X:Cx}{pI:Pn}{Z:St}{H:Hp}{s:Ar}{l b:Al}{xs ys zs:Ac V}
theorem Inv.lset{f:A9 Ai->A9 Ai}(I:Inv X pI Z H s)(hH:H l=Aa (.lst xs))(e:s.heap.get? l=Aa { cls:=.type "list",data:=.seq its.toArray n })(hf:f its.toArray=its'.toArray)(hv:Bq ys its')(hz:ys.length<=sizeLine):Inv X pI Z (upd H l (.lst ys)) {s with heap:=s.heap.update l (Db f),toks:=t'}:=by
 have q:=PySem.IsL.update e f;rw[hf]at q;refine I.write (x:=l) (e:=l) (by rw[hH];exact trivial) (.inl rfl) (λb' u hb hu=>(B7 s.heap (Db f) (DR hb)).trans hu) ⟨_,q⟩ ?_
 exact⟨hz,its',_,hv,q⟩
theorem Inv.lnew(I:Inv X pI Z H s)(hv:Bq ys its)(hz:ys.length<=sizeLine):
  Inv X pI Z (upd H s.heap.objs.size (.lst ys)) { s with heap:=s.heap.push { cls:=.type "list",data:=.seq its.toArray },toks:=t' }:=
 I.laid (λ_ _ q=>As _ q) (A5 _) ⟨hz,its,0,hv,AE _ rfl⟩
theorem Inv.fresh(I:Inv X pI Z H s):H s.heap.objs.size=Af:=I.hok.fresh (A5 _)
theorem Inv.lstM(I:Inv X pI Z H s)(hH:H l=Aa (.lst xs)):xs.length<=sizeLine/\∃(its:Ac Ai)(n:Ag),Bq xs its/\xs.length=its.length/\s.heap.get? l=Aa { cls:=.type "list",data:=.seq its.toArray n }:=by
 obtain⟨z,its,n,r,e⟩:=I.hok l _ hH;exact⟨z,its,n,r,r.length,e⟩
end
section
variable{X:Cx}
def pF:V->Ac V->Hp->VK->Prop:=λx vs H Q=>∃ l xs y,x=.ref l/\vs=[y]/\H l=Aa (.lst xs)/\xs.length<sizeLine/\Q .non (upd H l (.lst (xs++[y])))
theorem iO:MtM X "list.append" pF:=by
 intro pI s Z H x vs v us Q I rx rv h;obtain⟨l,xs,y,rfl,rfl,hH,hz,q⟩:=h;cases rx;obtain⟨u,rfl,ru⟩:=rv.one;obtain⟨z,its,n,r,hl,e⟩:=I.lstM hH;refine call_meets F.slot_list_append ⟨_,e,rfl⟩ F.entry_list_append (F.args_list_append_2 _ _) (PySem.list_append l its.toArray n u (by rw[AU];omega)) ⟨e,?_⟩
 refine⟨.non,_,I.lset (its':=its++[u]) hH e (by simp) (r.append (.cons ru .nil)) ?_,rfl,q⟩
 rw[DD,YS];omega
end
section
variable{prog:AS}{w:AF}{A:A6}{E:Vq}{s:Ar}
set_option maxRecDepth 100000 in
end
section
variable{X:Cx}
end
end L2
namespace Att
open PySem PySem.W PySem.Calls PyProof.Rows
variable{P:Mt}{h:AB}{l:Gp}{n:Ag}
theorem eU:∀(ns:Ac Ae)(vs:Ac Ai),WellAll P h vs (ns.map aQ)->Jd vs ns:=by
 intro ns
 induction ns with
 |nil=>
  intro vs w;rw[HW]at w;cases w;exact .nil
 |cons n ns ih=>
  intro vs w;rw[C3]at w;cases w with
  |cons a b=>
   cases a;exact .cons _ _ (ih _ b)
theorem gR(hn:l.most=Aa n){args:Ac WData}{vals:Ac Ai}(hpre:l.row.toRowW.claim.pre args=Ab)(hwl:WellAll P h vals args):
  ∃ a vs ns,vals=[BQ a]/\args=[WData.list (ns.map aQ)]/\h.get? a=Aa { cls:=.type "list",data:=.seq vs.toArray }/\Jd vs ns/\ns.length<=n:=by
 have hsh:WShape.hasAll [] args [.list .int]=Ab:=(pre_splitW hpre).1;have hc:l.pre.holds [] {args:=args}=Ab:=(pre_splitW hpre).2;obtain⟨d,r,rfl,h1,h2⟩:=hasAllW_cons hsh;obtain rfl:=hasAllW_nil h2;obtain⟨xs,rfl,h3⟩:=hasW_list h1;obtain⟨ns,rfl⟩:=items_int h3;have hlen:ns.length<=n:=by
  unfold OpenLaw.pre at hc;have h4:(WTm.not (.lt (.lit (.int (n:Ae))) (.len (.arg 0)))).holds [] {args:=[.list (ns.map .int)]}=Ab:=by
   have h4:=(holds_andW hc).1;rw[hn]at h4;exact h4
  have h5:=condW_of h4 (w_not (w_lt w_lit (w_len_list (w_arg rfl))));rw[BO]at h5;refine Nat.le_of_not_lt λq=>?_
  have q':(n:Ae)<((ns.length:Ag):Ae):=by omega
  first
   |(rw[CS q']at h5;exact absurd h5 (by decide))
   |(simp at h5;omega)
 cases hwl with
 |cons w1 w2=>
  cases w2;cases w1 with
  |list ho hall=>exact⟨_,_,ns,rfl,rfl,ho,eU ns _ hall,hlen⟩
theorem gK(l:Gp)(args:Ac WData):l.row.toRowW.claim.post args (.bool Ab) args=Ab:=
 postW_of (r:=l.row.toRowW) (X:=(Ab==Ab))
  (show aR [] (.bool Ab) .bool=Ab by first|rfl|decide|simp[aR,WShape.arms,WShape.armsAll])
  (show (WTm.eq .res (.lit (.bool Ab))).value [] {args:=args,res:=Aa (.bool Ab),after:=args}=Aa (.bool (Ab==Ab)) from w_eq_bool (w_res rfl) w_lit) rfl
theorem attach_call{q:AS}{loose:Ac Aj}{XP:(Aj->Ao Ai)->AB->Prop}{YP:AF->AB->Prop}{d:DefRec}(hn:l.most=Aa n)(hdf:d.params.defaults=[])(call:∀(w:AF)(s₀ s₁:Ar)(mg mb:Aj->Ao Ai)(fa:Al)(o:C4)(pm cd doc:Ai)(a:Al)(vs:Ac Ai)(ns:Ac Ae),
   Ground q loose [] XP w s₀ mg mb s₁.heap->YP w s₁.heap ->
   s₁.heap.get? fa=Aa o->o.data=.func (docDef d.name d.params d.body d.scope pm cd doc)->s₁.heap.CodeRec cd d.name->mg d.name=Aa (.ref fa) ->
   s₁.heap.get? a=Aa { cls:=.type "list",data:=.seq vs.toArray }->Jd vs ns->ns.length<=n->s₁.gens=#[] ->
   E9 (model l.prog w) HP (.call (.ref fa) ⟨[.ref a],[]⟩) (λr s'=>r=.ok (.ret (.bool Ab))/\OldK s₁.heap s'.heap/\s'.os=s₁.os/\F1 s'.gens) s₁):WalkO q loose XP YP l.row.toRowW d [] (λf vs=>Ld f vs):=by
 intro w s₀ s₁ mg mb G Y_ fa o pm cd doc dV kV ho hd hcd hD hmg hg args vals as hpre hlay hrd hwl hlo;obtain rfl:dV=.none:=Dflts.none hD hdf;obtain rfl:kV=.none:=Dflts.noKw hD;obtain⟨a,vs,ns,rfl,rfl,hobj,hints,hlen⟩:=gR hn hpre hwl;refine enter_call (FV (call w s₀ s₁ mg mb fa o pm cd doc a vs ns G Y_ ho (fd_plain hd) hcd hmg hobj hints hlen hg) λr s' hq=>?_)
 obtain⟨rfl,h2,h3,h4⟩:=hq;exact⟨.inl ⟨.bool Ab,.bool Ab,[],rfl,λ_=>rfl,.bool Ab,gK l _,λ_=>⟨List.Pairwise.nil,λ_ hm=>(nomatch hm)⟩⟩,h2,h3,h4⟩
section
variable{prog:AS}{w:AF}{A:A6}{E:Vq}{s:Ar}{K:Frag}
end
end Att
namespace L2
open PySem PySem.Spec PyProof.Rows
variable{k:Ag}{x:Aj}
theorem TU:∀{vs:Ac Ai}{ns:Ac Ae},Jd vs ns->Bq (ns.map V.int) vs
 |_,_,.nil=>.nil
 |_,_,.cons n t h=>.cons ⟨t,rfl⟩ (TU h)
def O8(H:Hp):Prop:=∀ b,H b=Af\/∃ o xs,H b=Aa (.frz o (.lst xs))
theorem kI{P:AS}{w:AF}{K:Fg}{mg mb:Aj->Ao Ai}{CX:CXT}{fa a:Al}{fd:B9}{sp:Sp}{s₁:Ar}{vs:Ac Ai}{ns:Ac Ae}(KX:K.In s₁.heap)(hns:s₁.heap.Ns Bo mg)(hb:s₁.heap.Ns Jo mb)(hbb:∀ x:Aj,x≠"__name__"->mb x=Dv x)(hlim:s₁.heap.NoLimit)(hg:s₁.gens=#[])(ha:s₁.heap.get? a=Aa { cls:=.type "list",data:=.seq vs.toArray })(hi:Jd vs ns)(hl:ns.length<=sizeLine)(hr:Room k HP)(F:∀ base:AB,K.In base->base.Ns Bo mg->FnOk P w K mg base CX k fa fd [x] sp)(hbind:∀(s:Ar)(u:Ai),GJ s fd ⟨[u],[]⟩ [(x,u)])(hsp:∀ H:Hp,O8 H->SqL K H a (ns.map V.int)->sp [.ref a] H (λv _=>v=.bl Ab) λ_ _ _=>A3)(hCX:∀ H e s',CX [] H s₁ (λ_ _ _=>A3) e s'->A3):E9 (model P w) HP (.call (.ref fa) ⟨[.ref a],[]⟩) (λr s'=>r=.ok (.ret (.bool Ab))/\OldK s₁.heap s'.heap/\s'.os=s₁.os/\F1 s'.gens) s₁:=by
 have rv:=TU hi;have lenV:=hi.length
 -- from an abstract heap in which nothing but the script may be tracked
 have core:∀ H:Hp,O8 H->SqL K H a (ns.map V.int)->HOk P w H s₁.heap->(∀ b,H b≠Af->b=a)->(H a≠Af->K.lookup a=Af) ->
   E9 (model P w) HP (.call (.ref fa) ⟨[.ref a],[]⟩) (λr s'=>r=.ok (.ret (.bool Ab))/\OldK s₁.heap s'.heap/\s'.os=s₁.os/\F1 s'.gens) s₁:=by
  intro H hO hS hok hA hK;have base_of:∀{b:Al}{o:C4},s₁.heap.get? b=Aa o->H b=Af->(JE s₁.heap H).get? b=Aa o:=λe n=>jT e n
  have noA:∀{b:Al}{o:C4}{es:A9 DictEntry}{ep:Ag},s₁.heap.get? b=Aa o->o.data=.dict es ep->H b=Af:=λ{b o es ep} e d=>by
   cases q:H b with
   |none=>rfl
   |some u=>
    have e':b=a:=hA b (by rw[q];simp)
    subst e';rw[ha]at e;cases e;have d':Mr vs.toArray _=Data.dict es ep:=d;cases d'
  have nsK:∀{b:Al}{m:Aj->Ao Ai},s₁.heap.Ns b m->(JE s₁.heap H).Ns b m:=λ{b m} ⟨o,es,ep,e,d,r⟩=>⟨o,es,ep,base_of e (noA e d),d,r⟩
  have hKb:K.In (JE s₁.heap H):=λb o e=>base_of (KX b o e) (by
   cases q:H b with
   |none=>rfl
   |some u=>
    have e':b=a:=hA b (by rw[q];simp)
    subst e';rw[hK (by rw[q];simp)]at e;cases e)
  have hM:Mod K mg (JE s₁.heap H):=⟨hKb,nsK hns,⟨mb,nsK hb,hbb⟩,let ⟨mc,h1,h2⟩:=hlim;⟨mc,nsK h1,h2⟩⟩
  have e0:Env0 P w K mg (JE s₁.heap H) HP [] s₁ H:=⟨rfl,hM,λb o e=>sG e,YX (iF _ _),trivial,λb hb=>absurd (show b∈([]:Ac Al) from hb) (by simp),hok,.of_eq hg⟩
  refine FV ((F _ hKb (nsK hns)).run HP [] s₁ H ⟨[.ref a],[]⟩ [.ref a] [.ref a] _ _ hr e0 (hbind s₁ (.ref a)) (.cons rfl .nil) (hsp H hO hS)) λr s' h=>?_
  cases r with
  |error e=>exact(hCX H e s' h).elim
  |ok fl=>
   cases fl with
   |next=>exact Bs h
   |brk=>exact Bs h
   |cont=>exact Bs h
   |ret u=>
    obtain⟨v,H',os,bare,un,hok',r',q⟩:=h;have q':v=.bl Ab:=q;subst q';obtain rfl:u=Lc Ab:=r';refine⟨rfl,OldK.of_keep λb o e=>?_,os,bare⟩
    cases q:H b with
    |none=>exact un.keep b o e q (by intro z;exact absurd (show b∈([]:Ac Al) from z) (by simp)) (by simp)
    |some u=>
     rcases hO b with z|⟨ob,xs,z⟩
     .rw[q]at z;cases z
     .have z2:=un.frzs b ob _ z;obtain⟨e1,_⟩:=hok b _ z;obtain⟨e2,_⟩:=hok' b _ z2;rw[e]at e1;cases e1;exact e2
 cases hk:K.lookup a with
 |some o=>
  -- the script is one of the module's own objects
  have e:=KX a o hk;rw[ha]at e;cases e;refine core (λ_=>Af) (λ_=>.inl rfl) (.inr ⟨_,vs.toArray,_,hk,rfl,rfl,rfl,by rw[AU,lenV];exact hl,by simpa using rv⟩) (λb u z=>by have z':(Af:Ao HO)=Aa u:=z;cases z') (λb z=>absurd rfl z) λz=>absurd rfl z
 |none=>
  refine core (λb=>if b=a then Aa (.frz { cls:=.type "list",data:=.seq vs.toArray } (.lst (ns.map V.int))) else Af) (λb=>?_) (.inl (.inr ⟨{ cls:=.type "list",data:=.seq vs.toArray },Az rfl⟩)) (λb u z=>?_) (λb z=>?_) λ_=>hk
  .by_cases hb:b=a
   .exact .inr ⟨_,_,Az hb⟩
   .exact .inl (AK hb)
  .by_cases hb:b=a
   .have z':=(Az hb).symm.trans z;cases z';subst hb;exact⟨ha,by rw[BO];exact hl,vs,_,rv,ha⟩
   .have z':=(AK hb).symm.trans z;cases z'
  .by_cases hb:b=a
   .exact hb
   .exact absurd (AK hb) z
noncomputable abbrev KOf{K:Fg}{h:AB}(_:K.In h):Fg:=K
theorem walk_of{l:Gp}{n:Ag}{q:AS}{loose:Ac Aj}{XP:(Aj->Ao Ai)->AB->Prop}{YP:AF->AB->Prop}{d:DefRec}{K:Mt->Fg}{CX:AF->CXT}{sp:AF->Sp}(hn:l.most=Aa n)(hn2:n<=sizeLine)(hdf:d.params.defaults=[])(hr:Room k HP)(hY:∀(w:AF)(h:AB),YP w h->(K w.params).In h)(F:∀(w:AF)(mg:Aj->Ao Ai)(fa:Al)(h:AB),(K w.params).In h->h.Ns Bo mg->mg d.name=Aa (.ref fa) ->
   ∃ fd:B9,(∀(s:Ar)(u:Ai),GJ s fd ⟨[u],[]⟩ [(x,u)]) /\
    ∀ base:AB,(K w.params).In base->base.Ns Bo mg->FnOk l.prog w (K w.params) mg base (CX w) k fa fd [x] (sp w))(hsp:∀(w:AF)(H:Hp)(a:Al)(ns:Ac Ae),ns.length<=n->O8 H->SqL (K w.params) H a (ns.map V.int)->sp w [.ref a] H (λv _=>v=.bl Ab) λ_ _ _=>A3)(hCX:∀(w:AF)(H:Hp)(s:Ar)(e:Ai)(s':Ar),CX w [] H s (λ_ _ _=>A3) e s'->A3):aS q loose XP YP l.row.toRowW d [] (λf vs=>Ld f vs):=by
 refine Att.attach_call hn hdf λw s₀ s₁ mg mb fa o pm cd doc a vs ns G Y_ ho hd hcd hmg hobj hints hlen hg=>?_
 have KX:=hY w _ Y_;obtain⟨fd,hb,hF⟩:=F w mg fa _ KX G.T.g hmg;exact kI KX G.T.g G.T.b G.T.builtins G.T.nolimit hg hobj hints (Ci hlen hn2) hr hF hb (λH hO hS=>hsp w H a ns hlen hO hS) λH e s'=>hCX w H s₁ e s'
end L2
/- THE LAST THEOREM (shape;LID,My.* are yours):
   My.Adr:a structure of the addresses that your layer names (classes,functions);My.Txt K t:a structure (Prop) of the equations over K;
   My.txt_mk:{K} {implicit addresses ..} (e1:nsIn K Bo "law" = Aa (Aa (.ref f))) (e2:K.lookup f=Aa ⟨oc,od,.func (fnOf "law" "law" params body scope dV kV doc pm an cdv ct),sl⟩) (e3:codeIn K cdv "law" = Ab) ..:∃ t,My.Txt K t
set_option maxRecDepth 100000 in
set_option maxHeartbeats 0 in
theorem PySem.Challenge.cw_LID_holds:PySem.Challenge.rw_LID.Holds:=by
 w_on;o_law;k_head;(case hw=>w_witness2)
 k_fill
 refine L2.walk_of (l:=PySem.Challenge.rw_LID) (n:=63) (k:=40) (x := "script") (CX:=λw=>..) (sp:=λ_=>My.sp_law) rfl (by decide) rfl ⟨rfl,by decide,by decide⟩ (λw h Y_=>aV Y_) ?F ?S ?C
 case F=>
  intro w mg fa h KX G hmg;have T:∃ t,My.Txt (L2.KOf KX) t:=by
   dsimp only[L2.KOf]                          -- K must stand as «<heap const> w.params» for k_is
   refine' My.txt_mk ?e1 ?e2 ?e3 ..
   (case e1=>PySem.W.k_is)                    -- in the order: a name -> its address -> its object -> its parts
   (case e2=>PySem.W.k_is)
   ..
  obtain⟨t,T⟩:=T;have e0:=hmg.symm.trans (BU KX G T.law);cases e0                                       -- fa is the law's own address
  exact⟨_,fun s u=>.of_eq rfl,fun base kb nb=>My.law_fn T kb nb⟩     -- if «.of_eq rfl» comes too early: refine' ⟨_,?b,fun base kb nb=>My.law_fn T kb nb⟩;exact fun s u=>.of_eq rfl
 case S=>exact λw H a ns hl hO hS=>..
 case C=>exact ..
(the tactic k_is has no namespace:write k_is) -/
namespace L2
open PySem PySem.Spec PyProof.Rows
noncomputable def IR(s:AW):Mm:=match s with
  |.FunctionDef _ a _ _ _ _ _ _ _ _=>a
  |_=>{posonlyargs:=[],args:=[],vararg:=Af,kwonlyargs:=[],kw_defaults:=[],kwarg:=Af,defaults:=[]}
noncomputable def FE(s:AW):Ac AW:=match s with
  |.FunctionDef _ _ b _ _ _ _ _ _ _=>b
  |_=>[]
noncomputable def CV(s:AW):Cv:=match s with
  |.FunctionDef _ _ _ _ _ _ sc _ _ _=>sc
  |_=>{kind:=.function,names:=[],isGenerator:=Ad,isCoroutine:=Ad}
noncomputable abbrev CX0:CXT:=λ_ _ _ _ _ _=>A3
noncomputable abbrev E0:XK:=λ_ _ _=>A3
structure Fun (K:Fg) (x qual:Aj) (st:AW) (f:Al) (fd:B9):Prop where
 ex:∃(oc:Ai)(od:Ao Al)(kV doc pm:Ai)(an:Ao Al)(cdv ct:Ai)(osl:A9 (Ao Ai)),
  fd=CQ x qual (IR st) (FE st) (CV st) .none kV doc pm an cdv ct/\K.lookup f=Aa ⟨oc,od,.func fd,osl⟩/\Ep K cdv qual=Ab
 kp:Co K (.ref f)=Ab
section
variable{P:AS}{w:AF}{K:Fg}{mg:Aj->Ao Ai}{base:AB}
theorem Fun.ok{x qual:Aj}{st:AW}{f:Al}{fd:B9}{N ps:Ac Aj}{k:Ag}{sp:Sp}(F:Fun K x qual st f fd)(S:FnScope N ps (CV st))(len:∀ vs H Q E,sp vs H Q E->vs.length=ps.length)(hbody:∀(cdv:Ai)(A:A6)(outer:Ac CI)(s:Ar)(H:Hp)(vs:Ac V)(Q:VK)(E:XK),Room k (A.deeper (E6 qual (CV st) s.heap.objs.size f cdv))->sp vs H Q E ->
   ∃ t,PSs (Fd CX0 P w K mg base N qual (CV st) f cdv A outer s H E).nox (FE st) t/\t {nx:=λ_ H'=>Q .non H',rt:=Q} (start N vs) H):FnOk P w K mg base CX0 (k+1) f fd ps sp:=by
 obtain⟨oc,od,kV,doc,pm,an,cdv,ct,osl,rfl,lk,hcd⟩:=F.ex;refine X5 lk hcd S len λA outer s H vs Q E hr hsp=>?_
 obtain⟨t,h,q⟩:=hbody cdv A outer s H vs Q E hr hsp;exact⟨t,h.nox,q⟩
theorem Fun.binds{x qual:Aj}{st:AW}{f:Al}{fd:B9}{ps:Ac Aj}(F:Fun K x qual st f fd)(h:∀(kV doc pm:Ai)(an:Ao Al)(cdv ct:Ai)(us:Ac Ai),us.length=ps.length->Jl (CQ x qual (IR st) (FE st) (CV st) .none kV doc pm an cdv ct) ⟨us,[]⟩=pure (ps.zip us)):Ge K fd ps []:=by
 obtain⟨oc,od,kV,doc,pm,an,cdv,ct,osl,rfl,lk,hcd⟩:=F.ex;exact .all (h kV doc pm an cdv ct)
theorem Wy{x qual:Aj}{st:AW}{f:Al}{oc:Ai}{od an:Ao Al}{osl:A9 (Ao Ai)}{kV doc pm cdv ct:Ai}(l:K.lookup f=Aa ⟨oc,od,.func (CQ x qual (IR st) (FE st) (CV st) .none kV doc pm an cdv ct),osl⟩)(c:Ep K cdv qual=Ab)(k:Co K (.ref f)=Ab):Fun K x qual st f (CQ x qual (IR st) (FE st) (CV st) .none kV doc pm an cdv ct):=⟨⟨oc,od,kV,doc,pm,an,cdv,ct,osl,rfl,l,c⟩,k⟩
end
section
variable{X:Cx}
end
def AJ(H H':Hp):Prop:=∀ b o,H b=Aa o->H' b=Aa o
theorem AJ.refl(H:Hp):AJ H H:=λ_ _ h=>h
theorem AJ.trans{H H1 H2:Hp}(a:AJ H H1)(b:AJ H1 H2):AJ H H2:=λc o h=>b c o (a c o h)
theorem AJ.free{H H':Hp}(e:AJ H H'){l:Al}(h:H' l=Af):H l=Af:=by
 cases q:H l with
 |none=>rfl
 |some o=>
  rw[e l o q]at h;cases h
end L2
section
namespace Ov
open PySem
variable{α β:Type}
inductive D where
 |non|bl (b:Ak)|int (i:Ae)|str (x:Aj)|tup (ds:Ac D)|lst (ds:Ac D)
 |obj (c:Ag) (fs:Ac (Aj×D))|exc (c:Ag) (fs:Ac (Aj×D))|dic (kvs:Ac (Ac Ae×D))
 deriving Inhabited
structure Ex where
 c:Ag
 fs:Ac (Aj×D)
 deriving Inhabited
inductive R (α:Type) where
 |ok (a:α)|exn (x:Ex)|bad
 deriving Inhabited
noncomputable def R.bind{α β:Type}(r:R α)(f:α->R β):R β:=match r with
  |.ok a=>f a
  |.exn x=>.exn x
  |.bad=>.bad
@[simp]theorem R.bind_ok(a:α)(f:α->R β):(R.ok a).bind f=f a:=rfl
@[simp]theorem R.bind_exn(x:Ex)(f:α->R β):(R.exn x:R α).bind f=.exn x:=rfl
@[simp]theorem R.bind_bad(f:α->R β):(R.bad:R α).bind f=.bad:=rfl
theorem R.bind_assoc{γ:Type}(r:R α)(f:α->R β)(g:β->R γ):(r.bind f).bind g=r.bind λa=>(f a).bind g:=by cases r<;>rfl
noncomputable def DC(n:Ag):Ak:=Dr n 1000000
noncomputable def D0(i j:Ae):Ak:=(decide (-(18446744073709551616:Ae)<i)&&decide (i<18446744073709551616))||(decide (-(18446744073709551616:Ae)<j)&&decide (j<18446744073709551616))
noncomputable def FH(i j:Ae):Ak:=decide (i.natAbs<2 ^ 2000)&&decide (j.natAbs<2 ^ 2000)
noncomputable def DJ:FT->D->D->R D
 |.Add,.int i,.int j=>.ok (.int (i+j))
 |.Sub,.int i,.int j=>.ok (.int (i-j))
 |.Mult,.int i,.int j=>if (D0 i j||FH i j)=Ab then .ok (.int (i*j)) else .bad
 |.FloorDiv,.int i,.int j=>if 0<j/\j<1073741824 then .ok (.int (i/j)) else .bad
 |.Mod,.int i,.int j=>if 0<j then .ok (.int (i%j)) else .bad
 |.Pow,.int i,.int j=>if (0<=j/\j<=1000000)/\(-(18446744073709551616:Ae)<i/\i<18446744073709551616) then .ok (.int (i ^ j.toNat)) else .bad
 |.Add,.str x,.str y=>if DC (x.length+y.length)=Ab then .ok (.str (x++y)) else .bad
 |.Add,.lst x,.lst y=>if DC (x.length+y.length)=Ab then .ok (.lst (x++y)) else .bad
 |.Add,.tup x,.tup y=>if (!x.isEmpty&&DC (x.length+y.length))=Ab then .ok (.tup (x++y)) else .bad
 |_,_,_=>.bad
noncomputable def unD:Kv->D->R D
 |.USub,.int i=>.ok (.int (-i))
 |_,_=>.bad
noncomputable def b2i(b:Ak):Ae:=if b=Ab then 1 else 0
mutual
noncomputable def eqD:D->D->Ak
 |.non,.non=>Ab
 |.bl a,.bl b=>a==b
 |.bl a,.int j=>b2i a==j
 |.int i,.bl b=>i==b2i b
 |.int i,.int j=>i==j
 |.str x,.str y=>x==y
 |.tup xs,.tup ys=>eqDs xs ys
 |.lst xs,.lst ys=>eqDs xs ys
 |_,_=>Ad
noncomputable def eqDs:Ac D->Ac D->Ak
 |[],[]=>Ab
 |x::xs,y::ys=>eqD x y&&eqDs xs ys
 |_,_=>Ad
end
noncomputable def flD:Ag->D->Ak
 |_,.non=>Ab
 |_,.bl _=>Ab
 |_,.int _=>Ab
 |_,.str _=>Ab
 |n+1,.tup xs=>xs.all (flD n)
 |n+1,.lst xs=>xs.all (flD n)
 |_,_=>Ad
noncomputable def Ko:D->Ao (Ac Ae)
 |.tup ds=>keyDs ds
 |_=>Af
where keyDs:Ac D->Ao (Ac Ae)
 |[]=>Aa []
 |.int i::r=>(keyDs r).map (i :: ·)
 |_=>Af
noncomputable def ltD:Ag->D->D->Ak
 |0,.int i,.int j=>decide (i<j)
 |n+1,.tup xs,.tup ys=>ltDs (ltD n) xs ys
 |_,_,_=>Ad
where ltDs (lt:D->D->Ak):Ac D->Ac D->Ak
 |[],[]=>Ad
 |[],_::_=>Ab
 |_::_,[]=>Ad
 |x::xs,y::ys=>if eqD x y=Ab then ltDs lt xs ys else lt x y
noncomputable def rkD:Ag->D->Ak
 |0,.int _=>Ab
 |n+1,.tup xs=>xs.all (rkD n)
 |_,_=>Ad
noncomputable def SJ(lt:D->D->Ak)(x:D):Ac D->Ac D
 |[]=>[x]
 |y::ys=>if lt y x=Ab then y::SJ lt x ys else x::y::ys
noncomputable def Xx(lt:D->D->Ak):Ac D->Ac D
 |[]=>[]
 |x::xs=>SJ lt x (Xx lt xs)
noncomputable def S0:Ac D->Ak
 |[]=>Ab
 |x::xs=>xs.all (λy=>!eqD x y)&&S0 xs
noncomputable def Tp:Ac D->Ak
 |[]=>Ab
 |[_]=>Ab
 |x::y::r=>ltD 1 x y&&Tp (y::r)
noncomputable def VH(xs:Ac D):R (Ac D):=if (xs.all (λd=>rkD 1 d && !eqD d (.tup []))&&S0 xs&&(decide (xs.length<64)||(Tp xs&&decide (xs.length<=1000))))=Ab then .ok (Xx (ltD 1) xs) else .bad
noncomputable def Cn:DM->D->D->R D
  |.Eq,x,y=>if (flD 5 x&&flD 5 y)=Ab then .ok (.bl (eqD x y)) else .bad
  |.NotEq,x,y=>if (flD 5 x&&flD 5 y)=Ab then .ok (.bl (!eqD x y)) else .bad
  |.Lt,.int i,.int j=>.ok (.bl (decide (i<j)))
  |.LtE,.int i,.int j=>.ok (.bl (decide (i<=j)))
  |.Gt,.int i,.int j=>.ok (.bl (decide (j<i)))
  |.GtE,.int i,.int j=>.ok (.bl (decide (j<=i)))
  |.In,x,.lst ys=>if (flD 5 x&&ys.all (flD 5))=Ab then .ok (.bl (ys.any λy=>eqD y x)) else .bad
  |.In,x,.dic kvs=>match Ko x with
    |some k=>.ok (.bl (kvs.any λp=>p.1==k))
    |none=>.bad
  |.In,x,.tup ys=>if (flD 5 x&&ys.all (flD 5))=Ab then .ok (.bl (ys.any λy=>eqD y x)) else .bad
  |.NotIn,x,.lst ys=>if (flD 5 x&&ys.all (flD 5))=Ab then .ok (.bl (!ys.any λy=>eqD y x)) else .bad
  |.NotIn,x,.tup ys=>if (flD 5 x&&ys.all (flD 5))=Ab then .ok (.bl (!ys.any λy=>eqD y x)) else .bad
  |.Is,.non,.non=>.ok (.bl Ab)
  |.Is,.bl _,.non=>.ok (.bl Ad)
  |.Is,.int _,.non=>.ok (.bl Ad)
  |.Is,.str _,.non=>.ok (.bl Ad)
  |.Is,.tup _,.non=>.ok (.bl Ad)
  |.Is,.lst _,.non=>.ok (.bl Ad)
  |.Is,.obj _ _,.non=>.ok (.bl Ad)
  |.Is,.bl a,.bl b=>.ok (.bl (a==b))
  |.IsNot,.bl a,.bl b=>.ok (.bl (!(a==b)))
  |.IsNot,.non,.non=>.ok (.bl Ad)
  |.IsNot,.bl _,.non=>.ok (.bl Ab)
  |.IsNot,.int _,.non=>.ok (.bl Ab)
  |.IsNot,.str _,.non=>.ok (.bl Ab)
  |.IsNot,.tup _,.non=>.ok (.bl Ab)
  |.IsNot,.lst _,.non=>.ok (.bl Ab)
  |.IsNot,.obj _ _,.non=>.ok (.bl Ab)
  |_,_,_=>.bad
noncomputable def B5:D->R Ak
 |.non=>.ok Ad
 |.bl b=>.ok b
 |.int i=>.ok (i != 0)
 |.str x=>if DC x.length=Ab then .ok (x.length != 0) else .bad
 |.tup xs=>.ok (!xs.isEmpty)
 |.lst xs=>.ok (!xs.isEmpty)
 |_=>.bad
noncomputable def plD(n:Ag)(i:Ae):Ao Ag:=if 0<=i then (if i<n then Aa i.toNat else Af) else if -(n:Ae)<=i then Aa (i+n).toNat else Af
noncomputable def Dg(xs:Ac D)(i:Ae):R D:=match plD xs.length i with
  |some k=>match xs[k]? with
    |some d=>.ok d
    |none=>.bad
  |none=>.bad
noncomputable def Rj(kvs:Ac (Ac Ae×D))(k:Ac Ae):Ao D:=(kvs.find? λp=>p.1==k).map (·.2)
noncomputable def WE(kvs:Ac (Ac Ae×D))(k:Ac Ae)(v:D):Ac (Ac Ae×D):=if (kvs.any λp=>p.1==k)=Ab then kvs.map (λp=>if (p.1==k)=Ab then (k,v) else p) else kvs++[(k,v)]
noncomputable def BK:D->D->R D
  |.lst xs,.int i=>Dg xs i
  |.tup xs,.int i=>Dg xs i
  |.dic kvs,k=>match (Ko k).bind (Rj kvs) with
    |some d=>.ok d
    |none=>.bad
  |_,_=>.bad
noncomputable def Fm:D->R Ae
 |.int i=>.ok i
 |_=>.bad
noncomputable def D6:D->R Ak
 |.bl b=>.ok b
 |_=>.bad
noncomputable def C5:D->R (Ac D)
 |.lst xs=>.ok xs
 |.tup xs=>.ok xs
 |_=>.bad
noncomputable def R0:D->R (Ac D)
 |.lst xs=>.ok xs
 |_=>.bad
inductive BI where
 |len|abs|max|min|int|list|tuple|all|any|sum|sorted|str|count|stp|lset|tmin|tmax|tlt|rvs
 deriving DecidableEq,Inhabited
inductive Ki where
 |int|bool|str|list|tuple|verr|cls (c:Ag)
 deriving DecidableEq,Inhabited
mutual
inductive E where
 |non|bl (b:Ak)|int (i:Ae)|str (x:Aj)
 |var (i:Ag)|glob (g:Ag)
 |bin (op:FT) (a b:E)|un (op:Kv) (a:E)|no (a:E)
 |and (es:Es)|or (es:Es)
 |cmp (op:DM) (a b:E)|cmp2 (op op':DM) (a b c:E)
 |ite (c a b:E)
 |call (f:Ag) (as:Es)|bi (b:BI) (as:Es)
 |isi (a:E) (ks:Ac Ki)
 |idx (a i:E)|sl (a lo hi:E)
 |tup (es:Es)|lst (es:Es)
 |comp (elt:E) (t:Ag) (it:I) (c:E)|compT (elt:E) (ts:Ac Ag) (it:I) (c:E)|tupI (it:I)|dnew
 |fld (o:E) (f:Aj)
inductive Es where
 |nil|cons (e:E) (es:Es)
inductive I where
 |e (a:E)|rng (a:E)|rng2 (a b:E)|zip (a b:E)|zip3 (a b c:E)|enm (a:E)
end
abbrev Sl:=Ao (D×Ak)
abbrev Rho:=Ac Sl
structure Gam where
 F:Ag->Ac D->R D
 G:Ag->D
 up:Ag->Ac Ag
 /-- the defs whose answer is a new list -/
 fr:Ag->Ak
 /-- what is raised: the class,what it is made of -/
 xn:Ag->Ac D->R Ex
noncomputable def Fc(lo:Ae)(n:Ag):Ac D:=(Cm n).map fun(k:Ag)=>D.int (lo+(k:Ae))
noncomputable def DI(lo hi:Ae):R (Ac D):=if (-(4611686018427387904:Ae)<=lo/\lo<4611686018427387904)/\(-(4611686018427387904:Ae)<=hi/\hi<4611686018427387904)/\hi-lo<1000000 then .ok (Fc lo (hi-lo).toNat) else .bad
noncomputable def kiD(up:Ag->Ac Ag):Ki->D->Ak
 |.int,.int _=>Ab
 |.int,.bl _=>Ab
 |.bool,.bl _=>Ab
 |.str,.str _=>Ab
 |.list,.lst _=>Ab
 |.tuple,.tup _=>Ab
 |.cls c,.obj k _=>(up k).contains c
 |.cls c,.exc k _=>(up k).contains c
 |.verr,.exc _ _=>Ab
 |_,_=>Ad
noncomputable def Ef:Ki->Ak
 |.cls _=>Ab
 |.verr=>Ab
 |_=>Ad
noncomputable def EV(up:Ag->Ac Ag)(ks:Ac Ki)(x:D):R D:=match x with
  |.obj _ _=>.bad
  |.exc _ _=>if ks.all Ef=Ab then .ok (.bl (ks.any λk=>kiD up k x)) else .bad
  |.dic _=>.bad
  |_=>if ks.any Ef=Ab then .bad else .ok (.bl (ks.any λk=>kiD up k x))
noncomputable def K6:D->R Ak
 |.non=>.ok Ad
 |.bl b=>.ok b
 |.int i=>.ok (i != 0)
 |_=>.bad
noncomputable def L4:Ac D->R Ak
 |[]=>.ok Ab
 |x::r=>(K6 x).bind λb=>(L4 r).bind λc=>.ok (b&&c)
noncomputable def Kf:Ac D->R Ak
 |[]=>.ok Ad
 |x::r=>(K6 x).bind λb=>(Kf r).bind λc=>.ok (b||c)
noncomputable def Iw:Ae->Ac D->R Ae
 |a,[]=>.ok a
 |a,.int i::r=>Iw (a+i) r
 |_,_=>.bad
noncomputable def Gj:Ac D->Ac D->Ac D
 |x::xs,y::ys=>.tup [x,y]::Gj xs ys
 |_,_=>[]
noncomputable def RA:Ac D->Ac D->Ac D->Ac D
 |x::xs,y::ys,z::zs=>.tup [x,y,z]::RA xs ys zs
 |_,_,_=>[]
noncomputable def L5(x y z:D):R (Ac D):=(C5 x).bind λxs=>(C5 y).bind λys=>(C5 z).bind λzs=>if 0<xs.length/\xs.length<=1000/\ys.length=xs.length/\zs.length=xs.length then .ok (RA xs ys zs) else .bad
noncomputable def Fn:Ae->Ac D->Ac D
 |_,[]=>[]
 |i,x::xs=>.tup [.int i,x]::Fn (i+1) xs
noncomputable def nlD:Ag->D->Ak
 |_,.non=>Ab
 |_,.bl _=>Ab
 |_,.int _=>Ab
 |_,.str _=>Ab
 |n+1,.tup xs=>xs.all (nlD n)
 |_,_=>Ad
noncomputable def Gi(fr:Ak):D->Ak
 |.lst ds=>fr&&ds.all (nlD 5)
 |d=>nlD 5 d
noncomputable def OF:Ac D->Ao (Ac Ae)
 |[]=>Aa []
 |.int i::r=>(OF r).map (i :: ·)
 |_=>Af
noncomputable def S4(i:Ae):Ac Ae->Ae
 |[]=>i
 |j::r=>S4 (if j<i then j else i) r
noncomputable def pk2(k n:Ag):Ac Ag:=(Cm ((n-min k n+1)/2)).map λj=>min k n+2*j
noncomputable def Ti(k:Ag)(xs:Ac D):Ac D:=(pk2 k xs.length).filterMap λi=>xs[i]?
noncomputable def ddS(acc:Ac Ae)(x:Ae):Ac Ae:=if acc.any (· == x)=Ab then acc else acc++[x]
noncomputable def ddN(is:Ac Ae):Ag:=(is.foldl ddS []).length
noncomputable def X9(xs:Ac D):R D:=match OF xs with
  |some is=>if Dr is.length 4000=Ab then .ok (.int (ddN is)) else .bad
  |none=>.bad
noncomputable def mmD(mx:Ak)(x y:D):R D:=if [x,y].all (λd=>rkD 1 d && !eqD d (.tup []))=Ab then .ok (if (if mx=Ab then ltD 1 x y else ltD 1 y x)=Ab then y else x) else .bad
noncomputable def Te(x y:D):R D:=if [x,y].all (λd=>rkD 1 d && !eqD d (.tup []))=Ab then .ok (.bl (ltD 1 x y)) else .bad
noncomputable def cY(k:Ac Ae):Ae:=reduceHash (Builtin.Tuple.tupleHashOf (k.map hashInt))
noncomputable def Yd:Ac D->Ao (Ac (Ac Ae))
 |[]=>Aa []
 |.tup xs::r=>(OF xs).bind λk=>(Yd r).map (k :: ·)
 |_=>Af
noncomputable def Tb:Ac Ae->Ak
 |[]=>Ab
 |h::r=>!r.contains h&&Tb r
noncomputable def i8(xs:Ac D):R D:=match Yd xs with
  |some ks=>if (Dr ks.length 3&&Tb (ks.map cY))=Ab then .ok (.int ks.length) else .bad
  |none=>.bad
noncomputable def biD:BI->Ac D->R D
  |.len,[.lst xs]=>.ok (.int xs.length)
  |.len,[.tup xs]=>.ok (.int xs.length)
  |.len,[.str x]=>if DC x.length=Ab then .ok (.int x.length) else .bad
  |.abs,[.int i]=>.ok (.int (if i<0 then -i else i))
  |.max,[.int i,.int j]=>.ok (.int (if i<j then j else i))
  |.min,[.int i,.int j]=>.ok (.int (if j<i then j else i))
  |.min,[.lst xs]=>match OF xs with
    |some (i::is)=>.ok (.int (S4 i is))
    |_=>.bad
  |.int,[.int i]=>.ok (.int i)
  |.int,[.bl b]=>.ok (.int (b2i b))
  |.list,[.lst xs]=>.ok (.lst xs)
  |.list,[.tup xs]=>.ok (.lst xs)
  |.tuple,[.lst xs]=>.ok (.tup xs)
  |.tuple,[.tup xs]=>.ok (.tup xs)
  |.all,[.lst xs]=>(L4 xs).bind λb=>.ok (.bl b)
  |.any,[.lst xs]=>(Kf xs).bind λb=>.ok (.bl b)
  |.any,[.tup xs]=>(Kf xs).bind λb=>.ok (.bl b)
  |.sum,[.lst xs]=>(Iw 0 xs).bind λi=>.ok (.int i)
  |.sum,[.tup xs]=>(Iw 0 xs).bind λi=>.ok (.int i)
  |.sorted,[.lst xs]=>(VH xs).bind λys=>.ok (.lst ys)
  |.count,[.lst xs,x]=>if (flD 5 x&&xs.all (flD 5))=Ab then .ok (.int ((xs.filter λy=>eqD y x).length:Ag)) else .bad
  |.len,[.dic kvs]=>.ok (.int kvs.length)
  |.stp,[.lst xs,.int k]=>.ok (.lst (Ti k.toNat xs))
  |.lset,[.lst xs]=>X9 xs
  |.lset,[.tup xs]=>i8 xs
  |.tmin,[x,y]=>mmD Ad x y
  |.tmax,[x,y]=>mmD Ab x y
  |.tlt,[x,y]=>Te x y
  |.rvs,[.lst xs]=>.ok (.lst xs.reverse)
  |_,_=>.bad
noncomputable def slE(c:E)(d:D):R (Ao Ae):=match c with
  |.non=>.ok Af
  |_=>(Fm d).bind λi=>.ok (Aa i)
noncomputable def Hj(n d:Ag):Ao Ae->Ag
 |none=>d
 |some i=>if i<0 then (i+n).toNat else min i.toNat n
noncomputable def Mj(xs:Ac D)(lo hi:Ao Ae):Ac D:=(xs.drop (Hj xs.length 0 lo)).take (Hj xs.length xs.length hi-Hj xs.length 0 lo)
noncomputable def slD:D->Ao Ae->Ao Ae->R D
 |.lst xs,l,h=>.ok (.lst (Mj xs l h))
 |.tup xs,l,h=>if (Hj xs.length 0 l==0&&Hj xs.length xs.length h==xs.length)=Ab then .bad else .ok (.tup (Mj xs l h))
 |_,_,_=>.bad
noncomputable def Kn:D->Aj->R D
  |.exc _ fs,f=>match fs.lookup f with
    |some d=>.ok d
    |none=>.bad
  |_,_=>.bad
noncomputable def Gf(Y:Rho)(i:Ag):R D:=match Y[i]? with
  |some (Aa (d,Ad))=>.ok d
  |_=>.bad
noncomputable def En(Y:Rho)(i:Ag):R D:=match Y[i]? with
  |some (Aa (d,_))=>.ok d
  |_=>.bad
noncomputable def shE(Y:Rho):E->Ak
  | .var i=>(match Y[i]? with
    |some (Aa (_,Ab))=>Ad
    | _=>Ab)
  |_=>Ab
noncomputable def Ix(Y:Rho):Es->Ak
 |.nil=>Ab
 |.cons e es=>shE Y e&&Ix Y es
noncomputable def Fa:Ac Ag->Ac D->Rho->Ao Rho
 |[],[],Y=>Aa Y
 |t::ts,d::ds,Y=>Fa ts ds (Y.set t (Aa (d,Ad)))
 |_,_,_=>Af
noncomputable def EH(ts:Ac Ag)(d:D)(Y:Rho):R Rho:=match d with
  | .tup xs=>(match Fa ts xs Y with
    |some Y'=>.ok Y'
    | none=>.bad)
  |_=>.bad
noncomputable def JA(ts:Ac Ag)(d:D)(Y:Rho):R Rho:=match d with
  | .lst xs=>(match Fa ts xs Y with
    |some Y'=>.ok Y'
    | none=>.bad)
  |d=>EH ts d Y
noncomputable def Ck(g:D->R Ak)(f:D->R D):Ac D->R (Ac D)
 |[]=>.ok []
 |x::xs=>(g x).bind λb=>if b=Ab then (f x).bind λy=>(Ck g f xs).bind λys=>.ok (y::ys) else Ck g f xs
noncomputable def noX{α:Type}:R α->R α
 |.ok a=>.ok a
 |_=>.bad
noncomputable def top(Y:Rho)(e:E)(r:R D):R D:=match e with
  |.var i=>En Y i
  |_=>r
mutual
noncomputable def evE(J:Gam)(Y:Rho):E->R D
 |.non=>.ok .non
 |.bl b=>.ok (.bl b)
 |.int i=>.ok (.int i)
 |.str x=>.ok (.str x)
 |.var i=>Gf Y i
 |.glob g=>.ok (J.G g)
 |.bin op a b=>(top Y a (evE J Y a)).bind λx=>(top Y b (evE J Y b)).bind λy=>DJ op x y
 |.un op a=>(top Y a (evE J Y a)).bind λx=>unD op x
 |.no a=>(top Y a (evE J Y a)).bind λx=>(D6 x).bind λb=>.ok (.bl (!b))
 |.and es=>evN J Y es
 |.or es=>evO J Y es
 |.cmp op a b=>(top Y a (evE J Y a)).bind λx=>(top Y b (evE J Y b)).bind λy=>Cn op x y
 |.cmp2 op op' a b c=>(top Y a (evE J Y a)).bind λx=>(top Y b (evE J Y b)).bind λy=>(Cn op x y).bind λz=>(D6 z).bind λk=>if k=Ab then (top Y c (evE J Y c)).bind λu=>Cn op' y u else .ok (.bl Ad)
 |.ite c a b=>(top Y c (evE J Y c)).bind λx=>(B5 x).bind λk=>if k=Ab then evE J Y a else evE J Y b
 |.call f as=>(evB J Y as).bind λxs=>(J.F f xs).bind λd=>if Ix Y as=Ab then .ok d else if Gi (J.fr f) d=Ab then .ok d else .bad
 |.bi b as=>(evB J Y as).bind λxs=>biD b xs
 |.isi a ks=>(top Y a (evE J Y a)).bind λx=>EV J.up ks x
 |.idx a i=>(top Y a (evE J Y a)).bind λx=>(top Y i (evE J Y i)).bind λy=>BK x y
 |.sl a lo hi=>(top Y a (evE J Y a)).bind λx=>(top Y lo (evE J Y lo)).bind λl=>(slE lo l).bind λl'=>(top Y hi (evE J Y hi)).bind λh=>(slE hi h).bind λh'=>slD x l' h'
 |.tup es=>(evA J Y es).bind λxs=>.ok (.tup xs)
 |.lst es=>(evA J Y es).bind λxs=>.ok (.lst xs)
 |.comp elt t it c=>(evI J Y it).bind λxs=>(noX (Ck (λx=>(top (Y.set t (Aa (x,Ad))) c (evE J (Y.set t (Aa (x,Ad))) c)).bind B5) (λx=>evE J (Y.set t (Aa (x,Ad))) elt) xs)).bind λys=>.ok (.lst ys)
 |.compT elt ts it c=>(evI J Y it).bind λxs=>(noX (Ck (λx=>(EH ts x Y).bind λY'=>(top Y' c (evE J Y' c)).bind B5) (λx=>(EH ts x Y).bind λY'=>evE J Y' elt) xs)).bind λys=>.ok (.lst ys)
 |.tupI it=>(evI J Y it).bind λxs=>.ok (.tup xs)
 |.dnew=>.ok (.dic [])
 |.fld o f=>(top Y o (evE J Y o)).bind λx=>Kn x f
noncomputable def evN(J:Gam)(Y:Rho):Es->R D
 |.nil=>.bad
 |.cons e .nil=>evE J Y e
 |.cons e (.cons e' es)=>(evE J Y e).bind λx=>(D6 x).bind λc=>if c=Ab then evN J Y (.cons e' es) else .ok (.bl Ad)
noncomputable def evO(J:Gam)(Y:Rho):Es->R D
 |.nil=>.bad
 |.cons e .nil=>evE J Y e
 |.cons e (.cons e' es)=>(evE J Y e).bind λx=>(D6 x).bind λc=>if c=Ab then .ok (.bl Ab) else evO J Y (.cons e' es)
noncomputable def evA(J:Gam)(Y:Rho):Es->R (Ac D)
 |.nil=>.ok []
 |.cons e es=>(evE J Y e).bind λx=>(evA J Y es).bind λxs=>.ok (x::xs)
noncomputable def evB(J:Gam)(Y:Rho):Es->R (Ac D)
 |.nil=>.ok []
 |.cons e es=>(top Y e (evE J Y e)).bind λx=>(evB J Y es).bind λxs=>.ok (x::xs)
noncomputable def evI(J:Gam)(Y:Rho):I->R (Ac D)
 |.e a=>(evE J Y a).bind C5
 |.rng a=>(top Y a (evE J Y a)).bind λx=>(Fm x).bind λj=>DI 0 j
 |.rng2 a b=>(top Y a (evE J Y a)).bind λx=>(top Y b (evE J Y b)).bind λy=>(Fm x).bind λi=>(Fm y).bind λj=>DI i j
 |.zip a b=>(evE J Y a).bind λx=>(evE J Y b).bind λy=>(C5 x).bind λxs=>(C5 y).bind λys=>.ok (Gj xs ys)
 |.zip3 a b c=>(evE J Y a).bind λx=>(evE J Y b).bind λy=>(evE J Y c).bind λz=>L5 x y z
 |.enm a=>(evE J Y a).bind λx=>(C5 x).bind λxs=>.ok (Fn 0 xs)
end
noncomputable def C2(J:Gam):E->Ak
 |.lst _=>Ab
 |.comp _ _ _ _=>Ab
 |.compT _ _ _ _=>Ab
 |.dnew=>Ab
 |.bin .Add _ _=>Ab
 |.bi .list _=>Ab
 |.bi .sorted _=>Ab
 |.sl _ _ _=>Ab
 |.call f _=>J.fr f
 |_=>Ad
mutual
inductive S where
 |pass
 /-- x=e;fresh: x alone holds the new list -/
 |asg (i:Ag) (fresh:Ak) (e:E)
 /-- a,b,..=e -/
 |asgT (ts:Ac Ag) (e:E)
 |expr (e:E)
 |ret (e:E)|retN
 |ife (c:E) (a b:Ss)
 |fors (t:Ag) (it:I) (body:Ss)
 |forT (ts:Ac Ag) (it:I) (body:Ss)
 |whl (c:E) (body:Ss)
 /-- raise C(e,..) -/
 |rais (c:Ag) (as:Es)
 /-- try: body except C as x: h -/
 |tryx (body:Ss) (c:Ag) (x:Ag) (h:Ss)
 /-- .. except C as x: h,except C' as x: h',else: els -/
 |try2 (body:Ss) (c:Ag) (x:Ag) (h:Ss) (c':Ag) (h' els:Ss)
 /-- x.append(e),x.extend(e),x.insert(k,e),x.reverse(),x.clear() -/
 |app (i:Ag) (e:E)|ext (i:Ag) (e:E)|ins (i:Ag) (k e:E)|rev (i:Ag)|clr (i:Ag)
 /-- d[k]=e,d.setdefault(k,e) -/
 |dput (i:Ag) (k e:E)|dsd (i:Ag) (k e:E)
 /-- x[k]=e -/
 |put (i:Ag) (k e:E)
 /-- x[k],x[l]=x[l],x[k] -/
 |swp (i k l:Ag)
 /-- x.append(y.pop(e)) -/
 |apop (j i:Ag) (e:E)
 |brk|cont
 /-- nothing: from here on x is no longer changed -/
 |rel (i:Ag)
inductive Ss where
 |nil|cons (s:S) (ss:Ss)
end
inductive O where
 |next (Y:Rho)|ret (d:D) (fr:Ak)|brk (Y:Rho)|cont (Y:Rho)|exn (x:Ex) (Y:Rho)|bad
 deriving Inhabited
noncomputable def O.of{α:Type}(Y:Rho)(r:R α)(f:α->O):O:=match r with
  |.ok a=>f a
  |.exn x=>.exn x Y
  |.bad=>.bad
@[simp]theorem O.of_ok(Y:Rho)(a:α)(f:α->O):O.of Y (.ok a) f=f a:=rfl
@[simp]theorem O.of_exn(Y:Rho)(x:Ex)(f:α->O):O.of Y (.exn x:R α) f=.exn x Y:=rfl
@[simp]theorem O.of_bad(Y:Rho)(f:α->O):O.of Y (.bad:R α) f=.bad:=rfl
noncomputable def Ja(J:Gam)(Y:Rho)(i:I):R (Ac D):=evI J Y i
noncomputable def Dm(Y:Rho)(i:Ag):R (Ac D):=match Y[i]? with
  |some (Aa (.lst xs,Ab))=>.ok xs
  |_=>.bad
noncomputable def SX(Y:Rho)(i:Ag):R (Ac (Ac Ae×D)):=match Y[i]? with
  |some (Aa (.dic xs,Ab))=>.ok xs
  |_=>.bad
noncomputable def Yt(d:D):R (Ac Ae):=match Ko d with
  |some k=>.ok k
  |none=>.bad
noncomputable def XV:Ag:=4096
noncomputable def O.seq(o:O)(f:Rho->O):O:=match o with
  |.next Y=>f Y
  |.ret d b=>.ret d b
  |.brk Y=>.brk Y
  |.cont Y=>.cont Y
  |.exn x Y=>.exn x Y
  |.bad=>.bad
noncomputable def O.turn(o:O)(f:Rho->O):O:=match o with
  |.next Y=>f Y
  |.cont Y=>f Y
  |.brk Y=>.next Y
  |.ret d b=>.ret d b
  |.exn x Y=>.exn x Y
  |.bad=>.bad
noncomputable def CM(body:D->Rho->O):Ac D->Rho->O
 |[],Y=>.next Y
 |x::xs,Y=>(body x Y).turn (CM body xs)
noncomputable def Si(c:Rho->R Ak)(body:Rho->O):Ag->Rho->O
 |0,_=>.bad
 |n+1,Y=>O.of Y (c Y) λb=>if b=Ab then (body Y).turn (Si c body n) else .next Y
noncomputable def Yh(Y:Rho)(k:Ag):R Ae:=(Gf Y k).bind Fm
noncomputable def dM(Y:Rho)(d:D)(i k l:Ag):O:=match d with
  |.tup [x,y]=>O.of Y (Dm Y i) λxs=>O.of Y (Yh Y k) λa=>O.of Y (Yh Y l) λb=>match plD xs.length a,plD xs.length b with
    |some m,Aa n=>.next (Y.set i (Aa (.lst ((xs.set m x).set n y),Ab)))
    |_,_=>.bad
  |_=>.bad
noncomputable def apD(Y:Rho)(j i:Ag)(ys xs:Ac D)(n:Ae):O:=match plD xs.length n with
  | some m=>(match xs[m]? with
    |some d=>if (j != i&&(DC xs.length&&DC (ys.length+1)))=Ab then .next ((Y.set i (Aa (.lst (xs.eraseIdx m),Ab))).set j (Aa (.lst (ys++[d]),Ab))) else .bad
    | none=>.bad)
  |none=>.bad
noncomputable def hdO(i:Ag)(y:Ex)(Y':Rho)(fh:Rho->O):O:=match fh (Y'.set i (Aa (.exc y.c y.fs,Ad))) with
  |.next Y''=>.next (Y''.set i Af)
  |.ret d f=>.ret d f
  |_=>.bad
mutual
noncomputable def evS(J:Gam)(Y:Rho):S->O
  |.pass=>.next Y
  | .asg i fresh e=>O.of Y (evE J Y e) λd=>if fresh=Ab then (if C2 J e=Ab then (match d with
      |.lst xs=>.next (Y.set i (Aa (.lst xs,Ab)))
      |.dic xs=>.next (Y.set i (Aa (.dic xs,Ab)))
      | _=>.bad) else .bad) else .next (Y.set i (Aa (d,Ad)))
  |.asgT ts e=>O.of Y (evE J Y e) λd=>O.of Y (JA ts d Y) λY'=>.next Y'
  |.expr e=>O.of Y (evE J Y e) λ_=>.next Y
  |.ret e=>O.of Y (top Y e (evE J Y e)) λd=>.ret d (C2 J e||(match e with | .var i=>(match Y[i]? with|some (Aa (_,o))=>o|_=>Ad)|_=>Ad))
  |.retN=>.ret .non Ad
  |.ife c a b=>O.of Y ((top Y c (evE J Y c)).bind B5) λk=>if k=Ab then evSs J Y a else evSs J Y b
  |.fors t it body=>O.of Y (Ja J Y it) λxs=>CM (λx Y'=>evSs J (Y'.set t (Aa (x,Ad))) body) xs Y
  |.forT ts it body=>O.of Y (Ja J Y it) λxs=>CM (λx Y'=>O.of Y' (EH ts x Y') λY''=>evSs J Y'' body) xs Y
  |.whl c body=>Si (λY'=>(top Y' c (evE J Y' c)).bind B5) (λY'=>evSs J Y' body) XV Y
  |.rais c as=>O.of Y (noX (evA J Y as)) λxs=>O.of Y (J.xn c xs) λx=>.exn x Y
  |.tryx body c x h=>match evSs J Y body with
      | .exn y Y'=>if (J.up y.c).contains c=Ab then (match evSs J (Y'.set x (Aa (.exc y.c y.fs,Ad))) h with
          |.next Y''=>.next (Y''.set x Af)
          |.ret d f=>.ret d f
          | _=>.bad) else .bad
      |o=>o
  |.try2 body c x h c' h' els=>match evSs J Y body with
      |.exn y Y'=>if (J.up y.c).contains c=Ab then hdO x y Y' (λr=>evSs J r h) else if (J.up y.c).contains c'=Ab then hdO x y Y' (λr=>evSs J r h') else .bad
      |.next Y'=>evSs J Y' els
      |o=>o
  |.app i e=>O.of Y (Dm Y i) λxs=>O.of Y (evE J Y e) λd=>if DC (xs.length+1)=Ab then .next (Y.set i (Aa (.lst (xs++[d]),Ab))) else .bad
  |.ext i e=>O.of Y (Dm Y i) λxs=>O.of Y (evE J Y e) λd=>O.of Y (R0 d) λys=>if DC (xs.length+ys.length)=Ab then .next (Y.set i (Aa (.lst (xs++ys),Ab))) else .bad
  |.ins i k e=>O.of Y (Dm Y i) λxs=>O.of Y ((top Y k (evE J Y k)).bind Fm) λj=>O.of Y (evE J Y e) λd=>if (DC (xs.length+1)&&decide (0<=j)&&decide (j<=xs.length))=Ab then .next (Y.set i (Aa (.lst (xs.take j.toNat++d::xs.drop j.toNat),Ab))) else .bad
  |.rev i=>O.of Y (Dm Y i) λxs=>.next (Y.set i (Aa (.lst xs.reverse,Ab)))
  |.clr i=>O.of Y (Dm Y i) λ_=>.next (Y.set i (Aa (.lst [],Ab)))
  |.dput i k e=>O.of Y (evE J Y e) λd=>O.of Y (SX Y i) λxs=>O.of Y ((evE J Y k).bind Yt) λj=>if DC (xs.length+1)=Ab then .next (Y.set i (Aa (.dic (WE xs j d),Ab))) else .bad
  |.dsd i k e=>O.of Y (SX Y i) λxs=>O.of Y ((evE J Y k).bind Yt) λj=>O.of Y (evE J Y e) λd=>if DC (xs.length+1)=Ab then .next (Y.set i (Aa (.dic (if (xs.any λp=>p.1==j)=Ab then xs else WE xs j d),Ab))) else .bad
  |.put i k e=>O.of Y (evE J Y e) λd=>O.of Y (Dm Y i) λxs=>O.of Y ((top Y k (evE J Y k)).bind Fm) λj=>match plD xs.length j with
      |some n=>.next (Y.set i (Aa (.lst (xs.set n d),Ab)))
      |none=>.bad
  |.swp i k l=>O.of Y (evE J Y (.tup (.cons (.idx (.var i) (.var l)) (.cons (.idx (.var i) (.var k)) .nil)))) λd=>dM Y d i k l
  |.apop j i e=>O.of Y (Dm Y j) λys=>O.of Y (Dm Y i) λxs=>O.of Y (evE J Y e) λd=>O.of Y (Fm d) λn=>apD Y j i ys xs n
  |.brk=>.brk Y
  |.cont=>.cont Y
  |.rel i=>match Y[i]? with
      |some (Aa (d,Ab))=>.next (Y.set i (Aa (d,Ad)))
      |_=>.next Y
noncomputable def evSs(J:Gam)(Y:Rho):Ss->O
 |.nil=>.next Y
 |.cons s ss=>(evS J Y s).seq λY'=>evSs J Y' ss
end
structure Df where
 n:Ag
 fr:Ak
 body:Ss
noncomputable def Br(n:Ag)(ds:Ac D):Rho:=ds.map (λd=>Aa (d,Ad))++Hb (n-ds.length) Af
noncomputable def isL:D->Ak
 |.lst _=>Ab
 |.dic _=>Ab
 |_=>Ad
noncomputable def O.ans(fr:Ak)(o:O):R D:=match o with
  |.ret d b=>if (fr&&(!b&&isL d))=Ab then .bad else .ok d
  |.next _=>if fr=Ab then .bad else .ok .non
  |.exn x _=>.exn x
  |_=>.bad
noncomputable def Df.run(J:Gam)(f:Df)(ds:Ac D):R D:=(evSs J (Br f.n ds) f.body).ans f.fr
structure Prg where
 xs:Ak
 defs:Ag->Df
 G:Ag->D
 up:Ag->Ac Ag
 xn:Ag->Ac D->R Ex
noncomputable def Fo(xs:Ak)(r:R D):R D:=match xs with
  |true=>r
  |false=>noX r
noncomputable def gam(P:Prg):Ag->Gam
 |0=>⟨λ_ _=>.bad,P.G,P.up,λi=>(P.defs i).fr,P.xn⟩
 |n+1=>⟨λi ds=>Fo P.xs ((P.defs i).run (gam P n) ds),P.G,P.up,λi=>(P.defs i).fr,P.xn⟩
end Ov
end
section
namespace Ov
open PySem
variable{α:Type}{lo:Ae}{n:Ag}{x:D}
section
variable(J:Gam)(Y:Rho)
@[simp]theorem ZAl:evE J Y .non=.ok .non:=rfl
@[simp]theorem ZCl(b):evE J Y (.bl b)=.ok (.bl b):=rfl
@[simp]theorem ZAp(b):evE J Y (.int b)=.ok (.int b):=rfl
@[simp]theorem ZAk(b):evE J Y (.str b)=.ok (.str b):=rfl
@[simp]theorem ZAi(i):evE J Y (.var i)=Gf Y i:=rfl
@[simp]theorem ZwQ(i):evE J Y (.glob i)=.ok (J.G i):=rfl
@[simp]theorem ZAs(op a b):evE J Y (.bin op a b)=(top Y a (evE J Y a)).bind λx=>(top Y b (evE J Y b)).bind λy=>DJ op x y:=rfl
@[simp]theorem ZCh(op a):evE J Y (.un op a)=(top Y a (evE J Y a)).bind λx=>unD op x:=rfl
@[simp]theorem ZCk(a):evE J Y (.no a)=(top Y a (evE J Y a)).bind λx=>(D6 x).bind λb=>.ok (.bl (!b)):=rfl
@[simp]theorem ZAt(es):evE J Y (.and es)=evN J Y es:=rfl
@[simp]theorem ZCj(es):evE J Y (.or es)=evO J Y es:=rfl
@[simp]theorem ZAe(e):evN J Y (.cons e .nil)=evE J Y e:=rfl
@[simp]theorem ZwJ(e e' es):evN J Y (.cons e (.cons e' es))=(evE J Y e).bind λx=>(D6 x).bind λc=>if c=Ab then evN J Y (.cons e' es) else .ok (.bl Ad):=rfl
@[simp]theorem ZAd(e):evO J Y (.cons e .nil)=evE J Y e:=rfl
@[simp]theorem ZwI(e e' es):evO J Y (.cons e (.cons e' es))=(evE J Y e).bind λx=>(D6 x).bind λc=>if c=Ab then .ok (.bl Ab) else evO J Y (.cons e' es):=rfl
@[simp]theorem rZ(op a b):evE J Y (.cmp op a b)=(top Y a (evE J Y a)).bind λx=>(top Y b (evE J Y b)).bind λy=>Cn op x y:=rfl
@[simp]theorem ZwT(op op' a b c):evE J Y (.cmp2 op op' a b c)=(top Y a (evE J Y a)).bind λx=>(top Y b (evE J Y b)).bind λy=>(Cn op x y).bind λz=>(D6 z).bind λk=>if k=Ab then (top Y c (evE J Y c)).bind λu=>Cn op' y u else .ok (.bl Ad):=rfl
@[simp]theorem ZAn(c a b):evE J Y (.ite c a b)=(top Y c (evE J Y c)).bind λx=>(B5 x).bind λk=>if k=Ab then evE J Y a else evE J Y b:=rfl
@[simp]theorem ZwU(f as):evE J Y (.call f as)=(evB J Y as).bind λxs=>(J.F f xs).bind λd=>if Ix Y as=Ab then .ok d else if Gi (J.fr f) d=Ab then .ok d else .bad:=rfl
@[simp]theorem ZCm(f as):evE J Y (.bi f as)=(evB J Y as).bind λxs=>biD f xs:=rfl
@[simp]theorem ZAo(a ks):evE J Y (.isi a ks)=(top Y a (evE J Y a)).bind λx=>EV J.up ks x:=rfl
@[simp]theorem ZAq(a i):evE J Y (.idx a i)=(top Y a (evE J Y a)).bind λx=>(top Y i (evE J Y i)).bind λy=>BK x y:=rfl
@[simp]theorem ZCi(a lo hi):evE J Y (.sl a lo hi)=(top Y a (evE J Y a)).bind λx=>(top Y lo (evE J Y lo)).bind λl=>(slE lo l).bind λl'=>(top Y hi (evE J Y hi)).bind λh=>(slE hi h).bind λh'=>slD x l' h':=rfl
@[simp]theorem ZAj(es):evE J Y (.tup es)=(evA J Y es).bind λxs=>.ok (.tup xs):=rfl
@[simp]theorem ZAm(es):evE J Y (.lst es)=(evA J Y es).bind λxs=>.ok (.lst xs):=rfl
noncomputable def cG(J:Gam)(Y:Rho)(t:Ag)(c:E):D->R Ak:=λx=>(top (Y.set t (Aa (x,Ad))) c (evE J (Y.set t (Aa (x,Ad))) c)).bind B5
noncomputable def cF(J:Gam)(Y:Rho)(t:Ag)(elt:E):D->R D:=λx=>evE J (Y.set t (Aa (x,Ad))) elt
noncomputable def mkL(r:R (Ac D)):R D:=(noX r).bind λys=>.ok (.lst ys)
@[simp]theorem ZBN(ys):mkL (.ok ys)=.ok (.lst ys):=rfl
@[simp]theorem ZwS(elt t it c):evE J Y (.comp elt t it c)=(evI J Y it).bind λxs=>mkL (Ck (cG J Y t c) (cF J Y t elt) xs):=rfl
noncomputable def cGT(J:Gam)(Y:Rho)(ts:Ac Ag)(c:E):D->R Ak:=λx=>(EH ts x Y).bind λY'=>(top Y' c (evE J Y' c)).bind B5
noncomputable def cFT(J:Gam)(Y:Rho)(ts:Ac Ag)(elt:E):D->R D:=λx=>(EH ts x Y).bind λY'=>evE J Y' elt
@[simp]theorem ZuT(elt ts it c):evE J Y (.compT elt ts it c)=(evI J Y it).bind λxs=>mkL (Ck (cGT J Y ts c) (cFT J Y ts elt) xs):=rfl
@[simp]theorem ZwP(it):evE J Y (.tupI it)=(evI J Y it).bind λxs=>.ok (.tup xs):=rfl
@[simp]theorem ZwR:evE J Y .dnew=.ok (.dic []):=rfl
@[simp]theorem ZAr(o f):evE J Y (.fld o f)=(top Y o (evE J Y o)).bind λx=>Kn x f:=rfl
@[simp]theorem ZAv:evA J Y .nil=.ok []:=rfl
@[simp]theorem Vu(e es):evA J Y (.cons e es)=(evE J Y e).bind λx=>(evA J Y es).bind λxs=>.ok (x::xs):=rfl
@[simp]theorem ZAu:evB J Y .nil=.ok []:=rfl
@[simp]theorem Qw(e es):evB J Y (.cons e es)=(top Y e (evE J Y e)).bind λx=>(evB J Y es).bind λxs=>.ok (x::xs):=rfl
@[simp]theorem ZDe(a):evI J Y (.e a)=(evE J Y a).bind C5:=rfl
@[simp]theorem ZAg(a):evI J Y (.rng a)=(top Y a (evE J Y a)).bind λx=>(Fm x).bind λj=>DI 0 j:=rfl
@[simp]theorem ZwO(a b):evI J Y (.rng2 a b)=(top Y a (evE J Y a)).bind λx=>(top Y b (evE J Y b)).bind λy=>(Fm x).bind λi=>(Fm y).bind λj=>DI i j:=rfl
@[simp]theorem ZAf(a b):evI J Y (.zip a b)=(evE J Y a).bind λx=>(evE J Y b).bind λy=>(C5 x).bind λxs=>(C5 y).bind λys=>.ok (Gj xs ys):=rfl
@[simp]theorem ZwN(a b c):evI J Y (.zip3 a b c)=(evE J Y a).bind λx=>(evE J Y b).bind λy=>(evE J Y c).bind λz=>L5 x y z:=rfl
@[simp]theorem ZAh(a):evI J Y (.enm a)=(evE J Y a).bind λx=>(C5 x).bind λxs=>.ok (Fn 0 xs):=rfl
@[simp]theorem ZwK(a b):Ja J Y (.zip a b)=evI J Y (.zip a b):=rfl
@[simp]theorem ZuR(a b c):Ja J Y (.zip3 a b c)=evI J Y (.zip3 a b c):=rfl
@[simp]theorem ZwM(a):Ja J Y (.enm a)=evI J Y (.enm a):=rfl
@[simp]theorem ZCg(a):Ja J Y (.e a)=(evE J Y a).bind C5:=rfl
@[simp]theorem ZwL(a):Ja J Y (.rng a)=evI J Y (.rng a):=rfl
@[simp]theorem ZuS(a b):Ja J Y (.rng2 a b)=evI J Y (.rng2 a b):=rfl
variable(r:R D)
@[simp]theorem Zxm(i):top Y (.var i) r=En Y i:=rfl
@[simp]theorem Zxp:top Y .non r=r:=rfl
@[simp]theorem ZBi(b):top Y (.bl b) r=r:=rfl
@[simp]theorem Zxt(b):top Y (.int b) r=r:=rfl
@[simp]theorem Zxo(b):top Y (.str b) r=r:=rfl
@[simp]theorem Zv0(b):top Y (.glob b) r=r:=rfl
@[simp]theorem Zxx(op a b):top Y (.bin op a b) r=r:=rfl
@[simp]theorem ZBe(op a):top Y (.un op a) r=r:=rfl
@[simp]theorem ZBh(a):top Y (.no a) r=r:=rfl
@[simp]theorem Zxy(a):top Y (.and a) r=r:=rfl
@[simp]theorem ZBg(a):top Y (.or a) r=r:=rfl
@[simp]theorem Zxw(op a b):top Y (.cmp op a b) r=r:=rfl
@[simp]theorem Zv3(op op' a b c):top Y (.cmp2 op op' a b c) r=r:=rfl
@[simp]theorem Zxr(a b c):top Y (.ite a b c) r=r:=rfl
@[simp]theorem Zv4(a b):top Y (.call a b) r=r:=rfl
@[simp]theorem ZBj(a b):top Y (.bi a b) r=r:=rfl
@[simp]theorem Zxs(a b):top Y (.isi a b) r=r:=rfl
@[simp]theorem Zxu(a b):top Y (.idx a b) r=r:=rfl
@[simp]theorem ZBf(a b c):top Y (.sl a b c) r=r:=rfl
@[simp]theorem Zxn(a):top Y (.tup a) r=r:=rfl
@[simp]theorem Zxq(a):top Y (.lst a) r=r:=rfl
@[simp]theorem Zv2(a b c d):top Y (.comp a b c d) r=r:=rfl
@[simp]theorem Zxv(a b):top Y (.fld a b) r=r:=rfl
@[simp]theorem Zsy(a b c d):top Y (.compT a b c d) r=r:=rfl
@[simp]theorem ZvZ(a):top Y (.tupI a) r=r:=rfl
@[simp]theorem Zv1:top Y .dnew r=r:=rfl
end
@[simp]theorem Zsm(x:D×Ak)(Y:Rho):En (Aa x::Y) 0=.ok x.1:=rfl
@[simp]theorem Zsn(x:D)(Y:Rho):Gf (Aa (x,Ad)::Y) 0=.ok x:=rfl
@[simp]theorem ZrX(x:Sl)(Y:Rho)(i:Ag)[NeZero i]:En (x::Y) i=En Y (i-1):=by
 obtain⟨j,rfl⟩:∃ j,i=j+1:=⟨i-1,by have:=Ml i;omega⟩
 rfl
@[simp]theorem ZrY(x:Sl)(Y:Rho)(i:Ag)[NeZero i]:Gf (x::Y) i=Gf Y (i-1):=by
 obtain⟨j,rfl⟩:∃ j,i=j+1:=⟨i-1,by have:=Ml i;omega⟩
 rfl
noncomputable def shV(Y:Rho)(i:Ag):Ak:=match Y[i]? with
    |some (Aa (_,Ab))=>Ad
    |_=>Ab
@[simp]theorem Zv8(x:D)(b:Ak)(Y:Rho):shV (Aa (x,b)::Y) 0=!b:=by cases b<;>rfl
@[simp]theorem ZsU(Y:Rho):shV (Af::Y) 0=Ab:=rfl
@[simp]theorem ZsV(x:Sl)(Y:Rho)(i:Ag)[NeZero i]:shV (x::Y) i=shV Y (i-1):=by
 obtain⟨j,rfl⟩:∃ j,i=j+1:=⟨i-1,by have:=Ml i;omega⟩
 rfl
section
variable(Y:Rho)
@[simp]theorem ZxZ(i):shE Y (.var i)=shV Y i:=rfl
@[simp]theorem Zx2:shE Y .non=Ab:=rfl
@[simp]theorem ZBz(b):shE Y (.bl b)=Ab:=rfl
@[simp]theorem Zx6(b):shE Y (.int b)=Ab:=rfl
@[simp]theorem Zx1(b):shE Y (.str b)=Ab:=rfl
@[simp]theorem Zwb(b):shE Y (.glob b)=Ab:=rfl
@[simp]theorem Zya(op a b):shE Y (.bin op a b)=Ab:=rfl
@[simp]theorem ZBv(op a):shE Y (.un op a)=Ab:=rfl
@[simp]theorem ZBy(a):shE Y (.no a)=Ab:=rfl
@[simp]theorem Zyb(a):shE Y (.and a)=Ab:=rfl
@[simp]theorem ZBx(a):shE Y (.or a)=Ab:=rfl
@[simp]theorem Zx9(op a b):shE Y (.cmp op a b)=Ab:=rfl
@[simp]theorem Zwe(op op' a b c):shE Y (.cmp2 op op' a b c)=Ab:=rfl
@[simp]theorem Zx4(a b c):shE Y (.ite a b c)=Ab:=rfl
@[simp]theorem Zwf(a b):shE Y (.call a b)=Ab:=rfl
@[simp]theorem ZBA(a b):shE Y (.bi a b)=Ab:=rfl
@[simp]theorem Zx5(a b):shE Y (.isi a b)=Ab:=rfl
@[simp]theorem Zx7(a b):shE Y (.idx a b)=Ab:=rfl
@[simp]theorem ZBw(a b c):shE Y (.sl a b c)=Ab:=rfl
@[simp]theorem Zx0(a):shE Y (.tup a)=Ab:=rfl
@[simp]theorem Zx3(a):shE Y (.lst a)=Ab:=rfl
@[simp]theorem Zwd(a b c d):shE Y (.comp a b c d)=Ab:=rfl
@[simp]theorem ZsW(a b c d):shE Y (.compT a b c d)=Ab:=rfl
@[simp]theorem Zwa(a):shE Y (.tupI a)=Ab:=rfl
@[simp]theorem Zwc:shE Y .dnew=Ab:=rfl
@[simp]theorem Zx8(a b):shE Y (.fld a b)=Ab:=rfl
@[simp]theorem Zv9:Ix Y .nil=Ab:=rfl
@[simp]theorem gQ(e es):Ix Y (.cons e es)=(shE Y e&&Ix Y es):=rfl
end
@[simp]theorem Zr0(Y:Rho):Fa [] [] Y=Aa Y:=rfl
@[simp]theorem Zo7(t ts d ds)(Y:Rho):Fa (t::ts) (d::ds) Y=Fa ts ds (Y.set t (Aa (d,Ad))):=rfl
@[simp]theorem jR(ts ds)(Y:Rho):JA ts (.lst ds) Y=match Fa ts ds Y with
  |some Y'=>.ok Y'
  |none=>.bad:=rfl
@[simp]theorem Zvu(ts ds)(Y:Rho):JA ts (.tup ds) Y=EH ts (.tup ds) Y:=rfl
@[simp]theorem T8(ts ds)(Y:Rho):EH ts (.tup ds) Y=match Fa ts ds Y with
  |some Y'=>.ok Y'
  |none=>.bad:=rfl
@[simp]theorem Zw3{β:Type}(c:Prop)[GF c](a b:R α)(f:α->R β):(if c then a else b).bind f=if c then a.bind f else b.bind f:=by split<;>rfl
@[simp]theorem ZBL(Y:Rho)(c:Prop)[GF c](a b:R α)(f:α->O):O.of Y (if c then a else b) f=if c then O.of Y a f else O.of Y b f:=by split<;>rfl
@[simp]theorem Zzo{β:Type}(Y:Rho)(a:R α)(g:α->R β)(f:β->O):O.of Y (a.bind g) f=O.of Y a λx=>O.of Y (g x) f:=by cases a<;>rfl
@[simp]theorem Zyd(c:Prop)[GF c](a b:O)(f:Rho->O):O.seq (if c then a else b) f=if c then a.seq f else b.seq f:=by split<;>rfl
@[simp]theorem ZvP(c:Prop)[GF c](a b:O)(f:Rho->O):O.turn (if c then a else b) f=if c then a.turn f else b.turn f:=by split<;>rfl
@[simp]theorem ZAY(fr:Ak)(c:Prop)[GF c](a b:O):O.ans fr (if c then a else b)=if c then a.ans fr else b.ans fr:=by split<;>rfl
@[simp]theorem Zwg(Y f):O.seq (.next Y) f=f Y:=rfl
@[simp]theorem Zyc(d b f):O.seq (.ret d b) f=.ret d b:=rfl
@[simp]theorem Zyf(Y f):O.seq (.brk Y) f=.brk Y:=rfl
@[simp]theorem Zwh(Y f):O.seq (.cont Y) f=.cont Y:=rfl
@[simp]theorem Zye(x Y f):O.seq (.exn x Y) f=.exn x Y:=rfl
@[simp]theorem Zyg(f):O.seq .bad f=.bad:=rfl
@[simp]theorem Zst(Y f):O.turn (.next Y) f=f Y:=rfl
@[simp]theorem ZvO(d b f):O.turn (.ret d b) f=.ret d b:=rfl
@[simp]theorem ZvR(Y f):O.turn (.brk Y) f=.next Y:=rfl
@[simp]theorem Zsu(Y f):O.turn (.cont Y) f=f Y:=rfl
@[simp]theorem ZvQ(x Y f):O.turn (.exn x Y) f=.exn x Y:=rfl
@[simp]theorem ZvS(f):O.turn .bad f=.bad:=rfl
@[simp]theorem Zw5(Y):O.ans Ad (.next Y)=.ok .non:=rfl
@[simp]theorem ZAX(d b):O.ans Ad (.ret d b)=.ok d:=rfl
@[simp]theorem Zw4(d b):O.ans Ab (.ret d b)=if (!b&&isL d)=Ab then .bad else .ok d:=rfl
@[simp]theorem ZzQ(d):isL (.lst d)=Ab:=rfl
@[simp]theorem ZzP(d):isL (.tup d)=Ad:=rfl
@[simp]theorem ZzR(d):isL (.int d)=Ad:=rfl
@[simp]theorem ZAZ(fr x Y):O.ans fr (.exn x Y)=.exn x:=rfl
@[simp]theorem ZA0(fr):O.ans fr .bad=.bad:=rfl
@[simp]theorem ZCt(i j:Ae):DJ .Add (.int i) (.int j)=.ok (.int (i+j)):=rfl
@[simp]theorem ZBp(i j:Ae):DJ .Sub (.int i) (.int j)=.ok (.int (i-j)):=rfl
@[simp]theorem yX(i j:Ae):DJ .Mult (.int i) (.int j)=if (D0 i j||FH i j)=Ab then .ok (.int (i*j)) else .bad:=rfl
@[simp]theorem rV(i j:Ae):DJ .FloorDiv (.int i) (.int j)=if 0<j/\j<1073741824 then .ok (.int (i/j)) else .bad:=rfl
@[simp]theorem yY(i j:Ae):DJ .Mod (.int i) (.int j)=if 0<j then .ok (.int (i%j)) else .bad:=rfl
@[simp]theorem wN(i j:Ae):DJ .Pow (.int i) (.int j)=if (0<=j/\j<=1000000)/\(-(18446744073709551616:Ae)<i/\i<18446744073709551616) then .ok (.int (i ^ j.toNat)) else .bad:=rfl
@[simp]theorem Xn(x y:Aj):DJ .Add (.str x) (.str y)=if DC (x.length+y.length)=Ab then .ok (.str (x++y)) else .bad:=rfl
@[simp]theorem Xo(x y:Ac D):DJ .Add (.lst x) (.lst y)=if DC (x.length+y.length)=Ab then .ok (.lst (x++y)) else .bad:=rfl
@[simp]theorem Xm(x y:Ac D):DJ .Add (.tup x) (.tup y)=if (!x.isEmpty&&DC (x.length+y.length))=Ab then .ok (.tup (x++y)) else .bad:=rfl
@[simp]theorem ZCV(i:Ae):unD .USub (.int i)=.ok (.int (-i)):=rfl
@[simp]theorem cR(x y:D):Cn .Eq x y=if (flD 5 x&&flD 5 y)=Ab then .ok (.bl (eqD x y)) else .bad:=rfl
@[simp]theorem jl(x y:D):Cn .NotEq x y=if (flD 5 x&&flD 5 y)=Ab then .ok (.bl (!eqD x y)) else .bad:=rfl
@[simp]theorem ZCW(i j:Ae):Cn .Lt (.int i) (.int j)=.ok (.bl (decide (i<j))):=rfl
@[simp]theorem ZCZ(i j:Ae):Cn .LtE (.int i) (.int j)=.ok (.bl (decide (i<=j))):=rfl
@[simp]theorem ZDa(i j:Ae):Cn .Gt (.int i) (.int j)=.ok (.bl (decide (j<i))):=rfl
@[simp]theorem ZDb(i j:Ae):Cn .GtE (.int i) (.int j)=.ok (.bl (decide (j<=i))):=rfl
@[simp]theorem cV(x:D)(ys:Ac D):Cn .In x (.lst ys)=if (flD 5 x&&ys.all (flD 5))=Ab then .ok (.bl (ys.any λy=>eqD y x)) else .bad:=rfl
@[simp]theorem cU(x:D)(ys:Ac D):Cn .In x (.tup ys)=if (flD 5 x&&ys.all (flD 5))=Ab then .ok (.bl (ys.any λy=>eqD y x)) else .bad:=rfl
@[simp]theorem jk(x:D)(ys:Ac D):Cn .NotIn x (.lst ys)=if (flD 5 x&&ys.all (flD 5))=Ab then .ok (.bl (!ys.any λy=>eqD y x)) else .bad:=rfl
@[simp]theorem jj(x:D)(ys:Ac D):Cn .NotIn x (.tup ys)=if (flD 5 x&&ys.all (flD 5))=Ab then .ok (.bl (!ys.any λy=>eqD y x)) else .bad:=rfl
@[simp]theorem ZB1:Cn .Is .non .non=.ok (.bl Ab):=rfl
@[simp]theorem ZB3(i):Cn .Is (.int i) .non=.ok (.bl Ad):=rfl
@[simp]theorem ZB0(i):Cn .Is (.tup i) .non=.ok (.bl Ad):=rfl
@[simp]theorem ZB2(i):Cn .Is (.lst i) .non=.ok (.bl Ad):=rfl
@[simp]theorem ZC1(a b):Cn .Is (.bl a) (.bl b)=.ok (.bl (a==b)):=rfl
@[simp]theorem ZBX(a b):Cn .IsNot (.bl a) (.bl b)=.ok (.bl (!(a==b))):=rfl
@[simp]theorem ZzF:Cn .IsNot .non .non=.ok (.bl Ad):=rfl
@[simp]theorem ZzH(i):Cn .IsNot (.int i) .non=.ok (.bl Ab):=rfl
@[simp]theorem ZzE(i):Cn .IsNot (.tup i) .non=.ok (.bl Ab):=rfl
@[simp]theorem ZzG(i):Cn .IsNot (.lst i) .non=.ok (.bl Ab):=rfl
@[simp]theorem ZAB(i j:Ae):eqD (.int i) (.int j)=(i==j):=rfl
@[simp]theorem ZCn(i j:Ak):eqD (.bl i) (.bl j)=(i==j):=rfl
@[simp]theorem ZAy(i j:Aj):eqD (.str i) (.str j)=(i==j):=rfl
@[simp]theorem ZAx(i j:Ac D):eqD (.tup i) (.tup j)=eqDs i j:=rfl
@[simp]theorem ZAA(i j:Ac D):eqD (.lst i) (.lst j)=eqDs i j:=rfl
@[simp]theorem ZAz:eqD .non .non=Ab:=rfl
@[simp]theorem ZqZ(i):eqD .non (.int i)=Ad:=rfl
@[simp]theorem Zq0(i):eqD (.int i) .non=Ad:=rfl
@[simp]theorem ZwV:eqDs [] []=Ab:=rfl
@[simp]theorem P7(x y:D)(xs ys:Ac D):eqDs (x::xs) (y::ys)=(eqD x y&&eqDs xs ys):=rfl
@[simp]theorem Zz5(n)(i:Ae):flD n (.int i)=Ab:=by cases n<;>rfl
@[simp]theorem ZCf(n)(i:Ak):flD n (.bl i)=Ab:=by cases n<;>rfl
@[simp]theorem Zz3(n)(i:Aj):flD n (.str i)=Ab:=by cases n<;>rfl
@[simp]theorem Zz4(n):flD n .non=Ab:=by cases n<;>rfl
@[simp]theorem Zwo(i):flD 5 (.tup i)=i.all (flD 4):=rfl
@[simp]theorem Zwt(i):flD 5 (.lst i)=i.all (flD 4):=rfl
@[simp]theorem Zwp(i):flD 4 (.tup i)=i.all (flD 3):=rfl
@[simp]theorem Zwu(i):flD 4 (.lst i)=i.all (flD 3):=rfl
@[simp]theorem Zwq(i):flD 3 (.tup i)=i.all (flD 2):=rfl
@[simp]theorem Zwv(i):flD 3 (.lst i)=i.all (flD 2):=rfl
@[simp]theorem Zwr(i):flD 2 (.tup i)=i.all (flD 1):=rfl
@[simp]theorem Zww(i):flD 2 (.lst i)=i.all (flD 1):=rfl
@[simp]theorem Zws(i):flD 1 (.tup i)=i.all (flD 0):=rfl
@[simp]theorem Zwx(i):flD 1 (.lst i)=i.all (flD 0):=rfl
@[simp]theorem Zxk(b):B5 (.bl b)=.ok b:=rfl
@[simp]theorem ZvW(i):B5 (.int i)=.ok (i != 0):=rfl
@[simp]theorem ZvV(i):B5 (.lst i)=.ok (!i.isEmpty):=rfl
@[simp]theorem ZvT(i):B5 (.tup i)=.ok (!i.isEmpty):=rfl
@[simp]theorem ZvU:B5 .non=.ok Ad:=rfl
@[simp]theorem Zxl(b):K6 (.bl b)=.ok b:=rfl
@[simp]theorem ZvY(i):K6 (.int i)=.ok (i != 0):=rfl
@[simp]theorem ZvX:K6 .non=.ok Ad:=rfl
@[simp]theorem ZvE:L4 []=.ok Ab:=rfl
@[simp]theorem Zse(x r):L4 (x::r)=(K6 x).bind λb=>(L4 r).bind λc=>.ok (b&&c):=rfl
@[simp]theorem ZvD:Kf []=.ok Ad:=rfl
@[simp]theorem Zsd(x r):Kf (x::r)=(K6 x).bind λb=>(Kf r).bind λc=>.ok (b||c):=rfl
@[simp]theorem ZAK(b)(d):Fo b (.ok d)=.ok d:=by cases b<;>rfl
@[simp]theorem ZwX(b):Fo b .bad=.bad:=by cases b<;>rfl
@[simp]theorem ZwW(x):Fo Ab (.exn x)=.exn x:=rfl
@[simp]theorem Zsa(r):Fo Ad r=noX r:=rfl
@[simp]theorem Zzq(a:α):noX (.ok a)=.ok a:=rfl
@[simp]theorem Zzs:noX (.bad:R α)=.bad:=rfl
@[simp]theorem Zzr(x):noX (.exn x:R α)=.bad:=rfl
@[simp]theorem ZAV(b):D6 (.bl b)=.ok b:=rfl
@[simp]theorem jS(b):Fm (.int b)=.ok b:=rfl
@[simp]theorem Zvx(b):R0 (.lst b)=.ok b:=rfl
@[simp]theorem Zvw(b):C5 (.lst b)=.ok b:=rfl
@[simp]theorem Zvv(b):C5 (.tup b)=.ok b:=rfl
@[simp]theorem ir(xs i):BK (.lst xs) (.int i)=Dg xs i:=rfl
@[simp]theorem iq(xs i):BK (.tup xs) (.int i)=Dg xs i:=rfl
@[simp]theorem ZCY(xs):biD .len [.lst xs]=.ok (.int xs.length):=rfl
@[simp]theorem ZCX(xs):biD .len [.tup xs]=.ok (.int xs.length):=rfl
@[simp]theorem ZDo(i):biD .abs [.int i]=.ok (.int (if i<0 then -i else i)):=rfl
@[simp]theorem ZBQ(i j):biD .max [.int i,.int j]=.ok (.int (if i<j then j else i)):=rfl
@[simp]theorem ZBO(i j):biD .min [.int i,.int j]=.ok (.int (if j<i then j else i)):=rfl
@[simp]theorem ZC3(i):biD .int [.int i]=.ok (.int i):=rfl
@[simp]theorem ZC4(i):biD .int [.bl i]=.ok (.int (b2i i)):=rfl
@[simp]theorem ZBV(i):biD .list [.lst i]=.ok (.lst i):=rfl
@[simp]theorem ZBU(i):biD .list [.tup i]=.ok (.lst i):=rfl
@[simp]theorem Zxj(i):biD .tuple [.lst i]=.ok (.tup i):=rfl
@[simp]theorem Zxi(i):biD .tuple [.tup i]=.ok (.tup i):=rfl
@[simp]theorem ZDn(i):biD .all [.lst i]=(L4 i).bind λb=>.ok (.bl b):=rfl
@[simp]theorem ZDm(i):biD .any [.lst i]=(Kf i).bind λb=>.ok (.bl b):=rfl
@[simp]theorem ZDl(i):biD .any [.tup i]=(Kf i).bind λb=>.ok (.bl b):=rfl
@[simp]theorem ZCP(i):biD .sum [.lst i]=(Iw 0 i).bind λb=>.ok (.int b):=rfl
@[simp]theorem ZCO(i):biD .sum [.tup i]=(Iw 0 i).bind λb=>.ok (.int b):=rfl
@[simp]theorem Zv6(i):biD .sorted [.lst i]=(VH i).bind λb=>.ok (.lst b):=rfl
@[simp]theorem ZCQ(xs k):biD .stp [.lst xs,.int k]=.ok (.lst (Ti k.toNat xs)):=rfl
@[simp]theorem ZCT(xs):biD .rvs [.lst xs]=.ok (.lst xs.reverse):=rfl
@[simp]theorem ZBS(xs):biD .lset [.lst xs]=X9 xs:=rfl
@[simp]theorem ZBk(x y):biD .tmin [x,y]=mmD Ad x y:=rfl
@[simp]theorem ZCB(x y):biD .tlt [x,y]=Te x y:=rfl
@[simp]theorem ZBl(x y):biD .tmax [x,y]=mmD Ab x y:=rfl
@[simp]theorem ZAL(xs x):biD .count [.lst xs,x]=if (flD 5 x&&xs.all (flD 5))=Ab then .ok (.int ((xs.filter λy=>eqD y x).length:Ag)) else .bad:=rfl
@[simp]theorem dN(xs lo hi):slD (.tup xs) lo hi=if (Hj xs.length 0 lo==0&&Hj xs.length xs.length hi==xs.length)=Ab then .bad else .ok (.tup (Mj xs lo hi)):=rfl
@[simp]theorem ZDw(xs lo hi):slD (.lst xs) lo hi=.ok (.lst (Mj xs lo hi)):=rfl
@[simp]theorem ZxU(d):slE .non d=.ok Af:=rfl
@[simp]theorem ZxV(k i):slE (.int k) (.int i)=.ok (Aa i):=rfl
@[simp]theorem ZxT(k i):slE (.var k) (.int i)=.ok (Aa i):=rfl
@[simp]theorem ZxW(op a b i):slE (.bin op a b) (.int i)=.ok (Aa i):=rfl
@[simp]theorem ZBs(op a i):slE (.un op a) (.int i)=.ok (Aa i):=rfl
@[simp]theorem ZBt(b as i):slE (.bi b as) (.int i)=.ok (Aa i):=rfl
@[simp]theorem ZzK(up ks):EV up ks .non=if ks.any Ef=Ab then .bad else .ok (.bl (ks.any λk=>kiD up k .non)):=rfl
@[simp]theorem ZBY(up ks b):EV up ks (.bl b)=if ks.any Ef=Ab then .bad else .ok (.bl (ks.any λk=>kiD up k (.bl b))):=rfl
@[simp]theorem ZzM(up ks b):EV up ks (.int b)=if ks.any Ef=Ab then .bad else .ok (.bl (ks.any λk=>kiD up k (.int b))):=rfl
@[simp]theorem ZzJ(up ks b):EV up ks (.str b)=if ks.any Ef=Ab then .bad else .ok (.bl (ks.any λk=>kiD up k (.str b))):=rfl
@[simp]theorem ZzI(up ks b):EV up ks (.tup b)=if ks.any Ef=Ab then .bad else .ok (.bl (ks.any λk=>kiD up k (.tup b))):=rfl
@[simp]theorem ZzL(up ks b):EV up ks (.lst b)=if ks.any Ef=Ab then .bad else .ok (.bl (ks.any λk=>kiD up k (.lst b))):=rfl
@[simp]theorem ZzN(up ks c f):EV up ks (.exc c f)=if ks.all Ef=Ab then .ok (.bl (ks.any λk=>kiD up k (.exc c f))) else .bad:=rfl
@[simp]theorem Zw1(c):Ef (.cls c)=Ab:=rfl
@[simp]theorem Zu4:Ef .verr=Ab:=rfl
@[simp]theorem Zw0:Ef .int=Ad:=rfl
@[simp]theorem Zu6:Ef .bool=Ad:=rfl
@[simp]theorem ZwZ:Ef .str=Ad:=rfl
@[simp]theorem Zu5:Ef .list=Ad:=rfl
@[simp]theorem Zsc:Ef .tuple=Ad:=rfl
@[simp]theorem Zr5(up i):kiD up .int (.int i)=Ab:=rfl
@[simp]theorem Zr4(up):kiD up .int .non=Ad:=rfl
@[simp]theorem Zqx(up i):kiD up .bool (.int i)=Ad:=rfl
@[simp]theorem Zr3(up i):kiD up .int (.tup i)=Ad:=rfl
@[simp]theorem Zr7(up i):kiD up .bool (.bl i)=Ab:=rfl
@[simp]theorem Zqw(up):kiD up .bool .non=Ad:=rfl
@[simp]theorem Zqv(up i):kiD up .list (.lst i)=Ab:=rfl
@[simp]theorem ZnS(up i):kiD up .tuple (.tup i)=Ab:=rfl
@[simp]theorem ZnT(up):kiD up .tuple .non=Ad:=rfl
@[simp]theorem Zr6(up c k f):kiD up (.cls c) (.exc k f)=(up k).contains c:=rfl
@[simp]theorem Zqu(up k f):kiD up .verr (.exc k f)=Ab:=rfl
theorem Qu{xs:Ac D}{i:Ae}{d:D}(h0:0<=i)(h:xs[i.toNat]?=Aa d):Dg xs i=.ok d:=by
 unfold Dg plD;obtain⟨h1,_⟩:=Bl.mp h;rw[Az h0,Az (by omega)]
 dsimp only;rw[h]
section
variable(J:Gam)(Y:Rho)
@[simp]theorem Zwy:evSs J Y .nil=.next Y:=rfl
noncomputable def Gh(J:Gam)(ss:Ss)(o:O):O:=o.seq λY'=>evSs J Y' ss
@[simp]theorem ZuQ(s ss):evSs J Y (.cons s ss)=Gh J ss (evS J Y s):=rfl
@[simp]theorem Zz0(ss):Gh J ss (.next Y)=evSs J Y ss:=rfl
@[simp]theorem ZB8(ss d b):Gh J ss (.ret d b)=.ret d b:=rfl
@[simp]theorem ZCc(ss):Gh J ss (.brk Y)=.brk Y:=rfl
@[simp]theorem Zz1(ss):Gh J ss (.cont Y)=.cont Y:=rfl
@[simp]theorem ZCb(ss x):Gh J ss (.exn x Y)=.exn x Y:=rfl
@[simp]theorem ZCd(ss):Gh J ss .bad=.bad:=rfl
@[simp]theorem ZCa(ss)(c:Prop)[GF c](a b:O):Gh J ss (if c then a else b)=if c then Gh J ss a else Gh J ss b:=by split<;>rfl
@[simp]theorem ZB9(o:O):Gh J .nil o=o:=by cases o<;>rfl
noncomputable def Cd(J:Gam)(t:Ag)(body:Ss):D->Rho->O:=λx Y'=>evSs J (Y'.set t (Aa (x,Ad))) body
noncomputable def whC(J:Gam)(c:E):Rho->R Ak:=λY'=>(top Y' c (evE J Y' c)).bind B5
noncomputable def whB(J:Gam)(body:Ss):Rho->O:=λY'=>evSs J Y' body
noncomputable def Tk(J:Gam)(t:Ag)(body:Ss)(Y:Rho)(r:R (Ac D)):O:=O.of Y r λxs=>CM (Cd J t body) xs Y
@[simp]theorem Zz2(t body xs):Tk J t body Y (.ok xs)=CM (Cd J t body) xs Y:=rfl
@[simp]theorem ZwC:evS J Y .pass=.next Y:=rfl
@[simp]theorem ZAc(i e):evS J Y (.asg i Ad e)=O.of Y (evE J Y e) λd=>.next (Y.set i (Aa (d,Ad))):=rfl
@[simp]theorem ZwF(e):evS J Y (.expr e)=O.of Y (evE J Y e) λ_=>.next Y:=rfl
@[simp]theorem rX(e):evS J Y (.ret e)=O.of Y (top Y e (evE J Y e)) λd=>.ret d (C2 J e||(match e with | .var i=>(match Y[i]? with|some (Aa (_,o))=>o|_=>Ad)|_=>Ad)):=rfl
@[simp]theorem ZwA:evS J Y .retN=.ret .non Ad:=rfl
@[simp]theorem Zz8(c a b):evS J Y (.ife c a b)=O.of Y ((top Y c (evE J Y c)).bind B5) λk=>if k=Ab then evSs J Y a else evSs J Y b:=rfl
@[simp]theorem ZwD(t it body):evS J Y (.fors t it body)=Tk J t body Y (Ja J Y it):=rfl
noncomputable def IW(J:Gam)(ts:Ac Ag)(body:Ss):D->Rho->O:=λx Y'=>O.of Y' (EH ts x Y') λY''=>evSs J Y'' body
noncomputable def X3(J:Gam)(ts:Ac Ag)(body:Ss)(Y:Rho)(r:R (Ac D)):O:=O.of Y r λxs=>CM (IW J ts body) xs Y
@[simp]theorem Zwn(t body xs):X3 J t body Y (.ok xs)=CM (IW J t body) xs Y:=rfl
@[simp]theorem ZwE(t it body):evS J Y (.forT t it body)=X3 J t body Y (Ja J Y it):=rfl
@[simp]theorem ZwH(ts e):evS J Y (.asgT ts e)=O.of Y (evE J Y e) λd=>O.of Y (JA ts d Y) λY'=>.next Y':=rfl
theorem jY(i e):evS J Y (.asg i Ab e)=O.of Y (evE J Y e) λd=>if C2 J e=Ab then (match d with
      |.lst xs=>.next (Y.set i (Aa (.lst xs,Ab)))
      |.dic xs=>.next (Y.set i (Aa (.dic xs,Ab)))
      | _=>.bad) else .bad:=rfl
noncomputable def setF(Y:Rho)(i:Ag):D->O
 |.lst xs=>.next (Y.set i (Aa (.lst xs,Ab)))
 |.dic xs=>.next (Y.set i (Aa (.dic xs,Ab)))
 |_=>.bad
@[simp]theorem ZBB(i xs):setF Y i (.lst xs)=.next (Y.set i (Aa (.lst xs,Ab))):=rfl
@[simp]theorem ZBC(i xs):setF Y i (.dic xs)=.next (Y.set i (Aa (.dic xs,Ab))):=rfl
@[simp]theorem iJ(i e):evS J Y (.asg i Ab e)=O.of Y (evE J Y e) λd=>if C2 J e=Ab then setF Y i d else .bad:=by
 rw[jY]
 congr 1
@[simp]theorem rY(i e):evS J Y (.app i e)=O.of Y (Dm Y i) λxs=>O.of Y (evE J Y e) λd=>if DC (xs.length+1)=Ab then .next (Y.set i (Aa (.lst (xs++[d]),Ab))) else .bad:=rfl
@[simp]theorem Zz9(i e):evS J Y (.ext i e)=O.of Y (Dm Y i) λxs=>O.of Y (evE J Y e) λd=>O.of Y (R0 d) λys=>if DC (xs.length+ys.length)=Ab then .next (Y.set i (Aa (.lst (xs++ys),Ab))) else .bad:=rfl
@[simp]theorem Zz7(i):evS J Y (.rev i)=O.of Y (Dm Y i) λxs=>.next (Y.set i (Aa (.lst xs.reverse,Ab))):=rfl
@[simp]theorem ZAa(i):evS J Y (.clr i)=O.of Y (Dm Y i) λ_=>.next (Y.set i (Aa (.lst [],Ab))):=rfl
theorem MK(i k e):evS J Y (.put i k e)=O.of Y (evE J Y e) λd=>O.of Y (Dm Y i) λxs=>O.of Y ((top Y k (evE J Y k)).bind Fm) λj=>match plD xs.length j with
      |some n=>.next (Y.set i (Aa (.lst (xs.set n d),Ab)))
      |none=>.bad:=rfl
@[simp]theorem jX(body c x h):evS J Y (.tryx body c x h)=match evSs J Y body with
      | .exn y Y'=>if (J.up y.c).contains c=Ab then (match evSs J (Y'.set x (Aa (.exc y.c y.fs,Ad))) h with
          |.next Y''=>.next (Y''.set x Af)
          |.ret d f=>.ret d f
          | _=>.bad) else .bad
      |o=>o:=rfl
@[simp]theorem Zwz(body c x h c' h' els):evS J Y (.try2 body c x h c' h' els)=match evSs J Y body with
      |.exn y Y'=>if (J.up y.c).contains c=Ab then hdO x y Y' (λr=>evSs J r h) else if (J.up y.c).contains c'=Ab then hdO x y Y' (λr=>evSs J r h') else .bad
      |.next Y'=>evSs J Y' els
      |o=>o:=rfl
@[simp]theorem Zz6(c body):evS J Y (.whl c body)=Si (whC J c) (whB J body) XV Y:=rfl
@[simp]theorem ZwB(c as):evS J Y (.rais c as)=O.of Y (noX (evA J Y as)) λxs=>O.of Y (J.xn c xs) λx=>.exn x Y:=rfl
@[simp]theorem ZAb:evS J Y .brk=.brk Y:=rfl
@[simp]theorem ZwG:evS J Y .cont=.cont Y:=rfl
end
end Ov
namespace Ov
open PySem
theorem Vp{body:D->Rho->O}(P:Rho->Prop):∀(xs:Ac D)(Y:Rho),P Y->(∀ x∈xs,∀ Y,P Y->∃ Y',body x Y=.next Y'/\P Y')->∃ Y',CM body xs Y=.next Y'/\P Y'
 |[],Y,h,_=>⟨Y,rfl,h⟩
 |x::xs,Y,h,k=>by
  obtain⟨Y1,e1,h1⟩:=k x AX Y h;obtain⟨Y2,e2,h2⟩:=Vp P xs Y1 h1 λy hy=>k y (AN _ hy)
  exact⟨Y2,by show (body x Y).turn _=_;rw[e1];exact e2,h2⟩
theorem PN{body:D->Rho->O}(P:Ag->Rho->Prop):∀(xs:Ac D)(n:Ag)(Y:Rho),P n Y->(∀ i x,xs[i]?=Aa x->∀ Y,P (n+i) Y->∃ Y',body x Y=.next Y'/\P (n+i+1) Y')->∃ Y',CM body xs Y=.next Y'/\P (n+xs.length) Y'
 |[],n,Y,h,_=>⟨Y,rfl,h⟩
 |x::xs,n,Y,h,k=>by
  obtain⟨Y1,e1,h1⟩:=k 0 x rfl Y h;obtain⟨Y2,e2,h2⟩:=PN P xs (n+1) Y1 h1 λi y hy Y hρ=>by
   have:=k (i+1) y (by simpa using hy) Y (by rw[show n+(i+1)=n+1+i by omega];exact hρ)
   rw[show n+(i+1)=n+1+i by omega]at this
   exact this
  exact⟨Y2,by show (body x Y).turn _=_;rw[e1];exact e2,by rw[show n+(x::xs).length=n+1+xs.length by simp;omega];exact h2⟩
theorem kG(h:x∈Fc lo n):∃ k:Ag,k<n/\x=.int (lo+(k:Ae)):=by
 obtain⟨k,hk,e⟩:=Dt.mp h;exact⟨k,DE.mp hk,e.symm⟩
theorem Mw(lo:Ae)(n:Ag):(Fc lo n).length=n:=by simp[Fc]
theorem Qt{i:Ag}(h:(Fc lo n)[i]?=Aa x):i<n/\x=.int (lo+(i:Ae)):=by
 have hl:=(Bl.mp h).1;rw[Mw]at hl;unfold Fc at h;rw[DP,List.getElem?_range hl]at h;cases h;exact⟨hl,rfl⟩
noncomputable def Ss.take:Ag->Ss->Ss
 |0,_=>.nil
 |_,.nil=>.nil
 |n+1,.cons s ss=>.cons s (ss.take n)
noncomputable def Ss.drop:Ag->Ss->Ss
 |0,ss=>ss
 |_,.nil=>.nil
 |n+1,.cons _ ss=>ss.drop n
theorem Vt(J:Gam):∀(n:Ag)(ss:Ss)(Y:Rho),evSs J Y ss=Gh J (ss.drop n) (evSs J Y (ss.take n))
 |0,_,_=>rfl
 |_+1,.nil,_=>rfl
 |n+1,.cons s ss,Y=>by
  show (evS J Y s).seq (λY'=>evSs J Y' ss)=Gh J (ss.drop n) ((evS J Y s).seq λY'=>evSs J Y' (ss.take n))
  cases evS J Y s with
  |next Y'=>exact Vt J n ss Y'
  |_=>rfl
end Ov
end
section
namespace Ov
noncomputable def xfD:Ag->D->Ak
 |0,.int i=>decide (0<=i)&&decide (i<100)
 |n+1,.tup ds=>Dr ds.length 8&&ds.all (xfD n)
 |_,_=>Ad
noncomputable def mkX(c:Ag)(f:PySem.Str):Ac D->R Ex
 |[d]=>if (xfD 1 d||xfD 2 d)=Ab then .ok ⟨c,[(f,d)]⟩ else .bad
 |_=>.bad
end Ov
end
section
namespace OvC
open PySem Ov PyProof.Rows
variable{j:Ae}
noncomputable abbrev scr(ns:Ac Ae):D:=.lst (ns.map .int)
noncomputable abbrev sh(d:D):Sl:=Aa (d,Ad)
noncomputable abbrev si(i:Ae):Sl:=Aa (.int i,Ad)
theorem four{P:Ag->Prop}(h0:P 0)(h1:P 1)(h2:P 2)(h3:P 3):P (j%4).toNat:=by
 have:(j%4).toNat=0\/(j%4).toNat=1\/(j%4).toNat=2\/(j%4).toNat=3:=by omega
 rcases this with e|e|e|e<;>rw[e]<;>assumption
def P4(p:Ae):Prop:=p=3\/p=5\/p=7\/p=11
theorem P4.pos{p}(h:P4 p):0<p:=by rcases h with rfl|rfl|rfl|rfl<;>decide
theorem P4.lo{p}(h:P4 p):3<=p:=by rcases h with rfl|rfl|rfl|rfl<;>decide
theorem P4.hi{p}(h:P4 p):p<=11:=by rcases h with rfl|rfl|rfl|rfl<;>decide
theorem G0{i:Ae}(h0:-18446744073709551616<i)(h1:i<18446744073709551616):D0 i j=Ab:=by simp[D0];left;exact⟨h0,h1⟩
theorem QK{i:Ae}(h0:-18446744073709551616<j)(h1:j<18446744073709551616):D0 i j=Ab:=by simp[D0];right;exact⟨h0,h1⟩
noncomputable def Ro:Df:=⟨2,Ad,(.cons (.ret (.bin .Mod (.var 1) (.var 0))) .nil)⟩
def Ke(J:Gam):Prop:=∀ p n:Ae,0<p->J.F 1 [.int p,.int n]=.ok (.int (n%p))
theorem xN(J:Gam)(p n:Ae)(h:0<p):Ro.run J [.int p,.int n]=.ok (.int (n%p)):=by simp[Ro,Df.run,Br,h]
end OvC
end
namespace Ov
open PySem PySem.Spec PyProof.Rows L2
variable{A B:Al->Prop}{H H' H1 H0:Hp}{a b l q:Al}{xs:Ac V}{v:V}{d:D}{Rp Rq:Hp->V->D->Prop}{r:R D}{Q:VK}{X:Cx}{e c tg iter elt:An}{Y:Rho}{i n j k t':Ag}{x:Ex}{Z:L2.St}{g:D->D->R D}{op:DM}{K:Fg}{pI:Pn}{s:Ar}{items2 its ys us items:A9 Ai}{h h' h2:AB}{u y f0:Ai}{its2:Ac Ai}{es ifs:Ac An}{fs fi:Rho->R (Ac D)}{Q':Ao Ae->Hp->Prop}{p pos' p2 pos pos2 tpos:AL}{T:Dy}{f fc:Rho->R Ak}{α:Type}{Fz:Al->HO->Prop}{D':Ends}{as:D->Rho->R Rho}{up:Ag->Ac Ag}{o o1:C4}{scope:Cv}{env:CI}{cl:Ac (Aj×Al)}{N':Ac Aj}{ts:Ac Ag}{fp:Ac Al}{tt:TT}{te:TE}{J_:It}{wi:TI}{prog P:AS}{w:AF}{P1 P2:Ag->Ai->Prop}{S1 S2:Ag->AB->Prop}{t f1:Ak}{ta:TA}{ps:Ac (Al×Ac V)}
abbrev ClA:=Ag->Ao Al
variable{CL:ClA}
def KL(K:Fg)(a:Al)(xs:Ac V):Prop:=∃(o:C4)(its:A9 Ai)(n:Ag),K.lookup a=Aa o/\o.cls=.type "list"/\o.dict=Af/\o.data=.seq its n/\its.size<=sizeLine/\Bq xs its.toList
def KT(K:Fg)(a:Al)(xs:Ac V):Prop:=∃(o:C4)(its:A9 Ai)(n:Ag),K.lookup a=Aa o/\o.cls=.type "tuple"/\o.data=.seq its n/\its.size<=sizeLine/\Bq xs its.toList
section
variable(K:Fg)(CL:ClA)(H:Hp)(A:Al->Prop)
mutual
def Rep:V->D->Prop
 |v,.non=>v=.non
 |v,.bl b=>v=.bl b
 |v,.int i=>v=.int i
 |v,.str x=>v=.str x
 |v,.tup ds=>∃ a xs,v=.ref a/\(¬ A a\/KT K a xs)/\SqT K H a xs/\Reps xs ds
 |v,.lst ds=>∃ a xs,v=.ref a/\(¬ A a\/KL K a xs)/\SqL K H a xs/\Reps xs ds
 |v,.obj c fs=>∃ a C dx vs,v=.ref a/\¬ A a/\CL c=Aa C/\H a=Aa (.ins C dx vs)/\Repf vs fs
 |_,.dic _=>A3
 |v,.exc c fs=>∃ a C φ,v=.ref a/\¬ A a/\CL c=Aa C/\H a=Aa (.ext φ)/\(∀ h,φ h->∃ o,h.get? a=Aa o/\o.cls=.ref C)/\(fs=[]\/∃ dx vs,¬ A dx/\H dx=Aa (.xd vs)/\Repf vs fs/\∀ h,φ h->∃ o,h.get? a=Aa o/\o.dict=Aa dx/\∃ us,o.data=.fields us)
def Reps:Ac V->Ac D->Prop
 |[],[]=>Ic
 |v::vs,d::ds=>Rep v d/\Reps vs ds
 |_,_=>A3
def Repf:Ac (Aj×V)->Ac (Aj×D)->Prop
 |[],[]=>Ic
 |v::vs,d::ds=>Repp v d/\Repf vs ds
 |_,_=>A3
def Repp:Aj×V->Aj×D->Prop
 |v,(n,d)=>v.1=n/\Rep v.2 d
end
def Dp(v:V)(d:D):Prop:=Rep K CL H A v d\/∃ a xs ds,v=.ref a/\d=.lst ds/\H a=Aa (.lst xs)/\Reps K CL H A xs ds
end
def Kp(A:Al->Prop)(H H':Hp):Prop:=∀ b o,H b=Aa o->¬ A b->H' b=Aa o
def AOk(H:Hp)(A:Al->Prop):Prop:=∀ a,A a->∃ xs,H a=Aa (.lst xs)
theorem Kp.of(h:AJ H H'):Kp A H H':=λb o e _=>h b o e
theorem AOk.same(h:AOk H A)(s:AJ H H'):AOk H' A:=λa ha=>let ⟨xs,e⟩:=h a ha;⟨xs,s _ _ e⟩
theorem AOk.new{p:Al}(h:AOk H A)(e:H p=Af):¬ A p:=λha=>by
 obtain⟨xs,q⟩:=h p ha;rw[e]at q;cases q
section
variable{K:Fg}{CL:ClA}{H H':Hp}{A B:Al->Prop}
theorem XN{u:HO}(k:Kp A H H')(na:¬ A a)(h:Rd H a u):Rd H' a u:=by
 rcases h with h|⟨o,h⟩
 .exact .inl (k _ _ h na)
 .exact .inr ⟨o,k _ _ h na⟩
theorem Of(k:Kp A H H')(na:¬ A a\/KL K a xs)(h:SqL K H a xs):SqL K H' a xs:=na.elim (λna=>h.imp (XN k na) id) .inr
theorem Oe(k:Kp A H H')(na:¬ A a\/KT K a xs)(h:SqT K H a xs):SqT K H' a xs:=na.elim (λna=>h.imp (XN k na) id) .inr
mutual
theorem Rep.kp(k:Kp A H H'):∀{v:V}(d:D),Rep K CL H A v d->Rep K CL H' A v d
 |_,.non,h=>h
 |_,.bl _,h=>h
 |_,.int _,h=>h
 |_,.str _,h=>h
 |_,.dic _,h=>h.elim
 |_,.tup ds,h=>by
  obtain⟨a,xs,e,na,s,r⟩:=h;exact⟨a,xs,e,na,by first|exact Oe k na s|exact Of k na s,Reps.kp k ds r⟩
 |_,.lst ds,h=>by
  obtain⟨a,xs,e,na,s,r⟩:=h;exact⟨a,xs,e,na,by first|exact Oe k na s|exact Of k na s,Reps.kp k ds r⟩
 |_,.obj c fs,h=>by
  obtain⟨a,C,dx,vs,e,na,c,s,r⟩:=h;exact⟨a,C,dx,vs,e,na,c,k _ _ s na,Repf.kp k fs r⟩
 |_,.exc c fs,h=>by
  obtain⟨a,C,φ,e,na,c,s,p,q⟩:=h;refine⟨a,C,φ,e,na,c,k _ _ s na,p,q.imp id ?_⟩;rintro⟨dx,vs,nx,s2,r,z⟩;exact⟨dx,vs,nx,k _ _ s2 nx,Repf.kp k fs r,z⟩
theorem Reps.kp(k:Kp A H H'):∀{vs:Ac V}(ds:Ac D),Reps K CL H A vs ds->Reps K CL H' A vs ds
 |[],[],h=>h
 |_::_,d::ds,h=>⟨Rep.kp k d h.1,Reps.kp k ds h.2⟩
 |[],_::_,h=>h.elim
 |_::_,[],h=>h.elim
theorem Repf.kp(k:Kp A H H'):∀{vs:Ac (Aj×V)}(ds:Ac (Aj×D)),Repf K CL H A vs ds->Repf K CL H' A vs ds
 |[],[],h=>h
 |_::_,d::ds,h=>⟨Repp.kp k d h.1,Repf.kp k ds h.2⟩
 |[],_::_,h=>h.elim
 |_::_,[],h=>h.elim
theorem Repp.kp(k:Kp A H H'):∀{v:Aj×V}(d:Aj×D),Repp K CL H A v d->Repp K CL H' A v d
 |_,(_,d),h=>⟨h.1,Rep.kp k d h.2⟩
end
mutual
theorem Rep.sub(k:∀ a,B a->A a):∀{v:V}(d:D),Rep K CL H A v d->Rep K CL H B v d
 |_,.non,h=>h
 |_,.bl _,h=>h
 |_,.int _,h=>h
 |_,.str _,h=>h
 |_,.dic _,h=>h.elim
 |_,.tup ds,h=>by
  obtain⟨a,xs,e,na,s,r⟩:=h;exact⟨a,xs,e,na.imp (λna z=>na (k _ z)) id,s,Reps.sub k ds r⟩
 |_,.lst ds,h=>by
  obtain⟨a,xs,e,na,s,r⟩:=h;exact⟨a,xs,e,na.imp (λna z=>na (k _ z)) id,s,Reps.sub k ds r⟩
 |_,.obj c fs,h=>by
  obtain⟨a,C,dx,vs,e,na,c,s,r⟩:=h;exact⟨a,C,dx,vs,e,λz=>na (k _ z),c,s,Repf.sub k fs r⟩
 |_,.exc c fs,h=>by
  obtain⟨a,C,φ,e,na,c,s,p,q⟩:=h;refine⟨a,C,φ,e,λz=>na (k _ z),c,s,p,q.imp id ?_⟩
  rintro⟨dx,vs,nx,s2,r,z⟩;exact⟨dx,vs,λz=>nx (k _ z),s2,Repf.sub k fs r,z⟩
theorem Reps.sub(k:∀ a,B a->A a):∀{vs:Ac V}(ds:Ac D),Reps K CL H A vs ds->Reps K CL H B vs ds
 |[],[],h=>h
 |_::_,d::ds,h=>⟨Rep.sub k d h.1,Reps.sub k ds h.2⟩
 |[],_::_,h=>h.elim
 |_::_,[],h=>h.elim
theorem Repf.sub(k:∀ a,B a->A a):∀{vs:Ac (Aj×V)}(ds:Ac (Aj×D)),Repf K CL H A vs ds->Repf K CL H B vs ds
 |[],[],h=>h
 |_::_,d::ds,h=>⟨Repp.sub k d h.1,Repf.sub k ds h.2⟩
 |[],_::_,h=>h.elim
 |_::_,[],h=>h.elim
theorem Repp.sub(k:∀ a,B a->A a):∀{v:Aj×V}(d:Aj×D),Repp K CL H A v d->Repp K CL H B v d
 |_,(_,d),h=>⟨h.1,Rep.sub k d h.2⟩
end
mutual
theorem Rep.wide(hp:∀ a,B a->A a\/H a=Af):∀{v:V}(d:D),Rep K CL H A v d->Rep K CL H B v d
 |_,.non,h=>h
 |_,.bl _,h=>h
 |_,.int _,h=>h
 |_,.str _,h=>h
 |_,.dic _,h=>h.elim
 |_,.tup ds,h=>by
  obtain⟨a,xs,e,na,s,r⟩:=h;refine⟨a,xs,e,?_,s,Reps.wide hp ds r⟩;rcases s with s|s
  .refine na.imp (λna z=>(hp _ z).elim na λe=>?_) id
   rcases s with s|⟨o,s⟩<;>rw[e]at s<;>cases s
  .exact .inr s
 |_,.lst ds,h=>by
  obtain⟨a,xs,e,na,s,r⟩:=h;refine⟨a,xs,e,?_,s,Reps.wide hp ds r⟩;rcases s with s|s
  .refine na.imp (λna z=>(hp _ z).elim na λe=>?_) id
   rcases s with s|⟨o,s⟩<;>rw[e]at s<;>cases s
  .exact .inr s
 |_,.obj c fs,h=>by
  obtain⟨a,C,dx,vs,e,na,c,s,r⟩:=h;exact⟨a,C,dx,vs,e,(λz=>(hp _ z).elim na λe=>by rw[e]at s;cases s),c,s,Repf.wide hp fs r⟩
 |_,.exc c fs,h=>by
  obtain⟨a,C,φ,e,na,c,s,p,q⟩:=h;refine⟨a,C,φ,e,(λz=>(hp _ z).elim na λe=>by rw[e]at s;cases s),c,s,p,q.imp id ?_⟩
  rintro⟨dx,vs,nx,s2,r,z⟩;exact⟨dx,vs,(λz=>(hp _ z).elim nx λe=>by rw[e]at s2;cases s2),s2,Repf.wide hp fs r,z⟩
theorem Reps.wide(hp:∀ a,B a->A a\/H a=Af):∀{vs:Ac V}(ds:Ac D),Reps K CL H A vs ds->Reps K CL H B vs ds
 |[],[],h=>h
 |_::_,d::ds,h=>⟨Rep.wide hp d h.1,Reps.wide hp ds h.2⟩
 |[],_::_,h=>h.elim
 |_::_,[],h=>h.elim
theorem Repf.wide(hp:∀ a,B a->A a\/H a=Af):∀{vs:Ac (Aj×V)}(ds:Ac (Aj×D)),Repf K CL H A vs ds->Repf K CL H B vs ds
 |[],[],h=>h
 |_::_,d::ds,h=>⟨Repp.wide hp d h.1,Repf.wide hp ds h.2⟩
 |[],_::_,h=>h.elim
 |_::_,[],h=>h.elim
theorem Repp.wide(hp:∀ a,B a->A a\/H a=Af):∀{v:Aj×V}(d:Aj×D),Repp K CL H A v d->Repp K CL H B v d
 |_,(_,d),h=>⟨h.1,Rep.wide hp d h.2⟩
end
theorem Rep.same(s:AJ H H')(h:Rep K CL H A v d):Rep K CL H' A v d:=Rep.kp (Kp.of s) d h
theorem Reps.same{v:Ac V}{d:Ac D}(s:AJ H H')(h:Reps K CL H A v d):Reps K CL H' A v d:=Reps.kp (Kp.of s) d h
theorem Dp.same{v:V}{d:D}(s:AJ H H')(h:Dp K CL H A v d):Dp K CL H' A v d:=by
 rcases h with h|⟨a,xs,ds,e,e2,q,r⟩
 .exact .inl (h.same s)
 .exact .inr ⟨a,xs,ds,e,e2,s _ _ q,r.same s⟩
theorem Reps.length:∀{vs:Ac V}{ds:Ac D},Reps K CL H A vs ds->vs.length=ds.length
 |[],[],_=>rfl
 |_::_,_::_,h=>congrArg (· + 1) (Reps.length h.2)
 |[],_::_,h=>h.elim
 |_::_,[],h=>h.elim
theorem Reps.append:∀{vs ws:Ac V}{ds es:Ac D},Reps K CL H A vs ds->Reps K CL H A ws es->Reps K CL H A (vs++ws) (ds++es)
 |[],_,[],_,_,h=>h
 |_::_,_,_::_,_,h,g=>⟨h.1,Reps.append h.2 g⟩
 |[],_,_::_,_,h,_=>h.elim
 |_::_,_,[],_,h,_=>h.elim
theorem Reps.get:∀{vs:Ac V}{ds:Ac D}{i:Ag}{d:D},Reps K CL H A vs ds->ds[i]?=Aa d->∃ v,vs[i]?=Aa v/\Rep K CL H A v d
 |[],[],_,_,_,e=>by simp at e
 |v::_,_::_,0,_,h,e=>by simp at e;subst e;exact⟨v,rfl,h.1⟩
 |_::_,_::_,i+1,_,h,e=>by
  obtain⟨v,q,r⟩:=Reps.get (i:=i) h.2 (by simpa using e)
  exact⟨v,by simpa using q,r⟩
 |[],_::_,_,_,h,_=>h.elim
 |_::_,[],_,_,h,_=>h.elim
theorem Reps.take:∀{vs:Ac V}{ds:Ac D}(n:Ag),Reps K CL H A vs ds->Reps K CL H A (vs.take n) (ds.take n)
 |_,_,0,_=>trivial
 |[],[],_+1,_=>trivial
 |_::_,_::_,n+1,h=>⟨h.1,Reps.take n h.2⟩
 |[],_::_,_+1,h=>h.elim
 |_::_,[],_+1,h=>h.elim
theorem Reps.drop:∀{vs:Ac V}{ds:Ac D}(n:Ag),Reps K CL H A vs ds->Reps K CL H A (vs.drop n) (ds.drop n)
 |_,_,0,h=>h
 |[],[],_+1,_=>trivial
 |_::_,_::_,n+1,h=>Reps.drop n h.2
 |[],_::_,_+1,h=>h.elim
 |_::_,[],_+1,h=>h.elim
theorem Reps.set{x:V}{e:D}(r:Rep K CL H A x e):∀{vs:Ac V}{ds:Ac D}(n:Ag),Reps K CL H A vs ds->Reps K CL H A (vs.set n x) (ds.set n e)
 |[],[],_,_=>trivial
 |_::_,_::_,0,h=>⟨r,h.2⟩
 |_::_,_::_,n+1,h=>⟨h.1,Reps.set r n h.2⟩
 |[],_::_,_,h=>h.elim
 |_::_,[],_,h=>h.elim
end
structure Good (K:Fg) (CL:ClA) (A:Al->Prop) (Y:Rho) (Z:L2.St) (H:Hp):Prop where
 sh:∀(i:Ag)(d:D),Y[i]?=Aa (Aa (d,Ad))->∃ v,Z[i]?=Aa (Aa v)/\Rep K CL H A v d
 ow:∀(i:Ag)(d:D),Y[i]?=Aa (Aa (d,Ab))->∃ a xs ds,Z[i]?=Aa (Aa (.ref a))/\d=.lst ds/\A a/\H a=Aa (.lst xs)/\Reps K CL H A xs ds
 len:Y.length=Z.length
theorem Good.same{K:Fg}{CL:ClA}{A:Al->Prop}{Y:Rho}{Z:L2.St}{H H':Hp}(g:Good K CL A Y Z H)(s:AJ H H'):Good K CL A Y Z H':=
 ⟨λi d e=>let ⟨v,q,r⟩:=g.sh i d e;⟨v,q,r.same s⟩,λi d e=>let ⟨a,xs,ds,q,z,na,h,r⟩:=g.ow i d e;⟨a,xs,ds,q,z,na,s _ _ h,r.same s⟩,g.len⟩
abbrev XW:=Ex->Hp->Prop
variable{W:XW}
def Bv(Rp:Hp->V->D->Prop)(W:XW)(H:Hp)(r:R D)(Q:VK):Prop:=match r with
  |.ok d=>∀ v H',AJ H H'->Rp H' v d->Q v H'
  |.exn x=>∀ H',AJ H H'->W x H'
  |.bad=>A3
def Ir(Rp:Hp->Ac V->Ac D->Prop)(W:XW)(H:Hp)(r:R (Ac D))(Q:Ac V->Hp->Prop):Prop:=match r with
  |.ok d=>∀ v H',AJ H H'->Rp H' v d->Q v H'
  |.exn x=>∀ H',AJ H H'->W x H'
  |.bad=>A3
def DB(W:XW)(H:Hp)(r:R Ak)(Q:Ak->Hp->Prop):Prop:=match r with
  |.ok b=>∀ H',AJ H H'->Q b H'
  |.exn x=>∀ H',AJ H H'->W x H'
  |.bad=>A3
theorem Bv.same(s:AJ H H')(h:Bv Rp W H r Q):Bv Rp W H' r Q:=by
 cases r with
 |ok d=>exact λv H2 s2 q=>h v H2 (s.trans s2) q
 |exn x=>exact λH2 s2=>h H2 (s.trans s2)
 |bad=>exact h
theorem DB.same{r:R Ak}{Q:Ak->Hp->Prop}(s:AJ H H')(h:DB W H r Q):DB W H' r Q:=by
 cases r with
 |ok d=>exact λH2 s2=>h H2 (s.trans s2)
 |exn x=>exact λH2 s2=>h H2 (s.trans s2)
 |bad=>exact h
theorem Bv.bind{f:D->R D}{Q':VK}(h:Bv Rq W H (r.bind f) Q)(k:∀ d v H',r=.ok d->AJ H H'->Rp H' v d->Bv Rq W H' (f d) Q->Q' v H'):Bv Rp W H r Q':=by
 cases r with
 |ok d=>exact λv H2 s2 q=>k d v H2 rfl s2 q (Bv.same s2 h)
 |exn x=>exact h
 |bad=>exact h
section
variable(X:Cx)(CL:ClA)(W:XW)
def SE(e:An)(f:Rho->R D):Prop:=∀ A,PE X e (λZ H Q=>AOk H A/\∃ Y,Good X.K CL A Y Z H/\Bv (λH=>Rep X.K CL H A) W H (f Y) Q)
def ST(e:An)(f:Rho->R D):Prop:=∀ A,PE X e (λZ H Q=>AOk H A/\∃ Y,Good X.K CL A Y Z H/\Bv (λH=>Dp X.K CL H A) W H (f Y) Q)
def SB(e:An)(f:Rho->R Ak):Prop:=∀ A,PT X e (λZ H Q=>AOk H A/\∃ Y,Good X.K CL A Y Z H/\DB W H (f Y) Q)
def SA(es:Ac An)(f:Rho->R (Ac D)):Prop:=∀ A,PA X es (λZ H Q=>AOk H A/\∃ Y,Good X.K CL A Y Z H/\Ir (λH=>Reps X.K CL H A) W H (f Y) Q)
end
theorem PE.weak{t t':TE}(h:PE X e t)(k:∀ Z H Q,t' Z H Q->t Z H Q):PE X e t':=λpI s Z H Q I q=>h pI s Z H Q I (k _ _ _ q)
theorem PT.weak{t t':TT}(h:PT X e t)(k:∀ Z H Q,t' Z H Q->t Z H Q):PT X e t':=λpI s Z H Q I q=>h pI s Z H Q I (k _ _ _ q)
theorem PA.weak{e:Ac An}{t t':TA}(h:PA X e t)(k:∀ Z H Q,t' Z H Q->t Z H Q):PA X e t':=λpos pI s Z H Q I q=>h pos pI s Z H Q I (k _ _ _ q)
noncomputable def OpD(X:Cx)(CL:ClA)(W:XW)(f:Ai->Ai->Hc Ai)(g:D->D->R D):Prop:=
 ∀ A,OpR X f (λx y H Q=>AOk H A/\∃ dx dy,Dp X.K CL H A x dx/\Dp X.K CL H A y dy/\Bv (λH=>Rep X.K CL H A) W H (g dx dy) Q)
section
variable{X:Cx}{CL:ClA}{W:XW}{a b c:An}{fa fb fc:Rho->R D}{pos:AL}
theorem SE.st(h:SE X CL W a fa):ST X CL W a fa:=λA=>PE.weak (h A) λZ H Q ⟨hA,Y,g,p⟩=>⟨hA,Y,g,by
 cases e:fa Y with
 |ok d=>rw[e]at p;exact λv H' s r=>p v H' s (.inl r)
 |exn x=>rw[e]at p;exact p
 | bad=>rw[e]at p;exact p⟩
theorem SE.congr{f g:Rho->R D}(h:SE X CL W a f)(e:∀ Y,g Y=f Y):SE X CL W a g:=λA=>PE.weak (h A) λZ H Q ⟨hA,Y,q,p⟩=>⟨hA,Y,q,by rw[<-e];exact p⟩
theorem Oq(h:PE X a (tC v))(r:∀ H A,AOk H A->Rep X.K CL H A v d):SE X CL W a (λ_=>.ok d):=λA=>PE.weak h λZ H Q ⟨hA,Y,g,p⟩=>p v H (AJ.refl H) (r H A hA)
theorem uL{i j}:SE X CL W (.Constant (.int i) j pos) (λ_=>.ok (.int i)):=Oq wX λ_ _ _=>rfl
theorem Xr{b j}:SE X CL W (.Constant (.bool b) j pos) (λ_=>.ok (.bl b)):=Oq j9 λ_ _ _=>rfl
theorem vJ{j}:SE X CL W (.Constant .none j pos) (λ_=>.ok .non):=Oq wV λ_ _ _=>rfl
theorem WL{x j}:SE X CL W (.Constant (.str x) j pos) (λ_=>.ok (.str x)):=Oq WU λ_ _ _=>rfl
theorem mS(h:Gf Y i=.ok d):Y[i]?=Aa (Aa (d,Ad)):=by
 unfold Gf at h;split at h
 .rename_i e;cases h;exact e
 .cases h
theorem VR(h:En Y i=.ok d):∃ o,Y[i]?=Aa (Aa (d,o)):=by
 unfold En at h;split at h
 .rename_i e;cases h;exact⟨_,e⟩
 .cases h
theorem jL(h:Gf Y i=.exn x):A3:=by
 unfold Gf at h;split at h<;>cases h
theorem UV(h:En Y i=.exn x):A3:=by
 unfold En at h;split at h<;>cases h
theorem WJ(h:PE X a (G4 i)):SE X CL W a (λY=>Gf Y i):=λA=>PE.weak h λZ H Q ⟨hA,Y,g,p⟩=>by
 dsimp only at p;cases e:Gf Y i with
 |ok d=>
  rw[e]at p;obtain⟨v,q,r⟩:=g.sh i d (mS e);exact⟨v,q,p v H (AJ.refl H) r⟩
 |exn x=>exact(jL e).elim
 |bad=>rw[e]at p;exact p.elim
theorem KY(h:PE X a (G4 i)):ST X CL W a (λY=>En Y i):=λA=>PE.weak h λZ H Q ⟨hA,Y,g,p⟩=>by
 dsimp only at p;cases e:En Y i with
 |ok d=>
  rw[e]at p;obtain⟨o,e⟩:=VR e;cases o with
  |false=>
   obtain⟨v,q,r⟩:=g.sh i d e;exact⟨v,q,p v H (AJ.refl H) (.inl r)⟩
  |true=>
   obtain⟨x,xs,ds,q,rfl,ha,hh,r⟩:=g.ow i d e;exact⟨_,q,p _ H (AJ.refl H) (.inr ⟨x,xs,ds,rfl,rfl,hh,r⟩)⟩
 |exn x=>exact(UV e).elim
 |bad=>rw[e]at p;exact p.elim
theorem op2(h:AOk H A/\∃ Y,Good X.K CL A Y Z H/\Bv Rq W H ((fa Y).bind λx=>(fb Y).bind λy=>g x y) Q):AOk H A/\∃ Y,Good X.K CL A Y Z H/\Bv (λH=>Dp X.K CL H A) W H (fa Y) (λx H1=>AOk H1 A/\∃ Y,Good X.K CL A Y Z H1/\Bv (λH=>Dp X.K CL H A) W H1 (fb Y) (λy H2=>AOk H2 A/\∃ dx dy,Dp X.K CL H2 A x dx/\Dp X.K CL H2 A y dy/\Bv Rq W H2 (g dx dy) Q)):=by
 obtain⟨hA,Y,gd,p⟩:=h;refine⟨hA,Y,gd,Bv.bind p λdx x H1 _ s1 r1 p1=>⟨hA.same s1,Y,gd.same s1,Bv.bind p1 λdy y H2 _ s2 r2 p2=>⟨(hA.same s1).same s2,dx,dy,r1.same s2,r2,p2⟩⟩⟩
theorem Q4{op:FT}(ho:OpD X CL W (CA op) g)(ha:ST X CL W a fa)(hb:ST X CL W b fb):SE X CL W (.BinOp a op b pos) (λY=>(fa Y).bind λx=>(fb Y).bind λy=>g x y):=
 λA=>PE.weak (XJ (ho A) (ha A) (hb A)) λZ H Q h=>op2 h
theorem uO(ho:OpD X CL W (Dq op) g)(ha:ST X CL W a fa)(hb:ST X CL W b fb)(hm:Hz op b=Ad):SE X CL W (.Compare a [op] [b] pos) (λY=>(fa Y).bind λx=>(fb Y).bind λy=>g x y):=
 λA=>PE.weak (pW (ho A) (ha A) (hb A) hm) λZ H Q h=>op2 h
theorem Dp.int_of{i:Ae}(h:Dp K CL H A v (.int i)):v=.int i:=by
 rcases h with h|⟨_,_,_,_,e,_⟩
 .exact h
 .cases e
theorem Dp.str_of{i:Aj}(h:Dp K CL H A v (.str i)):v=.str i:=by
 rcases h with h|⟨_,_,_,_,e,_⟩
 .exact h
 .cases e
theorem Dp.bl_of{i:Ak}(h:Dp K CL H A v (.bl i)):v=.bl i:=by
 rcases h with h|⟨_,_,_,_,e,_⟩
 .exact h
 .cases e
theorem Dp.non_of(h:Dp K CL H A v .non):v=.non:=by
 rcases h with h|⟨_,_,_,_,e,_⟩
 .exact h
 .cases e
theorem Dp.lst_of{ds:Ac D}(h:Dp K CL H A v (.lst ds)):∃ a xs,v=.ref a/\SqL K H a xs/\Reps K CL H A xs ds:=by
 rcases h with ⟨a,xs,e,_,s,r⟩|⟨a,xs,es,rfl,e,s,r⟩
 .exact⟨a,xs,e,s,r⟩
 .cases e;exact⟨a,xs,rfl,SqL.of s,r⟩
theorem Dp.tup_of{ds:Ac D}(h:Dp K CL H A v (.tup ds)):∃ a xs,v=.ref a/\(¬ A a\/KT K a xs)/\SqT K H a xs/\Reps K CL H A xs ds:=by
 rcases h with ⟨a,xs,e,n,s,r⟩|⟨_,_,_,_,e,_⟩
 .exact⟨a,xs,e,n,s,r⟩
 .cases e
theorem sJ{i j:Ae}(h:D0 i j=Ab):OZ i j:=by
 unfold D0 at h;simp only[CB,Am,AO]at h;unfold OZ;omega
theorem Wm{a:Ae}(h:a.natAbs<2 ^ 2000):Zb a<=2 ^ 20:=by
 unfold Zb;split
 .omega
 .rename_i hz;have h0:a.natAbs≠0:=by intro z;exact hz (by rw[Int.natAbs_eq_zero.mp z];rfl)
  have:=(Nat.log2_lt h0).mpr h;omega
theorem sI{i j:Ae}(h:(D0 i j||FH i j)=Ab):Ms i j:=by
 rcases Bool.or_eq_true_iff.mp h with h|h
 .exact(sJ h).ok
 .unfold FH at h;rw[Am,AO,AO]at h;exact .of_bits (Wm h.1) (Wm h.2)
theorem oR:OpR X (CA .Mult) (rI Ms λi j=>.int (i*j)):=opI λ_ _ _ _ _ _ _ hc q=>mul_int q hc
theorem KH(h:DC n=Ab):n<=sizeLine:=by
 unfold DC at h;rw[Dx];have:=E3 h;omega
theorem Wl{p:Al}{ds:Ac D}(hA:AOk H A)(hp:H p=Af)(r:Reps K CL H A xs ds):Rep K CL (upd H p (.lst xs)) A (.ref p) (.lst ds):=
 ⟨p,xs,rfl,.inl (hA.new hp),SqL.of FW,r.same λb o e=>by rw[BR (Gb e hp)];exact e⟩
theorem LI{p:Al}{ds:Ac D}(hA:AOk H A)(hp:H p=Af)(r:Reps K CL H A xs ds):Rep K CL (upd H p (.tup xs)) A (.ref p) (.tup ds):=
 ⟨p,xs,rfl,.inl (hA.new hp),SqT.of FW,r.same λb o e=>by rw[BR (Gb e hp)];exact e⟩
theorem GB{p:Al}(h:H p=Af)(o:HO):AJ H (upd H p o):=λb u q=>by rw[BR (Gb q h)];exact q
def bv(K:Fg):R2:=λx y H Q=>∃ l b xs zs,x=.ref l/\y=.ref b/\SqL K H l xs/\SqL K H b zs/\xs.length+zs.length<=sizeLine/\∀ p,H p=Af->Q (.ref p) (upd H p (.lst (xs++zs)))
end
section
variable{X:Cx}{CL:ClA}{W:XW}
theorem Wg:OpR X (CA .Add) (bv X.K):=by
 intro pI s Z H x y v u Q I rx ry h;obtain⟨l,b,xs,zs,rfl,rfl,hH,hB,hz,q⟩:=h;cases rx;cases ry;obtain⟨its,r,⟨o,n,e,c,dd,dt⟩,z⟩:=I.list hH;obtain⟨its2,r2,⟨o2,n2,e2,c2,dd2,dt2⟩,z2⟩:=I.list hB;have hl:=r.length;have hl2:=r2.length;obtain⟨cls,dd0,data,sl⟩:=o;obtain⟨cls2,dd02,data2,sl2⟩:=o2;simp only at c dd dt c2 dd2 dt2;subst c dd dt c2 dd2 dt2;have ea:its.toArray++its2.toArray=(its++its2).toArray:=by simp
 refine JZ ⟨_,e,rfl⟩ ⟨_,e2,rfl⟩ noFill_list_add seq_list_add PySem.F.slot_list_add PySem.F.entry_list_add (PySem.F.args_list_add_2 _ _) (list_addW l b its.toArray its2.toArray n n2 Af Af sl sl2 (by simp;omega)) ⟨e,e2,?_⟩
 rw[ea];exact⟨.ref _,_,I.lnew (t':=s.toks) (r.append r2) (by rw[DD];omega),rfl,q _ I.fresh⟩
theorem Wf:OpD X CL W (CA .Add) (DJ .Add):=by
 intro A pI s Z H x y v u Q I rx ry ⟨hA,dx,dy,hx,hy,p⟩;cases dx with
 |int i=>
  cases dy with
  |int j=>
   have ex:=hx.int_of;have ey:=hy.int_of
   subst ex ey;exact xF pI s Z H _ _ v u Q I rx ry ⟨i,j,rfl,rfl,p _ H (AJ.refl H) rfl⟩
  |_=>exact p.elim
 |str i=>
  cases dy with
  |str j=>
   have ex:=hx.str_of;have ey:=hy.str_of
   subst ex ey;simp only[Xn]at p;split at p
   .rename_i h;exact fZ pI s Z H _ _ v u Q I rx ry ⟨i,j,rfl,rfl,KH h,p _ H (AJ.refl H) rfl⟩
   .exact p.elim
  |_=>exact p.elim
 |lst ds=>
  cases dy with
  |lst es=>
   obtain⟨a,xs,rfl,s1,r1⟩:=hx.lst_of;obtain⟨b,ys,rfl,s2,r2⟩:=hy.lst_of;simp only[Xo]at p;split at p
   .rename_i h;refine Wg pI s Z H _ _ v u Q I rx ry ⟨a,b,xs,ys,rfl,rfl,s1,s2,by rw[r1.length,r2.length];exact KH h,λq hq=>?_⟩
    exact p _ _ (GB hq _) (Wl hA hq (r1.append r2))
   .exact p.elim
  |_=>exact p.elim
 |tup ds=>
  cases dy with
  |tup es=>
   obtain⟨a,xs,rfl,na1,s1,r1⟩:=hx.tup_of;obtain⟨b,ys,rfl,_,s2,r2⟩:=hy.tup_of;simp only[Xm]at p;split at p
   .rename_i h;simp only[Am]at h;refine sD pI s Z H _ _ v u Q I rx ry ⟨a,b,xs,ys,rfl,rfl,s1,s2,?_,by rw[r1.length,r2.length];exact KH h.2,λhy0=>?_,λ_ q hq=>?_⟩
    .rintro rfl;cases ds with
     |nil=>cases h.1
     |cons _ _=>exact r1.elim
    .subst hy0;cases es with
     |nil=>rw[CT]at p;exact p _ H (AJ.refl H) ⟨a,xs,rfl,na1,s1,r1⟩
     |cons _ _=>exact r2.elim
    .exact p _ _ (GB hq _) (LI hA hq (r1.append r2))
   .exact p.elim
  |_=>exact p.elim
 |_=>exact p.elim
theorem N4{op:FT}{C:Ae->Ae->Prop}{g:Ae->Ae->Ae}(ho:OpR X (CA op) (rI C λi j=>.int (g i j)))(hg:∀ dx dy,(∃ i j,dx=.int i/\dy=.int j/\((C i j/\DJ op dx dy=.ok (.int (g i j)))\/DJ op dx dy=.bad))\/DJ op dx dy=.bad):OpD X CL W (CA op) (DJ op):=by
 intro A pI s Z H x y v u Q I rx ry ⟨hA,dx,dy,hx,hy,p⟩;rcases hg dx dy with ⟨i,j,rfl,rfl,⟨c,e⟩|e⟩|e
 .have ex:=hx.int_of;have ey:=hy.int_of
  subst ex ey;rw[e]at p;exact ho pI s Z H _ _ v u Q I rx ry ⟨i,j,rfl,rfl,c,p _ H (AJ.refl H) rfl⟩
 .rw[e]at p;exact p.elim
 .rw[e]at p;exact p.elim
theorem oK:OpD X CL W (CA .Sub) (DJ .Sub):=by
 intro A pI s Z H x y v u Q I rx ry ⟨hA,dx,dy,hx,hy,p⟩;cases dx with
 |int i=>
  cases dy with
  |int j=>
   have ex:=hx.int_of;have ey:=hy.int_of
   subst ex ey;exact xB pI s Z H _ _ v u Q I rx ry ⟨i,j,rfl,rfl,p _ H (AJ.refl H) rfl⟩
  |_=>exact p.elim
 |_=>exact p.elim
theorem oO:OpD X CL W (CA .Mult) (DJ .Mult):=N4 oR λdx dy=>by
 cases dx with
 |int i=>
  cases dy with
  |int j=>
   refine .inl ⟨i,j,rfl,rfl,?_⟩;rw[yX];split
   .rename_i h;exact .inl ⟨sI h,rfl⟩
   .exact .inr rfl
  |_=>exact .inr rfl
 |_=>exact .inr rfl
theorem lK:OpD X CL W (CA .FloorDiv) (DJ .FloorDiv):=N4 sC λdx dy=>by
 cases dx with
 |int i=>
  cases dy with
  |int j=>
   refine .inl ⟨i,j,rfl,rfl,?_⟩;rw[rV];split
   .rename_i h;exact .inl ⟨h,rfl⟩
   .exact .inr rfl
  |_=>exact .inr rfl
 |_=>exact .inr rfl
theorem oP:OpD X CL W (CA .Mod) (DJ .Mod):=N4 xD λdx dy=>by
 cases dx with
 |int i=>
  cases dy with
  |int j=>
   refine .inl ⟨i,j,rfl,rfl,?_⟩;rw[yY];split
   .rename_i h;exact .inl ⟨h,rfl⟩
   .exact .inr rfl
  |_=>exact .inr rfl
 |_=>exact .inr rfl
theorem oM:OpD X CL W (CA .Pow) (DJ .Pow):=N4 xC λdx dy=>by
 cases dx with
 |int i=>
  cases dy with
  |int j=>
   refine .inl ⟨i,j,rfl,rfl,?_⟩;rw[wN];split
   .rename_i h;exact .inl ⟨⟨h.1.1,h.1.2,by omega⟩,rfl⟩
   .exact .inr rfl
  |_=>exact .inr rfl
 |_=>exact .inr rfl
theorem QG(op:FT):OpD X CL W (CA op) (DJ op):=by
 cases op with
 |Add=>exact Wf
 |Sub=>exact oK
 |Mult=>exact oO
 |FloorDiv=>exact lK
 |Mod=>exact oP
 |Pow=>exact oM
 |_=>
  intro A pI s Z H x y v u Q I rx ry ⟨hA,dx,dy,hx,hy,p⟩;exact p.elim
noncomputable abbrev A0:Al->Prop:=λ_=>A3
theorem Dp.plain(h:Dp K CL H A v d):Rep K CL H A0 v d:=by
 rcases h with h|⟨a,xs,ds,rfl,rfl,e,r⟩
 .exact Rep.sub (λ_ z=>z.elim) d h
 .exact⟨a,xs,rfl,.inl λz=>z.elim,SqL.of e,Reps.sub (λ_ z=>z.elim) ds r⟩
mutual
theorem NX:∀(n:Ag)(d:D),flD n d=Ab->eqD d d=Ab
 |_,.non,_=>rfl
 |_,.bl b,_=>by simp
 |_,.int i,_=>by simp
 |_,.str x,_=>by simp
 |n+1,.tup ds,h=>by
  show eqDs ds ds=Ab;exact eqDs_refl n ds h
 |n+1,.lst ds,h=>by
  show eqDs ds ds=Ab;exact eqDs_refl n ds h
 |0,.tup ds,h=>by cases h
 |0,.lst ds,h=>by cases h
 |n,.obj _ _,h=>by cases n<;>cases h
 |n,.exc _ _,h=>by cases n<;>cases h
 |n,.dic _,h=>by cases n<;>cases h
theorem eqDs_refl:∀(n:Ag)(ds:Ac D),ds.all (flD n)=Ab->eqDs ds ds=Ab
 |_,[],_=>rfl
 |n,d::ds,h=>by
  simp only[Gs,Am]at h;simp only[P7,Am];exact⟨NX n d h.1,eqDs_refl n ds h.2⟩
end
theorem Ub{ys:Ac V}(I:Inv X pI Z H s)(h:SqL X.K H a xs)(h':SqT X.K H a ys):A3:=by
 obtain⟨its,r,⟨o,n,e,c,_,_⟩,_⟩:=I.list h;obtain⟨its',r',⟨o',e',c',_⟩,_⟩:=I.tuple h';rw[e]at e';cases e';rw[c]at c'
 injection c' with z
 exact absurd z (by decide)
mutual
theorem Ob{pI:Pn}{Z:L2.St}{H:Hp}{s:Ar}(I:Inv X pI Z H s):∀(n:Ag)(d e:D){v:V},flD n d=Ab->flD n e=Ab->Rep X.K CL H A0 v d->Rep X.K CL H A0 v e->d=e
 |n,.tup ds,e,v,hd,he,r,q=>by
  obtain⟨a,xs,rfl,_,s1,r1⟩:=r;cases e with
  |tup es=>
   obtain⟨b,ys,e,_,s2,r2⟩:=q;cases e;have z:=I.tuple_inj s1 s2;subst z;cases n with
   |zero=>cases hd
   |succ n=>rw[reps_inj I n ds es hd he r1 r2]
  |lst es=>
   obtain⟨b,ys,e,_,s2,r2⟩:=q;cases e;exact(Ub I s2 s1).elim
  |obj=>cases n<;>cases he
  |exc=>cases n<;>cases he
  |dic=>cases n<;>cases he
  |_=>cases q
 |n,.lst ds,e,v,hd,he,r,q=>by
  obtain⟨a,xs,rfl,_,s1,r1⟩:=r;cases e with
  |lst es=>
   obtain⟨b,ys,e,_,s2,r2⟩:=q;cases e;have z:=I.list_inj s1 s2;subst z;cases n with
   |zero=>cases hd
   |succ n=>rw[reps_inj I n ds es hd he r1 r2]
  |tup es=>
   obtain⟨b,ys,e,_,s2,r2⟩:=q;cases e;exact(Ub I s1 s2).elim
  |obj=>cases n<;>cases he
  |exc=>cases n<;>cases he
  |dic=>cases n<;>cases he
  |_=>cases q
 |n,.obj _ _,e,v,hd,he,r,q=>by cases n<;>cases hd
 |n,.exc _ _,e,v,hd,he,r,q=>by cases n<;>cases hd
 |n,.dic _,e,v,hd,he,r,q=>by cases n<;>cases hd
 |n,.non,e,v,hd,he,r,q=>by
  cases r;cases e with
  |tup=>obtain⟨_,_,z,_⟩:=q;cases z
  |lst=>obtain⟨_,_,z,_⟩:=q;cases z
  |obj=>cases n<;>cases he
  |exc=>cases n<;>cases he
  |dic=>cases n<;>cases he
  |_=>cases q<;>rfl
 |n,.bl b,e,v,hd,he,r,q=>by
  cases r;cases e with
  |tup=>obtain⟨_,_,z,_⟩:=q;cases z
  |lst=>obtain⟨_,_,z,_⟩:=q;cases z
  |obj=>cases n<;>cases he
  |exc=>cases n<;>cases he
  |dic=>cases n<;>cases he
  |_=>cases q<;>rfl
 |n,.int b,e,v,hd,he,r,q=>by
  cases r;cases e with
  |tup=>obtain⟨_,_,z,_⟩:=q;cases z
  |lst=>obtain⟨_,_,z,_⟩:=q;cases z
  |obj=>cases n<;>cases he
  |exc=>cases n<;>cases he
  |dic=>cases n<;>cases he
  |_=>cases q<;>rfl
 |n,.str b,e,v,hd,he,r,q=>by
  cases r;cases e with
  |tup=>obtain⟨_,_,z,_⟩:=q;cases z
  |lst=>obtain⟨_,_,z,_⟩:=q;cases z
  |obj=>cases n<;>cases he
  |exc=>cases n<;>cases he
  |dic=>cases n<;>cases he
  |_=>cases q<;>rfl
theorem reps_inj{pI:Pn}{Z:L2.St}{H:Hp}{s:Ar}(I:Inv X pI Z H s):∀(n:Ag)(ds es:Ac D){xs:Ac V},ds.all (flD n)=Ab->es.all (flD n)=Ab->Reps X.K CL H A0 xs ds->Reps X.K CL H A0 xs es->ds=es
 |_,[],[],_,_,_,_,_=>rfl
 |n,d::ds,e::es,x::xs,hd,he,r,q=>by
  simp only[Gs,Am]at hd he;rw[Ob I n d e hd.1 he.1 r.1 q.1,reps_inj I n ds es hd.2 he.2 r.2 q.2]
 |_,[],_::_,[],_,_,_,q=>q.elim
 |_,[],_::_,_::_,_,_,r,_=>r.elim
 |_,_::_,[],[],_,_,r,_=>r.elim
 |_,_::_,[],_::_,_,_,_,q=>q.elim
 |_,_::_,_::_,[],_,_,r,_=>r.elim
end
theorem ME:∀{ds es:Ac D},ds.length≠es.length->eqDs ds es=Ad
 |[],[],h=>absurd rfl h
 |[],_::_,_=>rfl
 |_::_,[],_=>rfl
 |d::ds,e::es,h=>by
  simp only[P7,ME (ds:=ds) (es:=es) (by simpa using h),Jc]
theorem eT(n:Ag)(f:Ag->Ak):(Cm (n+1)).all f=(f 0&&(Cm n).all λj=>f (j+1)):=by
 rw[List.range_succ_eq_map,Gs,YG];rfl
theorem MF:∀{ds es:Ac D},ds.length=es.length->eqDs ds es=(Cm ds.length).all λj=>eqD (ds.getD j .non) (es.getD j .non)
 |[],[],_=>rfl
 |d::ds,e::es,h=>by
  rw[P7,MF (ds:=ds) (es:=es) (by simpa using h),BY,eT]
  rfl
 |[],_::_,h=>by cases h
 |_::_,[],h=>by cases h
theorem KU{ds:Ac D}{its:Ac Ai}(r:Reps K CL H A0 xs ds)(rv:Bq xs its)(h:j<its.length):∃ x,Rep K CL H A0 x (ds.getD j .non)/\BS x its[j]:=by
 have e1:=rv.length;have e2:=r.length;have hd:ds[j]?=Aa (ds.getD j .non):=by
  rw[Eb,B8 (by omega)];rfl
 obtain⟨x,hx,q⟩:=r.get hd;obtain⟨u,hu,ru⟩:=rv.get hx;refine⟨x,q,?_⟩;rw[B8 h]at hu;cases hu;exact ru
theorem KQ{ds:Ac D}(h:ds.all (flD n)=Ab)(j:Ag):flD n (ds.getD j .non)=Ab:=by
 rw[Eb];cases e:ds[j]? with
 |none=>cases n<;>rfl
 |some d=>exact List.all_eq_true.mp h d (DL e)
def C9(B:A6)(s:Ar)(u t:Ai)(k:Ak):Prop:=La B s u t k/\GS B s u t k/\JU B s u t (!k)
section
variable{B:A6}{s:Ar}
open SeqAt
theorem gy:C9 B s .none .none Ab:=⟨RcAt.none_none,EqAt.same _,RcNeAt.none_none⟩
theorem eg(a b:Ak):C9 B s (.bool a) (.bool b) (a==b):=⟨RcAt.bool_bool _ _,EqAt.bool_bool _ _,RcNeAt.bool_bool _ _⟩
theorem cw(b:Ak):C9 B s .none (.bool b) Ad:=⟨RcAt.none_bool _,EqAt.none_bool _,RcNeAt.none_bool _⟩
theorem dm(b:Ak):C9 B s (.bool b) .none Ad:=⟨RcAt.bool_none _,EqAt.bool_none _,RcNeAt.bool_none _⟩
theorem db(a:Ae)(t:Dj)(b:Ae)(u:Dj):C9 B s (.int a t) (.int b u) (a==b):=⟨RcAt.int_int _ _ _ _,EqAt.int_int _ _ _ _,RcNeAt.int_int _ _ _ _⟩
theorem gm(a:Aj)(t:Dj)(b:Aj)(u:Dj):C9 B s (.str a t) (.str b u) (a==b):=⟨RcAt.str_str _ _ _ _,EqAt.str_str _ _ _ _,RcNeAt.str_str _ _ _ _⟩
theorem d8(a:Ae)(t:Dj)(b:Aj)(u:Dj):C9 B s (.int a t) (.str b u) Ad:=⟨RcAt.int_str _ _ _ _,EqAt.int_str _ _ _ _,RcNeAt.int_str _ _ _ _⟩
theorem gr(a:Aj)(t:Dj)(b:Ae)(u:Dj):C9 B s (.str a t) (.int b u) Ad:=⟨RcAt.str_int _ _ _ _,EqAt.str_int _ _ _ _,RcNeAt.str_int _ _ _ _⟩
theorem cu(b:Ae)(u:Dj):C9 B s .none (.int b u) Ad:=⟨RcAt.none_int _ _,EqAt.none_int _ _,RcNeAt.none_int _ _⟩
theorem d9(b:Ae)(u:Dj):C9 B s (.int b u) .none Ad:=⟨RcAt.int_none _ _,EqAt.int_none _ _,RcNeAt.int_none _ _⟩
theorem gw(b:Aj)(u:Dj):C9 B s .none (.str b u) Ad:=⟨RcAt.none_str _ _,EqAt.none_str _ _,RcNeAt.none_str _ _⟩
theorem gp(b:Aj)(u:Dj):C9 B s (.str b u) .none Ad:=⟨RcAt.str_none _ _,EqAt.str_none _ _,RcNeAt.str_none _ _⟩
theorem dw(a:Ak)(b:Ae)(u:Dj):C9 B s (.bool a) (.int b u) (b2i a==b):=⟨RcAt.bool_int _ _ _,EqAt.bool_int _ _ _,RcNeAt.bool_int _ _ _⟩
theorem de(a:Ak)(b:Ae)(u:Dj):C9 B s (.int b u) (.bool a) (b==b2i a):=⟨RcAt.int_bool _ _ _,EqAt.int_bool _ _ _,RcNeAt.int_bool _ _ _⟩
theorem di(a:Ak)(b:Aj)(u:Dj):C9 B s (.bool a) (.str b u) Ad:=⟨RcAt.bool_str _ _ _,EqAt.bool_str _ _ _,RcNeAt.bool_str _ _ _⟩
theorem gu(a:Ak)(b:Aj)(u:Dj):C9 B s (.str b u) (.bool a) Ad:=⟨RcAt.str_bool _ _ _,EqAt.str_bool _ _ _,RcNeAt.str_bool _ _ _⟩
variable{l:Al}{items:A9 Ai}
theorem cz(h:s.heap.IsList l items)(hu:B.units<CG):C9 B s (.ref l) .none Ad:=⟨RcAt.list_none h hu,EqAt.list_none h hu,RcNeAt.list_none h hu⟩
theorem gz(h:s.heap.IsList l items)(hu:B.units<CG):C9 B s .none (.ref l) Ad:=⟨RcAt.none_list h hu,EqAt.none_list h hu,RcNeAt.none_list h hu⟩
theorem d6(b:Ak)(h:s.heap.IsList l items)(hu:B.units<CG):C9 B s (.ref l) (.bool b) Ad:=⟨RcAt.list_bool b h hu,EqAt.list_bool b h hu,RcNeAt.list_bool b h hu⟩
theorem dn(b:Ak)(h:s.heap.IsList l items)(hu:B.units<CG):C9 B s (.bool b) (.ref l) Ad:=⟨RcAt.bool_list b h hu,EqAt.bool_list b h hu,RcNeAt.bool_list b h hu⟩
theorem d5(b:Ae)(u:Dj)(h:s.heap.IsList l items)(hu:B.units<CG):C9 B s (.ref l) (.int b u) Ad:=⟨RcAt.list_int b u h hu,EqAt.list_int b u h hu,RcNeAt.list_int b u h hu⟩
theorem da(b:Ae)(u:Dj)(h:s.heap.IsList l items)(hu:B.units<CG):C9 B s (.int b u) (.ref l) Ad:=⟨RcAt.int_list b u h hu,EqAt.int_list b u h hu,RcNeAt.int_list b u h hu⟩
theorem cy(b:Aj)(u:Dj)(h:s.heap.IsList l items)(hu:B.units<CG):C9 B s (.ref l) (.str b u) Ad:=⟨RcAt.list_str b u h hu,EqAt.list_str b u h hu,RcNeAt.list_str b u h hu⟩
theorem gq(b:Aj)(u:Dj)(h:s.heap.IsList l items)(hu:B.units<CG):C9 B s (.str b u) (.ref l) Ad:=⟨RcAt.str_list b u h hu,EqAt.str_list b u h hu,RcNeAt.str_list b u h hu⟩
theorem gc(h:s.heap.IsTuple l items)(hu:B.units<CG):C9 B s (.ref l) .none Ad:=⟨RcAt.tuple_none h hu,EqAt.tuple_none h hu,RcNeAt.tuple_none h hu⟩
theorem gv(h:s.heap.IsTuple l items)(hu:B.units<CG):C9 B s .none (.ref l) Ad:=⟨RcAt.none_tuple h hu,EqAt.none_tuple h hu,RcNeAt.none_tuple h hu⟩
theorem gh(b:Ak)(h:s.heap.IsTuple l items)(hu:B.units<CG):C9 B s (.ref l) (.bool b) Ad:=⟨RcAt.tuple_bool b h hu,EqAt.tuple_bool b h hu,RcNeAt.tuple_bool b h hu⟩
theorem dh(b:Ak)(h:s.heap.IsTuple l items)(hu:B.units<CG):C9 B s (.bool b) (.ref l) Ad:=⟨RcAt.bool_tuple b h hu,EqAt.bool_tuple b h hu,RcNeAt.bool_tuple b h hu⟩
theorem gg(b:Ae)(u:Dj)(h:s.heap.IsTuple l items)(hu:B.units<CG):C9 B s (.ref l) (.int b u) Ad:=⟨RcAt.tuple_int b u h hu,EqAt.tuple_int b u h hu,RcNeAt.tuple_int b u h hu⟩
theorem d7(b:Ae)(u:Dj)(h:s.heap.IsTuple l items)(hu:B.units<CG):C9 B s (.int b u) (.ref l) Ad:=⟨RcAt.int_tuple b u h hu,EqAt.int_tuple b u h hu,RcNeAt.int_tuple b u h hu⟩
theorem gb(b:Aj)(u:Dj)(h:s.heap.IsTuple l items)(hu:B.units<CG):C9 B s (.ref l) (.str b u) Ad:=⟨RcAt.tuple_str b u h hu,EqAt.tuple_str b u h hu,RcNeAt.tuple_str b u h hu⟩
theorem gk(b:Aj)(u:Dj)(h:s.heap.IsTuple l items)(hu:B.units<CG):C9 B s (.str b u) (.ref l) Ad:=⟨RcAt.str_tuple b u h hu,EqAt.str_tuple b u h hu,RcNeAt.str_tuple b u h hu⟩
theorem cx(h:s.heap.IsList l items)(h2:s.heap.IsTuple b items2)(hu:B.units<CG):C9 B s (.ref l) (.ref b) Ad:=⟨RcAt.list_tuple h h2 hu,EqAt.list_tuple h h2 hu,RcNeAt.list_tuple h h2 hu⟩
theorem gf(h:s.heap.IsTuple l items)(h2:s.heap.IsList b items2)(hu:B.units<CG):C9 B s (.ref l) (.ref b) Ad:=⟨RcAt.tuple_list h h2 hu,EqAt.tuple_list h h2 hu,RcNeAt.tuple_list h h2 hu⟩
end
end
section
variable{X:Cx}{CL:ClA}{W:XW}
theorem LU(x:PlainL h a its):h.IsList a its:=let ⟨o,n,e,c,_,d⟩:=x;⟨o,e,c,n,d⟩
def eJ(X:Cx)(CL:ClA)(H:Hp)(s:Ar)(d:D)(u:Ai):Prop:=match d with
  |.non=>u=.none
  |.bl b=>u=.bool b
  |.int i=>∃ t,u=.int i t
  |.str x=>∃ t,u=.str x t
  |.tup ds=>∃ a xs its,u=.ref a/\Reps X.K CL H A0 xs ds/\Bq xs its/\s.heap.IsTuple a its.toArray
  |.lst ds=>∃ a xs its,u=.ref a/\Reps X.K CL H A0 xs ds/\Bq xs its/\s.heap.IsList a its.toArray
  |_=>A3
theorem VL(I:Inv X pI Z H s)(hd:flD n d=Ab)(r:Rep X.K CL H A0 v d)(q:BS v u):eJ X CL H s d u:=by
 cases d with
 |non=>cases r;exact q
 |bl b=>cases r;exact q
 |int b=>cases r;exact q
 |str b=>cases r;exact q
 |tup ds=>
  obtain⟨a,xs,rfl,_,sq,r⟩:=r;obtain⟨its,rv,p,_⟩:=I.tuple sq;cases q;exact⟨a,xs,its,rfl,r,rv,p⟩
 |lst ds=>
  obtain⟨a,xs,rfl,_,sq,r⟩:=r;obtain⟨its,rv,p,_⟩:=I.list sq;cases q;exact⟨a,xs,its,rfl,r,rv,LU p⟩
 |obj=>cases n<;>cases hd
 |exc=>cases n<;>cases hd
 |dic=>cases n<;>cases hd
theorem qB{B:A6}{its:Ac Ai}{ds es:Ac D}(hl:s.heap.IsList l its.toArray)(hb:s.heap.IsList b its2.toArray)(e1:its.length=ds.length)(e2:its2.length=es.length)(hu:B.units<CG)(hs:l=b->eqDs ds es=Ab)(he:∀ j (h1:j<its.length) (h2:j<its2.length),GS B.in1 s its[j] its2[j] (eqD (ds.getD j .non) (es.getD j .non))):C9 B s (.ref l) (.ref b) (eqDs ds es):=by
 have rc:La B s (.ref l) (.ref b) (eqDs ds es):=by
  by_cases hz:its.length=its2.length
  .have q:=SeqAt.RcAt.lists (e:=λj=>eqD (ds.getD j .non) (es.getD j .non)) hl hb (by simpa using hz) hu (λj h1 h2=>by simpa using he j (by simpa using h1) (by simpa using h2))
   rw[MF (by omega)]
   have e:its.toArray.size=ds.length:=by simpa using e1
   rw[e]at q;exact q
  .rw[ME (by omega)]
   exact SeqAt.RcAt.lists_lengths hl hb (by simpa using hz) hu
 have ne:JU B s (.ref l) (.ref b) (!eqDs ds es):=by
  by_cases hz:its.length=its2.length
  .have q:=SeqAt.RcNeAt.lists (e:=λj=>eqD (ds.getD j .non) (es.getD j .non)) hl hb (by simpa using hz) hu (λj h1 h2=>by simpa using he j (by simpa using h1) (by simpa using h2))
   rw[MF (by omega)]
   have e:its.toArray.size=ds.length:=by simpa using e1
   rw[e]at q;exact q
  .rw[ME (by omega)]
   exact SeqAt.RcNeAt.lists_lengths hl hb (by simpa using hz) hu
 refine⟨rc,?_,ne⟩;by_cases hlb:l=b
 .rw[hs hlb,hlb];exact aC _
 .exact aA hlb rc
theorem qA{B:A6}{its:Ac Ai}{ds es:Ac D}(hl:s.heap.IsTuple l its.toArray)(hb:s.heap.IsTuple b its2.toArray)(e1:its.length=ds.length)(e2:its2.length=es.length)(hu:B.units<CG)(hs:l=b->eqDs ds es=Ab)(he:∀ j (h1:j<its.length) (h2:j<its2.length),GS B.in1 s its[j] its2[j] (eqD (ds.getD j .non) (es.getD j .non))):C9 B s (.ref l) (.ref b) (eqDs ds es):=by
 have rc:La B s (.ref l) (.ref b) (eqDs ds es):=by
  have q:=SeqAt.RcAt.tuples (e:=λj=>eqD (ds.getD j .non) (es.getD j .non)) hl hb hu (λj h1 h2=>by simpa using he j (by simpa using h1) (by simpa using h2))
  have e:its.toArray.size=ds.length:=by simpa using e1
  have e':its2.toArray.size=es.length:=by simpa using e2
  rw[e,e']at q;by_cases hz:ds.length=es.length
  .rw[MF hz];rw[hz,Y_1,Fp,Yy]at q;rw[hz];exact q
  .rw[ME hz];rw[DW.mpr hz,Jc]at q;exact q
 have ne:JU B s (.ref l) (.ref b) (!eqDs ds es):=by
  have q:=SeqAt.RcNeAt.tuples (e:=λj=>eqD (ds.getD j .non) (es.getD j .non)) hl hb hu (λj h1 h2=>by simpa using he j (by simpa using h1) (by simpa using h2))
  have e:its.toArray.size=ds.length:=by simpa using e1
  have e':its2.toArray.size=es.length:=by simpa using e2
  rw[e,e']at q;by_cases hz:ds.length=es.length
  .rw[MF hz];rw[hz,Y_1,Fp,Yy]at q;rw[hz];exact q
  .rw[ME hz];rw[DW.mpr hz,Jc]at q;exact q
 refine⟨rc,?_,ne⟩;by_cases hlb:l=b
 .rw[hs hlb,hlb];exact aC _
 .exact aA hlb rc
theorem MT{pI:Pn}{Z:L2.St}{H:Hp}{s:Ar}(I:Inv X pI Z H s):∀(n:Ag)(d e:D)(v w':V)(u t:Ai)(B:A6),flD n d=Ab->flD n e=Ab->Rep X.K CL H A0 v d->Rep X.K CL H A0 w' e->BS v u->BS w' t->B.units+n<CG->C9 B s u t (eqD d e)
  |n,d,e,v,w',u,t,B,hd,he,r,q,rv,rw',hu=>by
    have hu0:B.units<CG:=by omega
    have sd:=VL I hd r rv;have se:=VL I he q rw'
    match d,e,sd,se with
    |.non,.non,s1,s2=>cases s1;cases s2;exact gy
    |.non,.bl b,s1,s2=>cases s1;cases s2;exact cw b
    |.non,.int b,s1,s2=>cases s1;obtain⟨_,rfl⟩:=s2;exact cu b _
    |.non,.str b,s1,s2=>cases s1;obtain⟨_,rfl⟩:=s2;exact gw b _
    |.non,.tup es,s1,s2=>cases s1;obtain⟨_,_,_,rfl,_,_,p⟩:=s2;exact gv p hu0
    |.non,.lst es,s1,s2=>cases s1;obtain⟨_,_,_,rfl,_,_,p⟩:=s2;exact gz p hu0
    |.bl a,.non,s1,s2=>cases s1;cases s2;exact dm a
    |.bl a,.bl b,s1,s2=>cases s1;cases s2;exact eg a b
    |.bl a,.int b,s1,s2=>cases s1;obtain⟨_,rfl⟩:=s2;exact dw a b _
    |.bl a,.str b,s1,s2=>cases s1;obtain⟨_,rfl⟩:=s2;exact di a b _
    |.bl a,.tup es,s1,s2=>cases s1;obtain⟨_,_,_,rfl,_,_,p⟩:=s2;exact dh a p hu0
    |.bl a,.lst es,s1,s2=>cases s1;obtain⟨_,_,_,rfl,_,_,p⟩:=s2;exact dn a p hu0
    |.int a,.non,s1,s2=>obtain⟨_,rfl⟩:=s1;cases s2;exact d9 a _
    |.int a,.bl b,s1,s2=>obtain⟨_,rfl⟩:=s1;cases s2;exact de b a _
    |.int a,.int b,s1,s2=>obtain⟨_,rfl⟩:=s1;obtain⟨_,rfl⟩:=s2;exact db a _ b _
    |.int a,.str b,s1,s2=>obtain⟨_,rfl⟩:=s1;obtain⟨_,rfl⟩:=s2;exact d8 a _ b _
    |.int a,.tup es,s1,s2=>obtain⟨_,rfl⟩:=s1;obtain⟨_,_,_,rfl,_,_,p⟩:=s2;exact d7 a _ p hu0
    |.int a,.lst es,s1,s2=>obtain⟨_,rfl⟩:=s1;obtain⟨_,_,_,rfl,_,_,p⟩:=s2;exact da a _ p hu0
    |.str a,.non,s1,s2=>obtain⟨_,rfl⟩:=s1;cases s2;exact gp a _
    |.str a,.bl b,s1,s2=>obtain⟨_,rfl⟩:=s1;cases s2;exact gu b a _
    |.str a,.int b,s1,s2=>obtain⟨_,rfl⟩:=s1;obtain⟨_,rfl⟩:=s2;exact gr a _ b _
    |.str a,.str b,s1,s2=>obtain⟨_,rfl⟩:=s1;obtain⟨_,rfl⟩:=s2;exact gm a _ b _
    |.str a,.tup es,s1,s2=>obtain⟨_,rfl⟩:=s1;obtain⟨_,_,_,rfl,_,_,p⟩:=s2;exact gk a _ p hu0
    |.str a,.lst es,s1,s2=>obtain⟨_,rfl⟩:=s1;obtain⟨_,_,_,rfl,_,_,p⟩:=s2;exact gq a _ p hu0
    |.tup ds,.non,s1,s2=>cases s2;obtain⟨_,_,_,rfl,_,_,p⟩:=s1;exact gc p hu0
    |.tup ds,.bl b,s1,s2=>cases s2;obtain⟨_,_,_,rfl,_,_,p⟩:=s1;exact gh b p hu0
    |.tup ds,.int b,s1,s2=>obtain⟨_,rfl⟩:=s2;obtain⟨_,_,_,rfl,_,_,p⟩:=s1;exact gg b _ p hu0
    |.tup ds,.str b,s1,s2=>obtain⟨_,rfl⟩:=s2;obtain⟨_,_,_,rfl,_,_,p⟩:=s1;exact gb b _ p hu0
    |.tup ds,.lst es,s1,s2=>obtain⟨_,_,_,rfl,_,_,p⟩:=s1;obtain⟨_,_,_,rfl,_,_,p2⟩:=s2;exact gf p p2 hu0
    |.lst ds,.non,s1,s2=>cases s2;obtain⟨_,_,_,rfl,_,_,p⟩:=s1;exact cz p hu0
    |.lst ds,.bl b,s1,s2=>cases s2;obtain⟨_,_,_,rfl,_,_,p⟩:=s1;exact d6 b p hu0
    |.lst ds,.int b,s1,s2=>obtain⟨_,rfl⟩:=s2;obtain⟨_,_,_,rfl,_,_,p⟩:=s1;exact d5 b _ p hu0
    |.lst ds,.str b,s1,s2=>obtain⟨_,rfl⟩:=s2;obtain⟨_,_,_,rfl,_,_,p⟩:=s1;exact cy b _ p hu0
    |.lst ds,.tup es,s1,s2=>obtain⟨_,_,_,rfl,_,_,p⟩:=s1;obtain⟨_,_,_,rfl,_,_,p2⟩:=s2;exact cx p p2 hu0
    |.tup ds,.tup es,s1,s2=>
      match n,hd,he,hu with
      |n+1,hd,he,hu=>
        obtain⟨a,xs,its,rfl,r1,v1,p1⟩:=s1;obtain⟨b,ys,its2,rfl,r2,v2,p2⟩:=s2;have l1:=v1.length;have l2:=r1.length;have l3:=v2.length;have l4:=r2.length
        refine qA p1 p2 (by omega) (by omega) hu0 (λhab=>?_) λj h1 h2=>?_
        · have e1:v=.ref a:=BS.inj rv rfl;have e2:w'=.ref b:=BS.inj rw' rfl;subst e1 e2 hab;have z:=Ob I (n+1) _ _ hd he r q
          injection z with z
          rw[z];exact eqDs_refl n es he
        · obtain⟨x,rx,qx⟩:=KU r1 v1 h1;obtain⟨y,ry,qy⟩:=KU r2 v2 h2;exact(MT I n _ _ x y _ _ B.in1 (KQ hd j) (KQ he j) rx ry qx qy (by show B.units+1+n<CG;omega)).2.1
    |.lst ds,.lst es,s1,s2=>
      match n,hd,he,hu with
      |n+1,hd,he,hu=>
        obtain⟨a,xs,its,rfl,r1,v1,p1⟩:=s1;obtain⟨b,ys,its2,rfl,r2,v2,p2⟩:=s2;have l1:=v1.length;have l2:=r1.length;have l3:=v2.length;have l4:=r2.length
        refine qB p1 p2 (by omega) (by omega) hu0 (λhab=>?_) λj h1 h2=>?_
        · have e1:v=.ref a:=BS.inj rv rfl;have e2:w'=.ref b:=BS.inj rw' rfl;subst e1 e2 hab;have z:=Ob I (n+1) _ _ hd he r q
          injection z with z
          rw[z];exact eqDs_refl n es he
        · obtain⟨x,rx,qx⟩:=KU r1 v1 h1;obtain⟨y,ry,qy⟩:=KU r2 v2 h2;exact(MT I n _ _ x y _ _ B.in1 (KQ hd j) (KQ he j) rx ry qx qy (by show B.units+1+n<CG;omega)).2.1
    |.obj _ _,_,s1,_=>exact s1.elim
    |.exc _ _,_,s1,_=>exact s1.elim
    |.dic _,_,s1,_=>exact s1.elim
    |_,.obj _ _,_,s2=>exact s2.elim
    |_,.exc _ _,_,s2=>exact s2.elim
    |_,.dic _,_,s2=>exact s2.elim
end
section
variable{X:Cx}{CL:ClA}{W:XW}
theorem Om(I:Inv X pI Z H s){ds:Ac D}{its:Ac Ai}(B:A6)(hd:flD n d=Ab)(hs:ds.all (flD n)=Ab)(r:Reps X.K CL H A0 xs ds)(rv:Bq xs its)(q:Rep X.K CL H A0 v d)(qv:BS v u)(hu:B.units+n<CG):∃ e:Ai->Ak,(∀ y,y∈its.toArray->GS B s y u (e y))/\its.toArray.any e=ds.any λy=>eqD y d:=by
 have l1:=rv.length;have l2:=r.length
 have key:∀ y,y∈its->∃ k:Ak,GS B s y u k/\∀ j (h:j<its.length),its[j]=y->eqD (ds.getD j .non) d=k:=λy hy=>by
  obtain⟨j,hj,rfl⟩:=G7 hy;obtain⟨x,rx,qx⟩:=KU r rv hj;refine⟨eqD (ds.getD j .non) d,(MT I n _ _ x v _ _ B (KQ hs j) hd rx q qx qv hu).2.1,λj' hj' e=>?_⟩
  obtain⟨x',rx',qx'⟩:=KU r rv hj';rw[e]at qx';have z:=BS.inj qx qx';subst z;rw[Ob I n _ _ (KQ hs j') (KQ hs j) rx' rx]
 have key2:∀ y,∃ k:Ak,y∈its->GS B s y u k/\∀ j (h:j<its.length),its[j]=y->eqD (ds.getD j .non) d=k:=λy=>by
  by_cases hy:y∈its
  .obtain⟨k,hk⟩:=key y hy;exact⟨k,λ_=>hk⟩
  .exact⟨Ab,λh=>absurd h hy⟩
 refine⟨λy=>Yz (key2 y),λy hy=>(E1 (key2 y) (by simpa using hy)).1,?_⟩
 rw[D8];simp only[List.any_toArray,Ff];constructor
 .rintro⟨y,hy,hk⟩;obtain⟨j,hj,rfl⟩:=G7 hy;have z:=(E1 (key2 its[j]) hy).2 j hj rfl;rw[hk]at z;refine⟨ds.getD j .non,?_,z⟩;rw[Eb,B8 (by omega)]
  exact Fh _
 .rintro⟨y,hy,hk⟩;obtain⟨j,hj,rfl⟩:=G7 hy;have hj':j<its.length:=by omega
  refine⟨its[j],Fh _,?_⟩;have z:=(E1 (key2 its[j]) (Fh _)).2 j hj' rfl;rw[<-z,Eb,B8 hj];exact hk
theorem NU{g:Ae->Ae->Ak}(ho:OpR X (Dq op) (rI0 λi j=>.bl (g i j)))(hg:∀ dx dy,(∃ i j,dx=.int i/\dy=.int j/\Cn op dx dy=.ok (.bl (g i j)))\/Cn op dx dy=.bad):OpD X CL W (Dq op) (Cn op):=by
 intro A pI s Z H x y v u Q I rx ry ⟨hA,dx,dy,hx,hy,p⟩;rcases hg dx dy with ⟨i,j,rfl,rfl,e⟩|e
 .have ex:=hx.int_of;have ey:=hy.int_of
  subst ex ey;rw[e]at p;exact ho pI s Z H _ _ v u Q I rx ry ⟨i,j,rfl,rfl,p _ H (AJ.refl H) rfl⟩
 .rw[e]at p;exact p.elim
theorem WZ{x:V}(h:Dp X.K CL H A x d)(hd:d≠.non):x≠.non:=by
 rintro rfl;have h:=h.plain;cases d with
 |non=>exact hd rfl
 |tup=>obtain⟨_,_,e,_⟩:=h;cases e
 |lst=>obtain⟨_,_,e,_⟩:=h;cases e
 |obj=>obtain⟨_,_,_,_,e,_⟩:=h;cases e
 |exc=>obtain⟨_,_,_,e,_⟩:=h;cases e
 |dic=>exact h.elim
 |_=>cases h
theorem N5(hu:X.A.units+64<CG)(op:DM):OpD X CL W (Dq op) (Cn op):=by
 cases op with
 |Eq=>
  intro A pI s Z H x y v u Q I rx ry ⟨hA,dx,dy,hx,hy,p⟩;rw[cR]at p;split at p
  .rename_i h;simp only[Am]at h;exact(MT I 5 dx dy x y v u X.A h.1 h.2 hx.plain hy.plain rx ry (by omega)).1 X.prog X.w X.xe _ ⟨.bl _,H,I,rfl,p _ H (AJ.refl H) rfl⟩
  .exact p.elim
 |NotEq=>
  intro A pI s Z H x y v u Q I rx ry ⟨hA,dx,dy,hx,hy,p⟩;rw[jl]at p;split at p
  .rename_i h;simp only[Am]at h;exact(MT I 5 dx dy x y v u X.A h.1 h.2 hx.plain hy.plain rx ry (by omega)).2.2 X.prog X.w X.xe _ ⟨.bl _,H,I,rfl,p _ H (AJ.refl H) rfl⟩
  .exact p.elim
 |Lt=>
  refine NU jd λdx dy=>?_
  cases dx with
  |int i=>
   cases dy with
   |int j=>exact .inl ⟨i,j,rfl,rfl,rfl⟩
   |_=>exact .inr rfl
  |_=>exact .inr rfl
 |LtE=>
  refine NU je λdx dy=>?_
  cases dx with
  |int i=>
   cases dy with
   |int j=>exact .inl ⟨i,j,rfl,rfl,rfl⟩
   |_=>exact .inr rfl
  |_=>exact .inr rfl
 |Gt=>
  refine NU jf λdx dy=>?_
  cases dx with
  |int i=>
   cases dy with
   |int j=>exact .inl ⟨i,j,rfl,rfl,rfl⟩
   |_=>exact .inr rfl
  |_=>exact .inr rfl
 |GtE=>
  refine NU jg λdx dy=>?_
  cases dx with
  |int i=>
   cases dy with
   |int j=>exact .inl ⟨i,j,rfl,rfl,rfl⟩
   |_=>exact .inr rfl
  |_=>exact .inr rfl
 |In=>
  intro A pI s Z H x y v u Q I rx ry ⟨hA,dx,dy,hx,hy,p⟩;cases dy with
  |lst es=>
   rw[cV]at p;split at p
   .rename_i h;simp only[Am]at h;obtain⟨a,xs,e,_,sq,r⟩:=hy.plain;subst e;cases ry;obtain⟨its,rv,pl,_⟩:=I.list sq;obtain⟨e,he,ha⟩:=Om I (n:=5) X.A.in1 h.1 h.2 r rv hx.plain rx (by show X.A.units+1+5<CG;omega)
    refine SeqAt.in_listAt e (LU pl) he ?_;rw[ha];exact⟨.bl _,H,I,rfl,p _ H (AJ.refl H) rfl⟩
   .exact p.elim
  |tup es=>
   rw[cU]at p;split at p
   .rename_i h;simp only[Am]at h;obtain⟨a,xs,e,_,sq,r⟩:=hy.plain;subst e;cases ry;obtain⟨its,rv,pl,_⟩:=I.tuple sq;obtain⟨e,he,ha⟩:=Om I (n:=5) X.A.in1 h.1 h.2 r rv hx.plain rx (by show X.A.units+1+5<CG;omega)
    refine SeqAt.in_tupleAt e pl he ?_;rw[ha];exact⟨.bl _,H,I,rfl,p _ H (AJ.refl H) rfl⟩
   .exact p.elim
  |dic kvs=>exact hy.plain.elim
  |_=>exact p.elim
 |NotIn=>
  intro A pI s Z H x y v u Q I rx ry ⟨hA,dx,dy,hx,hy,p⟩;cases dy with
  |lst es=>
   rw[jk]at p;split at p
   .rename_i h;simp only[Am]at h;obtain⟨a,xs,e,_,sq,r⟩:=hy.plain;subst e;cases ry;obtain⟨its,rv,pl,_⟩:=I.list sq;obtain⟨e,he,ha⟩:=Om I (n:=5) X.A.in1 h.1 h.2 r rv hx.plain rx (by show X.A.units+1+5<CG;omega)
    refine SeqAt.notIn_listAt e (LU pl) he ?_;rw[ha];exact⟨.bl _,H,I,rfl,p _ H (AJ.refl H) rfl⟩
   .exact p.elim
  |tup es=>
   rw[jj]at p;split at p
   .rename_i h;simp only[Am]at h;obtain⟨a,xs,e,_,sq,r⟩:=hy.plain;subst e;cases ry;obtain⟨its,rv,pl,_⟩:=I.tuple sq;obtain⟨e,he,ha⟩:=Om I (n:=5) X.A.in1 h.1 h.2 r rv hx.plain rx (by show X.A.units+1+5<CG;omega)
    refine SeqAt.notIn_tupleAt e pl he ?_;rw[ha];exact⟨.bl _,H,I,rfl,p _ H (AJ.refl H) rfl⟩
   .exact p.elim
  |_=>exact p.elim
 |Is=>
  intro A pI s Z H x y v u Q I rx ry ⟨hA,dx,dy,hx,hy,p⟩;cases dy with
  |non=>
   have ey:=hy.non_of;subst ey;refine xE pI s Z H _ _ v u Q I rx ry ⟨rfl,?_⟩;cases dx with
   |non=>
    have ex:=hx.non_of;subst ex;exact p _ H (AJ.refl H) rfl
   |exc=>exact p.elim
   |dic=>exact p.elim
   |_=>rw[BD (WZ hx (by simp))];exact p _ H (AJ.refl H) rfl
  |bl b=>
   cases dx with
   |bl a=>
    have ey:=hy.bl_of;have ex:=hx.bl_of;subst ex ey;cases rx;cases ry;refine wpAny_is_plain rfl ⟨.bl (a==b),H,I,?_,p _ H (AJ.refl H) rfl⟩;cases a<;>cases b<;>rfl
   |_=>exact p.elim
  |_=>cases dx<;>exact p.elim
 |IsNot=>
  intro A pI s Z H x y v u Q I rx ry ⟨hA,dx,dy,hx,hy,p⟩;cases dy with
  |non=>
   have ey:=hy.non_of;subst ey;refine oQ pI s Z H _ _ v u Q I rx ry ⟨rfl,?_⟩;cases dx with
   |non=>
    have ex:=hx.non_of;subst ex;exact p _ H (AJ.refl H) rfl
   |exc=>exact p.elim
   |dic=>exact p.elim
   |_=>rw[BD (WZ hx (by simp))];exact p _ H (AJ.refl H) rfl
  |bl b=>
   cases dx with
   |bl a=>
    have ey:=hy.bl_of;have ex:=hx.bl_of;subst ex ey;cases rx;cases ry;refine wpAny_isNot_plain rfl ⟨.bl (!(a==b)),H,I,?_,p _ H (AJ.refl H) rfl⟩;cases a<;>cases b<;>rfl
   |_=>exact p.elim
  |_=>cases dx<;>exact p.elim
end
section
variable{X:Cx}{CL:ClA}{W:XW}{a b c:An}{fa fb fc:Rho->R D}{pos:AL}
theorem DB.bind{f:D->R Ak}{Q:Ak->Hp->Prop}{Q':VK}(h:DB W H (r.bind f) Q)(k:∀ d v H',r=.ok d->AJ H H'->Rp H' v d->DB W H' (f d) Q->Q' v H'):Bv Rp W H r Q':=by
 cases r with
 |ok d=>exact λv H2 s2 q=>k d v H2 rfl s2 q (DB.same s2 h)
 |exn x=>exact h
 |bad=>exact h
theorem DB.bindB{r:R Ak}{f:Ak->R Ak}{Q:Ak->Hp->Prop}{Q':Ak->Hp->Prop}(h:DB W H (r.bind f) Q)(k:∀ b H',r=.ok b->AJ H H'->DB W H' (f b) Q->Q' b H'):DB W H r Q':=by
 cases r with
 |ok d=>exact λH2 s2=>k d H2 rfl s2 (DB.same s2 h)
 |exn x=>exact h
 |bad=>exact h
theorem Ir.bind{Rp:Hp->Ac V->Ac D->Prop}{r:R (Ac D)}{f:Ac D->R D}{Q':Ac V->Hp->Prop}(h:Bv Rq W H (r.bind f) Q)(k:∀ d v H',r=.ok d->AJ H H'->Rp H' v d->Bv Rq W H' (f d) Q->Q' v H'):Ir Rp W H r Q':=by
 cases r with
 |ok d=>exact λv H2 s2 q=>k d v H2 rfl s2 q (Bv.same s2 h)
 |exn x=>exact h
 |bad=>exact h
theorem vK(ha:ST X CL W a fa):SE X CL W (.UnaryOp .USub a pos) (λY=>(fa Y).bind λx=>unD .USub x):=λA=>PE.weak (cn vV (ha A)) λZ H Q ⟨hA,Y,g,p⟩=>⟨hA,Y,g,Bv.bind p λd v H1 _ s1 r1 p1=>by
 cases d with
 |int i=>
  have e:=r1.int_of;subst e;exact⟨i,rfl,p1 _ H1 (AJ.refl H1) rfl⟩
 | _=>exact p1.elim⟩
theorem Qh{f:Ak->R D}(h:Bv Rq W H ((D6 d).bind f) Q):∃ c,d=.bl c/\Bv Rq W H (f c) Q:=by
 cases d with
 |bl c=>exact⟨c,rfl,h⟩
 |_=>exact h.elim
theorem WM(ha:ST X CL W a fa):SE X CL W (.UnaryOp .Not a pos) (λY=>(fa Y).bind λx=>(D6 x).bind λb=>.ok (.bl (!b))):=λA=>PE.weak (wU (ha A)) λZ H Q ⟨hA,Y,g,p⟩=>⟨hA,Y,g,Bv.bind p λd v H1 _ s1 r1 p1=>by
 obtain⟨c,rfl,p2⟩:=Qh p1;exact⟨c,r1.bl_of,p2 _ H1 (AJ.refl H1) rfl⟩⟩
theorem Q3{op}(ha:SE X CL W a fa):SE X CL W (.BoolOp op [a] pos) fa:=λA=>wT (ha A)
theorem WO{rest:Ac An}(ha:SE X CL W a fa)(hb:SE X CL W (.BoolOp .And (b::rest) pos) fb):SE X CL W (.BoolOp .And (a::b::rest) pos) (λY=>(fa Y).bind λx=>(D6 x).bind λc=>if c=Ab then fb Y else .ok (.bl Ad)):=
 λA=>PE.weak (wZ (ha A) (hb A)) λZ H Q ⟨hA,Y,g,p⟩=>⟨hA,Y,g,Bv.bind p λd v H1 _ s1 r1 p1=>by
  obtain⟨c,rfl,p2⟩:=Qh p1;refine⟨c,r1,?_⟩;cases c with
  |true=>exact⟨hA.same s1,Y,g.same s1,p2⟩
  | false=>exact p2 _ H1 (AJ.refl H1) rfl⟩
theorem fw{rest:Ac An}(ha:SE X CL W a fa)(hb:SE X CL W (.BoolOp .Or (b::rest) pos) fb):SE X CL W (.BoolOp .Or (a::b::rest) pos) (λY=>(fa Y).bind λx=>(D6 x).bind λc=>if c=Ab then .ok (.bl Ab) else fb Y):=
 λA=>PE.weak (cq (ha A) (hb A)) λZ H Q ⟨hA,Y,g,p⟩=>⟨hA,Y,g,Bv.bind p λd v H1 _ s1 r1 p1=>by
  obtain⟨c,rfl,p2⟩:=Qh p1;refine⟨c,r1,?_⟩;cases c with
  |false=>exact⟨hA.same s1,Y,g.same s1,p2⟩
  | true=>exact p2 _ H1 (AJ.refl H1) rfl⟩
theorem rR{xs:Ac D}{i:Ae}(h:Dg xs i=.ok d):∃ k,plD xs.length i=Aa k/\xs[k]?=Aa d:=by
 unfold Dg at h;split at h
 .rename_i k e;split at h
  .rename_i d' e';cases h;exact⟨k,e,e'⟩
  .cases h
 .cases h
theorem NW{xs:Ac D}{i:Ae}(h:Dg xs i=.exn x):A3:=by
 unfold Dg at h;split at h
 .split at h<;>cases h
 .cases h
theorem Wo{ds:Ac D}{i:Ae}(r:Reps K CL H A xs ds)(h:Dg ds i=.ok d):∃ v,atI xs i=Aa v/\Rep K CL H A v d:=by
 obtain⟨k,e,q⟩:=rR h;obtain⟨v,hv,rv⟩:=r.get q;refine⟨v,?_,rv⟩;unfold atI;have:ixN xs.length i=Aa k:=by rw[r.length];exact e
 rw[this];exact hv
theorem uM(hs:QW b)(ha:ST X CL W a fa)(hb:ST X CL W b fb):SE X CL W (.Subscript a b pos) (λY=>(fa Y).bind λx=>(fb Y).bind λy=>BK x y):=
 λA=>PE.weak (j7 (r:=λx y H Q=>SV X.K x y H Q\/SU X.K x y H Q) (sN.or zJ) (ha A) (hb A) hs) λZ H Q h=>by
  obtain⟨hA,Y,g,h⟩:=op2 h;refine⟨hA,Y,g,?_⟩;cases e:fa Y with
  |bad=>rw[e]at h;exact h
  |exn x=>rw[e]at h;exact h
  |ok dx0=>
   rw[e]at h;intro x H1 s1 r1;obtain⟨hA1,Y1,g1,h1⟩:=h x H1 s1 r1;refine⟨hA1,Y1,g1,?_⟩;cases e1:fb Y1 with
   |bad=>rw[e1]at h1;exact h1
   |exn x=>rw[e1]at h1;exact h1
   |ok dy0=>
    rw[e1]at h1;intro y H2 s2 r2;obtain⟨hA2,dx,dy,rx,ry,p⟩:=h1 y H2 s2 r2;cases dy with
    |int i=>
     have ey:=ry.int_of;subst ey;cases dx with
     |lst ds=>
      obtain⟨q,xs,rfl,sq,r⟩:=rx.lst_of;rw[ir]at p;cases e2:Dg ds i with
      |ok d=>
       rw[e2]at p;obtain⟨v,hv,rv⟩:=Wo r e2;exact .inl ⟨q,xs,i,v,rfl,rfl,sq,hv,p v H2 (AJ.refl H2) rv⟩
      |exn x=>exact(NW e2).elim
      |bad=>rw[e2]at p;exact p.elim
     |tup ds=>
      obtain⟨q,xs,rfl,_,sq,r⟩:=rx.tup_of;rw[iq]at p;cases e2:Dg ds i with
      |ok d=>
       rw[e2]at p;obtain⟨v,hv,rv⟩:=Wo r e2;exact .inr ⟨q,xs,i,v,rfl,rfl,sq,hv,p v H2 (AJ.refl H2) rv⟩
      |exn x=>exact(NW e2).elim
      |bad=>rw[e2]at p;exact p.elim
     |dic=>exact rx.plain.elim
     |_=>exact p.elim
    |_=>cases dx<;>first|exact p.elim|exact rx.plain.elim
theorem QX:SA X CL W [] (λ_=>.ok []):=λA=>PA.weak GZ λZ H Q ⟨hA,Y,g,p⟩=>p [] H (AJ.refl H) trivial
theorem QD(ha:SE X CL W a fa)(hs:SA X CL W es fs)(hst:Aw (a::es) X.env=(Ad,eval a X.env)::Aw es X.env):SA X CL W (a::es) (λY=>(fa Y).bind λx=>(fs Y).bind λxs=>.ok (x::xs)):=
 λA=>PA.weak (EA (ha A) (hs A) hst) λZ H Q ⟨hA,Y,g,p⟩=>by
  dsimp only at p;refine⟨hA,Y,g,?_⟩;cases e:fa Y with
  |bad=>rw[e]at p;exact p
  |exn x=>rw[e]at p;exact p
  |ok d=>
   rw[e]at p;intro v H1 s1 r1;refine⟨hA.same s1,Y,g.same s1,?_⟩;cases e1:fs Y with
   |bad=>rw[R.bind_ok,e1]at p;exact p
   |exn x=>rw[R.bind_ok,e1]at p;exact λH2 s2=>p H2 (s1.trans s2)
   |ok ds=>
    rw[R.bind_ok,e1]at p;exact λvs H2 s2 r2=>p (v::vs) H2 (s1.trans s2) ⟨r1.same s2,r2⟩
theorem WK(hs:SA X CL W es fs)(hz:∀ Y ds,fs Y=.ok ds->ds.length<=100000):SE X CL W (.Tuple es k pos) (λY=>(fs Y).bind λxs=>.ok (.tup xs)):=
 λA=>PE.weak (WT (hs A)) λZ H Q ⟨hA,Y,g,p⟩=>⟨hA,Y,g,Ir.bind p λds vs H1 e s1 r1 p1=>⟨by
  rw[r1.length,Dx];have:=hz Y ds e;omega,λq hq=>p1 _ _ (GB hq _) (LI (hA.same s1) hq r1)⟩⟩
def K5(W:XW)(H:Hp)(r:R (Ao Ae))(Q:Ao Ae->Hp->Prop):Prop:=match r with
  |.ok o=>∀ H',AJ H H'->Q o H'
  |.exn x=>∀ H',AJ H H'->W x H'
  |.bad=>A3
theorem K5.bind{r:R (Ao Ae)}{f:Ao Ae->R D}(h:Bv Rq W H (r.bind f) Q)(k:∀ o H',r=.ok o->AJ H H'->Bv Rq W H' (f o) Q->Q' o H'):K5 W H r Q':=by
 cases r with
 |ok d=>exact λH2 s2=>k d H2 rfl s2 (Bv.same s2 h)
 |exn x=>exact h
 |bad=>exact h
def SO(X:Cx)(CL:ClA)(W:XW)(e:Ao An)(f:Rho->R (Ao Ae)):Prop:=∀ A,PO X e (λZ H Q=>AOk H A/\∃ Y,Good X.K CL A Y Z H/\K5 W H (f Y) Q)
theorem PO.weak{e:Ao An}{t t':TO}(h:PO X e t)(k:∀ Z H Q,t' Z H Q->t Z H Q):PO X e t':=λpI s Z H Q I q=>h pI s Z H Q I (k _ _ _ q)
theorem mD:SO X CL W Af (λ_=>.ok Af):=λA=>PO.weak pS λZ H Q ⟨hA,Y,g,p⟩=>p H (AJ.refl H)
theorem mC(ha:ST X CL W a fa):SO X CL W (Aa a) (λY=>(fa Y).bind λd=>(Fm d).bind λi=>.ok (Aa i)):=λA=>PO.weak (pR (ha A)) λZ H Q ⟨hA,Y,g,p⟩=>by
 dsimp only at p;refine⟨hA,Y,g,?_⟩;cases e:fa Y with
 |bad=>rw[e]at p;exact p
 |exn x=>rw[e]at p;exact p
 |ok d=>
  rw[e]at p;intro v H1 s1 r1;cases d with
  |int i=>exact⟨i,r1.int_of,p H1 s1⟩
  |_=>exact p.elim
theorem VW{ds:Ac D}(lo hi:Ao Ae)(r:Reps K CL H A xs ds):Reps K CL H A (Kt xs lo hi) (Mj ds lo hi):=by
 unfold Kt Mj;have e:∀ d o,HT.sIx xs.length d o=Hj ds.length d o:=λd o=>by rw[r.length];cases o<;>rfl
 rw[e,e,r.length];exact(r.drop _).take _
end
section
variable{X:Cx}{CL:ClA}{W:XW}{a b c:An}{fa fb fc:Rho->R D}{pos:AL}
def Hh(K:Fg)(CL:ClA)(H:Hp)(A:Al->Prop):Ac V->Ac D->Prop
 |[],[]=>Ic
 |v::vs,d::ds=>Dp K CL H A v d/\Hh K CL H A vs ds
 |_,_=>A3
theorem Hh.same{K:Fg}{H H':Hp}{A:Al->Prop}(s:AJ H H'):∀{vs:Ac V}{ds:Ac D},Hh K CL H A vs ds->Hh K CL H' A vs ds
 |[],[],h=>h
 |_::_,_::_,h=>⟨h.1.same s,Hh.same s h.2⟩
 |[],_::_,h=>h.elim
 |_::_,[],h=>h.elim
theorem Hh.one{vs:Ac V}(h:Hh K CL H A vs [d]):∃ v,vs=[v]/\Dp K CL H A v d:=by
 cases vs with
 |nil=>exact h.elim
 |cons v vs=>
  cases vs with
  |nil=>exact⟨v,rfl,h.1⟩
  |cons=>exact h.2.elim
def SAT(X:Cx)(CL:ClA)(W:XW)(es:Ac An)(f:Rho->R (Ac D)):Prop:=∀ A,PA X es (λZ H Q=>AOk H A/\∃ Y,Good X.K CL A Y Z H/\Ir (λH=>Hh X.K CL H A) W H (f Y) Q)
theorem VM:SAT X CL W [] (λ_=>.ok []):=λA=>PA.weak GZ λZ H Q ⟨hA,Y,g,p⟩=>p [] H (AJ.refl H) trivial
theorem U0(ha:ST X CL W a fa)(hs:SAT X CL W es fs)(hst:Aw (a::es) X.env=(Ad,eval a X.env)::Aw es X.env):SAT X CL W (a::es) (λY=>(fa Y).bind λx=>(fs Y).bind λxs=>.ok (x::xs)):=
 λA=>PA.weak (EA (ha A) (hs A) hst) λZ H Q ⟨hA,Y,g,p⟩=>by
  dsimp only at p;refine⟨hA,Y,g,?_⟩;cases e:fa Y with
  |bad=>rw[e]at p;exact p
  |exn x=>rw[e]at p;exact p
  |ok d=>
   rw[e]at p;intro v H1 s1 r1;refine⟨hA.same s1,Y,g.same s1,?_⟩;cases e1:fs Y with
   |bad=>rw[R.bind_ok,e1]at p;exact p
   |exn x=>rw[R.bind_ok,e1]at p;exact λH2 s2=>p H2 (s1.trans s2)
   |ok ds=>
    rw[R.bind_ok,e1]at p;exact λvs H2 s2 r2=>p (v::vs) H2 (s1.trans s2) ⟨r1.same s2,r2⟩
def Ni(X:Cx)(CL:ClA)(W:XW)(f:Ai)(g:Ac D->R D):Prop:=∀ A,Kg X f (λxs H Q=>AOk H A/\∃ ds,Hh X.K CL H A xs ds/\Bv (λH=>Rep X.K CL H A) W H (g ds) Q)
theorem WN{x:Aj}{id:Dy}{g:Ac D->R D}(hc:Ni X CL W (.builtin id) g)(hg:Gl X x)(hm:X.mg x=Af)(hv:Dv x=Aa (.builtin id))(ha:SAT X CL W (e::es) fs)(hn:x≠"__name__")(hdb:(x==("__debug__" : Aj))=Ad)(he:Aw (e::es) X.env=(Ad,eval e X.env)::Aw es X.env)(hpl:∀ pos,(Cj pos (Aw es X.env)).any (·.1)=Ad):SE X CL W (.Call (.Name x p) (e::es) [] pos) (λY=>(fs Y).bind g):=λA=>PE.weak (MI (hc A) hg hm hv (ha A) hn hdb he (hpl _)) λZ H Q ⟨hA,Y,gd,q⟩=>⟨hA,Y,gd,Ir.bind q λds vs H1 _ s1 r1 p1=>⟨hA.same s1,ds,r1,p1⟩⟩
theorem uP{x:Aj}{g:Ac D->R D}(hc:Ni X CL W (.type T) g)(hg:Gl X x)(hm:X.mg x=Af)(hv:Dv x=Aa (.type T))(ha:SAT X CL W (e::es) fs)(hn:x≠"__name__")(hdb:(x==("__debug__" : Aj))=Ad)(he:Aw (e::es) X.env=(Ad,eval e X.env)::Aw es X.env)(hpl:∀ pos,(Cj pos (Aw es X.env)).any (·.1)=Ad):SE X CL W (.Call (.Name x p) (e::es) [] pos) (λY=>(fs Y).bind g):=λA=>PE.weak (Uy (hc A) hg hm hv (ha A) hn hdb he (hpl _)) λZ H Q ⟨hA,Y,gd,q⟩=>⟨hA,Y,gd,Ir.bind q λds vs H1 _ s1 r1 p1=>⟨hA.same s1,ds,r1,p1⟩⟩
theorem al:Ni X CL W (.builtin "len") (biD .len):=by
  intro A pI s Z H xs us Q I r ⟨hA,ds,rs,p⟩
  match ds,rs,p with
  |[.lst es],rs,p=>
    obtain⟨v,rfl,rv⟩:=rs.one;obtain⟨q,ys,rfl,sq,ry⟩:=rv.lst_of;exact TF pI s Z H _ us Q I r ⟨q,ys,rfl,.inl sq,p _ H (AJ.refl H) (by rw[ry.length];rfl)⟩
  |[.tup es],rs,p=>
    obtain⟨v,rfl,rv⟩:=rs.one;obtain⟨q,ys,rfl,_,sq,ry⟩:=rv.tup_of;exact TF pI s Z H _ us Q I r ⟨q,ys,rfl,.inr sq,p _ H (AJ.refl H) (by rw[ry.length];rfl)⟩
  |[.str x],rs,p=>
    obtain⟨v,rfl,rv⟩:=rs.one;have e:=rv.str_of;subst e;have p':Bv (λH=>Rep X.K CL H A) W H (if DC x.length=Ab then .ok (.int x.length) else .bad) Q:=p
    split at p'
    · rename_i h;exact fA pI s Z H _ us Q I r ⟨x,rfl,KH h,p' _ H (AJ.refl H) rfl⟩
    · exact p'.elim
  |[],_,p=>exact p.elim
  |[.non],_,p=>exact p.elim
  |[.bl _],_,p=>exact p.elim
  |[.int _],_,p=>exact p.elim
  |[.obj _ _],_,p=>exact p.elim
  |[.exc _ _],_,p=>exact p.elim
  |[.dic _],rs,p=>first|exact p.elim|(obtain⟨v,rfl,rv⟩:=rs.one;exact rv.plain.elim)
  |x::_::_,_,p=>cases x<;>exact p.elim
theorem lT:Ni X CL W (.type "tuple") (biD .tuple):=by
  intro A pI s Z H xs us Q I r ⟨hA,ds,rs,p⟩
  match ds,rs,p with
  |[.lst es],rs,p=>
    obtain⟨v,rfl,rv⟩:=rs.one;obtain⟨q,ys,rfl,sq,ry⟩:=rv.lst_of;exact TJ pI s Z H _ us Q I r ⟨q,ys,rfl,.inl ⟨sq,λl hl=>p _ _ (GB hl _) (LI hA hl ry)⟩⟩
  |[.tup es],rs,p=>
    obtain⟨v,rfl,rv⟩:=rs.one;obtain⟨q,ys,rfl,na,sq,ry⟩:=rv.tup_of;exact TJ pI s Z H _ us Q I r ⟨q,ys,rfl,.inr ⟨sq,p _ H (AJ.refl H) ⟨q,ys,rfl,na,sq,ry⟩⟩⟩
  |[],_,p=>exact p.elim
  |[.non],_,p=>exact p.elim
  |[.bl _],_,p=>exact p.elim
  |[.int _],_,p=>exact p.elim
  |[.str _],_,p=>exact p.elim
  |[.obj _ _],_,p=>exact p.elim
  |[.exc _ _],_,p=>exact p.elim
  |[.dic _],rs,p=>first|exact p.elim|(obtain⟨v,rfl,rv⟩:=rs.one;exact rv.plain.elim)
  |x::_::_,_,p=>cases x<;>exact p.elim
end
section
variable{X:Cx}{CL:ClA}{W:XW}{a b c:An}{fa fb fc:Rho->R D}{pos:AL}
theorem SB.congr{g:Rho->R Ak}(h:SB X CL W a f)(e:∀ Y,g Y=f Y):SB X CL W a g:=λA=>PT.weak (h A) λZ H Q ⟨hA,Y,q,p⟩=>⟨hA,Y,q,by rw[<-e];exact p⟩
theorem WQ(ha:SB X CL W a f):SB X CL W (.UnaryOp .Not a pos) (λY=>(f Y).bind λb=>.ok (!b)):=λA=>PT.weak (wL (ha A)) λZ H Q ⟨hA,Y,g,p⟩=>⟨hA,Y,g,DB.bindB p λb H1 _ s1 p1=>p1 H1 (AJ.refl H1)⟩
def SW(X:Cx)(CL:ClA)(W:XW)(e:An)(f:Rho->R Ak):Prop:=∀ A,PW X e (λZ H Q=>AOk H A/\∃ Y,Good X.K CL A Y Z H/\DB W H (f Y) Q)
theorem PW.weak{t t':TT}(h:PW X e t)(k:∀ Z H Q,t' Z H Q->t Z H Q):PW X e t':=λwh pI s Z H Q I q=>h wh pI s Z H Q I (k _ _ _ q)
theorem SW.sb(h:SW X CL W a f):SB X CL W a f:=λA=>PW.pt (h A)
theorem SW.congr{g:Rho->R Ak}(h:SW X CL W a f)(e:∀ Y,g Y=f Y):SW X CL W a g:=λA=>PW.weak (h A) λZ H Q ⟨hA,Y,q,p⟩=>⟨hA,Y,q,by rw[<-e];exact p⟩
theorem VC(ha:SB X CL W a f):SW X CL W (.BoolOp .And [a] pos) f:=λA=>pG (ha A)
theorem Xb(ha:SB X CL W a f):SW X CL W (.BoolOp .Or [a] pos) f:=λA=>wJ (ha A)
theorem Xc{g:Rho->R Ak}{rest:Ac An}(ha:SB X CL W a f)(hb:SW X CL W (.BoolOp .And (b::rest) pos) g):SW X CL W (.BoolOp .And (a::b::rest) pos) (λY=>(f Y).bind λc=>if c=Ab then g Y else .ok Ad):=
 λA=>PW.weak (wK (ha A) (hb A)) λZ H Q ⟨hA,Y,gd,p⟩=>⟨hA,Y,gd,DB.bindB p λc H1 _ s1 p1=>by
  cases c with
  |true=>exact⟨hA.same s1,Y,gd.same s1,p1⟩
  | false=>exact p1 H1 (AJ.refl H1)⟩
theorem Xu{g:Rho->R Ak}{rest:Ac An}(ha:SB X CL W a f)(hb:SW X CL W (.BoolOp .Or (b::rest) pos) g):SW X CL W (.BoolOp .Or (a::b::rest) pos) (λY=>(f Y).bind λc=>if c=Ab then .ok Ab else g Y):=
 λA=>PW.weak (ce (ha A) (hb A)) λZ H Q ⟨hA,Y,gd,p⟩=>⟨hA,Y,gd,DB.bindB p λc H1 _ s1 p1=>by
  cases c with
  |false=>exact⟨hA.same s1,Y,gd.same s1,p1⟩
  | true=>exact p1 H1 (AJ.refl H1)⟩
theorem uQ(ho:OpD X CL W (Dq op) g)(ha:ST X CL W a fa)(hb:ST X CL W b fb)(hm:Hz op b=Ad):SB X CL W (.Compare a [op] [b] pos) (λY=>(fa Y).bind λx=>(fb Y).bind λy=>(g x y).bind D6):=
 λA=>PT.weak (pL (ho A) (ha A) (hb A) hm) λZ H Q ⟨hA,Y,gd,p⟩=>⟨hA,Y,gd,DB.bind p λdx x H1 _ s1 r1 p1=>⟨hA.same s1,Y,gd.same s1,DB.bind p1 λdy y H2 _ s2 r2 p2=>
  ⟨(hA.same s1).same s2,dx,dy,r1.same s2,r2,DB.bind p2 λdz z H3 _ s3 r3 p3=>by
   cases dz with
   |bl k=>exact⟨k,r3,p3 H3 (AJ.refl H3)⟩
   | _=>exact p3.elim⟩⟩⟩
theorem iU{op':DM}(hu:X.A.units+64<CG)(ha:ST X CL W a fa)(hb:ST X CL W b fb)(hc:ST X CL W c fc)(hm:lastMarks [op,op'] [b,c]=Ad):SB X CL W (.Compare a [op,op'] [b,c] pos) (λY=>(fa Y).bind λx=>(fb Y).bind λy=>(Cn op x y).bind λz=>(D6 z).bind λk=>if k=Ab then (fc Y).bind λu=>(Cn op' y u).bind D6 else .ok Ad):=
  λA=>PT.weak (kX (N5 hu op A) (N5 hu op' A) (ha A) (hb A) (hc A) hm) λZ H Q ⟨hA,Y,g,p⟩=>⟨hA,Y,g,DB.bind p λdx x H1 _ s1 r1 p1=>⟨hA.same s1,Y,g.same s1,DB.bind p1 λdy y H2 _ s2 r2 p2=>
    ⟨(hA.same s1).same s2,dx,dy,r1.same s2,r2,DB.bind p2 λdz z H3 _ s3 r3 p3=>by
      cases dz with
      |bl k=>
        refine⟨k,r3,?_⟩;cases k with
        |false=>exact⟨Ad,rfl,p3 H3 (AJ.refl H3)⟩
        | true=>exact⟨((hA.same s1).same s2).same s3,Y,((g.same s1).same s2).same s3,DB.bind p3 λdu u H4 _ s4 r4 p5=>⟨(((hA.same s1).same s2).same s3).same s4,dy,du,(r2.same s3).same s4,r4,DB.bind p5 λdv v H5 _ s5 r5 p6=>by
            cases dv with
            |bl k'=>exact⟨k',r5,p6 H5 (AJ.refl H5)⟩
            | _=>exact p6.elim⟩⟩
      | _=>exact p3.elim⟩⟩⟩
theorem WP(ha:ST X CL W a fa)(he:∀ whole,Jh a X.env whole=(do let v <-whole;Kx a.pos;holding [v] (truthy v))):SB X CL W a (λY=>(fa Y).bind B5):=
 λA=>PT.weak (kW (ha A) he) λZ H Q ⟨hA,Y,g,p⟩=>⟨hA,Y,g,DB.bind p λd v H1 _ s1 r1 p1=>by
  cases d with
  |non=>
   have e:=r1.non_of;subst e;exact⟨Ad,rfl,p1 H1 (AJ.refl H1)⟩
  |bl b=>
   have e:=r1.bl_of;subst e;exact⟨b,rfl,p1 H1 (AJ.refl H1)⟩
  |int i=>
   have e:=r1.int_of;subst e;exact⟨_,rfl,p1 H1 (AJ.refl H1)⟩
  |str x=>
   have e:=r1.str_of;subst e;have p2:DB W H1 (if DC x.length=Ab then .ok (x.length != 0) else .bad) Q:=p1
   split at p2
   .rename_i h;refine⟨_,⟨KH h,rfl⟩,?_⟩;have e:((x.length:Ae) != 0)=(x.length != 0):=by
     rw[D8];simp
    rw[e];exact p2 H1 (AJ.refl H1)
   .exact p2.elim
  |tup ds=>
   obtain⟨q,xs,rfl,_,sq,r⟩:=r1.tup_of;refine⟨_,.inr (.inl ⟨xs,sq,rfl⟩),?_⟩;have e:xs.isEmpty=ds.isEmpty:=by
    have:=r.length;cases xs<;>cases ds<;>first|rfl|cases this
   rw[e];exact p1 H1 (AJ.refl H1)
  |lst ds=>
   obtain⟨q,xs,rfl,sq,r⟩:=r1.lst_of;refine⟨_,.inl ⟨xs,sq,rfl⟩,?_⟩;have e:xs.isEmpty=ds.isEmpty:=by
    have:=r.length;cases xs<;>cases ds<;>first|rfl|cases this
   rw[e];exact p1 H1 (AJ.refl H1)
  | _=>exact p1.elim⟩
noncomputable def eG(K:Fg)(CL:ClA)(H:Hp)(A:Al->Prop)(cls:Ai)(dx:Ao Al)(x:Ex):Prop:=
 ∃ C,CL x.c=Aa C/\cls=.ref C/\(x.fs=[]\/∃ d vs,dx=Aa d/\¬ A d/\H d=Aa (.xd vs)/\Repf K CL H A vs x.fs)
def GE(K:Fg)(CL:ClA)(H:Hp)(cls:Ai)(dx:Ao Al)(x:Ex):Prop:=∀ A,AOk H A->eG K CL H A cls dx x
end
def Cb(B:Al->Prop)(Y:Rho)(Z:L2.St):Al->Prop:=λa=>B a\/∃(j:Ag)(d:D),Y[j]?=Aa (Aa (d,Ab))/\Z[j]?=Aa (Aa (.ref a))
structure Sx (K:Fg) (CL:ClA) (Fz:Al->HO->Prop) (B:Al->Prop) (Y:Rho) (Z:L2.St) (H:Hp):Prop where
 good:Good K CL (Cb B Y Z) Y Z H
 aok:AOk H (Cb B Y Z)
 new:∀(j:Ag)(d:D)(a:Al),Y[j]?=Aa (Aa (d,Ab))->Z[j]?=Aa (Aa (.ref a))->(∀ o,¬ Fz a o)/\¬ B a
 dis:∀(i j:Ag)(d e:D)(a:Al),Y[i]?=Aa (Aa (d,Ab))->Y[j]?=Aa (Aa (e,Ab))->Z[i]?=Aa (Aa (.ref a))->Z[j]?=Aa (Aa (.ref a))->i=j
 same:∀ b o,Fz b o->H b=Aa o
 len:Y.length=Z.length
def Cp(K:Fg)(CL:ClA)(Fz:Al->HO->Prop)(B:Al->Prop)(W:XW)(o:O)(D:Ends):Prop:=match o with
  |.next Y=>∀ Z H,Sx K CL Fz B Y Z H->D.nx Z H
  |.brk Y=>∀ Z H,Sx K CL Fz B Y Z H->D.bk Z H
  |.cont Y=>∀ Z H,Sx K CL Fz B Y Z H->D.ct Z H
  |.ret d fr=>∀ v H,(∀ b o,Fz b o->H b=Aa o)->Rep K CL H B v d->(fr=Ab->∀ ds,d=.lst ds->∃ a xs,v=.ref a/\(∀ o,¬ Fz a o)/\H a=Aa (.lst xs)/\Reps K CL H (λb=>B b\/b=a) xs ds)->D.rt v H
  |.exn x _=>∀ H,(∀ b o,Fz b o->H b=Aa o)->W x H
  |.bad=>A3
section
variable{K:Fg}{CL:ClA}{Fz Fy:Al->HO->Prop}{B:Al->Prop}{Y:Rho}{Z:L2.St}{H H':Hp}
theorem Sx.mono(k:∀ b o,Fz b o->Fy b o)(x:Sx K CL Fy B Y Z H):Sx K CL Fz B Y Z H:=⟨x.good,x.aok,λj d a h1 h2=>⟨λo z=>(x.new j d a h1 h2).1 o (k _ _ z),(x.new j d a h1 h2).2⟩,x.dis,λb o z=>x.same b o (k _ _ z),x.len⟩
theorem Sx.grow(x:Sx K CL Fz B Y Z H)(s:AJ H H'):Sx K CL Fz B Y Z H':=⟨x.good.same s,x.aok.same s,x.new,x.dis,λb o z=>s _ _ (x.same b o z),x.len⟩
theorem CK{l:Ac α}{v:α}(h:i≠j):(l.set i v)[j]?=l[j]?:=by rw[GL h]
theorem Hg{l:Ac α}{v w':α}(h:(l.set i v)[i]?=Aa w'):w'=v:=by
 rw[F5]at h;cases e:l[i]? with
 |none=>rw[e]at h;cases h
 |some x=>rw[e]at h;cases h;rfl
theorem Sx.set(x:Sx K CL Fz B Y Z H){v:V}{d:D}(i:Ag)(r:Rep K CL H (Cb B Y Z) v d):Sx K CL Fz B (Y.set i (Aa (d,Ad))) (Z.set i (Aa v)) H:=by
 have own:∀(j:Ag)(e:D),(Y.set i (Aa (d,Ad)))[j]?=Aa (Aa (e,Ab))->i≠j/\Y[j]?=Aa (Aa (e,Ab)):=λj e h=>by
  by_cases hj:i=j
  .subst hj;have:=Hg h;cases this
  .exact⟨hj,by rw[CK hj]at h;exact h⟩
 have sub:∀ a,Cb B (Y.set i (Aa (d,Ad))) (Z.set i (Aa v)) a->Cb B Y Z a:=λa h=>by
  rcases h with h|⟨j,e,h1,h2⟩
  .exact .inl h
  .obtain⟨hj,h1⟩:=own j e h1;rw[CK hj]at h2;exact .inr ⟨j,e,h1,h2⟩
 refine⟨⟨λj e h=>?_,λj e h=>?_,by rw[Bc,Bc];exact x.len⟩,λa h=>x.aok a (sub a h),λj e a h1 h2=>?_,λj k e f a h1 h2 h3 h4=>?_,x.same,by rw[Bc,Bc];exact x.len⟩
 .by_cases hj:i=j
  .subst hj;have e1:=Hg h;cases e1;refine⟨v,?_,Rep.sub sub _ r⟩;have hl:i<Z.length:=by
    rw[<-x.len];have:=(Bl.mp h).1;simpa using this
   rw[Ds hl]
  .rw[CK hj]at h;obtain⟨w',q,rw'⟩:=x.good.sh j e h;exact⟨w',by rw[CK hj];exact q,Rep.sub sub _ rw'⟩
 .obtain⟨hj,h1⟩:=own j e h;obtain⟨a,xs,ds,q,z,ha,hh,rr⟩:=x.good.ow j e h1;exact⟨a,xs,ds,by rw[CK hj];exact q,z,.inr ⟨j,e,h,by rw[CK hj];exact q⟩,hh,Reps.sub sub _ rr⟩
 .obtain⟨hj,h1⟩:=own j e h1;rw[CK hj]at h2;exact x.new j e a h1 h2
 .obtain⟨hj,h1⟩:=own j e h1;obtain⟨hk,h2⟩:=own k f h2;rw[CK hj]at h3;rw[CK hk]at h4;exact x.dis j k e f a h1 h2 h3 h4
end
section
variable{X:Cx}{CL:ClA}{W:XW}{pos:AL}{e:An}{fe:Rho->R D}
def SS(X:Cx)(CL:ClA)(W:XW)(st:AW)(f:Rho->O):Prop:=∀ Fz B,PS X st (λD Z H=>∃ Y,Sx X.K CL Fz B Y Z H/\Cp X.K CL Fz B W (f Y) D)
def SSs(X:Cx)(CL:ClA)(W:XW)(st:Ac AW)(f:Rho->O):Prop:=∀ Fz B,PSs X st (λD Z H=>∃ Y,Sx X.K CL Fz B Y Z H/\Cp X.K CL Fz B W (f Y) D)
theorem PS.weak{e:AW}{t t':TS}(h:PS X e t)(k:∀ D Z H,t' D Z H->t D Z H):PS X e t':=λpI s Z H D I q=>h pI s Z H D I (k _ _ _ q)
theorem PSs.weak{e:Ac AW}{t t':TS}(h:PSs X e t)(k:∀ D Z H,t' D Z H->t D Z H):PSs X e t':=λpI s Z H D I q=>h pI s Z H D I (k _ _ _ q)
theorem Cp.ex{f:D->O}(x:Sx X.K CL Fz B Y Z H)(h:Cp X.K CL Fz B W (O.of Y r f) D')(k:∀ d v H',r=.ok d->AJ H H'->Rp H' v d->Sx X.K CL Fz B Y Z H'->Cp X.K CL Fz B W (f d) D'->Q v H'):Bv Rp W H r Q:=by
 cases r with
 |ok d=>exact λv H' s r=>k d v H' rfl s r (x.grow s) h
 |exn y=>exact λH' s=>h H' λb o z=>s _ _ (x.same b o z)
 |bad=>exact h
theorem Cp.exB{r:R Ak}{f:Ak->O}{Q:Ak->Hp->Prop}(x:Sx X.K CL Fz B Y Z H)(h:Cp X.K CL Fz B W (O.of Y r f) D')(k:∀ b H',r=.ok b->AJ H H'->Sx X.K CL Fz B Y Z H'->Cp X.K CL Fz B W (f b) D'->Q b H'):DB W H r Q:=by
 cases r with
 |ok d=>exact λH' s=>k d H' rfl s (x.grow s) h
 |exn y=>exact λH' s=>h H' λb o z=>s _ _ (x.same b o z)
 |bad=>exact h
theorem nO(he:SE X CL W e fe)(hs:DH e Af pos.line X.env=pure Ad):SS X CL W (.Expr e pos) (λY=>O.of Y (fe Y) λ_=>.next Y):=λFz B pI s Z H D I ⟨Y,x,p⟩=>
 MP (he (Cb B Y Z)) hs pI s Z H D I ⟨x.aok,Y,x.good,Cp.ex x p λd v H' _ s r x' q=>q Z H' x'⟩
theorem uY{n:Aj}(hN:X.N.Nodup)(hi:X.N[i]?=Aa n)(hx:Loc X.env.scope n)(he:SE X CL W e fe)(hs:DH e (Aa (.Name n pos')) pos.line X.env=pure Ad)(hf:X.fn n=Ab\/X.env.scope.names.lookup n=Aa .local):SS X CL W (.Assign [.Name n pos'] e pos) (λY=>O.of Y (fe Y) λd=>.next (Y.set i (Aa (d,Ad)))):=λFz B pI s Z H D I ⟨Y,x,p⟩=>
 Oc hN hi hx (he (Cb B Y Z)) hs hf pI s Z H D I ⟨x.aok,Y,x.good,Cp.ex x p λd v H' _ s r x' q=>q _ H' (x'.set i r)⟩
theorem VF(he:SE X CL W e fe):SS X CL W (.Return (Aa e) pos) (λY=>O.of Y (fe Y) λd=>.ret d Ad):=λFz B pI s Z H D I ⟨Y,x,p⟩=>
 QY (he (Cb B Y Z)) pI s Z H D I ⟨x.aok,Y,x.good,Cp.ex x p λd v H' _ s r x' q=>q v H' x'.same (Rep.sub (λa h=>.inl h) _ r) λz=>nomatch z⟩
theorem Xv{a b:Ac AW}{fa fb:Rho->O}(hc:SB X CL W c fc)(ha:SSs X CL W a fa)(hb:SSs X CL W b fb):SS X CL W (.If c a b pos) (λY=>O.of Y (fc Y) λk=>if k=Ab then fa Y else fb Y):=λFz B pI s Z H D I ⟨Y,x,p⟩=>
 cf (hc (Cb B Y Z)) (ha Fz B) (hb Fz B) pI s Z H D I ⟨x.aok,Y,x.good,Cp.exB x p λk H' _ s x' q=>by
  cases k with
  |true=>exact⟨Y,x',q⟩
  | false=>exact⟨Y,x',q⟩⟩
theorem QC:SSs X CL W [] (λY=>.next Y):=λFz B=>PSs.weak pM λD Z H ⟨Y,x,p⟩=>p Z H x
theorem KM{st:AW}{rest:Ac AW}{f g:Rho->O}(h1:SS X CL W st f)(h2:SSs X CL W rest g):SSs X CL W (st::rest) (λY=>(f Y).seq g):=λFz B=>PSs.weak (UJ (h1 Fz B) (h2 Fz B)) λD Z H ⟨Y,x,p⟩=>⟨Y,x,by
 dsimp only at p;cases e:f Y with
 |next Y'=>rw[e]at p;exact λZ' H' x'=>⟨Y',x',p⟩
 |ret d b=>rw[e]at p;exact p
 |brk Y'=>rw[e]at p;exact p
 |cont Y'=>rw[e]at p;exact p
 |exn y Y'=>rw[e]at p;exact p
 | bad=>rw[e]at p;exact p⟩
end
def JI(K:Fg)(CL:ClA)(A:Al->Prop)(ds:Ac D)(J_:It)(H1:Hp):Prop:=∀ H,Kp A H1 H->∀ i:Ag,(ds.length<=i->J_.stop i H)/\∀ d,ds[i]?=Aa d->J_.go i H/\∀ x H',J_.yld i H x H'->AJ H H'/\∀ B,(∀ a,B a->A a\/H1 a=Af)->AOk H B->Rep K CL H' B x d
def Fk(K:Fg)(CL:ClA)(A:Al->Prop)(W:XW)(H:Hp)(r:R (Ac D))(Q:It->Hp->Prop):Prop:=match r with
  |.ok ds=>∀ J_ H',AJ H H'->JI K CL A ds J_ H'->ds.length<=sizeLine->Q J_ H'
  |.exn x=>∀ H',AJ H H'->W x H'
  |.bad=>A3
def SI(X:Cx)(CL:ClA)(W:XW)(tg iter:An)(f:Rho->R (Ac D)):Prop:=∀ A,PI X tg iter (λZ H R=>AOk H A/\∃ Y,Good X.K CL A Y Z H/\Fk X.K CL A W H (f Y) R)
theorem PI.weak{t t':TI}(h:PI X tg e t)(k:∀ Z H Q,t' Z H Q->t Z H Q):PI X tg e t':=λpI s Z H Q I q=>h pI s Z H Q I (k _ _ _ q)
section
variable{X:Cx}{CL:ClA}{W:XW}{pos p:AL}{tg e a b:An}{fe fa fb:Rho->R D}
theorem Fk.ex{f:D->R (Ac D)}{Q:It->Hp->Prop}{Q':VK}(h:Fk X.K CL A W H (r.bind f) Q)(k:∀ d v H',r=.ok d->AJ H H'->Rp H' v d->Fk X.K CL A W H' (f d) Q->Q' v H'):Bv Rp W H r Q':=by
  cases r with
  | ok d=>exact λv H' s q=>k d v H' rfl s q (by
      have h':Fk X.K CL A W H (f d) Q:=h;cases e:f d with
      |ok ds=>rw[e]at h';exact λJ_ H2 s2 y z=>h' J_ H2 (s.trans s2) y z
      |exn y=>rw[e]at h';exact λH2 s2=>h' H2 (s.trans s2)
      | bad=>rw[e]at h';exact h')
  |exn y=>exact h
  |bad=>exact h
theorem MA{x:V}(r:Rep K CL H1 A x d)(k:Kp A H1 H)(hB:∀ a,B a->A a\/H1 a=Af):Rep K CL H B x d:=by
 have r1:Rep K CL H1 (λa=>A a\/B a) x d:=Rep.wide (λa ha=>ha.elim .inl (hB a)) _ r
 have r2:Rep K CL H (λa=>A a\/B a) x d:=Rep.kp (λb o e na=>k b o e λz=>na (.inl z)) _ r1
 exact Rep.sub (λa ha=>.inr ha) _ r2
theorem fS{ds:Ac D}(na:¬ A q\/KL K q xs)(s:SqL K H q xs)(r:Reps K CL H A xs ds):JI K CL A ds (Itl K q) H:=λH' k i=>by
 have s':=Of k na s;refine⟨λh=>⟨xs,s',by rw[r.length];exact h⟩,λd hd=>?_⟩
 obtain⟨v,hv,rv⟩:=r.get hd;exact⟨⟨xs,v,s',hv⟩,λx H2 ⟨e,y⟩=>by
  subst e;have:=y xs s';rw[hv]at this;cases this;exact⟨AJ.refl _,λB hB _=>MA rv k hB⟩⟩
theorem jG{ds:Ac D}(na:¬ A q\/KT K q xs)(s:SqT K H q xs)(r:Reps K CL H A xs ds):JI K CL A ds (Itt K q) H:=λH' k i=>by
 have s':=Oe k na s;refine⟨λh=>⟨xs,s',by rw[r.length];exact h⟩,λd hd=>?_⟩
 obtain⟨v,hv,rv⟩:=r.get hd;exact⟨⟨xs,v,s',hv⟩,λx H2 ⟨e,y⟩=>by
  subst e;have:=y xs s';rw[hv]at this;cases this;exact⟨AJ.refl _,λB hB _=>MA rv k hB⟩⟩
theorem UT(lo:Ae)(n:Ag):JI K CL A (Fc lo n) (Itr lo n) H:=λH' k i=>by
 refine⟨λh=>by rw[Mw]at h;exact h,λd hd=>?_⟩
 obtain⟨h1,rfl⟩:=Qt hd;exact⟨h1,λx H2 ⟨e,y⟩=>by
  subst e y;exact⟨AJ.refl _,λ_ _ _=>rfl⟩⟩
theorem wQ{l:An}{tl:TE}(hl:PE X l tl):PI X tg l (λZ H R=>tl Z H λx H1=>(∃ a,x=.ref a/\(∃ xs,SqL X.K H1 a xs/\(xs.length<=sizeLine->R (Itl X.K a) H1)))\/∃ a,x=.ref a/\(∃ xs,SqT X.K H1 a xs/\(xs.length<=sizeLine->R (Itt X.K a) H1))):=by
 intro pI s Z H R I h;refine thn (hl pI s Z H _ I h) λv s1 ⟨x,H1,I1,r1,q1⟩=>?_
 rcases q1 with ⟨a,e,xs,hq,q⟩|⟨a,e,xs,hq,q⟩
 .subst e;cases r1;obtain⟨its,rv,p,hz⟩:=I1.list hq;refine F8 p.isList ?_;refine⟨s1.heap.objs.size,[s1.heap.objs.size],_,_,H1,rfl,I1.kept (t':=s1.toks) λb o e=>As _ e,gM a _,⟨_,AE _ rfl,rfl,rfl⟩,λb hb=>?_,q hz⟩
  have e:b=s1.heap.objs.size:=by simpa using hb
  subst e;exact I1.fpOk (A5 _) (I1.hok.fresh (A5 _))
 .subst e;cases r1;obtain⟨its,rv,p,hz⟩:=I1.tuple hq;refine Hx (show s1.heap.IsTuple a its.toArray from p) ?_
  refine⟨s1.heap.objs.size,[s1.heap.objs.size],_,_,H1,rfl,I1.kept (t':=s1.toks) λb o e=>As _ e,fV a _,⟨_,AE _ rfl,rfl,rfl⟩,λb hb=>?_,q hz⟩
  have e:b=s1.heap.objs.size:=by simpa using hb
  subst e;exact I1.fpOk (A5 _) (I1.hok.fresh (A5 _))
theorem dO(he:SE X CL W e fe):SI X CL W tg e (λY=>(fe Y).bind C5):=λA=>PI.weak (wQ (he A)) λZ H R ⟨hA,Y,g,p⟩=>⟨hA,Y,g,Fk.ex p λd v H1 _ s1 r1 p1=>by
 cases d with
 |lst ds=>
  obtain⟨q,xs,rfl,na,sq,r⟩:=r1;exact .inl ⟨q,rfl,xs,sq,λhz=>p1 _ H1 (AJ.refl H1) (fS na sq r) (by rw[<-r.length];exact hz)⟩
 |tup ds=>
  obtain⟨q,xs,rfl,na,sq,r⟩:=r1;exact .inr ⟨q,rfl,xs,sq,λhz=>p1 _ H1 (AJ.refl H1) (jG na sq r) (by rw[<-r.length];exact hz)⟩
 | _=>exact p1.elim⟩
theorem Uv{lo hi:Ae}{ds:Ac D}(h:DI lo hi=.ok ds):(-(2 ^ 62)<=lo/\lo<2 ^ 62)/\(-(2 ^ 62)<=hi/\hi<2 ^ 62)/\ds=Fc lo (hi-lo).toNat/\(Fc lo (hi-lo).toNat).length<=sizeLine:=by
 unfold DI at h;split at h
 .rename_i q;cases h;exact⟨by omega,by omega,rfl,by rw[Mw,Dx];omega⟩
 .cases h
theorem TZ{lo hi:Ae}(h:DI lo hi=.exn x):A3:=by
 unfold DI at h;split at h<;>cases h
theorem vH(ha:ST X CL W a fa)(hg:Gl X "range")(hm:X.mg "range" = Af)(hs:Aw [a] X.env=[(Ad,eval a X.env)]):SI X CL W tg (.Call (.Name "range" p) [a] [] pos) (λY=>(fa Y).bind λx=>(Fm x).bind λj=>DI 0 j):=
 λA=>PI.weak (iL hg hm (EA (ha A) GZ hs) hs) λZ H R ⟨hA,Y,g,q⟩=>⟨hA,Y,g,Fk.ex q λd v H1 _ s1 r1 p1=>by
  cases d with
  |int j=>
   have e:=r1.int_of;subst e;have p2:Fk X.K CL A W H1 (DI 0 j) R:=p1;cases e2:DI 0 j with
   |ok ds=>
    rw[e2]at p2;obtain⟨_,h2,rfl,hz⟩:=Uv e2;exact⟨j,rfl,h2.1,h2.2,p2 _ H1 (AJ.refl H1) (by rw[JQ];exact UT 0 j.toNat) hz⟩
   |exn y=>exact(TZ e2).elim
   |bad=>rw[e2]at p2;exact p2.elim
  | _=>exact p1.elim⟩
theorem mG(ha:ST X CL W a fa)(hb:ST X CL W b fb)(hg:Gl X "range")(hm:X.mg "range" = Af)(hs:Aw [a,b] X.env=[(Ad,eval a X.env),(Ad,eval b X.env)])(hs2:Aw [b] X.env=[(Ad,eval b X.env)]):
  SI X CL W tg (.Call (.Name "range" p) [a,b] [] pos) (λY=>(fa Y).bind λx=>(fb Y).bind λy=>(Fm x).bind λi=>(Fm y).bind λj=>DI i j):=
 λA=>PI.weak (gL hg hm (EA (ha A) (EA (hb A) GZ hs2) (by rw[hs,hs2])) hs hs2) λZ H R ⟨hA,Y,g,q⟩=>⟨hA,Y,g,Fk.ex q λd v H1 _ s1 r1 p1=>⟨hA.same s1,Y,g.same s1,Fk.ex p1 λd2 v2 H2 _ s2 r2 p2=>by
  cases d with
  |int i=>
   cases d2 with
   |int j=>
    have e:=r1.int_of;have e':=r2.int_of
    subst e e';have p3:Fk X.K CL A W H2 (DI i j) R:=p2;cases e2:DI i j with
    |ok ds=>
     rw[e2]at p3;obtain⟨h1,h2,rfl,hz⟩:=Uv e2;exact⟨i,j,rfl,⟨h1.1,h1.2,h2.1,h2.2⟩,p3 _ H2 (AJ.refl H2) (UT _ _) hz⟩
    |exn y=>exact(TZ e2).elim
    |bad=>rw[e2]at p3;exact p3.elim
   |_=>exact p2.elim
  | _=>exact p2.elim⟩⟩
theorem Cp.exI{r:R (Ac D)}{f:Ac D->O}{Q:It->Hp->Prop}(x:Sx X.K CL Fz B Y Z H)(h:Cp X.K CL Fz B W (O.of Y r f) D')(k:∀ ds J_ H',r=.ok ds->AJ H H'->JI X.K CL A ds J_ H'->ds.length<=sizeLine->Sx X.K CL Fz B Y Z H'->Cp X.K CL Fz B W (f ds) D'->Q J_ H'):Fk X.K CL A W H r Q:=by
 cases r with
 |ok d=>exact λJ_ H' s y z=>k d J_ H' rfl s y z (x.grow s) h
 |exn y=>exact λH' s=>h H' λb o z=>s _ _ (x.same b o z)
 |bad=>exact h
theorem Cp.turn{Fy:Al->HO->Prop}{o:O}{g:Rho->O}{N:L2.St->Hp->Prop}(hf:∀ b q,Fz b q->Fy b q)(h:Cp K CL Fz B W (o.turn g) D')(k:∀ Y' Z' H',Sx K CL Fy B Y' Z' H'->Cp K CL Fz B W (g Y') D'->N Z' H'):Cp K CL Fy B W o {D' with nx:=N,ct:=N,bk:=D'.nx}:=by
 cases o with
 |next Y'=>exact λZ' H' x=>k Y' Z' H' x h
 |cont Y'=>exact λZ' H' x=>k Y' Z' H' x h
 |brk Y'=>exact λZ' H' x=>h Z' H' (x.mono hf)
 |ret d b=>exact λv H' s r n=>h v H' (λb o z=>s b o (hf b o z)) r λz ds e=>let ⟨a,xs,h1,h2,h3⟩:=n z ds e;⟨a,xs,h1,λo q=>h2 o (hf a o q),h3⟩
 |exn y Y'=>exact λH' s=>h H' (λb o z=>s b o (hf b o z))
 |bad=>exact h
noncomputable def FY(ts:Ac Ag)(Y:Rho):Rho:=ts.foldl (λY t=>Y.set t Af) Y
def GT(K:Fg)(CL:ClA)(as:D->Rho->R Rho)(g:TG):Prop:=∀ Fz B Y Z H v d Y' Q,Sx K CL Fz B Y Z H->Rep K CL H (Cb B Y Z) v d->as d Y=.ok Y'->(∀ Z',Sx K CL Fz B Y' Z' H->Q Z' H)->g v Z H Q
theorem rO(i:Ag):GT K CL (λd Y=>.ok (Y.set i (Aa (d,Ad)))) (FF i):=λFz B Y Z H v d Y' Q x r e k=>by
 cases e;exact k _ (x.set i r)
theorem Rh{K:Fg}{Fz:Al->HO->Prop}{B:Al->Prop}{H:Hp}:∀(ts:Ac Ag)(ds:Ac D)(vs:Ac V)(Y Y':Rho)(Z:L2.St)(Q:L2.St->Hp->Prop),Sx K CL Fz B Y Z H->Reps K CL H (Cb B Y Z) vs ds->Fa ts ds Y=Aa Y'->(∀ Z',Sx K CL Fz B Y' Z' H->Q Z' H)->(ts.foldr (λt u=>Iq (FF t) u) Iy) vs Z H Q
 |[],[],[],Y,Y',Z,Q,x,_,e,k=>by
  cases e;exact⟨rfl,k Z x⟩
 |t::ts,d::ds,v::vs,Y,Y',Z,Q,x,r,e,k=>by
  refine⟨v,vs,rfl,Rh ts ds vs _ Y' _ Q (x.set t r.1) (Reps.sub (λa ha=>?_) ds r.2) e k⟩
  rcases ha with ha|⟨j,c,h1,h2⟩
  .exact .inl ha
  .by_cases hj:t=j
   .subst hj;have:=Hg h1;cases this
   .rw[CK hj]at h1 h2;exact .inr ⟨j,c,h1,h2⟩
 |[],_::_,_,_,_,_,_,_,_,e,_=>by cases e
 |_::_,[],_,_,_,_,_,_,_,e,_=>by cases e
 |[],[],_::_,_,_,_,_,_,r,_,_=>r.elim
 |_::_,_::_,[],_,_,_,_,_,r,_,_=>r.elim
theorem NH:∀(ts:Ac Ag)(ds:Ac D)(Y Y':Rho),Fa ts ds Y=Aa Y'->ds.length=ts.length
 |[],[],_,_,_=>rfl
 |_::ts,_::ds,_,_,e=>congrArg (· + 1) (NH ts ds _ _ e)
 |[],_::_,_,_,e=>by cases e
 |_::_,[],_,_,e=>by cases e
theorem W1(ts:Ac Ag):GT K CL (EH ts) (Mh K ts.length (ts.foldr (λt u=>Iq (FF t) u) Iy)):=λFz B Y Z H v d Y' Q x r e k=>by
 cases d with
 |tup ds=>
  obtain⟨a,xs,rfl,na,sq,rs⟩:=r;rw[T8]at e;cases e2:Fa ts ds Y with
  |none=>rw[e2]at e;cases e
  |some Y2=>
   rw[e2]at e;cases e;exact⟨a,xs,rfl,sq,by rw[rs.length];exact NH _ _ _ _ e2,Rh ts ds xs Y _ Z Q x rs e2 k⟩
 |_=>cases e
theorem Xe{body:Ac AW}{fbd:Rho->O}{g:TG}(hp:FU (model X.prog X.w) X.A X.env X.xe)(hc:X.calm=Ab)(hGT:GT X.K CL as g)(hg:PG X tg g)(hit:SI X CL W tg iter fi)(hb:SSs X CL W body fbd)(hs:∀ x,Do iter X.env x=pure x)(hax:∀ d Y x,as d Y≠.exn x):SS X CL W (.For tg iter body [] pos) (λY=>O.of Y (fi Y) λxs=>CM (λx Y'=>O.of Y' (as x Y') fbd) xs Y):=λFz B pI s Z H D I ⟨Y,x,p⟩=>by
 refine wM hp hc (hit (Cb B Y Z)) hg (tb:=λD Z H=>∃ Fy,(λD Z H=>∃ Y,Sx X.K CL Fy B Y Z H/\Cp X.K CL Fy B W (fbd Y) D) D Z H) (λpI s Z H D I ⟨Fy,q⟩=>hb Fy B pI s Z H D I q) hs pI s Z H D I ⟨x.aok,Y,x.good,Cp.exI x p λds J_ H1 _ s1 y _ x1 q=>?_⟩
 let Fy:Al->HO->Prop:=λb o=>H1 b=Aa o/\¬ ∃(j:Ag)(d:Ov.D),Y[j]?=Aa (Aa (d,Ab))/\Z[j]?=Aa (Aa (.ref b))
 have hfy:∀ b o,Fz b o->Fy b o:=λb o z=>⟨x1.same b o z,λ⟨j,d,h1,h2⟩=>(x1.new j d b h1 h2).1 o z⟩
 have xy:Sx X.K CL Fy B Y Z H1:=⟨x1.good,x1.aok,λj d a h1 h2=>⟨λo z=>z.2 ⟨j,d,h1,h2⟩,(x1.new j d a h1 h2).2⟩,x1.dis,λb o z=>z.1,x1.len⟩
 refine⟨λk m Z' H'=>m=ds.length-k/\k<=ds.length/\∃ Y',Sx X.K CL Fy B Y' Z' H'/\Cp X.K CL Fz B W (CM (λx Y'=>O.of Y' (as x Y') fbd) (ds.drop k) Y') D,⟨ds.length,by simp,Gn _,Y,xy,q⟩,?_⟩
 rintro k m Z' H' ⟨rfl,hk,Y',x',q'⟩;have kp:Kp (Cb B Y Z) H1 H':=λb o e na=>x'.same b o ⟨e,λz=>na (.inr z)⟩
 obtain⟨yst,ygo⟩:=y H' kp k;by_cases hlt:k<ds.length
 .have hd:ds[k]?=Aa ds[k]:=B8 hlt;obtain⟨hgo,hyl⟩:=ygo _ hd;refine .inr ⟨hgo,λZ'' H''=>∃ Y'',Sx X.K CL Fy B Y'' Z'' H''/\Cp X.K CL Fz B W (CM (λx Y'=>O.of Y' (as x Y') fbd) (ds.drop (k+1)) Y'') D,λZ'' H'' z=>⟨ds.length-(k+1),by omega,rfl,hlt,z⟩,λv H2 hv=>?_⟩
  obtain⟨e2,rv⟩:=hyl v H2 hv;rw[FK hlt]at q';have q2:Cp X.K CL Fz B W ((O.of Y' (as ds[k] Y') fbd).turn (CM (λx Y'=>O.of Y' (as x Y') fbd) (ds.drop (k+1)))) D:=q'
  have rv':Rep X.K CL H2 (Cb B Y' Z') v ds[k]:=rv _ (λa ha=>by
    rcases ha with ha|⟨j,d,h1,h2⟩
    .exact .inl (.inl ha)
    .cases e:H1 a with
     |none=>exact .inr rfl
     |some o=>
      by_cases ho:∃(j:Ag)(d:Ov.D),Y[j]?=Aa (Aa (d,Ab))/\Z[j]?=Aa (Aa (.ref a))
      .exact .inl (.inr ho)
      .exact absurd ⟨e,ho⟩ ((x'.new j d a h1 h2).1 o)) x'.aok
  cases ea:as ds[k] Y' with
  |bad=>rw[ea]at q2;exact q2.elim
  |exn z=>exact absurd ea (hax _ _ z)
  |ok Y2=>
   rw[ea,O.of_ok]at q2;exact hGT Fy B Y' Z' H2 v ds[k] Y2 _ (x'.grow e2) rv' ea λZ3 x3=>⟨Fy,Y2,x3,Cp.turn hfy q2 λY3 Z3 H3 x3 q3=>⟨Y3,x3,q3⟩⟩
 .have hk':ds.length<=k:=by omega
  rw[YI hk']at q';exact .inl ⟨yst hk',q' Z' H' (x'.mono hfy)⟩
end
section
variable{X:Cx}{CL:ClA}{W:XW}{a b c:An}{fa fb fc:Rho->R D}{pos:AL}
noncomputable def tyK:Ki->Ao Dy
 |.int=>Aa "int"
 |.bool=>Aa "bool"
 |.str=>Aa "str"
 |.list=>Aa "list"
 |.tuple=>Aa "tuple"
 |_=>Af
noncomputable def QZ:D->Ak
 |.obj _ _=>Ad
 |.exc _ _=>Ad
 |.dic _=>Ad
 |_=>Ab
theorem zK{k:Ki}{Q:Vq}{E:Vq}(I:Inv X pI Z H s)(r:Dp X.K CL H A v d)(q:BS v u)(hT:tyK k=Aa T)(hd:QZ d=Ab)(h:∀ s',Inv X pI Z H s'->Q (.bool (kiD up k d)) s'):
  Au (model X.prog X.w) X.A (call (.builtin "isinstance") [u,.type T]) Q E s:=by
 have r':=r.plain;have it:=λt=>h _ (I.tok t)
 cases d with
 |obj=>cases hd
 |exc=>cases hd
 |dic=>cases hd
 |non=>
  cases r';cases q;cases k<;>simp only[tyK]at hT<;>cases hT
  .exact IsiPair.NoneType_int (it _)
  .exact IsiPair.NoneType_bool (it _)
  .exact IsiPair.NoneType_str (it _)
  .exact IsiPair.NoneType_list (it _)
  .exact IsiPair.NoneType_tuple (it _)
 |bl b=>
  cases r';cases q;cases k<;>simp only[tyK]at hT<;>cases hT
  .exact IsiPair.bool_int (h _ I)
  .exact IsiPair.bool_bool (h _ I)
  .exact IsiPair.bool_str (it _)
  .exact IsiPair.bool_list (it _)
  .exact IsiPair.bool_tuple (it _)
 |int i=>
  cases r';obtain⟨t,rfl⟩:=q;cases k<;>simp only[tyK]at hT<;>cases hT
  .exact IsiPair.int_int (h _ I)
  .exact IsiPair.int_bool (it _)
  .exact IsiPair.int_str (it _)
  .exact IsiPair.int_list (it _)
  .exact IsiPair.int_tuple (it _)
 |str x=>
  cases r';obtain⟨t,rfl⟩:=q;cases k<;>simp only[tyK]at hT<;>cases hT
  .exact IsiPair.str_int (it _)
  .exact IsiPair.str_bool (it _)
  .exact IsiPair.str_str (h _ I)
  .exact IsiPair.str_list (it _)
  .exact IsiPair.str_tuple (it _)
 |tup ds=>
  obtain⟨p,xs,rfl,_,sq,rr⟩:=r';obtain⟨its,rv,pt,_⟩:=I.tuple sq;cases q;have pt':s.heap.IsTuple p its.toArray:=pt;cases k<;>simp only[tyK]at hT<;>cases hT
  .exact IsiPair.isTuple_int pt' (λ_ _ e=>e) (it _)
  .exact IsiPair.isTuple_bool pt' (λ_ _ e=>e) (it _)
  .exact IsiPair.isTuple_str pt' (λ_ _ e=>e) (it _)
  .exact IsiPair.isTuple_list pt' (λ_ _ e=>e) (it _)
  .exact IsiPair.isTuple_tuple pt' (λ_ _ e=>e) (h _ I)
 |lst ds=>
  obtain⟨p,xs,rfl,_,sq,rr⟩:=r';obtain⟨its,rv,pl,_⟩:=I.list sq;cases q;have pt':s.heap.IsList p its.toArray:=LU pl;cases k<;>simp only[tyK]at hT<;>cases hT
  .exact IsiPair.isList_int pt' (λ_ _ e=>e) (it _)
  .exact IsiPair.isList_bool pt' (λ_ _ e=>e) (it _)
  .exact IsiPair.isList_str pt' (λ_ _ e=>e) (it _)
  .exact IsiPair.isList_list pt' (λ_ _ e=>e) (h _ I)
  .exact IsiPair.isList_tuple pt' (λ_ _ e=>e) (it _)
theorem iA{k:Ki}(hT:tyK k=Aa T)(p:Bv Rp W H (EV up [k] d) Q):QZ d=Ab/\Bv Rp W H (.ok (.bl (kiD up k d))) Q:=by
 cases k<;>simp only[tyK]at hT<;>cases hT<;>cases d<;>first|exact p.elim|exact⟨rfl,by simpa using p⟩
theorem uJ{k:Ki}{x:Aj}(hT:tyK k=Aa T)(hg:Gl X "isinstance")(hm:X.mg "isinstance" = Af)(hg2:Gl X x)(hm2:X.mg x=Af)(hv:Dv x=Aa (.type T))(hn:x≠"__name__")(hdb:(x==("__debug__" : Aj))=Ad)(ha:ST X CL W a fa)(he:Aw [a,.Name x p2] X.env=(Ad,eval a X.env)::Aw [.Name x p2] X.env):SE X CL W (.Call (.Name "isinstance" p) [a,.Name x p2] [] pos) (λY=>(fa Y).bind λx=>EV up [k] x):=λA=>
 PE.weak (MI (r:=λxs H Q=>∃ y d,xs=[y,.ty T]/\Dp X.K CL H A y d/\QZ d=Ab/\Q (.bl (kiD up k d)) H) (λpI s Z H xs us Q I r ⟨y,d,e,ry,hd,q⟩=>by
   subst e;obtain⟨u,w',rfl,r1,r2⟩:=M7 r;cases r2;exact zK I ry r1 hT hd λs' I'=>⟨.bl _,H,I',rfl,q⟩)
  hg hm GQ (EA (ha A) (EA (Wc (v:=.ty T) hg2 hm2 hv rfl hn hdb) GZ rfl) he) (by decide) (by decide) he rfl) λZ H Q ⟨hA,Y,g,q⟩=>⟨hA,Y,g,Bv.bind q λd v H1 _ s1 r1 p1=>by
   obtain⟨hd,p2⟩:=iA hT p1;exact⟨v,d,rfl,r1,hd,p2 _ H1 (AJ.refl H1) rfl⟩⟩
theorem UY:∀(ds:Ac D)(a z:Ae),Iw a ds=.ok z->(∀ j,j<ds.length->∃ i,ds.getD j .non=.int i)/\z=a+J_4 (λj=>match ds.getD j .non with
  |.int i=>i
  | _=>0) ds.length
 |[],a,z,h=>by cases h;exact⟨λj hj=>absurd hj (Y_2 _),by simp[J_4]⟩
 |.int i::ds,a,z,h=>by
  obtain⟨h1,h2⟩:=UY ds (a+i) z h;refine⟨λj hj=>?_,?_⟩
  .cases j with
   |zero=>exact⟨i,rfl⟩
   |succ j=>exact h1 j (by simpa using hj)
  .have key:∀ n,J_4 (λj=>match (D.int i::ds).getD j .non with | .int i=>i|_=>0) (n+1)=i+J_4 (λj=>match ds.getD j .non with | .int i=>i|_=>0) n:=by
    intro n
    induction n with
    |zero=>show (0:Ae)+i=i+0;omega
    |succ n ih=>
     show J_4 _ (n+1)+(match ds.getD n .non with | .int i=>i|_=>0)=i+(J_4 _ n+(match ds.getD n .non with | .int i=>i|_=>0))
     rw[ih];omega
   rw[h2,BY,key];omega
 |.non::_,_,_,h=>by cases h
 |.bl _::_,_,_,h=>by cases h
 |.str _::_,_,_,h=>by cases h
 |.tup _::_,_,_,h=>by cases h
 |.lst _::_,_,_,h=>by cases h
 |.obj _ _::_,_,_,h=>by cases h
 |.exc _ _::_,_,_,h=>by cases h
 |.dic _::_,_,_,h=>by cases h
theorem Wn{ds:Ac D}{its:Ac Ai}(r:Reps X.K CL H A0 xs ds)(rv:Bq xs its){v:Ai}(h:its.toArray[j]?=Aa v):j<ds.length/\∃ x,Rep X.K CL H A0 x (ds.getD j .non)/\BS x v:=by
 have h':its[j]?=Aa v:=by simpa using h
 obtain⟨hj,e⟩:=Bl.mp h';obtain⟨x,rx,q⟩:=KU r rv hj;have l1:=rv.length;have l2:=r.length
 exact⟨by omega,x,rx,by rw[<-e];exact q⟩
theorem Yg(k:∀ b q,b∉[h.objs.size]->(h.push o).get? b=Aa q->h'.get? b=Aa q):∀ b q,h.get? b=Aa q->h'.get? b=Aa q:=λb q e=>k b q (by
 intro z;have:=BA.mp z;rw[this]at e;exact absurd (AD e) (Bx _)) (As _ e)
theorem VD(hc:X.calm=Ab){ys:Ac V}{es:Ac D}(I:Inv X pI Z H s)(sq:SqL X.K H q ys\/SqT X.K H q ys)(ry:Reps X.K CL H A0 ys es)(p:Bv (λH=>Rep X.K CL H A) W H ((Iw 0 es).bind λb=>.ok (.int b)) Q):Au (model X.prog X.w) X.A (call (.builtin "sum") [.ref q]) (EP X pI Z Q) X.xe s:=by
 cases e1:Iw 0 es with
 |bad=>rw[e1]at p;exact p.elim
 |exn x=>
  exfalso
  have:∀(es:Ac D)(a:Ae) x,Iw a es≠.exn x:=by
   intro es
   induction es with
   |nil=>intro a x h;cases h
   |cons d ds ih=>
    intro a x h;cases d<;>first|exact ih _ _ h|cases h
  exact this es 0 x e1
 |ok z=>
  rw[e1,R.bind_ok]at p;obtain⟨h1,h2⟩:=UY es 0 z e1;rw[Er]at h2;rcases sq with sq|sq
  .obtain⟨its,rvv,pl,_⟩:=I.list sq;have hlt:q<s.heap.objs.size:=by obtain⟨o,n,e,_⟩:=pl;exact AD e
   have hl:its.toArray.size=es.length:=by rw[AU,<-rvv.length,ry.length]
   refine bE (F8 (LU pl) ⟨s.heap.objs.size,_,_,_,_,_,(λj=>match es.getD j .non with | .int i=>i|_=>0),rfl,Walks.list (A:=X.A.in1) (I.ok.hd hc) s.heap.objs.size q (Bk hlt) its.toArray,⟨⟨_,AE _ rfl,rfl,rfl⟩,(LU pl).push _⟩,λb hb=>?_,λj v hv=>?_,λh' tk t' k=>?_⟩)
   .show b<(s.heap.push _).objs.size;rw[BG];rcases Ax.mp hb with rfl|hb
    .exact GA _
    .rw[BA.mp hb];exact DQ hlt
   .obtain⟨hj,x,rx,qx⟩:=Wn ry rvv hv;obtain⟨i,ei⟩:=h1 j hj;rw[ei]at rx;dsimp only;rw[ei];cases rx;exact qx
   .rw[hl,<-h2];exact⟨.int z,H,I.kept (Yg k),⟨_,rfl⟩,p _ H (AJ.refl H) rfl⟩
  .obtain⟨its,rvv,pl,_⟩:=I.tuple sq;have pl':s.heap.IsTuple q its.toArray:=pl;have hlt:q<s.heap.objs.size:=by obtain⟨o,e,_⟩:=pl';exact AD e
   have hl:its.toArray.size=es.length:=by rw[AU,<-rvv.length,ry.length]
   refine bE (Hx pl' ⟨s.heap.objs.size,_,_,_,_,_,(λj=>match es.getD j .non with | .int i=>i|_=>0),rfl,Walks.tuple (A:=X.A.in1) (I.ok.hd hc) s.heap.objs.size q (Bk hlt) its.toArray,⟨⟨_,AE _ rfl,rfl,rfl⟩,pl'.push _⟩,λb hb=>?_,λj v hv=>?_,λh' tk t' k=>?_⟩)
   .show b<(s.heap.push _).objs.size;rw[BG];rcases Ax.mp hb with rfl|hb
    .exact GA _
    .rw[BA.mp hb];exact DQ hlt
   .obtain⟨hj,x,rx,qx⟩:=Wn ry rvv hv;obtain⟨i,ei⟩:=h1 j hj;rw[ei]at rx;dsimp only;rw[ei];cases rx;exact qx
   .rw[hl,<-h2];exact⟨.int z,H,I.kept (Yg k),⟨_,rfl⟩,p _ H (AJ.refl H) rfl⟩
theorem ak(hc:X.calm=Ab):Ni X CL W (.builtin "sum") (biD .sum):=by
  intro A pI s Z H xs us Q I r ⟨hA,ds,rs,p⟩
  match ds,rs,p with
  |[.lst es],rs,p=>
    obtain⟨v,rfl,rv⟩:=rs.one;obtain⟨q,ys,e,_,sq,ry⟩:=rv.plain;subst e;obtain⟨u,rfl,ru⟩:=K2 r;cases ru;exact VD hc I (.inl sq) ry p
  |[.tup es],rs,p=>
    obtain⟨v,rfl,rv⟩:=rs.one;obtain⟨q,ys,e,_,sq,ry⟩:=rv.plain;subst e;obtain⟨u,rfl,ru⟩:=K2 r;cases ru;exact VD hc I (.inr sq) ry p
  |[],_,p=>exact p.elim
  |[.non],_,p=>exact p.elim
  |[.bl _],_,p=>exact p.elim
  |[.int _],_,p=>exact p.elim
  |[.str _],_,p=>exact p.elim
  |[.obj _ _],_,p=>exact p.elim
  |[.exc _ _],_,p=>exact p.elim
  |[.dic _],_,p=>exact p.elim
  |x::_::_,_,p=>cases x<;>exact p.elim
end
section
variable(K:Fg)(CL:ClA)
def bU(H0:Hp)(A:Al->Prop)(H:Hp)(v:V)(d:D):Prop:=∀ ds,d=.lst ds->∃ a xs,v=.ref a/\H0 a=Af/\H a=Aa (.lst xs)/\Reps K CL H (λb=>A b\/b=a) xs ds
def D4(fr:Ak)(H0:Hp)(A:Al->Prop)(H:Hp)(v:V)(d:D):Prop:=Rep K CL H A v d/\(fr=Ab->bU K CL H0 A H v d)
end
section
variable{X:Cx}{CL:ClA}{W:XW}{a b c:An}{fa fb fc:Rho->R D}{pos:AL}
def SC(X:Cx)(CL:ClA)(W:XW)(fr:Ak)(e:An)(f:Rho->R D):Prop:=∀ A,PE X e (λZ H Q=>AOk H A/\∃ Y,Good X.K CL A Y Z H/\Bv (D4 X.K CL fr H A) W H (f Y) Q)
theorem SC.se{fr:Ak}(h:SC X CL W fr a fa):SE X CL W a fa:=λA=>PE.weak (h A) λZ H Q ⟨hA,Y,g,p⟩=>⟨hA,Y,g,by
 cases e:fa Y with
 |ok d=>rw[e]at p;exact λv H' s r=>p v H' s r.1
 |exn x=>rw[e]at p;exact p
 | bad=>rw[e]at p;exact p⟩
theorem SE.sc(h:SE X CL W a fa):SC X CL W Ad a fa:=λA=>PE.weak (h A) λZ H Q ⟨hA,Y,g,p⟩=>⟨hA,Y,g,by
 cases e:fa Y with
 |ok d=>rw[e]at p;exact λv H' s r=>p v H' s ⟨r,λz=>nomatch z⟩
 |exn x=>rw[e]at p;exact p
 | bad=>rw[e]at p;exact p⟩
theorem SC.congr{fr:Ak}{f g:Rho->R D}(h:SC X CL W fr a f)(e:∀ Y,g Y=f Y):SC X CL W fr a g:=λA=>PE.weak (h A) λZ H Q ⟨hA,Y,q,p⟩=>⟨hA,Y,q,by rw[<-e];exact p⟩
theorem LA{p:Al}{ds:Ac D}(s:AJ H0 H)(hA:AOk H A)(hp:H p=Af)(r:Reps K CL H A xs ds):D4 K CL Ab H0 A (upd H p (.lst xs)) (.ref p) (.lst ds):=
 ⟨Wl hA hp r,λ_ ds' e=>by
  cases e;exact⟨p,xs,rfl,s.free hp,FW,(Reps.wide (λa ha=>ha.imp id λe=>by rw[e];exact hp) _ r).same (GB hp _)⟩⟩
theorem Vz{fr:Ak}(r:Rep K CL H A v d)(h:∀ ds,d≠.lst ds):D4 K CL fr H0 A H v d:=⟨r,λ_ ds e=>absurd e (h ds)⟩
theorem Q2(hs:SA X CL W es fs)(hz:∀ Y ds,fs Y=.ok ds->ds.length<=100000):SC X CL W Ab (.List es pos) (λY=>(fs Y).bind λxs=>.ok (.lst xs)):=
 λA=>PE.weak (wW (hs A)) λZ H Q ⟨hA,Y,g,p⟩=>⟨hA,Y,g,Ir.bind p λds vs H1 e s1 r1 p1=>⟨by
  rw[r1.length,Dx];have:=hz Y ds e;omega,λq hq=>p1 _ _ (GB hq _) (LA s1 (hA.same s1) hq r1)⟩⟩
theorem Bv.bindF{fr:Ak}{f:D->R D}{Q':VK}(h:Bv (D4 K CL fr H A) W H (r.bind f) Q)(k:∀ d v H',r=.ok d->AJ H H'->Rp H' v d->Bv (D4 K CL fr H A) W H' (f d) Q->Q' v H'):Bv Rp W H r Q':=by
 cases r with
 |ok d=>exact λv H2 s2 q=>k d v H2 rfl s2 q (Bv.same s2 h)
 |exn x=>exact h
 |bad=>exact h
theorem Ir.bindF{Rp:Hp->Ac V->Ac D->Prop}{r:R (Ac D)}{f:Ac D->R D}{Q':Ac V->Hp->Prop}(h:Bv Rq W H (r.bind f) Q)(k:∀ d v H',r=.ok d->AJ H H'->Rp H' v d->Bv Rq W H' (f d) Q->Q' v H'):Ir Rp W H r Q':=by
 cases r with
 |ok d=>exact λv H2 s2 q=>k d v H2 rfl s2 q (Bv.same s2 h)
 |exn x=>exact h
 |bad=>exact h
theorem K5.bindF{r:R (Ao Ae)}{f:Ao Ae->R D}(h:Bv Rq W H (r.bind f) Q)(k:∀ o H',r=.ok o->AJ H H'->Bv Rq W H' (f o) Q->Q' o H'):K5 W H r Q':=by
 cases r with
 |ok d=>exact λH2 s2=>k d H2 rfl s2 (Bv.same s2 h)
 |exn x=>exact h
 |bad=>exact h
theorem bp{lo hi:Ao An}{fl fh:Rho->R (Ao Ae)}(ha:ST X CL W a fa)(hl:SO X CL W lo fl)(hh:SO X CL W hi fh):SC X CL W Ab (.Subscript a (.Slice lo hi Af p2) pos) (λY=>(fa Y).bind λx=>(fl Y).bind λl=>(fh Y).bind λh=>slD x l h):=
 λA=>PE.weak (lF (r:=λx l h H Q=>SR X.K x l h H Q\/SQ X.K x l h H Q) (λpI s Z H x v vl vu lo hi sl Q I rx hs pl pu h=>h.elim (mE pI s Z H x v vl vu lo hi sl Q I rx hs pl pu) (vF pI s Z H x v vl vu lo hi sl Q I rx hs pl pu)) (ha A) (hl A) (hh A)) λZ H Q ⟨hA,Y,g,p⟩=>⟨hA,Y,g,Bv.bindF p λdx x H1 _ s1 r1 p1=>⟨hA.same s1,Y,g.same s1,K5.bindF p1 λl H2 _ s2 p2=>⟨(hA.same s1).same s2,Y,(g.same s1).same s2,K5.bindF p2 λh H3 _ s3 p3=>by
  cases dx with
  |lst ds=>
   obtain⟨q,xs,rfl,sq,r⟩:=((r1.same s2).same s3).lst_of;exact .inl ⟨q,xs,rfl,sq,λt ht=>p3 _ _ (GB ht _) (LA ((s1.trans s2).trans s3) (((hA.same s1).same s2).same s3) ht (VW l h r))⟩
  |tup ds=>
   obtain⟨q,xs,rfl,_,sq,r⟩:=((r1.same s2).same s3).tup_of;rw[dN]at p3;split at p3
   .exact p3.elim
   .rename_i hw;refine .inr ⟨q,xs,rfl,sq,?_,λt ht=>p3 _ _ (GB ht _) (Vz (LI (((hA.same s1).same s2).same s3) ht (VW l h r)) (by intro _ z;cases z))⟩
    rintro⟨h1,h2⟩;refine hw ?_;have e:∀ d o,HT.sIx xs.length d o=Hj ds.length d o:=λd o=>by rw[r.length];cases o<;>rfl
    rw[e]at h1 h2;rw[r.length]at h2;simp[h1,h2]
  | _=>exact p3.elim⟩⟩⟩
noncomputable def OpN(X:Cx)(CL:ClA)(W:XW)(f:Ai->Ai->Hc Ai)(g:D->D->R D):Prop:=
 ∀ A H0,OpR X f (λx y H Q=>AJ H0 H/\AOk H A/\∃ dx dy,Dp X.K CL H A x dx/\Dp X.K CL H A y dy/\Bv (D4 X.K CL Ab H0 A) W H (g dx dy) Q)
theorem oJ:OpN X CL W (CA .Add) (DJ .Add):=by
 intro A H0 pI s Z H x y v u Q I rx ry ⟨s0,hA,dx,dy,hx,hy,p⟩;have key:(∀ ds,dx≠.lst ds)->EP X pI Z Q=EP X pI Z Q->Au (model X.prog X.w) X.A (CA .Add v u) (EP X pI Z Q) X.xe s:=λhd _=>by
  refine Wf (W:=W) A pI s Z H x y v u Q I rx ry ⟨hA,dx,dy,hx,hy,?_⟩;cases e:DJ .Add dx dy with
  |bad=>rw[e]at p;exact p
  |exn x=>rw[e]at p;exact p
  |ok d=>
   rw[e]at p;refine λv' H' s' r'=>p v' H' s' (Vz r' λds z=>?_)
   subst z;cases dx with
   |lst ds=>exact hd _ rfl
   |tup xs=>
    cases dy with
    |tup ys=>rw[Xm]at e;split at e<;>cases e
    |_=>cases e
   |str xs=>
    cases dy with
    |str ys=>rw[Xn]at e;split at e<;>cases e
    |_=>cases e
   |int i=>cases dy<;>cases e
   |_=>cases e
 cases dx with
 |lst ds=>
  cases dy with
  |lst es=>
   obtain⟨a,xs,rfl,s1,r1⟩:=hx.lst_of;obtain⟨b,ys,rfl,s2,r2⟩:=hy.lst_of;simp only[Xo]at p;split at p
   .rename_i h;refine Wg pI s Z H _ _ v u Q I rx ry ⟨a,b,xs,ys,rfl,rfl,s1,s2,by rw[r1.length,r2.length];exact KH h,λq hq=>?_⟩
    exact p _ _ (GB hq _) (LA s0 hA hq (r1.append r2))
   .exact p.elim
  |_=>exact p.elim
 |_=>exact key (by intro _ z;cases z) rfl
theorem vE(ha:ST X CL W a fa)(hb:ST X CL W b fb):SC X CL W Ab (.BinOp a .Add b pos) (λY=>(fa Y).bind λx=>(fb Y).bind λy=>DJ .Add x y):=
 λA pI s Z H Q I h=>by
  obtain⟨hA,Y,g,p⟩:=h;exact XJ (oJ (W:=W) A H) (ha A) (hb A) pI s Z H Q I ⟨hA,Y,g,Bv.bindF p λdx x H1 _ s1 r1 p1=>⟨hA.same s1,Y,g.same s1,Bv.bind (Rq:=D4 X.K CL Ab H A) p1 λdy y H2 _ s2 r2 p2=>⟨s1.trans s2,(hA.same s1).same s2,dx,dy,r1.same s2,r2,p2⟩⟩⟩
def Ym(X:Cx)(CL:ClA)(W:XW)(f:Ai)(g:Ac D->R D):Prop:=∀ A H0,Kg X f (λxs H Q=>AJ H0 H/\AOk H A/\∃ ds,Hh X.K CL H A xs ds/\Bv (D4 X.K CL Ab H0 A) W H (g ds) Q)
theorem qZ:Ym X CL W (.type "list") (biD .list):=by
  intro A H0 pI s Z H xs us Q I r ⟨s0,hA,ds,rs,p⟩
  match ds,rs,p with
  |[.lst es],rs,p=>
    obtain⟨v,rfl,rv⟩:=rs.one;obtain⟨q,ys,rfl,sq,ry⟩:=rv.lst_of;exact TD pI s Z H _ us Q I r ⟨q,ys,rfl,.inl sq,λl hl=>p _ _ (GB hl _) (LA s0 hA hl ry)⟩
  |[.tup es],rs,p=>
    obtain⟨v,rfl,rv⟩:=rs.one;obtain⟨q,ys,rfl,_,sq,ry⟩:=rv.tup_of;exact TD pI s Z H _ us Q I r ⟨q,ys,rfl,.inr sq,λl hl=>p _ _ (GB hl _) (LA s0 hA hl ry)⟩
  |[],_,p=>exact p.elim
  |[.non],_,p=>exact p.elim
  |[.bl _],_,p=>exact p.elim
  |[.int _],_,p=>exact p.elim
  |[.str _],_,p=>exact p.elim
  |[.obj _ _],_,p=>exact p.elim
  |[.exc _ _],_,p=>exact p.elim
  |[.dic _],_,p=>exact p.elim
  |x::_::_,_,p=>cases x<;>exact p.elim
theorem vD{x:Aj}{g:Ac D->R D}(hc:Ym X CL W (.type T) g)(hg:Gl X x)(hm:X.mg x=Af)(hv:Dv x=Aa (.type T))(ha:SAT X CL W (e::es) fs)(hn:x≠"__name__")(hdb:(x==("__debug__" : Aj))=Ad)(he:Aw (e::es) X.env=(Ad,eval e X.env)::Aw es X.env)(hpl:∀ pos,(Cj pos (Aw es X.env)).any (·.1)=Ad):SC X CL W Ab (.Call (.Name x p) (e::es) [] pos) (λY=>(fs Y).bind g):=λA pI s Z H Q I ⟨hA,Y,gd,q⟩=>
 Uy (hc A H) hg hm hv (ha A) hn hdb he (hpl _) pI s Z H Q I ⟨hA,Y,gd,Ir.bindF q λds vs H1 _ s1 r1 p1=>⟨s1,hA.same s1,ds,r1,p1⟩⟩
mutual
theorem RS{K:Fg}{H:Hp}{A:Al->Prop}(hA:AOk H A):∀(n:Ag)(d:D){v:V},nlD n d=Ab->Rep K CL H A0 v d->Rep K CL H A v d
 |_,.non,_,_,h=>h
 |_,.bl _,_,_,h=>h
 |_,.int _,_,_,h=>h
 |_,.str _,_,_,h=>h
 |0,.tup _,_,hn,_=>by cases hn
 |n+1,.tup ds,_,hn,h=>by
  obtain⟨a,xs,e,_,s,r⟩:=h;refine⟨a,xs,e,?_,s,nls_up hA n ds hn r⟩;rcases s with s|s
  .refine .inl λz=>?_
   obtain⟨ys,q⟩:=hA a z;rcases s with s|⟨o,s⟩<;>rw[q]at s<;>cases s
  .exact .inr s
 |n,.lst _,_,hn,_=>by cases n<;>cases hn
 |n,.obj _ _,_,hn,_=>by cases n<;>cases hn
 |n,.exc _ _,_,hn,_=>by cases n<;>cases hn
 |n,.dic _,_,hn,_=>by cases n<;>cases hn
theorem nls_up{K:Fg}{H:Hp}{A:Al->Prop}(hA:AOk H A):∀(n:Ag)(ds:Ac D){vs:Ac V},ds.all (nlD n)=Ab->Reps K CL H A0 vs ds->Reps K CL H A vs ds
 |_,[],[],_,h=>h
 |n,d::ds,_::_,hn,h=>by
  simp only[Gs,Am]at hn;exact⟨RS hA n d hn.1 h.1,nls_up hA n ds hn.2 h.2⟩
 |_,[],_::_,_,h=>h.elim
 |_,_::_,[],_,h=>h.elim
end
theorem Rb{fr:Ak}(hA0:AOk H0 A)(s:AJ H0 H)(hc:Gi fr d=Ab)(r:D4 K CL fr H0 A0 H v d):D4 K CL fr H0 A H v d:=by
 have hA:=hA0.same s;cases d with
 |lst ds=>
  have hc':(fr&&ds.all (nlD 5))=Ab:=hc;rw[Am]at hc';obtain⟨a,xs,e,h0,h1,rs⟩:=r.2 hc'.1 ds rfl;have hA2:AOk H (λb=>A b\/b=a):=λb hb=>hb.elim (hA b) λe=>by rw[e];exact⟨xs,h1⟩
  have rs':=nls_up hA2 5 ds hc'.2 (Reps.sub (λ_ z=>z.elim) _ rs)
  refine⟨⟨a,xs,e,.inl (hA0.new h0),SqL.of h1,Reps.sub (λ_ z=>.inl z) _ rs'⟩,λ_ ds' e'=>?_⟩
  cases e';exact⟨a,xs,e,h0,h1,rs'⟩
 |_=>exact⟨RS hA 5 _ hc r.1,λ_ _ z=>nomatch z⟩
def spD(K:Fg)(CL:ClA)(n:Ag)(fr:Ak)(F:Ac D->R D):Sp:=λvs H Q E=>∃(ds:Ac D)(A:Al->Prop),vs.length=n/\AOk H A/\Reps K CL H A vs ds/\(match F ds with
  |.ok d=>∀ v H',AJ H H'->D4 K CL fr H A H' v d->Q v H'
  |.exn x=>∀ cls dx H',AJ H H'->GE K CL H' cls dx x->E cls dx H'
  | .bad=>A3)
def EKW(K:Fg)(CL:ClA)(A:Al->Prop)(W:XW):XK:=λcls dx H'=>∃ x,GE K CL H' cls dx x/\W x H'
theorem Hh.plain{K:Fg}{H:Hp}{A:Al->Prop}:∀{vs:Ac V}{ds:Ac D},Hh K CL H A vs ds->Reps K CL H A0 vs ds
 |[],[],h=>trivial
 |_::_,_::_,h=>⟨h.1.plain,Hh.plain h.2⟩
 |[],_::_,h=>h.elim
 |_::_,[],h=>h.elim
theorem pY{CX:CXT}{fr:Ak}{f:Al}{fd:B9}{ps:Ac Aj}{F:Ac D->R D}{x:Aj}{ft:Rho->R (Ac D)}{sh:Rho->Ak}(G:FnOk X.prog X.w X.K X.mg X.base CX k f fd ps (spD X.K CL n fr F))(hr:Room k X.A)(hg:Gl X x)(hm:X.mg x=Aa (.ref f))(hk:Co X.K (.ref f)=Ab)(hb:Ge X.K fd ps [])(hx:∀ A,LW CX X (EKW X.K CL A W))(ha:SA X CL W (e::es) fs)(hat:SAT X CL W (e::es) ft)(hst:∀ Y,sh Y=Ab->ft Y=fs Y)(hn:∀ Y ds,ft Y=.ok ds->ds.length=n)(hdb:(x==("__debug__" : Aj))=Ad)(he:Aw (e::es) X.env=(Ad,eval e X.env)::Aw es X.env)(hpl:∀ pos,(Cj pos (Aw es X.env)).any (·.1)=Ad):SC X CL W fr (.Call (.Name x p) (e::es) [] pos) (λY=>(ft Y).bind λds=>(F ds).bind λd=>if sh Y=Ab then .ok d else if Gi fr d=Ab then .ok d else .bad):=λA pI s Z H Q I ⟨hA,Y,gd,q⟩=>by
 dsimp only at q;by_cases hs:sh Y=Ab
 .rw[hst Y hs]at q;refine Wb G hr hg hm hk hb .nil (hx A) (ha A) hdb he (hpl _) pI s Z H Q I ⟨hA,Y,gd,?_⟩;cases e1:fs Y with
  |bad=>rw[e1]at q;exact q
  |exn y=>rw[e1]at q;exact q
  |ok ds=>
   rw[e1]at q;intro vs H1 s1 r1;refine⟨ds,A,by rw[CT,r1.length];exact hn Y ds (by rw[hst Y hs];exact e1),hA.same s1,by rw[CT];exact r1,?_⟩
   have q':Bv (D4 X.K CL fr H A) W H ((F ds).bind λd=>if sh Y=Ab then .ok d else if Gi fr d=Ab then .ok d else .bad) Q:=q
   cases e2:F ds with
   |ok d=>
    rw[e2,R.bind_ok,Az hs]at q';exact λv H2 s2 r2=>q' v H2 (s1.trans s2) ⟨r2.1,λz ds' e'=>let ⟨a,xs,z1,z2,z3⟩:=r2.2 z ds' e';⟨a,xs,z1,s1.free z2,z3⟩⟩
   |exn y=>rw[e2]at q';exact λcls dx H2 s2 xr=>⟨y,xr,q' H2 (s1.trans s2)⟩
   |bad=>rw[e2]at q';exact q'.elim
 .refine Wb G hr hg hm hk hb .nil (hx A0) (hat A) hdb he (hpl _) pI s Z H Q I ⟨hA,Y,gd,?_⟩;cases e1:ft Y with
  |bad=>rw[e1]at q;exact q
  |exn y=>rw[e1]at q;exact q
  |ok ds=>
   rw[e1]at q;intro vs H1 s1 r1;refine⟨ds,A0,by rw[CT,r1.plain.length];exact hn Y ds e1,λ_ z=>z.elim,by rw[CT];exact r1.plain,?_⟩
   have q':Bv (D4 X.K CL fr H A) W H ((F ds).bind λd=>if sh Y=Ab then .ok d else if Gi fr d=Ab then .ok d else .bad) Q:=q
   cases e2:F ds with
   |ok d=>
    rw[e2,R.bind_ok,AK hs]at q';split at q'
    .rename_i hc;exact λv H2 s2 r2=>q' v H2 (s1.trans s2) (Rb hA (s1.trans s2) hc ⟨r2.1,λz ds' e'=>let ⟨a,xs,z1,z2,z3⟩:=r2.2 z ds' e';⟨a,xs,z1,s1.free z2,z3⟩⟩)
    .exact q'.elim
   |exn y=>rw[e2]at q';exact λcls dx H2 s2 xr=>⟨y,xr,q' H2 (s1.trans s2)⟩
   |bad=>rw[e2]at q';exact q'.elim
end
theorem PQ(env:CI):∀(ns:Ac (Aj×Ey))(acc:Ac (Aj×Al)),(∀ x∈ns,x.2=.free->∃ c,env.cells.lookup x.1=Aa c)->(∀ x c,acc.lookup x=Aa c->env.cells.lookup x=Aa c) ->
  ∃ cl,(forIn ns acc fun(x:Aj×Ey)(cs:Ac (Aj×Al))=>(if (x.2==.free)=Ab then do let c <-cellOf env x.1;pure (EM ((x.1,c)::cs)) else pure (EM cs):Hc (ForInStep (Ac (Aj×Al)))))=pure cl /\
   (∀ x c,cl.lookup x=Aa c->env.cells.lookup x=Aa c)/\(∀ x,((x,Ed)∈ns\/∃ c,acc.lookup x=Aa c)->∃ c,cl.lookup x=Aa c)
 |[],acc,_,h2=>⟨acc,by rw[DX],h2,λx hx=>hx.elim (λz=>nomatch z) id⟩
 |(n,k)::r,acc,h1,h2=>by
  rw[D9];by_cases hk:k=.free
  .subst hk;obtain⟨c,hc⟩:=h1 (n,.free) AX rfl;obtain⟨cl,e,p,q⟩:=PQ env r ((n,c)::acc) (λx hx=>h1 x (AN _ hx)) (λx d hd=>by
    rw[BZ]at hd;split at hd
    .rename_i hx;cases hd;rw[eq_of_beq hx];exact hc
    .exact h2 x d hd)
   refine⟨cl,?_,p,λx hx=>q x ?_⟩
   .have e1:cellOf env n=pure c:=by unfold cellOf;dsimp only at hc;rw[hc]
    rw[Az (by rfl),e1]
    exact e
   .rcases hx with hx|⟨d,hd⟩
    .rcases Ax.mp hx with z|z
     .cases z;exact .inr ⟨c,by simp[BZ]⟩
     .exact .inl z
    .by_cases hxn:x=n
     .exact .inr ⟨c,by subst hxn;simp[BZ]⟩
     .exact .inr ⟨d,by rw[BZ];rw[DW.mpr hxn];exact hd⟩
  .obtain⟨cl,e,p,q⟩:=PQ env r acc (λx hx=>h1 x (AN _ hx)) h2
   refine⟨cl,?_,p,λx hx=>q x ?_⟩
   .rw[AK (by simpa using hk)]
    exact e
   .rcases hx with hx|hx
    .rcases Ax.mp hx with z|z
     .cases z;exact absurd rfl hk
     .exact .inl z
    .exact .inr hx
theorem T7(h:∀ x∈scope.names,x.2=.free->∃ c,env.cells.lookup x.1=Aa c):∃ cl,closureFor scope env=pure cl/\(∀ x c,cl.lookup x=Aa c->env.cells.lookup x=Aa c)/\∀ x,(x,Ed)∈scope.names->∃ c,cl.lookup x=Aa c:=by
 obtain⟨cl,e,p,q⟩:=PQ env scope.names [] h (λx c z=>by simp at z)
 refine⟨cl,?_,p,λx hx=>q x (.inl hx)⟩
 unfold closureFor
 first
  |exact e
  |(simp only[bind_pure];exact e)
  |(rw[show (forIn scope.names ([]:Ac (Aj×Al)) _:Hc _)=pure cl from e];rfl)
theorem P9:∀(names:Ac (Aj×Ey))(h:AB)(acc:Ac (Aj×Al))(x:Aj)(c:Al),(De h.objs.size names acc).lookup x=Aa c->acc.lookup x=Aa c\/((x,Cf)∈names/\h.objs.size<=c/\(Hw h names).IsCell c Af)
 |[],_,_,_,_,e=>.inl e
 |(n,k)::r,h,acc,x,c,e=>by
  unfold De at e;unfold Hw;by_cases hk:(k==Cf)=Ab
  .rw[Az hk]at e ⊢;have hs:h.objs.size+1=(h.push { cls:=.type "cell",data:=.cell Af }).objs.size:=(BG ..).symm;rw[hs]at e;rcases P9 r _ _ x c e with q|⟨q1,q2,q3⟩
   .rw[BZ]at q;cases hx:x==n with
    |true=>
     rw[hx]at q;cases q;refine .inr ⟨?_,A5 _,?_⟩
     .rw[eq_of_beq hx,eq_of_beq hk];exact AX
     .exact⟨_,II r _ _ _ (AE _ rfl),rfl⟩
    |false=>rw[hx]at q;exact .inl q
   .exact .inr ⟨AN _ q1,by omega,q3⟩
  .rw[AK hk]at e ⊢;rcases P9 r h acc x c e with q|⟨q1,q2,q3⟩
   .exact .inl q
   .exact .inr ⟨AN _ q1,q2,q3⟩
theorem Qa:∀(names:Ac (Aj×Ey))(h:AB)(acc:Ac (Aj×Al)),(∀ x y c,acc.lookup x=Aa c->acc.lookup y=Aa c->x=y)->(∀ x c,acc.lookup x=Aa c->c<h.objs.size)->∀ x y c,(De h.objs.size names acc).lookup x=Aa c->(De h.objs.size names acc).lookup y=Aa c->x=y
 |[],_,_,i,_,x,y,c,e1,e2=>i x y c e1 e2
 |(n,k)::r,h,acc,i,b,x,y,c,e1,e2=>by
  unfold De at e1 e2;by_cases hk:(k==Cf)=Ab
  .rw[Az hk]at e1 e2;have hs:h.objs.size+1=(h.push { cls:=.type "cell",data:=.cell Af }).objs.size:=(BG ..).symm;rw[hs]at e1 e2;have look:∀ z d,Gk z ((n,h.objs.size)::acc)=Aa d->(z=n/\d=h.objs.size)\/(z≠n/\acc.lookup z=Aa d):=λz d q=>by
    rw[BZ]at q;cases hx:z==n with
    |true=>rw[hx]at q;cases q;exact .inl ⟨eq_of_beq hx,rfl⟩
    |false=>rw[hx]at q;exact .inr ⟨λe=>by rw[e]at hx;simp at hx,q⟩
   refine Qa r _ _ (λz z' d q q'=>?_) (λz d q=>?_) x y c e1 e2
   .rcases look z d q with ⟨rfl,q1⟩|⟨_,q1⟩<;>rcases look z' d q' with ⟨rfl,q2⟩|⟨_,q2⟩
    .rfl
    .exact absurd (b _ _ q2) (by rw[q1];exact Bx _)
    .exact absurd (b _ _ q1) (by rw[q2];exact Bx _)
    .exact i _ _ _ q1 q2
   .rw[<-hs];rcases look z d q with ⟨_,q1⟩|⟨_,q1⟩
    .rw[q1];exact GA _
    .exact DQ (b _ _ q1)
  .rw[AK hk]at e1 e2;exact Qa r h acc i b x y c e1 e2
theorem PR:∀(names:Ac (Aj×Ey))(n:Ag)(acc:Ac (Aj×Al))(x:Aj),(x,Cf)∉names->(De n names acc).lookup x=acc.lookup x
 |[],_,_,_,_=>rfl
 |(m,k)::r,n,acc,x,hx=>by
  unfold De;have hr:(x,Cf)∉r:=λz=>hx (AN _ z)
  by_cases hk:(k==Cf)=Ab
  .rw[Az hk,PR r _ _ x hr,BZ];cases q:x==m with
   |true=>exact absurd (by rw[eq_of_beq q,eq_of_beq hk];exact AX) hx
   |false=>rfl
  .rw[AK hk];exact PR r n acc x hr
theorem Qb(n0:Ag):∀(names:Ac (Aj×Ey))(n:Ag)(acc:Ac (Aj×Al))(x:Aj),n0<=n->((x,Cf)∈names\/∃ c,acc.lookup x=Aa c/\n0<=c)->∃ c,(De n names acc).lookup x=Aa c/\n0<=c
 |[],_,_,_,_,h=>h.elim (λz=>nomatch z) id
 |(m,k)::r,n,acc,x,hn,h=>by
  unfold De;by_cases hk:(k==Cf)=Ab
  .rw[Az hk];refine Qb n0 r _ _ x (by omega) ?_
   by_cases hx:(x==m)=Ab
   .exact .inr ⟨n,by rw[BZ,hx],hn⟩
   .rcases h with h|⟨c,h,hc⟩
    .rcases Ax.mp h with z|z
     .cases z;simp at hx
     .exact .inl z
    .exact .inr ⟨c,by rw[BZ];simp only[hx];exact h,hc⟩
  .rw[AK hk];refine Qb n0 r _ _ x hn (h.imp (λh=>?_) id)
   rcases Ax.mp h with z|z
   .cases z;simp at hk
   .exact z
theorem eS{M:Hn}{A:A6}{E:Vq}{globals:Al}{qual:Aj}{Q:CI->Ar->Prop}(hQ:Q (newEnv scope s.heap.objs.size globals (De (s.heap.objs.size+1) scope.names cl) qual Af .none (Aa env) Jo) { s with heap:=Hw (s.heap.push { cls:=.type "dict",data:=.dict #[] }) scope.names }):Au M A (Ji scope globals cl [] qual Af .none (Aa env)) Q E s:=by
 simp only[Ji,Option.isSome_some,Fe];refine Ah (wpAny_alloc ?_);refine Ah (wpAny_layCells _ (λname kind cells=>by cases hkc:kind==Cf<;>simp[hkc]) _ _ _ _ ?_)
 rw[show ({ s with heap:=s.heap.push { cls:=.type "dict",data:=.dict #[] } }:Ar).heap.objs.size=s.heap.objs.size+1 from BG ..]
 rw[DX];exact Ah (Av (Av hQ))
noncomputable def cxC(X:Cx)(scope:Cv)(cl:Ac (Aj×Al))(C:Al)(N':Ac Aj)(s₀:Ar)(H₀:Hp)(fp:Ac Al):Cx where
 prog:=X.prog
 w:=X.w
 K:=X.K
 mg:=X.mg
 base:=X.base
 A:=X.A
 N:=N'
 s₀:=s₀
 H₀:=H₀
 env:=compEnvC scope cl C X.env
 outer:=X.stack
 stack:=X.stack
 ex:=fp
 fn:=λx=>scope.names.lookup x==Aa Cf
 calm:=X.calm
 pn:=[]
 xe:=λ_ _=>A3
theorem Nt{env:CI}:∀{names:Ac (Aj×Ey)}{x:Aj}{k:Ey},(names.map λ(n,k)=>if (k==Ed&&env.scope.kind==.function&&env.kindOf n==Aa .cell) then (n,Cf) else (n,k)).lookup x=Aa k->names.lookup x=Aa k\/(k=.cell/\names.lookup x=Aa .free)
 |[],_,_,h=>by simp at h
 |(n,j)::r,x,k,h=>by
  have ih:=@Nt env r x k;have h':Gk x ((if (j==Ed&&env.scope.kind==.function&&env.kindOf n==Aa .cell)=Ab then (n,Cf) else (n,j))::(r.map λ(n,k)=>if (k==Ed&&env.scope.kind==.function&&env.kindOf n==Aa .cell) then (n,Cf) else (n,k)))=Aa k:=h
  by_cases hc:(j==Ed&&env.scope.kind==.function&&env.kindOf n==Aa .cell)=Ab
  .rw[Az hc]at h';rw[BZ]at h' ⊢;cases hx:x==n with
   |true=>
    rw[hx]at h';cases h';simp only[Am]at hc;exact .inr ⟨rfl,by rw[eq_of_beq hc.1.1]⟩
   |false=>rw[hx]at h';exact ih h'
  .rw[AK hc]at h';rw[BZ]at h' ⊢;cases hx:x==n with
   |true=>rw[hx]at h';exact .inl h'
   |false=>rw[hx]at h';exact ih h'
structure BlockOk (X:Cx) (scope:Cv) (N':Ac Aj) (ts:Ac Ag):Prop where
 kind:scope.kind=.function
 uniq:∀ y∈scope.names,scope.names.lookup y.1=Aa y.2
 names:∀ y∈scope.names,y.2=.local->scope.names.lookup y.1=Aa .local
 free:∀ y∈scope.names,y.2=.free->X.env.scope.names.lookup y.1=Aa .cell\/X.env.scope.names.lookup y.1=Aa .free
 len:N'.length=X.N.length
 same:∀ i x,N'[i]?=Aa x->scope.names.lookup x=Aa .free->i∉ts->X.N[i]?=Aa x
 loc:∀ i x,N'[i]?=Aa x->(scope.names.lookup x=Aa .local\/scope.names.lookup x=Aa .cell)->i∈ts
structure BCells (X:Cx) (scope:Cv) (cl:Ac (Aj×Al)) (C:Al) (h:AB):Prop where
 own:∀ x c,cl.lookup x=Aa c->X.env.cells.lookup x=Aa c\/(scope.names.lookup x=Aa .cell/\C<c/\h.IsCell c Af)
 inj:∀ x y c,cl.lookup x=Aa c->cl.lookup y=Aa c->x=y
 has:∀ x,scope.names.lookup x=Aa .cell->∃ c,cl.lookup x=Aa c/\C<c
 fr:∀ x,(x,Ed)∈scope.names->∃ c,cl.lookup x=Aa c/\X.env.cells.lookup x=Aa c
section
variable{X:Cx}{pI:Pn}{Z:L2.St}{H:Hp}{s:Ar}
noncomputable def hideT(ts:Ac Ag)(Z:L2.St):L2.St:=ts.foldl (λZ t=>Z.set t Af) Z
theorem P6:∀(ts:Ac Ag)(Z:L2.St),(hideT ts Z).length=Z.length
 |[],_=>rfl
 |t::ts,Z=>by show (hideT ts (Z.set t Af)).length=_;rw[P6 ts,Bc]
theorem UE:∀(ts:Ac Ag)(Z:L2.St){i:Ag}{v:V},(hideT ts Z)[i]?=Aa (Aa v)->Z[i]?=Aa (Aa v)/\i∉ts
 |[],_,_,_,h=>⟨h,by simp⟩
 |t::ts,Z,i,v,h=>by
  obtain⟨h1,h2⟩:=UE ts (Z.set t Af) (i:=i) (v:=v) h;by_cases e:t=i
  .subst e;have:=Hg h1;cases this
  .rw[CK e]at h1;exact⟨h1,by simp only[Ax,Ei];exact⟨λz=>e z.symm,h2⟩⟩
theorem fG{tk:Ag}{C:Al}{m:Aj->Ao Ai}(I:Inv X pI Z H s)(B:BlockOk X scope N' ts)(hf:∀ b∈fp,Hm X pI H b)(hfo:∀ b∈fp,b<s.heap.objs.size)(hb:BCells X scope cl C h')(hk:∀ b o,s.heap.get? b=Aa o->h'.get? b=Aa o)(hC:s.heap.objs.size<=C)(hn:h'.Ns C m):Inv (cxC X scope cl C N' s H fp) [] (hideT ts Z) H {s with heap:=h',toks:=tk}:=by
 have stf:∀ b∈fp,b∉frs X.stack:=λb hb z=>by
  rcases Ax.mp (I.stkSub b z) with e|e
  .exact(hf b hb).2.1 e
  .exact(hf b hb).2.2.1 e
 have frOf:∀ x,((relabel scope X.env).names.lookup x=Aa .cell\/(relabel scope X.env).names.lookup x=Aa .free)->scope.names.lookup x=Aa .free\/scope.names.lookup x=Aa .cell:=λx hx=>by
  rcases hx with z|z
  .rcases Nt z with z|⟨_,z⟩
   .exact .inr z
   .exact .inl z
  .rcases Nt z with z|⟨z,_⟩
   .exact .inl z
   .cases z
 have gtC:∀ c:Al,C<c->s.heap.objs.size<=c:=λc z=>Ci hC (E5 z)
 have cellK:∀ c v,s.heap.IsCell c v->h'.IsCell c v:=λc v ⟨o,ho,hd⟩=>⟨o,hk _ _ ho,hd⟩
 refine⟨⟨I.ok.mod,B.kind,I.ok.glob,I.ok.blt,hC,hb.inj,λx hx=>?_,λx c h e=>?_,I.ok.hd,I.ok.frames,.inl rfl,λb hbb=>⟨?_,λx c e=>?_⟩,I.bs,Ci I.ok.bsz I.sz,λb o e hbb=>?_,stf,I.stack,I.stkFree⟩,rfl,I.bare,Un.kept hk,⟨m,hn,λi x v h1 h2 h3=>?_⟩,λx c e=>?_,I.hok.fresh hC,λx c e=>(hb.own x c e).elim (I.freeC x c) (λz=>I.hok.fresh (gtC c z.2.1)),λp hp=>absurd (show p∈([]:Pn) from hp) (by simp),I.hok.kept hk,?_⟩
 .rcases frOf x hx with z|z
  .obtain⟨c,q,_⟩:=hb.fr x (C7 z);exact⟨c,q⟩
  .obtain⟨c,q,_⟩:=hb.has x z;exact⟨c,q⟩
 .obtain⟨c',q,z⟩:=hb.has x (eq_of_beq h);have e':cl.lookup x=Aa c:=e;rw[q]at e';cases e';exact gtC _ z
 .intro z;have z':b=C:=z;have:=hfo b hbb;rw[z']at this;exact absurd (AH this hC) (Bx _)
 .rcases hb.own x c e with z|z
  .exact(hf b hbb).2.2.2.2.1 x c z
  .intro q;have:=hfo b hbb;have:=gtC c z.2.1;rw[q]at this;exact absurd ‹b<_› (FZ.mpr this)
 .rcases (hf b hbb).2.2.2.1 with z|z
  .exact I.ok.noex b o e z
  .exact absurd (AH (AD e) (Ci I.ok.bsz z)) (Bx _)
 .obtain⟨h2,hts⟩:=UE ts Z h2;have h3':(relabel scope X.env).names.lookup x=Aa .local\/(relabel scope X.env).names.lookup x=Aa .cell\/(relabel scope X.env).names.lookup x=Aa .free:=h3;have h1':N'[i]?=Aa x:=h1;rcases h3' with z|z
  .rcases Nt z with z|⟨z,_⟩
   .exact absurd (B.loc i x h1' (.inl z)) hts
   .cases z
  .have fr:=(frOf x z).resolve_right λq=>hts (B.loc i x h1' (.inr q))
   have hm:=C7 fr;have hX:=B.same i x h1' fr hts;obtain⟨m0,hn0,hl0⟩:=I.loc;obtain⟨u,ru,lk⟩:=hl0 i x v hX h2 (by
    rcases B.free _ hm rfl with q|q
    .exact .inr (.inl q)
    .exact .inr (.inr q))
   refine⟨u,ru,?_⟩;obtain⟨c,hc,hcX⟩:=hb.fr x hm;rcases lk with ⟨q,_⟩|⟨_,c',hc',hcell⟩
   .have q':X.env.scope.names.lookup x=Aa .local:=q;rcases B.free _ hm rfl with p|p
    .rw[show X.env.scope.names.lookup x=_ from p]at q';cases q'
    .rw[show X.env.scope.names.lookup x=_ from p]at q';cases q'
   .have e:=hcX;rw[hc']at e;cases e;exact .inr ⟨z,c,hc,cellK _ _ hcell⟩
 .rcases hb.own x c e with z|z
  .obtain⟨v,q⟩:=I.cell x c z;exact⟨v,cellK _ _ q⟩
  .exact⟨_,z.2.2⟩
 .show (hideT ts Z).length=N'.length;rw[P6,I.len,B.len]
theorem Uh{C D:Al}{s':Ar}{Z':L2.St}{pins':Pn}{h'':AB}{ys:Ac Ai}(I:Inv X pI Z H s)(hf:∀ b∈fp,Hm X pI H b)(I':Inv (cxC X scope cl C N' s H fp) pins' Z' H' s')(hD:s.heap.objs.size<=D)(hDC:D≠C)(hC:s.heap.objs.size<=C)(hd:s'.heap.get? D=Aa { cls:=.type "list",data:=.seq ys.toArray n })(hDn:H' D=Af)(rv:Bq xs ys)(hz:xs.length<=sizeLine)(hs:Ew C s'.heap h''):Inv X pI Z (upd H' D (.lst xs)) {s' with heap:=h''}:=by
  have u:Un (frs X.stack) fp H H' s.heap s'.heap:=I'.base;have lt:∀ b o,s.heap.get? b=Aa o->b≠C/\b≠D:=λb o e=>⟨λz=>absurd (AH (AD e) (z ▸ hC)) (Bx _),λz=>absurd (AH (AD e) (z ▸ hD)) (Bx _)⟩
  have HD:H D=Af:=I.hok.fresh hD;have hCn:H' C=Af:=I'.free;have kb:∀ b o,b≠C->s'.heap.get? b=Aa o->h''.get? b=Aa o:=λb o hb e=>(hs.2 b hb).trans e
  have u2:Un (frs X.stack) fp H (upd H' D (.lst xs)) s.heap h'':=⟨λb o e q hb hx=>kb b o (lt b o e).1 (u.keep b o e q hb hx),λb o e q hb hx=>by
      obtain⟨sl,e1⟩:=u.slot b o e q hb hx;exact⟨sl,kb b _ (lt b o e).1 e1⟩,λb o e q hx=>by rw[BR (lt b o e).2];exact u.free b o e q hx,λb o e hx=>by
      obtain⟨o',e1⟩:=u.there b o e hx;exact⟨o',kb b _ (lt b o e).1 e1⟩,λb zs q=>by rw[BR (Gb q HD)];exact u.tups b zs q,λb o zs q=>by rw[BR (Gb q HD)];exact u.frzs b o zs q,λb ps q=>by rw[BR (Gb q HD)];exact u.tbls b ps q⟩
  have hok:HOk X.prog X.w (upd H' D (.lst xs)) h'':=λb o e=>by
    by_cases hb:b=D
    · subst hb;rw[FW]at e;cases e;exact⟨hz,ys,n,rv,kb _ _ hDC hd⟩
    · rw[BR hb]at e;refine(I'.hok b o e).stay (λc v hc q=>kb c v ?_ q) (λc q=>by rw[BR (Gb q hDn)];exact q) λc zs q=>by rw[BR (Gb q hDn)];exact q
      rcases hc with rfl|hc
      · exact Gb e hCn
      · exact Gb hc hCn
  exact I.call' (s':={s' with heap:=h''}) (ch:=fp) I'.os u2 hok I'.bare λb hb=>⟨(hf b hb).2.2.2.1,(hf b hb).2.1,(hf b hb).2.2.2.2.1,(hf b hb).2.2.2.2.2⟩
end
def PTs(X:Cx)(ifs:Ac An)(tt:TT):Prop:=∀(pI:Pn)(s:Ar)(Z:L2.St)(H:Hp)(Q:Ak->Hp->Prop),Inv X pI Z H s->tt Z H Q ->
 Au (model X.prog X.w) X.A (forIn ifs Ab λc r=>if r=Ab then do let ok <-Jh c X.env (eval c X.env);pure (EM ok) else pure (EM r)) (TP X pI Z Q) X.xe s
theorem pK:PTs X [] (λZ H Q=>Q Ab H):=λpI s Z H Q I h=>wpAny_tests_nil ⟨H,I,h⟩
theorem pH{t:TT}(h:PT X c t):PTs X [c] t:=λpI s Z H Q I q=>wpAny_tests_one (h pI s Z H Q I q)
theorem gS{D:Al}{ys:Ac Ai}{E:Vq}{Q:Vq}(I:Inv X ((D,{ cls:=.type "list",data:=.seq ys.toArray n })::pI) Z H s)(hD:X.s₀.heap.objs.size<=D)(hp:∀ p∈X.pn++pI,p.1≠D)(hc:∀ x c,X.env.cells.lookup x=Aa c->c≠D)(hz:ys.length<=sizeLine)(h:∀ s',Inv X ((D,{ cls:=.type "list",data:=.seq (ys++[y]).toArray (n+1) })::pI) Z H s'->(∀ b o,b≠D->s.heap.get? b=Aa o->s'.heap.get? b=Aa o)->Q .none s'):Au (model X.prog X.w) X.A (call (.builtin "list.append") [.ref D,y]) Q E s:=by
 obtain⟨e,hn,hL,hfs,_⟩:=I.pin (D,{ cls:=.type "list",data:=.seq ys.toArray n }) (BJ _ AX);refine append_at (hsz:=by rw[AU];exact hz) e λh' hs hd=>?_
 have hd':h'.get? D=Aa { cls:=.type "list",data:=.seq (ys++[y]).toArray (n+1) }:=by rw[hd];simp
 have kb:∀ b o,b≠D->s.heap.get? b=Aa o->h'.get? b=Aa o:=λb o hb q=>(hs.2 b hb).trans q
 have I0:Inv X pI Z H s:=I.pins_of λp hp=>I.pin p (BJ _ (AN _ hp))
 have I1:Inv X pI Z H {s with heap:=h'}:=I0.turned (t':=s.toks) kb hn hL (.inr hD) hc hp
 refine h _ (I1.pins_of λp hp=>?_) kb
 rcases Ax.mp hp with rfl|hp
 .exact⟨hd',hn,hL,hfs,λv z=>by
   have z':Mr _ _=Mn v:=z;cases z'⟩
 .exact I1.pin p (BJ _ hp)
section
variable{prog:AS}{w:AF}{A:A6}{R:Jf->Ar->Prop}{s:Ar}
theorem fF{target:An}{it acc:Ai}(I:Ag->Ar->Prop)(turn:∀ n s,I n s->Au (model prog w) A (Eh it) (λr s₁=>match r with
      |none=>R (.ok .next) s₁
      | some v=>Au (model prog w) A (GU target it v) (λ_ s₁'=>Au (model prog w) A (assign target env v) (λ_ s₂=>
          Au (model prog w) A (forIn ifs Ab λc r=>if r=Ab then do let ok <-Jh c env (eval c env);pure (EM ok) else pure (EM r)) (λok s₃=>
            if ok=Ab then Au (model prog w) A (eval elt env) (λx s₄=>
              Au (model prog w) A (call (.builtin "list.append") [acc,x]) (λ_ s₅=>∃ m,m<n/\I m s₅) (Jj (model prog w) A env λe s'=>R (.error e) s') s₄) (Jj (model prog w) A env λe s'=>R (.error e) s') s₃
            else ∃ m,m<n/\I m s₃) (Jj (model prog w) A env λe s'=>R (.error e) s') s₂) (Jj (model prog w) A env λe s'=>R (.error e) s') s₁') (Jj (model prog w) A env λe s'=>R (.error e) s') s₁) (Jj (model prog w) A env λe s'=>R (.error e) s') s)(n:Ag)(h:I n s):E9 (model prog w) A (.compLoop (.ListComp elt [⟨target,iter,ifs,0⟩] scope pos) 0 it acc env) R s:=by
  refine codeAny_loop rfl I (λn s hI=>?_) n h
  show Au _ A ((compTurn (.ListComp elt [⟨target,iter,ifs,0⟩] scope pos) 0 it acc env).onRaise (λx=>do Hv x env;theTreesLotGoes x)) _ _ s
  refine wpAny_noted ?_;rw[compTurn_list];refine Ah (Ee (Ah (Bu (turn n s hI) (λr s₁ h₁=>?_) λ_ _ h'=>h')))
  cases r with
  |none=>exact Av h₁
  |some v=>
    refine Ah (Bu h₁ (λ_ s₁' h₁'=>?_) λ_ _ h'=>h')
    refine Ah (Bu h₁' (λ_ s₂ h₂=>Ah (Bu h₂ (λok s₃ h₃=>?_) λ_ _ h'=>h')) λ_ _ h'=>h')
    cases ok with
    |false=>exact Av ⟨rfl,h₃⟩
    |true=>
      exact Ah (Ah (Bu h₃ (λx s₄ h₄=>Ah (Bu h₄ (λ_ s₅ h₅=>Av (Av ⟨rfl,h₅⟩)) λ_ _ h'=>h')) λ_ _ h'=>h'))
end
def MH(J_:It)(ts:Ac Ag)(g:TG)(tt:TT)(te:TE)(Z:L2.St)(H:Hp)(Q:VK):Prop:=∃ W:Ag->Ag->Ac V->L2.St->Hp->Prop,(∃ m,W 0 m [] (hideT ts Z) H)/\∀ i m xs Z H,W i m xs Z H ->
 (J_.stop i H/\∀ p,H p=Af->Q (.ref p) (upd H p (.lst xs))) \/
 (J_.go i H/\xs.length<sizeLine/\∀ x H',J_.yld i H x H'->g x Z H' λZ2 H2=>tt Z2 H2 λb H3=>if b=Ab then te Z2 H3 λy H4=>∃ m',m'<m/\W (i+1) m' (xs++[y]) Z2 H4 else ∃ m',m'<m/\W (i+1) m' xs Z2 H3)
theorem Vx{g:TG}{it:Al}{tn:Ag->AB->Prop}{E:Vq}{RR:Ai->Al->Jf->Ar->Prop}(hc:X.calm=Ab)(B:BlockOk X scope N' ts)(I:Inv X pI Z H s)(T:Turn X.prog X.w X.K tg J_ fp it tn)(st:tn 0 s.heap)(hf:∀ b∈fp,Hm X pI H b)(hcl:∀ x c,cl.lookup x=Aa c->X.env.cells.lookup x=Aa c)(hcl2:∀ x,(x,Ed)∈scope.names->∃ c,cl.lookup x=Aa c)(hg:∀ cl C s H,PG (cxC X scope cl C N' s H fp) tg g)(ht:∀ cl C s H,PTs (cxC X scope cl C N' s H fp) ifs tt)(he:∀ cl C s H,PE (cxC X scope cl C N' s H fp) elt te)(h:MH J_ ts g tt te Z H Q)(hRR:∀ cl D C s' H' Z' pins' xs ys n m,Inv (cxC X scope cl C N' s H fp) pins' Z' H' s'->s'.heap.get? D=Aa { cls:=.type "list",data:=.seq (FS ys) n }->H' D=Af->Bq xs ys->xs.length<=sizeLine->s.heap.objs.size<=D->D≠C->s.heap.objs.size<=C->s'.heap.Ns C m->Q (.ref D) (upd H' D (.lst xs))->RR (.ref D) C (.ok .next) s'):Au (model X.prog X.w) X.A (newList []) (λacc s₃=>Au (model X.prog X.w) X.A (Ji scope X.env.globals cl [] X.env.qual Af .none (Aa X.env)) (λcenv s₄=>E9 (model X.prog X.w) X.A (.compStart (.ListComp elt [⟨tg,iter,ifs,0⟩] scope pos) 0 (.ref it) acc {cenv with scope:=relabel scope X.env}) (RR acc cenv.locals) s₄) E s₃) E s:=by
 refine CP (eS ?_);dsimp only;generalize hH2:s.heap.push { cls:=.type "list",dict:=Af,data:=.seq ([]:Ac Ai).toArray }=H2;have hns₁:(Hw (H2.push { cls:=.type "dict",data:=.dict #[] }) scope.names).Ns H2.objs.size (λ_=>Af):=(Heap.Ns.new H2 (.type "dict")).keeps (II _ _)
 have hkp₁:∀ b o,H2.get? b=Aa o->(Hw (H2.push { cls:=.type "dict",data:=.dict #[] }) scope.names).get? b=Aa o:=λb o e=>II _ _ b o (As _ e)
 have hown:=P9 scope.names (H2.push { cls:=.type "dict",data:=.dict #[] }) cl;have hinj:=Qa scope.names (H2.push { cls:=.type "dict",data:=.dict #[] }) cl;rw[BG]at hown hinj;generalize hcl':De (H2.objs.size+1) scope.names cl=cl' at hown hinj;have hcf:∀ x,(x,Cf)∉scope.names->cl'.lookup x=cl.lookup x:=λx hx=>by rw[<-hcl'];exact PR _ _ _ x hx
 have hch:∀ x,(x,Cf)∈scope.names->∃ c,cl'.lookup x=Aa c/\H2.objs.size+1<=c:=λx hx=>by rw[<-hcl'];exact Qb _ _ _ _ x (A5 _) (.inl hx)
 generalize hh₁:Hw (H2.push { cls:=.type "dict",data:=.dict #[] }) scope.names=h₁ at hns₁ hkp₁ hown;have hC:H2.objs.size=s.heap.objs.size+1:=by rw[<-hH2,BG]
 have hCle:s.heap.objs.size<=H2.objs.size:=by rw[hC];exact YY _
 have hDC:s.heap.objs.size≠H2.objs.size:=by rw[hC];exact Bk (GA _)
 have below:∀ b,b<s.heap.objs.size->b≠H2.objs.size:=λb hb=>by rw[hC];exact Bk (DQ hb)
 have old:∀ b o,s.heap.get? b=Aa o->h₁.get? b=Aa o:=λb o e=>hkp₁ b o (hH2 ▸ As _ e)
 have hacc:h₁.get? s.heap.objs.size=Aa { cls:=.type "list",data:=.seq ([]:Ac Ai).toArray 0 }:=hkp₁ _ _ (hH2 ▸ AE _ rfl);have clt:∀ x c,cl.lookup x=Aa c->c<s.heap.objs.size:=λx c e=>by
  obtain⟨v,q⟩:=I.cell x c (hcl x c e);exact q.lt
 have bc:BCells X scope cl' H2.objs.size h₁:=by
  refine⟨λx c e=>?_,hinj (λx y c e1 e2=>I.ok.inj x y c (hcl x c e1) (hcl y c e2)) (λx c e=>DQ (AH (clt x c e) hCle)),λx hx=>?_,λx hx=>?_⟩
  .rcases hown x c e with q|⟨q1,q2,q3⟩
   .exact .inl (hcl x c q)
   .exact .inr ⟨B.uniq _ q1,q2,q3⟩
  .have hm:=C7 hx;obtain⟨c,e,hc⟩:=hch x hm;exact⟨c,e,hc⟩
  .have hno:(x,Cf)∉scope.names:=λz=>by
    have e1:=B.uniq _ hx;have e2:=B.uniq _ z;rw[show scope.names.lookup x=_ from e1]at e2
    cases e2
   obtain⟨c,e⟩:=hcl2 x hx;exact⟨c,by rw[hcf x hno];exact e,hcl x c e⟩
 have hfo:∀ b∈fp,b<s.heap.objs.size:=λb hb=>by
  obtain⟨o,e,_⟩:=T.obj 0 _ st b hb;exact AD e
 generalize hD:s.heap.objs.size=D at *;generalize hC':H2.objs.size=C at *;have I0:Inv (cxC X scope cl' C N' s H fp) [] (hideT ts Z) H {s with heap:=h₁,toks:=s.toks+([]:Ac (Aj×Ai)).length}:=fG (tk:=s.toks+([]:Ac (Aj×Ai)).length) I B hf (λb hb=>by rw[hD];exact hfo b hb) bc old (by rw[hD];exact hCle) hns₁
 have nD:H D=Af:=I.hok.fresh (by rw[hD];exact A5 _)
 have noD:∀ b∈fp,b≠D:=λb hb=>Bk (hfo b hb)
 have noC:∀ b∈fp,b≠C:=λb hb=>below b (hfo b hb)
 have stfs:D∉frs X.stack:=λz=>by
  obtain⟨_,o,ho,_⟩:=I.stack.mem z;exact absurd (AD ho) (by rw[hD];exact Bx _)
 have cD:∀ x c,cl'.lookup x=Aa c->c≠D:=λx c e z=>by
  rcases bc.own x c e with q|⟨_,q,_⟩
  .obtain⟨v,q⟩:=I.cell x c q;exact absurd q.lt (by rw[z,hD];exact Bx _)
  .rw[z]at q;exact absurd (AH q hCle) (Bx _)
 have I1:Inv (cxC X scope cl' C N' s H fp) [(D,{ cls:=.type "list",data:=.seq ([]:Ac Ai).toArray 0 })] (hideT ts Z) H {s with heap:=h₁,toks:=s.toks+([]:Ac (Aj×Ai)).length}:=I0.pins_of λp hp=>by
  have e:=BA.mp hp;subst e;exact⟨hacc,nD,hDC,stfs,λv z=>by
   have z':Mr _ _=Mn v:=z;cases z'⟩
 have st1:tn 0 h₁:=T.keep _ _ _ st λb _ o e=>old b o e
 obtain⟨W,⟨m0,w0⟩,turn⟩:=h;have fpk:∀{pl:Pn}{H':Hp},(∀ p∈pl,p.1=D)->(∀ b∈fp,H' b=Af)->∀ b∈fp,Hm (cxC X scope cl' C N' s H fp) pl H' b:=λ{pl H'} hp hn b hb=>
  ⟨hn b hb,noC b hb,λz=>by
   rcases Ax.mp (I.stkSub b z) with e|e
   .exact(hf b hb).2.1 e
   .exact(hf b hb).2.2.1 e,.inl hb,λx c e=>(bc.own x c e).elim ((hf b hb).2.2.2.2.1 x c) (λz q=>absurd (DF hCle z.2.1) (FZ.mpr (by rw[q];exact E5 (hfo b hb)))),λp hp'=>by
   have hp2:p∈pl:=hp';rw[hp p hp2];exact(noD b hb).symm⟩
 have loop:∀ s₃:Ar,s₃={s with heap:=h₁,toks:=s.toks+([]:Ac (Aj×Ai)).length} ->
   E9 (model X.prog X.w) X.A (.compLoop (.ListComp elt [⟨tg,iter,ifs,0⟩] scope pos) 0 (.ref it) (.ref D) (compEnvC scope cl' C X.env)) (RR (.ref D) C) s₃:=by
  rintro s₃ rfl;refine fF (λk s'=>∃ i Z' H' xs ys n,Inv (cxC X scope cl' C N' s H fp) [(D,{ cls:=.type "list",data:=.seq (FS ys) n })] Z' H' s'/\tn i s'.heap/\(∀ b∈fp,H' b=Af)/\Bq xs ys/\xs.length<=sizeLine/\W i k xs Z' H') ?_ m0
   ⟨0,_,H,[],[],0,I1,st1,λb hb=>(hf b hb).1,.nil,Gn _,w0⟩
  rintro k s' ⟨i,Z',H',xs,ys,n,I',st',fr',rv,hz,w'⟩;have one:∀ p∈[((D,{ cls:=.type "list",data:=.seq (FS ys) n }):Al×C4)],p.1=D:=λp hp=>by rw[BA.mp hp]
  rcases turn i k xs Z' H' w' with ⟨stop,q⟩|⟨go,hlt,step⟩
  .refine Bu (T.done (cxC X scope cl' C N' s H fp) rfl rfl rfl hc i _ s' Z' H' (λ_ _=>A3) I' (fpk one fr') st' stop) (λr s1 ⟨hr,J_1⟩=>?_) λ_ _ f=>f.elim
   subst hr;obtain⟨e,hn,_⟩:=J_1.pin _ (BJ _ AX);obtain⟨m,hm,_⟩:=J_1.loc;exact hRR cl' D C s1 H' Z' _ xs ys n m J_1 e hn rv hz (A5 _) hDC hCle hm (q D hn)
  .refine Bu (T.item (cxC X scope cl' C N' s H fp) rfl rfl rfl hc i _ s' Z' H' (λ_ _=>A3) I' (fpk one fr') st' go) (λr s1 ⟨u,hr,h4⟩=>?_) λ_ _ f=>f.elim
   subst hr;refine Bu h4 (λ_ s5 ⟨x,H5,I5,r5,y5,st5,fr5⟩=>?_) λ_ _ f=>f.elim
   have I5':=I5.pinned (fpk one fr5) (T.obj _ _ st5);refine Bu (hg cl' C s H _ s5 Z' H5 x u _ I5' r5 (step x H5 y5)) (λ_ s6 ⟨Z6,H6,I6,q6⟩=>?_) λ_ _ f=>f.elim
   refine Bu (ht cl' C s H _ s6 Z6 H6 _ I6 q6) (λok s7 ⟨H7,I7,q7⟩=>?_) λ_ _ f=>f.elim
   have again:∀{s8:Ar}{H8:Hp}{ys':Ac Ai}{n':Ag},Inv (cxC X scope cl' C N' s H fp) ((D,{ cls:=.type "list",data:=.seq (FS ys') n' })::KZ fp s5.heap) Z6 H8 s8->Inv (cxC X scope cl' C N' s H fp) [(D,{ cls:=.type "list",data:=.seq (FS ys') n' })] Z6 H8 s8/\tn (i+1) s8.heap/\∀ b∈fp,H8 b=Af:=λ{s8 H8 ys' n'} I8=>
    ⟨I8.pins_of λp hp=>I8.pin p (BJ _ (by rw[BA.mp hp];exact AX)),T.keep _ _ _ st5 λb hb o e=>(I8.pin (b,o) (BJ _ (AN _ (NE hb e)))).1,λb hb=>by
     obtain⟨o,e,d⟩:=T.obj _ _ st5 b hb;exact(I8.pin (b,o) (BJ _ (AN _ (NE hb e)))).2.1⟩
   cases ok with
   |false=>
    rw[AK (by decide)]at q7
    obtain⟨m',hm,w7⟩:=q7;obtain⟨a1,a2,a3⟩:=again I7;rw[AK (by decide)]
    exact⟨m',hm,i+1,Z6,H7,xs,ys,n,a1,a2,a3,rv,hz,w7⟩
   |true=>
    rw[Az rfl]at q7;rw[Az rfl];refine Bu (he cl' C s H _ s7 Z6 H7 _ I7 q7) (λval s8 ⟨y,H8,I8,r8,m',hm,w8⟩=>?_) λ_ _ f=>f.elim
    have hl:=rv.length;refine gS (X:=cxC X scope cl' C N' s H fp) (ys:=ys) (n:=n) (pI:=KZ fp s5.heap) I8 (by show s.heap.objs.size<=D;rw[hD];exact A5 _) (λp hp=>?_) cD (by omega) λs9 I9 kb=>?_
    .have hp2:p∈KZ fp s5.heap:=hp;exact noD _ (UA hp2).1
    .obtain⟨a1,a2,a3⟩:=again I9;exact⟨m',hm,i+1,Z6,H8,xs++[y],ys++[val],n+1,a1,a2,a3,rv.append (.cons r8 .nil),by rw[DD];exact hlt,w8⟩
 exact codeAny_compStart_list (loop _ rfl) (T.self _ 0 _ _ _ st1 (loop _ rfl))
theorem pV{g:TG}(hc:X.calm=Ab)(B:BlockOk X scope N' ts)(hi:PI X tg iter wi)(hg:∀ cl C s H fp,PG (cxC X scope cl C N' s H fp) tg g)(ht:∀ cl C s H fp,PTs (cxC X scope cl C N' s H fp) ifs tt)(he:∀ cl C s H fp,PE (cxC X scope cl C N' s H fp) elt te)(hs:∀ x,Do iter X.env x=pure x):PE X (.ListComp elt [⟨tg,iter,ifs,0⟩] scope pos) (λZ H Q=>wi Z H λJ_ H1=>MH J_ ts g tt te Z H1 Q):=by
 intro pI s Z H Q I h;obtain⟨cl,hclos,hcl,hcl2⟩:=T7 (scope:=scope) (env:=X.env) λx hx hk=>I.ok.has x.1 ((B.free x hx hk).imp id id)
 rw[eval_ListComp];refine bO (use:=Af) rfl hs hclos B.kind B.names (thn (hi pI s Z H _ I h) λv s1 h1=>thn h1 λitv s2 h2=>?_)
 obtain⟨it,fp,tn,J_,H2,e,I2,T,st2,f2,h3⟩:=h2;subst e;refine Vx (RR:=λacc C=>compPost (model X.prog X.w) X.A X.xe Af (EP X pI Z Q) acc C) hc B I2 T st2 f2 hcl hcl2 (λcl C s H=>hg cl C s H fp) (λcl C s H=>ht cl C s H fp) (λcl C s H=>he cl C s H fp) h3 λcl' D C s' H' Z' pins' xs ys n m I' hd hDn rv hz hD hDC hC hm q=>?_
 exact⟨m,hm,λh'' hs''=>⟨.ref D,_,Uh I2 f2 I' hD hDC hC hd hDn rv hz hs'',rfl,q⟩⟩
theorem pP{n:Aj}{g:TG}(hc:X.calm=Ab)(B:BlockOk X scope N' ts)(hi:PI X tg iter wi)(hg:∀ cl C s H fp,PG (cxC X scope cl C N' s H fp) tg g)(ht:∀ cl C s H fp,PTs (cxC X scope cl C N' s H fp) ifs tt)(he:∀ cl C s H fp,PE (cxC X scope cl C N' s H fp) elt te)(hs:∀ x,Do iter X.env x=pure x)(hN:X.N.Nodup)(hni:X.N[i]?=Aa n)(hx:X.env.scope.names.lookup n=Aa .local)(hsw:DH (.ListComp elt [⟨tg,iter,ifs,0⟩] scope pos) (Aa (.Name n pos')) pos2.line X.env=pure Ab):PS X (.Assign [.Name n pos'] (.ListComp elt [⟨tg,iter,ifs,0⟩] scope pos) pos2) (OR (λZ H Q=>wi Z H λJ_ H1=>MH J_ ts g tt te Z H1 Q) (FF i)):=by
 intro pI s Z H Dn I h;obtain⟨cl,hclos,hcl,hcl2⟩:=T7 (scope:=scope) (env:=X.env) λx hx hk=>I.ok.has x.1 ((B.free x hx hk).imp id id)
 rw[exec_Assign_Name_used _ _ _ _ hsw];refine Ah (Ee (Ah ?_));show Au _ X.A (do let _ <-comprehension (.ListComp elt [⟨tg,iter,ifs,0⟩] scope pos) scope X.env _ (newList []) Ad (eval iter X.env) (Aa (assign (.Name n pos') X.env))) _ _ s
 refine Ah (Bu (bO (use:=Aa (assign (.Name n pos') X.env)) (Q:=λ_ s'=>SP X pI Dn .next s') rfl hs hclos B.kind B.names
  (thn (hi pI s Z H _ I h) λv s1 h1=>thn h1 λitv s2 h2=>?_)) (λ_ s' hq=>Av (Av hq)) λ_ _ e=>e)
 obtain⟨it,fp,tn,J_,H2,e,I2,T,st2,f2,h3⟩:=h2;subst e;refine Vx (RR:=λacc C=>compPost (model X.prog X.w) X.A X.xe (Aa (assign (.Name n pos') X.env)) (λ_ s'=>SP X pI Dn .next s') acc C) hc B I2 T st2 f2 hcl hcl2 (λcl C s H=>hg cl C s H fp) (λcl C s H=>ht cl C s H fp) (λcl C s H=>he cl C s H fp) h3 λcl' D C s' H' Z' pins' xs ys n' m I' hd hDn rv hz hD hDC hC hm q=>?_
 have J_0:Inv X pI Z (upd H' D (.lst xs)) s':=Uh I2 f2 I' hD hDC hC hd hDn rv hz (Z_0 ..);refine bN (TV J_0 hN hni (.inl hx) (show BS (.ref D) (.ref D) from rfl) (λs'' J_1 ⟨a,sb,ha⟩=>?_) (.inr hx))
 have hC0:X.s₀.heap.objs.size<=C:=Ci I2.sz hC;have hL:C≠X.env.locals:=λz=>absurd (AH I2.lt (z ▸ hC)) (Bx _)
 have hcC:∀ x c,X.env.cells.lookup x=Aa c->c≠C:=λx c e z=>by
  obtain⟨v,q'⟩:=I2.cell x c e;exact absurd (AH q'.lt (by rw[z];exact hC)) (Bx _)
 have hp:∀ p∈X.pn++pI,p.1≠C:=λp hp z=>absurd (AH (AD (I2.pin p hp).1) (by rw[z];exact hC)) (Bx _)
 have hCn:upd H' D (.lst xs) C=Af:=by rw[BR hDC.symm];exact I'.free
 have hCa:C≠a:=by
  rcases ha with rfl|ha
  .exact hL
  .exact λz=>hcC n a ha z.symm
 refine⟨m,hm.sameBut sb hCa,λh'' hs''=>⟨_,_,J_1.turned (t':=s''.toks) (λb o hb e=>(hs''.2 b hb).trans e) hCn hL (.inr hC0) hcC hp,q⟩⟩
theorem LD:∀(ts:Ac Ag)(Y:Rho)(j:Ag),(FY ts Y)[j]?=if j∈ts then (Y[j]?).map (λ_=>Af) else Y[j]?
 |[],Y,j=>by simp[FY]
 |t::ts,Y,j=>by
  show (FY ts (Y.set t Af))[j]?=_;rw[LD ts];by_cases h1:j∈ts
  .rw[Az h1,Az (AN _ h1)];by_cases h2:t=j
   .subst h2;rw[F5];cases Y[t]?<;>rfl
   .rw[CK h2]
  .rw[AK h1];by_cases h2:t=j
   .subst h2;rw[Az AX,F5];cases Y[t]?<;>rfl
   .rw[CK h2,AK (by simp only[Ax,Ei];exact⟨λz=>h2 z.symm,h1⟩)]
theorem NJ:∀(ts:Ac Ag)(Y:Rho),(FY ts Y).length=Y.length
 |[],_=>rfl
 |t::ts,Y=>by show (FY ts (Y.set t Af)).length=_;rw[NJ ts,Bc]
theorem PM:∀(ts:Ac Ag)(Z:L2.St){i:Ag},i∉ts->(hideT ts Z)[i]?=Z[i]?
 |[],_,_,_=>rfl
 |t::ts,Z,i,h=>by
  simp only[Ax,Ei]at h;show (hideT ts (Z.set t Af))[i]?=_;rw[PM ts _ h.2,CK (λz=>h.1 z.symm)]
theorem TC:∀(ts:Ac Ag)(ds:Ac D)(Y1 Y2:Rho),Y1.length=Y2.length->(∀ j,j∉ts->Y1[j]?=Y2[j]?)->Fa ts ds Y1=Fa ts ds Y2
 |[],[],Y1,Y2,hl,h=>congrArg Aa (YK λj=>h j (by simp))
 |[],_::_,_,_,_,_=>rfl
 |_::_,[],_,_,_,_=>rfl
 |t::ts,d::ds,Y1,Y2,hl,h=>by
  refine TC ts ds _ _ (by rw[Bc,Bc];exact hl) λj hj=>?_
  by_cases e:t=j
  .subst e;rw[HJ,HJ,Az rfl,Az rfl,hl]
  .rw[CK e,CK e];exact h j (by simp only[Ax,Ei];exact⟨λz=>e z.symm,hj⟩)
theorem TQ:∀(ts us:Ac Ag)(ds:Ac D)(Y Y':Rho),(∀ t∈ts,t∈us)->Fa ts ds Y=Aa Y'->FY us Y'=FY us Y
 |[],us,[],Y,Y',_,e=>by cases e;rfl
 |t::ts,us,d::ds,Y,Y',hs,e=>by
  rw[TQ ts us ds _ Y' (λu hu=>hs u (AN _ hu)) e]
  refine YK λj=>?_
  rw[LD,LD];by_cases h:j∈us
  .rw[Az h,Az h,HJ];split
   .rename_i e2;subst e2;split
    .rename_i h3;rw[B8 h3];rfl
    .rename_i h3;rw[List.getElem?_eq_none (by omega)]
   .rfl
  .rw[AK h,AK h,CK];rintro rfl;exact h (hs _ AX)
 |[],_,_::_,_,_,_,e=>by cases e
 |_::_,_,[],_,_,_,e=>by cases e
section
variable{K:Fg}{CL:ClA}{A:Al->Prop}{Y Y':Rho}{Z:L2.St}{H:Hp}
theorem Good.less(g:Good K CL A Y Z H)(hl:Y'.length=Y.length)(h:∀(i:Ag)(d:D)(o:Ak),Y'[i]?=Aa (Aa (d,o))->Y[i]?=Aa (Aa (d,o))):Good K CL A Y' Z H:=⟨λi d e=>g.sh i d (h i d Ad e),λi d e=>g.ow i d (h i d Ab e),hl.trans g.len⟩
theorem Good.put(g:Good K CL A Y Z H)(t:Ag)(r:Rep K CL H A v d):Good K CL A (Y.set t (Aa (d,Ad))) (Z.set t (Aa v)) H:=by
 refine⟨λj e h=>?_,λj e h=>?_,by rw[Bc,Bc];exact g.len⟩
 .by_cases hj:t=j
  .subst hj;have e1:=Hg h;cases e1;have hl:t<Z.length:=by
    rw[<-g.len];have:=(Bl.mp h).1;simpa using this
   exact⟨v,by rw[Ds hl],r⟩
  .rw[CK hj]at h;obtain⟨w',q,rw'⟩:=g.sh j e h;exact⟨w',by rw[CK hj];exact q,rw'⟩
 .have hj:t≠j:=by
   rintro rfl;have:=Hg h;cases this
  rw[CK hj]at h;obtain⟨a,xs,ds,q,z⟩:=g.ow j e h;exact⟨a,xs,ds,by rw[CK hj];exact q,z⟩
theorem Good.hide(g:Good K CL A Y Z H)(ts:Ac Ag):Good K CL A (FY ts Y) Z H:=g.less (NJ _ _) λi d o e=>by
 rw[LD]at e;split at e
 .cases q:Y[i]? with
  |none=>rw[q]at e;cases e
  |some x=>rw[q]at e;cases e
 .exact e
theorem Good.hideT(g:Good K CL A Y Z H)(ts:Ac Ag):Good K CL A (FY ts Y) (hideT ts Z) H:=by
 have key:∀ i x,(FY ts Y)[i]?=Aa (Aa x)->Y[i]?=Aa (Aa x)/\i∉ts:=λi x e=>by
  rw[LD]at e;split at e
  .cases q:Y[i]? with
   |none=>rw[q]at e;cases e
   |some x=>rw[q]at e;cases e
  .exact⟨e,by assumption⟩
 refine⟨λi d e=>?_,λi d e=>?_,by rw[NJ,P6];exact g.len⟩
 .obtain⟨e1,e2⟩:=key i _ e;obtain⟨v,q,r⟩:=g.sh i d e1;exact⟨v,by rw[PM _ _ e2];exact q,r⟩
 .obtain⟨e1,e2⟩:=key i _ e;obtain⟨a,xs,ds,q,r⟩:=g.ow i d e1;exact⟨a,xs,ds,by rw[PM _ _ e2];exact q,r⟩
end
def GG(K:Fg)(CL:ClA)(ts:Ac Ag)(as:D->Rho->R Rho)(g:TG):Prop:=∀ A Y Z H v d Y' Q,Good K CL A (FY ts Y) Z H->Rep K CL H A v d->as d Y=.ok Y'->(∀ Z',Good K CL A Y' Z' H->Good K CL A (FY ts Y) Z' H->Q Z' H)->g v Z H Q
theorem rP(i:Ag):GG K CL [i] (λd Y=>.ok (Y.set i (Aa (d,Ad)))) (FF i):=λA Y Z H v d Y' Q g r e k=>by
 cases e;have g2:=g.put i r;have e1:(FY [i] Y).set i (Aa (d,Ad))=Y.set i (Aa (d,Ad)):=by
  show (Y.set i Af).set i (Aa (d,Ad))=_;rw[YW]
 rw[e1]at g2;refine k _ g2 ?_;have:=g2.hide [i];have e2:FY [i] (Y.set i (Aa (d,Ad)))=FY [i] Y:=by
  show (Y.set i _).set i Af=Y.set i Af;rw[YW]
 rw[e2]at this;exact this
theorem V6{K:Fg}{CL:ClA}{A:Al->Prop}{H:Hp}:∀(ts:Ac Ag)(ds:Ac D)(vs:Ac V)(Y Y':Rho)(Z:L2.St)(Q:L2.St->Hp->Prop),Good K CL A Y Z H->Reps K CL H A vs ds->Fa ts ds Y=Aa Y'->(∀ Z',Good K CL A Y' Z' H->Q Z' H)->(ts.foldr (λt u=>Iq (FF t) u) Iy) vs Z H Q
 |[],[],[],Y,Y',Z,Q,x,_,e,k=>by
  cases e;exact⟨rfl,k Z x⟩
 |t::ts,d::ds,v::vs,Y,Y',Z,Q,x,r,e,k=>⟨v,vs,rfl,V6 ts ds vs _ Y' _ Q (x.put t r.1) r.2 e k⟩
 |[],_::_,_,_,_,_,_,_,_,e,_=>by cases e
 |_::_,[],_,_,_,_,_,_,_,e,_=>by cases e
 |[],[],_::_,_,_,_,_,_,r,_,_=>r.elim
 |_::_,_::_,[],_,_,_,_,_,r,_,_=>r.elim
theorem yL(ts:Ac Ag):GG K CL ts (EH ts) (Mh K ts.length (ts.foldr (λt u=>Iq (FF t) u) Iy)):=λA Y Z H v d Y' Q g r e k=>by
 cases d with
 |tup ds=>
  obtain⟨a,xs,rfl,na,sq,rs⟩:=r;rw[T8]at e;cases e2:Fa ts ds Y with
  |none=>rw[e2]at e;cases e
  |some Y2=>
   rw[e2]at e;cases e;have e3:Fa ts ds (FY ts Y)=Aa Y':=by
    rw[<-e2];exact TC ts ds _ _ (NJ _ _) λj hj=>by rw[LD,AK hj]
   refine⟨a,xs,rfl,sq,by rw[rs.length];exact NH _ _ _ _ e2,V6 ts ds xs _ Y' Z Q g rs e3 λZ' g'=>k Z' g' ?_⟩
   have:=g'.hide ts;rw[TQ ts ts ds Y Y' (λ_ h=>h) e2]at this
   exact this
 |_=>cases e
noncomputable abbrev W0:XW:=λ_ _=>A3
def STs(X:Cx)(CL:ClA)(ifs:Ac An)(f:Rho->R Ak):Prop:=∀ A,PTs X ifs (λZ H Q=>AOk H A/\∃ Y,Good X.K CL A Y Z H/\DB W0 H (f Y) Q)
theorem nI:STs X CL [] (λ_=>.ok Ab):=λA pI s Z H Q I ⟨hA,Y,g,p⟩=>pK pI s Z H Q I (p H (AJ.refl H))
theorem nG(h:SB X CL W0 c f):STs X CL [c] f:=λA pI s Z H Q I q=>pH (h A) pI s Z H Q I q
section
variable{X:Cx}{CL:ClA}{W:XW}{tg iter elt:An}{ifs:Ac An}{scope:Cv}{pos:AL}{N':Ac Aj}{ts:Ac Ag}{fi:Rho->R (Ac D)}{fc:Rho->R Ak}{fe:Rho->R D}{as:D->Rho->R Rho}{g:TG}
theorem eX{g:D->R Ak}{f:D->R D}{x:D}{xs ys:Ac D}(h:Ck g f (x::xs)=.ok ys):(g x=.ok Ad/\Ck g f xs=.ok ys)\/∃ y r,g x=.ok Ab/\f x=.ok y/\Ck g f xs=.ok r/\ys=y::r:=by
 unfold Ck at h;cases e:g x with
 |bad=>rw[e]at h;cases h
 |exn z=>rw[e]at h;cases h
 |ok b=>
  rw[e,R.bind_ok]at h;cases b with
  |false=>exact .inl ⟨rfl,h⟩
  |true=>
   rw[Az rfl]at h;cases e2:f x with
   |bad=>rw[e2]at h;cases h
   |exn z=>rw[e2]at h;cases h
   |ok y=>
    rw[e2,R.bind_ok]at h;cases e3:Ck g f xs with
    |bad=>rw[e3]at h;cases h
    |exn z=>rw[e3]at h;cases h
    |ok r=>
     rw[e3,R.bind_ok]at h;cases h;exact .inr ⟨y,r,rfl,rfl,rfl,rfl⟩
theorem KJ{β:Type}{r:R α}{f:α->R β}{b:β}(h:r.bind f=.ok b):∃ a,r=.ok a/\f a=.ok b:=by
 cases r with
 |ok a=>exact⟨a,rfl,h⟩
 |exn x=>cases h
 |bad=>cases h
theorem hV{ds ys:Ac D}(hGG:GG K CL ts as g)(hA:AOk H1 A)(gd:Good K CL A Y Z H1)(yl:JI K CL A ds J_ H1)(hz:ds.length<=sizeLine)(hcp:Ck (λx=>(as x Y).bind fc) (λx=>(as x Y).bind fe) ds=.ok ys)(q:∀ xs H2,AJ H1 H2->Reps K CL H2 A xs ys->∀ p,H2 p=Af->Q (.ref p) (upd H2 p (.lst xs))):MH J_ ts g (λZ H Q=>AOk H A/\∃ Y,Good K CL A Y Z H/\DB W0 H (fc Y) Q) (λZ H Q=>AOk H A/\∃ Y,Good K CL A Y Z H/\Bv (λH=>Rep K CL H A) W0 H (fe Y) Q) Z H1 Q:=by
 refine⟨λi m xs Z' H'=>m=ds.length-i/\i<=ds.length/\xs.length<=i/\AJ H1 H'/\Good K CL A (FY ts Y) Z' H'/\∃ outs rest,Reps K CL H' A xs outs/\Ck (λx=>(as x Y).bind fc) (λx=>(as x Y).bind fe) (ds.drop i)=.ok rest/\ys=outs++rest,
  ⟨ds.length,by simp,Gn _,A5 _,AJ.refl _,gd.hideT ts,[],ys,trivial,hcp,rfl⟩,?_⟩
 rintro i m xs Z' H' ⟨rfl,hi,hxl,sm,g',outs,rest,rs,hc,e⟩;obtain⟨yst,ygo⟩:=yl H' (Kp.of sm) i;by_cases hlt:i<ds.length
 .have hd:ds[i]?=Aa ds[i]:=B8 hlt;obtain⟨hgo,hyl⟩:=ygo _ hd;refine .inr ⟨hgo,by omega,λx H2 hx=>?_⟩
  obtain⟨s2,rx⟩:=hyl x H2 hx;have rx':=rx A (λa ha=>.inl ha) (hA.same sm)
  rw[FK hlt]at hc;have sm2:=sm.trans s2;rcases eX hc with ⟨h1,h2⟩|⟨y,r,h1,h2,h3,h4⟩
  .obtain⟨Y',ea,ec⟩:=KJ h1;refine hGG A Y Z' H2 x ds[i] Y' _ (g'.same s2) rx' ea λZ3 g3 g4=>⟨hA.same sm2,Y',g3,?_⟩
   rw[ec];exact λH3 s3=>by
    dsimp only;rw[AK (by decide)]
    exact⟨ds.length-(i+1),by omega,rfl,hlt,by omega,sm2.trans s3,g4.same s3,outs,rest,(rs.same s2).same s3,h2,e⟩
  .obtain⟨Y',ea,ec⟩:=KJ h1;obtain⟨Y2,ea2,ee⟩:=KJ h2;rw[ea]at ea2;cases ea2;refine hGG A Y Z' H2 x ds[i] Y' _ (g'.same s2) rx' ea λZ3 g3 g4=>⟨hA.same sm2,Y',g3,?_⟩
   rw[ec];exact λH3 s3=>by
    dsimp only;rw[Az rfl];refine⟨(hA.same sm2).same s3,Y',g3.same s3,?_⟩;rw[ee];exact λv H4 s4 r4=>⟨ds.length-(i+1),by omega,rfl,hlt,by rw[DD,YS];omega,(sm2.trans s3).trans s4,(g4.same s3).same s4,outs++[y],r,(((rs.same s2).same s3).same s4).append ⟨r4,trivial⟩,h3,by rw[e,h4];simp⟩
 .have hk':ds.length<=i:=by omega
  rw[YI hk']at hc;have hr:rest=[]:=by cases hc;rfl
  subst hr;rw[CT]at e;subst e;exact .inl ⟨yst hk',λp hp=>q xs H' sm rs p hp⟩
theorem Fk.ok_of{r:R (Ac D)}{f:Ac D->R D}{Q':It->Hp->Prop}(h:Bv Rq W H (r.bind f) Q)(k:∀ ds J_ H',r=.ok ds->AJ H H'->JI K CL A ds J_ H'->ds.length<=sizeLine->Bv Rq W H' (f ds) Q->Q' J_ H'):Fk K CL A W H r Q':=by
 cases r with
 |ok d=>exact λJ_ H2 s2 y z=>k d J_ H2 rfl s2 y z (Bv.same s2 h)
 |exn x=>exact h
 |bad=>exact h
theorem wF{r:R α}{a:α}(h:noX r=.ok a):r=.ok a:=by
 cases r with
 |ok b=>exact h
 |exn x=>cases h
 |bad=>cases h
theorem Uf(hGG:GG X.K CL ts as g)(hA:AOk H A)(gd:Good X.K CL A Y Z H)(p:Bv (D4 X.K CL Ab H A) W H ((fi Y).bind λxs=>(noX (Ck (λx=>(as x Y).bind fc) (λx=>(as x Y).bind fe) xs)).bind λys=>.ok (.lst ys)) Q):Fk X.K CL A W H (fi Y) (λJ_ H1=>MH J_ ts g (λZ H Q=>AOk H A/\∃ Y,Good X.K CL A Y Z H/\DB W0 H (fc Y) Q) (λZ H Q=>AOk H A/\∃ Y,Good X.K CL A Y Z H/\Bv (λH=>Rep X.K CL H A) W0 H (fe Y) Q) Z H1 Q):=
 Fk.ok_of p λds J_ H1 e1 s1 yl hz p1=>by
  cases e2:noX (Ck (λx=>(as x Y).bind fc) (λx=>(as x Y).bind fe) ds) with
  |ok ys=>
   rw[e2]at p1;exact hV hGG (hA.same s1) (gd.same s1) yl hz (wF e2) λxs H2 s2 rs q hq=>p1 _ _ (s2.trans (GB hq _)) (LA (s1.trans s2) ((hA.same s1).same s2) hq rs)
  |exn x=>rw[e2]at p1;cases hq:Ck (λx=>(as x Y).bind fc) (λx=>(as x Y).bind fe) ds<;>rw[hq]at e2<;>cases e2
  |bad=>rw[e2]at p1;exact p1.elim
theorem mJ(hc:X.calm=Ab)(B:BlockOk X scope N' ts)(hi:SI X CL W tg iter fi)(hGG:GG X.K CL ts as g)(hg:∀ cl C s H fp,PG (cxC X scope cl C N' s H fp) tg g)(ht:∀ cl C s H fp,STs (cxC X scope cl C N' s H fp) CL ifs fc)(he:∀ cl C s H fp,SE (cxC X scope cl C N' s H fp) CL W0 elt fe)(hs:∀ x,Do iter X.env x=pure x):SC X CL W Ab (.ListComp elt [⟨tg,iter,ifs,0⟩] scope pos) (λY=>(fi Y).bind λxs=>(noX (Ck (λx=>(as x Y).bind fc) (λx=>(as x Y).bind fe) xs)).bind λys=>.ok (.lst ys)):=λA pI s Z H Q I ⟨hA,Y,gd,p⟩=>
 pV hc B (hi A) hg (λcl C s H fp=>ht cl C s H fp A) (λcl C s H fp=>he cl C s H fp A) hs pI s Z H Q I ⟨hA,Y,gd,Uf hGG hA gd p⟩
end
section
variable{K:Fg}{CL:ClA}{Fz:Al->HO->Prop}{B:Al->Prop}{Y:Rho}{Z:L2.St}{H H':Hp}
theorem Sx.setF(x:Sx K CL Fz B Y Z H)(s:AJ H H'){ds:Ac D}(h0:H a=Af)(h1:H' a=Aa (.lst xs))(r:Reps K CL H' (λb=>Cb B Y Z b\/b=a) xs ds):Sx K CL Fz B (Y.set i (Aa (.lst ds,Ab))) (Z.set i (Aa (.ref a))) H':=by
 have nA:¬ Cb B Y Z a:=x.aok.new h0;have own:∀(j:Ag)(e:D),(Y.set i (Aa (.lst ds,Ab)))[j]?=Aa (Aa (e,Ab))->(i=j/\e=.lst ds)\/(i≠j/\Y[j]?=Aa (Aa (e,Ab))):=λj e h=>by
  by_cases hj:i=j
  .subst hj;have:=Hg h;cases this;exact .inl ⟨rfl,rfl⟩
  .exact .inr ⟨hj,by rw[CK hj]at h;exact h⟩
 have atI:∀{j:Ag}{y:Sl},(Y.set i (Aa (.lst ds,Ab)))[j]?=Aa y->i=j->(Z.set i (Aa (.ref a)))[j]?=Aa (Aa (.ref a)):=λ{j y} h e=>by
  subst e;have hl:i<Z.length:=by
   rw[<-x.len];have:=(Bl.mp h).1;simpa using this
  rw[Ds hl]
 have sub:∀ b,Cb B (Y.set i (Aa (.lst ds,Ab))) (Z.set i (Aa (.ref a))) b->Cb B Y Z b\/b=a:=λb h=>by
  rcases h with h|⟨j,e,h1,h2⟩
  .exact .inl (.inl h)
  .rcases own j e h1 with ⟨hj,_⟩|⟨hj,h1'⟩
   .rw[atI h1 hj]at h2;cases h2;exact .inr rfl
   .rw[CK hj]at h2;exact .inl (.inr ⟨j,e,h1',h2⟩)
 have wide:∀{v:V}{d:D},Rep K CL H (Cb B Y Z) v d->Rep K CL H' (Cb B (Y.set i (Aa (.lst ds,Ab))) (Z.set i (Aa (.ref a)))) v d:=λr=>(Rep.wide (λb hb=>(sub b hb).imp id λe=>by rw[e];exact h0) _ r).same s
 have wides:∀{v:Ac V}{d:Ac D},Reps K CL H (Cb B Y Z) v d->Reps K CL H' (Cb B (Y.set i (Aa (.lst ds,Ab))) (Z.set i (Aa (.ref a)))) v d:=λr=>(Reps.wide (λb hb=>(sub b hb).imp id λe=>by rw[e];exact h0) _ r).same s
 refine⟨⟨λj e h=>?_,λj e h=>?_,by rw[Bc,Bc];exact x.len⟩,λb h=>?_,λj e b g1 g2=>?_,λj k e f b g1 g2 g3 g4=>?_,λb o z=>s _ _ (x.same b o z),by rw[Bc,Bc];exact x.len⟩
 .have hj:i≠j:=by
   rintro rfl;have:=Hg h;cases this
  rw[CK hj]at h;obtain⟨w',q,rw'⟩:=x.good.sh j e h;exact⟨w',by rw[CK hj];exact q,wide rw'⟩
 .rcases own j e h with ⟨hj,rfl⟩|⟨hj,h'⟩
  .have q:=atI h hj;exact⟨a,xs,ds,q,rfl,.inr ⟨j,_,h,q⟩,h1,Reps.sub sub _ r⟩
  .obtain⟨b,ys,es,q,z,ha,hh,rr⟩:=x.good.ow j e h';have q':(Z.set i (Aa (.ref a)))[j]?=Aa (Aa (.ref b)):=by rw[CK hj];exact q
   exact⟨b,ys,es,q',z,.inr ⟨j,e,h,q'⟩,s _ _ hh,wides rr⟩
 .rcases sub b h with z|z
  .obtain⟨ys,q⟩:=x.aok b z;exact⟨ys,s _ _ q⟩
  .rw[z];exact⟨xs,h1⟩
 .rcases own j e g1 with ⟨hj,_⟩|⟨hj,h'⟩
  .rw[atI g1 hj]at g2;cases g2;refine⟨λo z=>?_,λz=>nA (.inl z)⟩
   have:=x.same a o z;rw[h0]at this;cases this
  .rw[CK hj]at g2;exact x.new j e b h' g2
 .rcases own j e g1 with ⟨hj,_⟩|⟨hj,h'⟩
  .rw[atI g1 hj]at g3;cases g3;rcases own k f g2 with ⟨hk,_⟩|⟨hk,h''⟩
   .exact hj.symm.trans hk
   .rw[CK hk]at g4;exact absurd (.inr ⟨k,f,h'',g4⟩) nA
  .rw[CK hj]at g3;rcases own k f g2 with ⟨hk,_⟩|⟨hk,h''⟩
   .rw[atI g2 hk]at g4;cases g4;exact absurd (.inr ⟨j,e,h',g3⟩) nA
   .rw[CK hk]at g4;exact x.dis j k e f b h' h'' g3 g4
theorem Sx.upd(x:Sx K CL Fz B Y Z H){i:Ag}{d:D}{a:Al}{xs:Ac V}{ds:Ac D}(hi:Y[i]?=Aa (Aa (d,Ab)))(ha:Z[i]?=Aa (Aa (.ref a)))(r:Reps K CL H (Cb B Y Z) xs ds):Sx K CL Fz B (Y.set i (Aa (.lst ds,Ab))) Z (L2.upd H a (.lst xs)):=by
 have oa:Cb B Y Z a:=.inr ⟨i,d,hi,ha⟩;have hil:i<Y.length:=(Bl.mp hi).1;have get:∀(j:Ag)(e:D),(Y.set i (Aa (.lst ds,Ab)))[j]?=Aa (Aa (e,Ab))↔(i=j/\e=.lst ds)\/(i≠j/\Y[j]?=Aa (Aa (e,Ab))):=λj e=>by
  by_cases hj:i=j
  .subst hj;rw[Ds hil];simp;exact⟨λz=>z.symm,λz=>z.symm⟩
  .rw[CK hj];simp[hj]
 have same:∀ b,Cb B (Y.set i (Aa (.lst ds,Ab))) Z b↔Cb B Y Z b:=λb=>by
  constructor
  .rintro (h|⟨j,e,h1,h2⟩)
   .exact .inl h
   .rcases (get j e).mp h1 with ⟨rfl,_⟩|⟨_,h1⟩
    .exact .inr ⟨i,d,hi,h2⟩
    .exact .inr ⟨j,e,h1,h2⟩
  .rintro (h|⟨j,e,h1,h2⟩)
   .exact .inl h
   .by_cases hj:i=j
    .subst hj;exact .inr ⟨i,.lst ds,(get i _).mpr (.inl ⟨rfl,rfl⟩),h2⟩
    .exact .inr ⟨j,e,(get j e).mpr (.inr ⟨hj,h1⟩),h2⟩
 have kp:Kp (Cb B Y Z) H (L2.upd H a (.lst xs)):=λb o e na=>by
  have hne:b≠a:=by
   rintro rfl;exact na oa
  rw[BR hne];exact e
 refine⟨⟨λj e h=>?_,λj e h=>?_,by rw[Bc];exact x.len⟩,λb h=>?_,λj e b g1 g2=>?_,λj k e f b g1 g2 g3 g4=>?_,λb o z=>?_,by rw[Bc];exact x.len⟩
 .have hj:i≠j:=by
   rintro rfl;have:=Hg h;cases this
  rw[CK hj]at h;obtain⟨w',q,rw'⟩:=x.good.sh j e h;exact⟨w',q,Rep.sub (λb hb=>(same b).mp hb) _ (Rep.kp kp _ rw')⟩
 .rcases (get j e).mp h with ⟨rfl,rfl⟩|⟨hj,h'⟩
  .exact⟨a,xs,ds,ha,rfl,(same a).mpr oa,FW,Reps.sub (λb hb=>(same b).mp hb) _ (Reps.kp kp _ r)⟩
  .obtain⟨b,ys,es,q,z,hb,hh,rr⟩:=x.good.ow j e h';have hne:b≠a:=λz=>hj (x.dis i j d e a hi h' ha (z ▸ q))
   exact⟨b,ys,es,q,z,(same b).mpr hb,by rw[BR hne];exact hh,Reps.sub (λb hb=>(same b).mp hb) _ (Reps.kp kp _ rr)⟩
 .obtain⟨ys,q⟩:=x.aok b ((same b).mp h);by_cases e:b=a
  .rw[e];exact⟨xs,FW⟩
  .exact⟨ys,by rw[BR e];exact q⟩
 .rcases (get j e).mp g1 with ⟨rfl,_⟩|⟨_,h'⟩
  .exact x.new i d b hi g2
  .exact x.new j e b h' g2
 .rcases (get j e).mp g1 with ⟨rfl,_⟩|⟨hj,h'⟩
  .rcases (get k f).mp g2 with ⟨rfl,_⟩|⟨hk,h''⟩
   .rfl
   .exact x.dis i k d f b hi h'' g3 g4
  .rcases (get k f).mp g2 with ⟨rfl,_⟩|⟨hk,h''⟩
   .exact x.dis j i e d b h' hi g3 g4
   .exact x.dis j k e f b h' h'' g3 g4
 .have hne:b≠a:=λe=>(x.new i d a hi ha).1 o (e ▸ z)
  rw[BR hne];exact x.same b o z
theorem Sx.rel(x:Sx K CL Fz B Y Z H)(hi:Y[i]?=Aa (Aa (d,Ab))):Sx K CL Fz B (Y.set i (Aa (d,Ad))) Z H:=by
 obtain⟨a,xs,ds,q,rfl,oa,hh,rr⟩:=x.good.ow i d hi;have own:∀(j:Ag)(e:D),(Y.set i (Aa (.lst ds,Ad)))[j]?=Aa (Aa (e,Ab))->i≠j/\Y[j]?=Aa (Aa (e,Ab)):=λj e h=>by
  by_cases hj:i=j
  .subst hj;have:=Hg h;cases this
  .exact⟨hj,by rw[CK hj]at h;exact h⟩
 have sub:∀ b,Cb B (Y.set i (Aa (.lst ds,Ad))) Z b->Cb B Y Z b:=λb h=>by
  rcases h with h|⟨j,e,h1,h2⟩
  .exact .inl h
  .exact .inr ⟨j,e,(own j e h1).2,h2⟩
 have na:¬ Cb B (Y.set i (Aa (.lst ds,Ad))) Z a:=λh=>by
  rcases h with h|⟨j,e,h1,h2⟩
  .exact(x.new i _ a hi q).2 h
  .obtain⟨hj,h1⟩:=own j e h1;exact hj (x.dis i j _ e a hi h1 q h2)
 refine⟨⟨λj e h=>?_,λj e h=>?_,by rw[Bc];exact x.len⟩,λb h=>x.aok b (sub b h),λj e b g1 g2=>x.new j e b (own j e g1).2 g2,λj k e f b g1 g2 g3 g4=>x.dis j k e f b (own j e g1).2 (own k f g2).2 g3 g4,x.same,by rw[Bc];exact x.len⟩
 .by_cases hj:i=j
  .subst hj;have e1:=Hg h;cases e1;exact⟨_,q,a,xs,rfl,.inl na,SqL.of hh,Reps.sub sub _ rr⟩
  .rw[CK hj]at h;obtain⟨w',q',rw'⟩:=x.good.sh j e h;exact⟨w',q',Rep.sub sub _ rw'⟩
 .obtain⟨hj,h'⟩:=own j e h;obtain⟨b,ys,es,q',z,hb,hh',rr'⟩:=x.good.ow j e h';exact⟨b,ys,es,q',z,.inr ⟨j,e,h,q'⟩,hh',Reps.sub sub _ rr'⟩
end
section
variable{X:Cx}{CL:ClA}{W:XW}{pos:AL}{e:An}{fe:Rho->R D}{fr:Ak}
theorem Cp.exC{f:D->O}(x:Sx X.K CL Fz B Y Z H)(h:Cp X.K CL Fz B W (O.of Y r f) D')(k:∀ d v H',r=.ok d->AJ H H'->D4 X.K CL fr H A H' v d->Sx X.K CL Fz B Y Z H'->Cp X.K CL Fz B W (f d) D'->Q v H'):Bv (D4 X.K CL fr H A) W H r Q:=by
 cases r with
 |ok d=>exact λv H' s r=>k d v H' rfl s r (x.grow s) h
 |exn y=>exact λH' s=>h H' λb o z=>s _ _ (x.same b o z)
 |bad=>exact h
def SAs(X:Cx)(CL:ClA)(W:XW)(fr:Ak)(i:Ag)(st:AW)(f:Rho->R D):Prop:=∀ A,PS X st (OR (λZ H Q=>AOk H A/\∃ Y,Good X.K CL A Y Z H/\Bv (D4 X.K CL fr H A) W H (f Y) Q) (FF i))
theorem SC.sas{n:Aj}(hN:X.N.Nodup)(hi:X.N[i]?=Aa n)(hx:Loc X.env.scope n)(he:SC X CL W fr e fe)(hs:DH e (Aa (.Name n pos')) pos.line X.env=pure Ad)(hf:X.fn n=Ab\/X.env.scope.names.lookup n=Aa .local):SAs X CL W fr i (.Assign [.Name n pos'] e pos) fe:=
 λA=>Oc hN hi hx (he A) hs hf
theorem iV{n:Aj}{fe:Rho->R D}{g:TG}(hc:X.calm=Ab)(B:BlockOk X scope N' ts)(hi:SI X CL W tg iter fi)(hGG:GG X.K CL ts as g)(hg:∀ cl C s H fp,PG (cxC X scope cl C N' s H fp) tg g)(ht:∀ cl C s H fp,STs (cxC X scope cl C N' s H fp) CL ifs fc)(he:∀ cl C s H fp,SE (cxC X scope cl C N' s H fp) CL W0 elt fe)(hs:∀ x,Do iter X.env x=pure x)(hN:X.N.Nodup)(hni:X.N[i]?=Aa n)(hx:X.env.scope.names.lookup n=Aa .local)(hsw:DH (.ListComp elt [⟨tg,iter,ifs,0⟩] scope pos) (Aa (.Name n pos')) pos2.line X.env=pure Ab):SAs X CL W Ab i (.Assign [.Name n pos'] (.ListComp elt [⟨tg,iter,ifs,0⟩] scope pos) pos2) (λY=>(fi Y).bind λxs=>(noX (Ck (λx=>(as x Y).bind fc) (λx=>(as x Y).bind fe) xs)).bind λys=>.ok (.lst ys)):=λA pI s Z H Dn I ⟨hA,Y,gd,p⟩=>
 pP hc B (hi A) hg (λcl C s H fp=>ht cl C s H fp A) (λcl C s H fp=>he cl C s H fp A) hs hN hni hx hsw pI s Z H Dn I ⟨hA,Y,gd,Uf hGG hA gd p⟩
theorem WH{st:AW}(h:SAs X CL W fr i st fe):SS X CL W st (λY=>O.of Y (fe Y) λd=>.next (Y.set i (Aa (d,Ad)))):=λFz B pI s Z H D I ⟨Y,x,p⟩=>
 h (Cb B Y Z) pI s Z H D I ⟨x.aok,Y,x.good,Cp.exC x p λd v H' _ s r x' q=>q _ H' (x'.set i r.1)⟩
theorem VG{st:AW}(h:SAs X CL W Ab i st fe):SS X CL W st (λY=>O.of Y (fe Y) λd=>setF Y i d):=λFz B pI s Z H D I ⟨Y,x,p⟩=>
 h (Cb B Y Z) pI s Z H D I ⟨x.aok,Y,x.good,Cp.exC x p λd v H' _ s r x' q=>by
  cases d with
  |lst ds=>
   obtain⟨a,xs,rfl,h0,h1,rs⟩:=r.2 rfl ds rfl;exact q _ H' (x.setF s h0 h1 rs)
  |dic ds=>exact r.1.elim
  | _=>exact q.elim⟩
theorem nN(he:SC X CL W Ab e fe):SS X CL W (.Return (Aa e) pos) (λY=>O.of Y (fe Y) λd=>.ret d Ab):=λFz B pI s Z H D I ⟨Y,x,p⟩=>
 QY (he (Cb B Y Z)) pI s Z H D I ⟨x.aok,Y,x.good,Cp.exC x p λd v H' _ s r x' q=>q v H' x'.same (Rep.sub (λa h=>.inl h) _ r.1) λ_ ds e=>by
  obtain⟨a,xs,h0,h1,h2,h3⟩:=r.2 rfl ds e;refine⟨a,xs,h0,λo z=>?_,h2,Reps.sub (λb hb=>hb.imp .inl id) _ h3⟩
  have:=x.same a o z;rw[h1]at this;cases this⟩
noncomputable def Su(Y:Rho)(i:Ag):Ak:=match Y[i]? with
  |some (Aa (_,o))=>o
  |_=>Ad
theorem VE(he:PE X e (G4 i)):SS X CL W (.Return (Aa e) pos) (λY=>O.of Y (En Y i) λd=>.ret d (Su Y i)):=λFz B pI s Z H D I ⟨Y,x,p⟩=>
 QY he pI s Z H D I (by
  dsimp only at p;cases e:En Y i with
  |bad=>rw[e]at p;exact p.elim
  |exn z=>exact(UV e).elim
  |ok d=>
   rw[e]at p;obtain⟨o,e⟩:=VR e;have eo:Su Y i=o:=by unfold Su;rw[e]
   rw[O.of_ok,eo]at p;cases o with
   |false=>
    obtain⟨v,q,r⟩:=x.good.sh i d e;exact⟨v,q,p v H x.same (Rep.sub (λa h=>.inl h) _ r) λz=>nomatch z⟩
   |true=>
    obtain⟨a,xs,ds,q,rfl,ha,hh,r⟩:=x.good.ow i d e;obtain⟨n1,n2⟩:=x.new i _ a e q;refine⟨_,q,p _ H x.same ⟨a,xs,rfl,.inl n2,SqL.of hh,Reps.sub (λa h=>.inl h) _ r⟩ λ_ ds' e'=>?_⟩
    cases e';exact⟨a,xs,rfl,n1,hh,Reps.sub (λb hb=>hb.elim .inl λz=>z ▸ ha) _ r⟩)
theorem Wd{ds:Ac D}(h:Dm Y i=.ok ds):Y[i]?=Aa (Aa (.lst ds,Ab)):=by
 unfold Dm at h;split at h
 .rename_i e;cases h;exact e
 .cases h
theorem UN(h:Dm Y i=.exn x):A3:=by
 unfold Dm at h;split at h<;>cases h
variable{o:An}{i:Ag}{apos cpos:AL}
theorem WI(ho:PE X o (G4 i))(he:SE X CL W e fe)(hbase:Hy o "append" X.env (eval o X.env)=eval o X.env)(hfew:((Cj cpos (Aw [e] X.env)).all (λx=>!x.1)&&(Mu cpos (Kz [] X.env)).all (λx=>x.1.isSome)&&decide ([e].length+([]:Ac F2).length+(if ([]:Ac F2).isEmpty then 0 else 1)<30))=Ab)(hline:(apos.endLine==cpos.line)=Ab)(hs:Aw [e] X.env=[(Ad,eval e X.env)])(hsw:DH (.Call (.Attribute o "append" apos) [e] [] cpos) Af pos.line X.env=pure Ad):
  SS X CL W (.Expr (.Call (.Attribute o "append" apos) [e] [] cpos) pos) (λY=>O.of Y (Dm Y i) λxs=>O.of Y (fe Y) λd=>if DC (xs.length+1)=Ab then .next (Y.set i (Aa (.lst (xs++[d]),Ab))) else .bad):=λFz B pI s Z H D I ⟨Y,x,p⟩=>by
 refine MP (j8 PySem.F.plainAttrs_list PySem.F.slot_list_append PySem.F.type_list_append iO ho (EA (he (Cb B Y Z)) GZ hs) hbase hfew hline hs rfl) hsw pI s Z H D I ?_;dsimp only at p;cases e1:Dm Y i with
 |bad=>rw[e1]at p;exact p.elim
 |exn z=>exact(UN e1).elim
 |ok ds=>
  rw[e1,O.of_ok]at p;have hi:=Wd e1;obtain⟨a,xs,ds',q,e2,ha,hh,r⟩:=x.good.ow i _ hi;cases e2;refine⟨_,q,.inl ⟨rfl,xs,SqL.of hh⟩,x.aok,Y,x.good,Cp.ex x p λd v H' _ s rv x' q'=>?_⟩
  split at q'
  .rename_i hz;refine⟨a,xs,v,rfl,rfl,s _ _ hh,?_,q' _ _ (x'.upd hi q ((r.same s).append ⟨rv,trivial⟩))⟩;have:=KH hz;rw[r.length];omega
  .exact q'.elim
theorem uZ{k:An}{fk:Rho->R Ov.D}{spos:AL}(ho:PE X o (G4 i))(hk:ST X CL W k fk)(he:SE X CL W e fe)(ha:∀ v,assign (.Subscript o k spos) X.env v=(do
      let ov <-holding [v] (eval o X.env)
      let iv <-holding [v,ov] (eval k X.env)
      Kx spos
      holding [v,ov,iv] (setItem ov iv v)
      release [v,ov,iv] []))(hs:HB [.Subscript o k spos] e pos.line X.env=pure Ad)(hw:Gv [.Subscript o k spos] e X.env=pure Af)(h1:(CF [.Subscript o k spos] X.env).map (·.2)=[assign (.Subscript o k spos) X.env]):
    SS X CL W (.Assign [.Subscript o k spos] e pos) (λY=>O.of Y (fe Y) λd=>O.of Y (Dm Y i) λxs=>O.of Y ((fk Y).bind Fm) λj=>match plD xs.length j with
      |some n=>.next (Y.set i (Aa (.lst (xs.set n d),Ab)))
      | none=>.bad):=λFz B pI s Z H D I ⟨Y,x,p⟩=>
  WS (he (Cb B Y Z)) (wS ho (hk (Cb B Y Z)) iS ha) hs hw h1 pI s Z H D I ⟨x.aok,Y,x.good,Cp.ex x p λd v H' _ s rv x' q'=>by
    cases e1:Dm Y i with
    |bad=>rw[e1]at q';exact q'.elim
    |exn z=>exact(UN e1).elim
    |ok ds=>
      rw[e1,O.of_ok]at q';have hi:=Wd e1;obtain⟨a,xs,ds',q,e2,ha,hh,r⟩:=x'.good.ow i _ hi;cases e2;refine⟨_,q,x'.aok,Y,x'.good,?_⟩;cases e3:fk Y with
      |bad=>rw[e3]at q';exact q'.elim
      |exn z=>rw[e3]at q';exact λH2 s2=>q' H2 λb o z=>s2 _ _ (x'.same b o z)
      |ok dk=>
        rw[e3]at q';intro y H2 s2 ry;cases dk with
        |int j=>
          have ey:=ry.int_of;subst ey;rw[R.bind_ok,jS,O.of_ok]at q';cases e4:plD ds.length j with
          |none=>rw[e4]at q';exact q'.elim
          |some n=>
            rw[e4]at q';refine⟨a,xs,j,n,rfl,rfl,s2 _ _ hh,?_,q' _ _ ((x'.grow s2).upd hi q (Reps.set (rv.same s2) n (r.same s2)))⟩;rw[r.length];exact e4
        | _=>exact q'.elim⟩
theorem mB{as:Ov.D->Rho->R Rho}{g:TG}(hGT:GT X.K CL as g)(hg:PG X tg g)(he:SE X CL W e fe)(hs:HB [tg] e pos.line X.env=pure Ad)(hw:Gv [tg] e X.env=pure Af)(h1:(CF [tg] X.env).map (·.2)=[assign tg X.env])(hax:∀ d Y x,as d Y≠.exn x):SS X CL W (.Assign [tg] e pos) (λY=>O.of Y (fe Y) λd=>O.of Y (as d Y) λY'=>.next Y'):=λFz B pI s Z H D I ⟨Y,x,p⟩=>
 WS (he (Cb B Y Z)) hg hs hw h1 pI s Z H D I ⟨x.aok,Y,x.good,Cp.ex x p λd v H' _ s rv x' q'=>by
  cases ea:as d Y with
  |bad=>rw[ea]at q';exact q'.elim
  |exn z=>exact absurd ea (hax _ _ z)
  |ok Y2=>
   rw[ea,O.of_ok]at q';exact hGT Fz B Y Z H' v d Y2 _ x' rv ea λZ' x3=>q' Z' H' x3⟩
theorem nL{rest:Ac AW}{f:Rho->O}(i:Ag)(h:SSs X CL W rest f):SSs X CL W rest (λY=>(match Y[i]? with
   |some (Aa (d,Ab))=>O.next (Y.set i (Aa (d,Ad)))
   | _=>O.next Y).seq f):=λFz B=>PSs.weak (h Fz B) λD Z H ⟨Y,x,p⟩=>by
 dsimp only at p;split at p
 .rename_i d e;exact⟨_,x.rel e,p⟩
 .exact⟨Y,x,p⟩
end
section
variable{X:Cx}{CL:ClA}{W:XW}{pos:AL}{e k o:An}{fe fk:Rho->R D}{i:Ag}{apos cpos:AL}
theorem Bq.take{its:Ac Ai}(r:Bq xs its):∀ n,Bq (xs.take n) (its.take n):=by
 induction r with
 |nil=>intro n;simp;exact .nil
 |cons h _ ih=>
  intro n;cases n with
  |zero=>exact .nil
  |succ n=>exact .cons h (ih n)
theorem Bq.drop{its:Ac Ai}(r:Bq xs its):∀ n,Bq (xs.drop n) (its.drop n):=by
 induction r with
 |nil=>intro n;simp;exact .nil
 |cons h t ih=>
  intro n;cases n with
  |zero=>exact .cons h t
  |succ n=>exact ih n
end
section
variable{prog:AS}{w:AF}{A:A6}{E:Vq}{s:Ar}
theorem wB{j t:Al}{x:Ai}{Q:Vq}(st:s.heap.IsTupleIter j t k)(sq:s.heap.IsTuple t its)(at_:its[k]?=Aa x)(go:∀ h2,h2.IsTupleIter j t (k+1)->Ew j s.heap h2->Q x {s with heap:=h2}):Au (model prog w) A (A2 (.ref j)) Q E s:=by
 obtain⟨oj,gj,cj,dj⟩:=id st;obtain⟨ot,gt,_,nt,dt⟩:=sq;show Au _ _ (JW _ _ >>= _) _ _ _;refine Ah (Ch st.typeIs Ec (C1 Ec st.typeIs ZT ?_ (ZO _)));show Au _ _ (field (.ref j) 0 >>= _) _ _ _;refine Ah (Bp gj dj (x:=.ref t) rfl ?_);show Au _ _ (field (.ref j) 1 >>= _) _ _ _;refine Ah (Bp gj dj (x:=.int k 0) rfl ?_);refine Ah (B4 gt dt ?_);simp only[EY,at_];exact Ah (F4 gj dj (by simp) (Av ⟨x,rfl,Av (go _ ⟨_,BW _ gj (E8 (DG dj _)),(Z_5 ..).trans cj,by rw[DG dj];simp[Ct]⟩ (Ha ..))⟩))
theorem iM{j t:Al}{Q:Vq}(calm:A.handled=Af)(st:s.heap.IsTupleIter j t k)(sq:s.heap.IsTuple t its)(at_:its[k]?=Af)(up:∀ h2 e,IM j s.heap h2->(∃ o,h2.get? e=Aa o/\o.cls=.type "StopIteration")->E (.ref e) {s with heap:=h2}):Au (model prog w) A (A2 (.ref j)) Q E s:=by
 obtain⟨oj,gj,cj,dj⟩:=id st;obtain⟨ot,gt,_,nt,dt⟩:=sq;show Au _ _ (JW _ _ >>= _) _ _ _;refine Ah (Ch st.typeIs Ec (C1 Ec st.typeIs ZT ?_ (ZO _)));show Au _ _ (field (.ref j) 0 >>= _) _ _ _;refine Ah (Bp gj dj (x:=.ref t) rfl ?_);show Au _ _ (field (.ref j) 1 >>= _) _ _ _;refine Ah (Bp gj dj (x:=.int k 0) rfl ?_);refine Ah (B4 gt dt ?_);simp only[EY,at_];refine Ah (GW (Ah (F4 gj dj (by simp) ?_)))
 refine Ah ?_;simp only[newExc,newTuple];refine Ah (CP ?_ (by size_fits))
 refine Ah (m:=bG _ _) (IN (a:=.none) (by first|rfl|(simp only[bG];rfl)) (CP ?_ (by size_fits)))
 simp only[raiseNew];refine Ah (wpAny_handled ?_)
 first|rw[show A.in1.handled=Af from calm]|rw[calm]
 exact Ah (Av (wpAny_throw (up _ _ (((Ha ..).extBut.push _).push _) ⟨_,AE _ rfl,rfl⟩)))
end
structure Dw (prog:AS) (w:AF) (A:A6) (j:Al) (fp:Ac Al) (n:Ag) (P:Ag->Ai->Prop) (S:Ag->AB->Prop):Prop where
 frame:∀ i h h2,S i h->(∀ c∈fp,∀ o,h.get? c=Aa o->h2.get? c=Aa o)->S i h2
 item:∀ i (s:Ar) (Q:Vq) (E:Vq),i<n->S i s.heap->(∀ x h2 tk,P i x->S (i+1) h2->Ew j s.heap h2->Q x {s with heap:=h2,toks:=tk})->Au (model prog w) A (A2 (.ref j)) Q E s
 done:∀ i (s:Ar) (Q:Vq) (E:Vq),n<=i->S i s.heap->(∀ h2 e,IM j s.heap h2->(∃ o,h2.get? e=Aa o/\o.cls=.type "StopIteration")->E (.ref e) {s with heap:=h2})->Au (model prog w) A (A2 (.ref j)) Q E s
def EX(t:Ak)(h:AB)(j l:Al)(i:Ag):Prop:=match t with
  |true=>h.IsTupleIter j l i
  |false=>h.IsListIter j l i
def Cu(t:Ak)(h:AB)(l:Al)(its:A9 Ai):Prop:=match t with
  |true=>h.IsTuple l its
  |false=>h.IsList l its
theorem IX{A:A6}(calm:A.handled=Af)(t:Ak)(j l:Al)(ne:l≠j)(its:A9 Ai):Dw prog w A j [j,l] its.size (λi v=>its[i]?=Aa v) (λi h=>EX t h j l i/\Cu t h l its):=by
 cases t with
 |true=>exact⟨λ_ _ _ z k=>⟨z.1.at λo e=>k j (by simp) o e,z.2.at λo e=>k l (by simp) o e⟩,λi s Q E hi z q=>wB z.1 z.2 (x:=its[i]) (by simp[hi]) λh2 z2 sb=>q _ h2 s.toks (by simp[hi]) ⟨z2,z.2.extBut sb.extBut ne⟩ sb,λi s Q E hi z q=>iM calm z.1 z.2 (by simp[hi]) q⟩
 |false=>exact⟨λ_ _ _ z k=>⟨z.1.at λo e=>k j (by simp) o e,z.2.at λo e=>k l (by simp) o e⟩,λi s Q E hi z q=>wpAny_nextOf_list_item z.1 z.2 (x:=its[i]) (by simp[hi]) λh2 z2 sb=>q _ h2 s.toks (by simp[hi]) ⟨z2,z.2.extBut sb.extBut ne⟩ sb,λi s Q E hi z q=>wpAny_nextOf_list_end calm z.1 z.2 (by simp[hi]) q⟩
theorem nb1{I l c:Ag}(b:l<I)(h:c∈[I,l])(j:Ag):c≠I+(j+1):=by
 have h':c=I\/c=l:=by simpa using h
 omega
theorem nb2{I l c:Ag}(b:l<I)(h:c∈[I+1,l]):c≠I/\c≠I+3/\c≠I+4:=by
 have h':c=I+1\/c=l:=by simpa using h
 omega
theorem nij{I i j:Ag}(h:i≠j):I+i≠I+j:=by omega
theorem ni0{I i:Ag}(h:i≠0):I+i≠I:=by omega
section
variable{prog:AS}{w:AF}{A:A6}{E:Vq}{s:Ar}
theorem iZ{I l1 l2 n1 n2 k:Ag}{a b:Ai}{Q:Vq}(b1:l1<I)(b2:l2<I)(D1:Dw prog w A I [I,l1] n1 P1 S1)(D2:Dw prog w A (I+1) [I+1,l2] n2 P2 S2)(hz:GR s.heap (I+4) (I+2) (I+3) .none)(hI:E7 s.heap (I+2) (.ref I) (.ref (I+1)))(hO:E7 s.heap (I+3) a b)(g1:S1 k s.heap)(g2:S2 k s.heap)(k1:k<n1)(k2:k<n2)(go:∀ x y h2 tk,P1 k x->P2 k y->GR h2 (I+4) (I+2) (I+3) (Ct s.heap.objs.size)->E7 h2 (I+3) x y->S1 (k+1) h2->S2 (k+1) h2->E7 h2 s.heap.objs.size x y ->
   (∀ c o,c∉[I,I+1,I+3,I+4]->s.heap.get? c=Aa o->h2.get? c=Aa o)->Q (.ref s.heap.objs.size) {s with heap:=h2,toks:=tk}):Au (model prog w) A (Builtin.«zip.__next__» ⟨[.ref (I+4)],[]⟩) (λfin s'=>∃ v,fin=.done (.ret v)/\Q v s') E s:=by
 refine Ah (m:=field (.ref (I+4)) 2) (Bp hz rfl (x:=.bool Ad) rfl ?_);refine Ah (m:=field (.ref (I+4)) 3) (Bp hz rfl (x:=.ref (I+2)) rfl (Ah (B4 hI rfl ?_)));refine Ah (m:=A4 (.ref (I+4))) ?_;simp only[A4];refine Ah (Bp hz rfl (x:=.none) rfl (Av ?_));rw[Az rfl];refine Ah (GW (Ah (Bp hz rfl (x:=.ref (I+3)) rfl (Ah (Ca hz (by simp) λp1 z1 e1=>Ah ?_)))))
 have z1':GR p1 (I+4) (I+2) (I+3) .ellipsis:=z1;simp only[Gz,GO,D9,DX];refine Ah (Ah (DU (Ah (m:=A2 (.ref I)) (D1.item k _ _ _ k1 (D1.frame _ _ _ g1 λc hc o q=>e1.extBut c o (nb1 b1 hc 3) q) λx p2 t2 px s2 e2=>Av ?_))))
 have o2:E7 p2 (I+3) a b:=e2.extBut _ _ (ni0 (by decide)) (e1.extBut _ _ (nij (by decide)) hO)
 refine Ah (B4 o2 rfl (Ah (GY o2 λp3 o3 e3=>Ah (Gr (Av ?_)))))
 have o3':E7 p3 (I+3) x b:=o3;have g2':S2 k p3:=D2.frame _ _ _ g2 λc hc o q=>e3.extBut c o (nb2 b2 hc).2.1 (e2.extBut c o (nb2 b2 hc).1 (e1.extBut c o (nb2 b2 hc).2.2 q))
 refine Ah (Ah (DU (Ah (m:=A2 (.ref (I+1))) (D2.item k _ _ _ k2 g2' λy p4 t4 py s4 e4=>Av ?_))))
 have o4:E7 p4 (I+3) x b:=e4.extBut _ _ (nij (by decide)) o3'
 refine Ah (B4 o4 rfl (Ah (GY o4 λp5 o5 e5=>Ah (Gr (Av (Av ?_))))))
 have o5':E7 p5 (I+3) x y:=o5;have sz:p5.objs.size=s.heap.objs.size:=by rw[e5.1,e4.1,e3.1,e2.1,e1.1]
 have z5:GR p5 (I+4) (I+2) (I+3) .ellipsis:=e5.extBut _ _ (nij (by decide)) (e4.extBut _ _ (nij (by decide)) (e3.extBut _ _ (nij (by decide)) (e2.extBut _ _ (ni0 (by decide)) z1')))
 refine Ah (B4 o5' rfl (Ah (Jk ?_)));refine Ah (m:=Dc (.ref (I+4)) (.ref p5.objs.size)) ?_;simp only[Dc];have z6:GR (p5.push { cls:=.type "tuple",data:=.seq #[x,y] }) (I+4) (I+2) (I+3) .ellipsis:=As _ z5;refine Ah (Ca z6 (by simp) λp7 z7 e7=>?_)
 have z7':GR p7 (I+4) (I+2) (I+3) (Ct p5.objs.size):=z7;refine Ca z7' (by simp) λp8 z8 e8=>Av ⟨_,rfl,?_⟩
 have z8':GR p8 (I+4) (I+2) (I+3) (Ct p5.objs.size):=z8;have lt5:I+4<p5.objs.size:=AD z5;have up:∀ c o,c≠I+4->p5.get? c=Aa o->p8.get? c=Aa o:=λc o nc q=>e8.extBut _ _ nc (e7.extBut _ _ nc (As _ q))
 have t8:E7 p8 p5.objs.size x y:=e8.extBut _ _ (Du lt5) (e7.extBut _ _ (Du lt5) (AE _ rfl));have a1:S1 (k+1) p8:=D1.frame _ _ _ s2 λc hc o q=>up c o (nb1 b1 hc 3) (e5.extBut c o (nb1 b1 hc 2) (e4.extBut c o (nb1 b1 hc 0) (e3.extBut c o (nb1 b1 hc 2) q)))
 have a2:S2 (k+1) p8:=D2.frame _ _ _ s4 λc hc o q=>up c o (nb2 b2 hc).2.2 (e5.extBut c o (nb2 b2 hc).2.1 q)
 have kp:∀ c o,c∉[I,I+1,I+3,I+4]->s.heap.get? c=Aa o->p8.get? c=Aa o:=λc o nc q=>by
  simp only[Ax,A1,Cc,Ei]at nc;exact up c o nc.2.2.2 (e5.extBut c o nc.2.2.1 (e4.extBut c o nc.2.1 (e3.extBut c o nc.2.2.1 (e2.extBut c o nc.1 (e1.extBut c o nc.2.2.2 q)))))
 have q:=go x y p8 t4 px py (by rw[<-sz];exact z8') (up _ _ (nij (by decide)) o5') a1 a2 (by rw[<-sz];exact t8) kp
 rw[<-sz]at q;exact q
theorem nR{I l1 l2 n1 n2 k:Ag}{a b:Ai}{Q:Fin->Ar->Prop}(b1:l1<I)(b2:l2<I)(D1:Dw prog w A I [I,l1] n1 P1 S1)(D2:Dw prog w A (I+1) [I+1,l2] n2 P2 S2)(hz:GR s.heap (I+4) (I+2) (I+3) .none)(hI:E7 s.heap (I+2) (.ref I) (.ref (I+1)))(hO:E7 s.heap (I+3) a b)(g1:S1 k s.heap)(g2:S2 k s.heap)(hk:n1<=k\/(k<n1/\n2<=k))(up:∀ h2 e tk,(∀ c o,c∉[I,I+1,I+3,I+4]->s.heap.get? c=Aa o->h2.get? c=Aa o)->(∃ o,h2.get? e=Aa o/\o.cls=.type "StopIteration")->E (.ref e) {s with heap:=h2,toks:=tk}):Au (model prog w) A (Builtin.«zip.__next__» ⟨[.ref (I+4)],[]⟩) Q E s:=by
 refine Ah (m:=field (.ref (I+4)) 2) (Bp hz rfl (x:=.bool Ad) rfl ?_);refine Ah (m:=field (.ref (I+4)) 3) (Bp hz rfl (x:=.ref (I+2)) rfl (Ah (B4 hI rfl ?_)));refine Ah (m:=A4 (.ref (I+4))) ?_;simp only[A4];refine Ah (Bp hz rfl (x:=.none) rfl (Av ?_));rw[Az rfl];refine Ah (GW (Ah (Bp hz rfl (x:=.ref (I+3)) rfl (Ah (Ca hz (by simp) λp1 z1 e1=>Ah ?_)))))
 have z1':GR p1 (I+4) (I+2) (I+3) .ellipsis:=z1;simp only[Gz,GO,D9,DX];have g1':S1 k p1:=D1.frame _ _ _ g1 λc hc o q=>e1.extBut c o (nb1 b1 hc 3) q
 rcases hk with k1|⟨k1,k2⟩
 .refine Ah (Ah (DU (Ah (m:=A2 (.ref I)) (D1.done _ _ _ _ k1 g1' λp2 e e2 he=>?_))))
  obtain⟨oe,hoe,hce⟩:=he;have z2:GR p2 (I+4) (I+2) (I+3) .ellipsis:=e2 _ _ (ni0 (by decide)) z1'
  have ne:e≠I+4:=λx=>by subst x;rw[z2]at hoe;cases hoe;simp at hce
  refine Ca z2 (by simp) λp3 _ e3=>up p3 e s.toks (λc o nc q=>?_) ⟨oe,e3.extBut _ _ ne hoe,hce⟩
  simp only[Ax,A1,Cc,Ei]at nc;exact e3.extBut c o nc.2.2.2 (e2 c o nc.1 (e1.extBut c o nc.2.2.2 q))
 .refine Ah (Ah (DU (Ah (m:=A2 (.ref I)) (D1.item k _ _ _ k1 g1' λx p2 t2 px s2 e2=>Av ?_))))
  have o2:E7 p2 (I+3) a b:=e2.extBut _ _ (ni0 (by decide)) (e1.extBut _ _ (nij (by decide)) hO)
  refine Ah (B4 o2 rfl (Ah (GY o2 λp3 o3 e3=>Ah (Gr (Av ?_)))))
  have g2':S2 k p3:=D2.frame _ _ _ g2 λc hc o q=>e3.extBut c o (nb2 b2 hc).2.1 (e2.extBut c o (nb2 b2 hc).1 (e1.extBut c o (nb2 b2 hc).2.2 q))
  refine Ah (Ah (DU (Ah (m:=A2 (.ref (I+1))) (D2.done _ _ _ _ k2 g2' λp4 e e4 he=>?_))))
  obtain⟨oe,hoe,hce⟩:=he;have z4:GR p4 (I+4) (I+2) (I+3) .ellipsis:=e4 _ _ (nij (by decide)) (e3.extBut _ _ (nij (by decide)) (e2.extBut _ _ (ni0 (by decide)) z1'))
  have ne:e≠I+4:=λx=>by subst x;rw[z4]at hoe;cases hoe;simp at hce
  refine Ca z4 (by simp) λp5 _ e5=>up p5 e t2 (λc o nc q=>?_) ⟨oe,e5.extBut _ _ ne hoe,hce⟩
  simp only[Ax,A1,Cc,Ei]at nc;exact e5.extBut c o nc.2.2.2 (e4 c o nc.2.1 (e3.extBut c o nc.2.2.1 (e2.extBut c o nc.1 (e1.extBut c o nc.2.2.2 q))))
end
def SqX(t:Ak)(K:Fg)(H:Hp)(a:Al)(xs:Ac V):Prop:=match t with
  |true=>SqT K H a xs
  |false=>SqL K H a xs
theorem HE(I:Inv X pI Z H s)(h:SqX t X.K H a xs):∃ its:Ac Ai,Bq xs its/\Cu t s.heap a its.toArray/\xs.length<=sizeLine:=by
 cases t with
 |true=>
  obtain⟨its,rv,p,z⟩:=I.tuple h;exact⟨its,rv,p,z⟩
 |false=>
  obtain⟨its,rv,p,z⟩:=I.list h;exact⟨its,rv,p.isList,z⟩
theorem PL{ys:Ac V}(I:Inv X pI Z H s)(h:SqX t X.K H a xs)(h2:SqX t X.K H a ys):xs=ys:=by
 cases t with
 |true=>exact I.tuple_inj h h2
 |false=>exact I.list_inj h h2
noncomputable def Itz(K:Fg)(t1 t2:Ak)(a b:Al):It:=
  ⟨λi H=>∃ xs ys x y,SqX t1 K H a xs/\SqX t2 K H b ys/\xs[i]?=Aa x/\ys[i]?=Aa y,
   λi H v H'=>∃ p x y,H p=Af/\v=.ref p/\(∀ xs,SqX t1 K H a xs->xs[i]?=Aa x)/\(∀ ys,SqX t2 K H b ys->ys[i]?=Aa y)/\H'=upd H p (.tup [x,y]),
   λi H=>∃ xs ys,SqX t1 K H a xs/\SqX t2 K H b ys/\(xs.length<=i\/(i<xs.length/\ys.length<=i))⟩
theorem Inv.turnedL(ch:Ac Al)(I:Inv X pI Z H s)(k:∀ b o,b∉ch->s.heap.get? b=Aa o->h'.get? b=Aa o)(hf:∀ b∈ch,Hm X pI H b):Inv X pI Z H {s with heap:=h',toks:=t'}:=by
 have nit:∀ b u,H b=Aa u->b∉ch:=λb u e z=>by rw[(hf b z).1]at e;cases e
 refine I.step (g':=s.gens) (d':=s.drawn) (ch:=ch) (λb hb=>⟨(hf b hb).2.2.2.1,(hf b hb).2.1,(hf b hb).2.2.2.2.1,(hf b hb).2.2.2.2.2⟩) (λb o _ _ hc e _=>k b o hc e) (λb o _ _ hc e _=>⟨o.slots,k b o hc e⟩) (λ_ _ _ _ n=>n)
  (λb o hc e=>⟨o,k b o hc e⟩) (λ_ _ e=>e) (λ_ _ _ e=>e) (λb ps e=>⟨#[],by rw[e];simp⟩) (λm ⟨o,es,ep,ho,r⟩=>⟨o,es,ep,k _ o (λz=>(hf _ z).2.1 rfl) ho,r⟩) (λb u e=>(I.hok b u e).stay (λc v hc q=>k c v ?_ q) (λ_ q=>q) λ_ _ q=>q) I.bare
 rcases hc with z|z
 .rw[z];exact nit b u e
 .exact nit c _ z
def zTn(t1 t2:Ak)(I l1 l2:Ag)(i:Ag)(h:AB):Prop:=GR h (I+4) (I+2) (I+3) .none/\E7 h (I+2) (.ref I) (.ref (I+1))/\(∃ a b,E7 h (I+3) a b)/\EX t1 h I l1 i/\EX t2 h (I+1) l2 i
noncomputable def zFp(I:Ag):Ac Al:=[I,I+1,I+2,I+3,I+4]
theorem EX.obj{j:Al}(z:EX t h j l i):∃ o,h.get? j=Aa o/\∀ v,o.data≠.cell v:=by
 cases t with
 |true=>obtain⟨o,e,c,d⟩:=z;exact⟨o,e,λv z=>by rw[d]at z;cases z⟩
 |false=>obtain⟨o,e,c,d⟩:=z;exact⟨o,e,λv z=>by rw[d]at z;cases z⟩
theorem EX.at'{j:Al}(z:EX t h j l i)(k:∀ o,h.get? j=Aa o->h2.get? j=Aa o):EX t h2 j l i:=by
 cases t with
 |true=>exact PySem.Heap.IsTupleIter.at z k
 |false=>exact PySem.Heap.IsListIter.at z k
theorem jM(t1 t2:Ak)(I l1 l2:Ag)(b1:l1<I)(b2:l2<I):Turn P w K (.Tuple es n pos) (Itz K t1 t2 l1 l2) (zFp I) (I+4) (zTn t1 t2 I l1 l2) where
  mem:=by simp[zFp]
  obj:=λi h ⟨z1,z2,⟨a,b,z3⟩,z4,z5⟩ c hc=>by
    simp only[zFp,Ax,A1,Cc]at hc;rcases hc with rfl|rfl|rfl|rfl|rfl
    · exact z4.obj
    · exact z5.obj
    · exact⟨_,z2,λv z=>by cases z⟩
    · exact⟨_,z3,λv z=>by cases z⟩
    · exact⟨_,z1,λv z=>by cases z⟩
  keep:=λi h h2 ⟨z1,z2,⟨a,b,z3⟩,z4,z5⟩ k=>⟨k _ (by simp[zFp]) _ z1,k _ (by simp[zFp]) _ z2,⟨a,b,k _ (by simp[zFp]) _ z3⟩,z4.at' λo e=>k _ (by simp[zFp]) o e,z5.at' λo e=>k _ (by simp[zFp]) o e⟩
  item:=by
    intro X hP hw hK hc i pI s Z H E Iv hf ⟨z1,z2,⟨a,b,z3⟩,z4,z5⟩ ⟨xs,ys,x,y,q1,q2,hx,hy⟩;subst hP hw hK;obtain⟨us,rx,sx,_⟩:=HE Iv q1;obtain⟨vs,ry,sy,_⟩:=HE Iv q2;obtain⟨u,hu,ru⟩:=rx.get hx;obtain⟨v,hv,rv⟩:=ry.get hy;have hT:s.TypeIs (.ref (I+4)) "zip" := ⟨_,z1,rfl⟩;have calm:X.A.in1.handled=Af:=Iv.ok.hd hc;show Au _ _ (Eh _) _ _ _;simp only[Eh];refine Ah (Fv (Ch hT CC (C1 CC hT Ev (iZ (k:=i) b1 b2 (IX calm t1 I l1 (Bk b1) us.toArray) (IX calm t2 (I+1) l2 (Bk (DQ b2)) vs.toArray) z1 z2 z3 ⟨z4,sx⟩ ⟨z5,sy⟩
      (by have:=(Bl.mp hu).1;simpa using this) (by have:=(Bl.mp hv).1;simpa using this) λx' y' h2 tk px py c1 c2 c3 c4 c5 kp=>Av ?_) (Eg _))))
    have ex:x'=u:=by
      have px':us[i]?=Aa x':=by simpa using px
      rw[hu]at px';exact(BE px').symm
    have ey:y'=v:=by
      have py':vs[i]?=Aa y':=by simpa using py
      rw[hv]at py';exact(BE py').symm
    subst ex ey;refine⟨_,rfl,wpAny_letOwnedTupleGo_zip c1 λh3 d1 sb=>?_⟩
    have lt4:I+4<s.heap.objs.size:=AD z1;have kp3:∀ c o,c∉zFp I->s.heap.get? c=Aa o->h3.get? c=Aa o:=λc o nc q=>by
      simp only[zFp,Ax,A1,Cc,Ei]at nc;exact sb.extBut c o nc.2.2.2.2 (kp c o (by simp only[Ax,A1,Cc,Ei];exact⟨nc.1,nc.2.1,nc.2.2.2.1,nc.2.2.2.2⟩) q)
    have nT:∀ c∈zFp I,c≠s.heap.objs.size:=λc hc z=>by
      have:c<=I+4:=by
        simp only[zFp,Ax,A1,Cc]at hc;rcases hc with z|z|z|z|z<;>rw[z]<;>simp
      exact absurd (z ▸ DF this lt4) (Bx _)
    have I1:Inv X pI Z (upd H s.heap.objs.size (.tup [x,y])) { s with heap:=s.heap.push { cls:=.type "tuple",data:=.seq #[x',y'] },toks:=s.toks }:=
      Iv.laid (λ_ _ q=>As _ q) (A5 _) ⟨(by decide:2<=sizeLine),[x',y'],.cons ru (.cons rv .nil),⟨_,AE _ rfl,rfl,_,rfl⟩⟩
    have hf':∀ b∈zFp I,Hm X pI (upd H s.heap.objs.size (.tup [x,y])) b:=λb hb=>⟨by rw[BR (nT b hb)];exact(hf b hb).1,(hf b hb).2⟩
    have I2:Inv X pI Z (upd H s.heap.objs.size (.tup [x,y])) {s with heap:=h3,toks:=tk}:=Inv.turnedL (s:={ s with heap:=s.heap.push { cls:=.type "tuple",data:=.seq #[x',y'] },toks:=s.toks }) (zFp I) I1 (λc o nc q=>by
      rcases Z_2 q with ⟨e1,e2⟩|e1
      · subst e1 e2;exact sb.extBut _ _ (Du lt4) c5
      · exact kp3 c o nc e1) hf'
    refine⟨.ref s.heap.objs.size,_,I2,rfl,⟨s.heap.objs.size,x,y,Iv.fresh,rfl,λzs hz=>by rw[PL Iv hz q1];exact hx,λzs hz=>by rw[PL Iv hz q2];exact hy,rfl⟩,⟨d1,sb.extBut _ _ (nij (by decide)) (kp _ _ (by simp) z2),⟨_,_,sb.extBut _ _ (nij (by decide)) c2⟩,c3.1.at' λo q=>sb.extBut _ o (DR (ni0 (by decide))) q,c4.1.at' λo q=>sb.extBut _ o (nij (by decide)) q⟩,λb hb=>(hf' b hb).1⟩
  done:=by
    intro X hP hw hK hc i pI s Z H E Iv hf ⟨z1,z2,⟨a,b,z3⟩,z4,z5⟩ ⟨xs,ys,q1,q2,hk⟩;subst hP hw hK;obtain⟨us,rx,sx,_⟩:=HE Iv q1;obtain⟨vs,ry,sy,_⟩:=HE Iv q2;have hT:s.TypeIs (.ref (I+4)) "zip" := ⟨_,z1,rfl⟩;have calm:X.A.in1.handled=Af:=Iv.ok.hd hc;have e1:=rx.length;have e2:=ry.length;simp only[Eh];refine Ah (Fv (Ch hT CC (C1 CC hT Ev (nR (k:=i) b1 b2 (IX calm t1 I l1 (Bk b1) us.toArray) (IX calm t2 (I+1) l2 (Bk (DQ b2)) vs.toArray) z1 z2 z3 ⟨z4,sx⟩ ⟨z5,sy⟩
      (by simp only[AU];omega) λh2 e tk kp he=>?_) (Eg _))))
    obtain⟨o,ho,hcl⟩:=he;refine Ah (bP (T := "StopIteration") (b:=Ab) ⟨o,ho,hcl⟩ bH (Av ⟨rfl,Inv.turnedL [I,I+1,I+3,I+4] Iv (λc o nc q=>kp c o nc q) λc hc=>hf c ?_⟩))
    simp only[Ax,A1,Cc]at hc;simp only[zFp,Ax,A1,Cc];rcases hc with rfl|rfl|rfl|rfl<;>simp
  self:=λ_ _ _ _ _ st h=>bR st.1 h
section
variable{prog:AS}{w:AF}{A:A6}{E:Vq}{s:Ar}
noncomputable def itO(t:Ak)(l:Al):C4:=match t with
  |true=>{ cls:=.type "tuple_iterator",data:=.fields #[.ref l,.int 0 0] }
  |false=>{ cls:=.type "list_iterator",data:=.fields #[.ref l,.int 0 0] }
theorem Km{Q:Vq}(h:Cu t s.heap l its)(q:Q (.ref s.heap.objs.size) {s with heap:=s.heap.push (itO t l)}):Au (model prog w) A (Le (.ref l)) Q E s:=by
 cases t with
 |true=>exact Hx h q
 |false=>exact F8 h q
theorem Cu.push(z:Cu t h l its)(o:C4):Cu t (h.push o) l its:=by
 cases t with
 |true=>exact PySem.Heap.IsTuple.at z λ_ e=>As _ e
 |false=>exact PySem.Heap.IsList.at z λ_ e=>As _ e
theorem LS{j:Al}(e:h.get? j=Aa (itO t l)):EX t h j l 0:=by
 cases t with
 |true=>exact⟨_,e,rfl,rfl⟩
 |false=>exact⟨_,e,rfl,rfl⟩
theorem Lw(t:Ak)(l:Al):(itO t l).isFreed=Ad:=by cases t<;>rfl
noncomputable abbrev zh2(t1 t2:Ak)(h:AB)(l1 l2:Al):AB:=(h.push (itO t1 l1)).push (itO t2 l2)
noncomputable abbrev zh3(t1 t2:Ak)(h:AB)(l1 l2:Al):AB:=(zh2 t1 t2 h l1 l2).push { cls:=.type "tuple",data:=.seq #[.ref h.objs.size,.ref (h.push (itO t1 l1)).objs.size] }
noncomputable abbrev zh4(t1 t2:Ak)(h:AB)(l1 l2:Al):AB:=(zh3 t1 t2 h l1 l2).push { cls:=.type "tuple",data:=.seq #[.none,.none] }
noncomputable abbrev zh5(t1 t2:Ak)(h:AB)(l1 l2:Al):AB:=(zh4 t1 t2 h l1 l2).push { cls:=.type "zip",data:=.fields #[.none,.bool Ad,.bool Ad,.ref (zh2 t1 t2 h l1 l2).objs.size,.ref (zh3 t1 t2 h l1 l2).objs.size] }
theorem nQ(t1 t2:Ak)(l1 l2:Al)(xs ys:A9 Ai):Meets (Builtin.«zip.__new__» ⟨[.type "zip",.ref l1,.ref l2],[]⟩) (λ_ R s=>Cu t1 s.heap l1 xs/\Cu t2 s.heap l2 ys/\R (.ok (.ret (.ref (zh4 t1 t2 s.heap l1 l2).objs.size))) {s with heap:=zh5 t1 t2 s.heap l1 l2}):=
 .of_wp λprog w A R s h=>by
  obtain⟨hp,g,d,tk,os⟩:=s;obtain⟨a1,a2,q⟩:=h;have hsub:=sub_zip;have L1:Cu t1 (Go ⟨hp,g,d,tk,os⟩) l1 xs:=a1;have L2:Cu t2 (Go ⟨hp.push (itO t1 l1),g,d,tk,os⟩) l2 ys:=a2.push _
  wp_walk using Km L1,Km L2
  exact⟨_,rfl,q⟩
theorem jA{t1 t2:Ak}{l1 l2:Al}{xs:A9 Ai}{Q:Vq}(a1:Cu t1 s.heap l1 xs)(a2:Cu t2 s.heap l2 ys)(q:∀ h2,zTn t1 t2 s.heap.objs.size l1 l2 0 h2->(∀ c o,s.heap.get? c=Aa o->h2.get? c=Aa o)->Q (.ref (s.heap.objs.size+4)) {s with heap:=h2}):Au (model prog w) A (call (.type "zip") [.ref l1,.ref l2]) Q E s:=by
 refine JX ZP (by decide) (F.typeCall_zip_2 _ _) (F.newCall_zip_2 _ _) (λobj=>F.args_object_init_3 obj _ _) ZU (nQ t1 t2 l1 l2 xs ys) ⟨a1,a2,?_⟩
 have s1:(s.heap.push (itO t1 l1)).objs.size=s.heap.objs.size+1:=BG ..;have s2:(zh2 t1 t2 s.heap l1 l2).objs.size=s.heap.objs.size+2:=by rw[BG,s1]
 have s3:(zh3 t1 t2 s.heap l1 l2).objs.size=s.heap.objs.size+3:=by rw[BG,s2]
 have s4:(zh4 t1 t2 s.heap l1 l2).objs.size=s.heap.objs.size+4:=by rw[BG,s3]
 have u5:∀ {c o},(zh4 t1 t2 s.heap l1 l2).get? c=Aa o->(zh5 t1 t2 s.heap l1 l2).get? c=Aa o:=λe=>As _ e
 have u4:∀ {c o},(zh3 t1 t2 s.heap l1 l2).get? c=Aa o->(zh5 t1 t2 s.heap l1 l2).get? c=Aa o:=λe=>u5 (As _ e)
 have u3:∀ {c o},(zh2 t1 t2 s.heap l1 l2).get? c=Aa o->(zh5 t1 t2 s.heap l1 l2).get? c=Aa o:=λe=>u4 (As _ e)
 have u2:∀ {c o},(s.heap.push (itO t1 l1)).get? c=Aa o->(zh5 t1 t2 s.heap l1 l2).get? c=Aa o:=λe=>u3 (As _ e)
 have g5:(zh5 t1 t2 s.heap l1 l2).get? (zh4 t1 t2 s.heap l1 l2).objs.size=Aa _:=AE _ rfl;have g4:(zh5 t1 t2 s.heap l1 l2).get? (zh3 t1 t2 s.heap l1 l2).objs.size=Aa _:=u5 (AE _ rfl);have g3:(zh5 t1 t2 s.heap l1 l2).get? (zh2 t1 t2 s.heap l1 l2).objs.size=Aa _:=u4 (AE _ rfl);have g2:(zh5 t1 t2 s.heap l1 l2).get? (s.heap.push (itO t1 l1)).objs.size=Aa _:=u3 (AE _ (Lw _ _));have g1:(zh5 t1 t2 s.heap l1 l2).get? s.heap.objs.size=Aa _:=u2 (AE _ (Lw _ _));show _/\_;rw[s2,s3,s4]at g5;rw[s3]at g4;rw[s1,s2]at g3;rw[s1]at g2;rw[s4];exact⟨⟨_,g5,rfl⟩,q _ ⟨g5,g3,⟨_,_,g4⟩,LS g1,LS g2⟩ λc o e=>u2 (As _ e)⟩
end
def cW(K:Fg)(ta:TA):TI:=λZ H R=>ta Z H λvs H1=>∃ t1 t2 a b xs ys,vs=[.ref a,.ref b]/\SqX t1 K H1 a xs/\SqX t2 K H1 b ys/\(xs.length<=sizeLine->R (Itz K t1 t2 a b) H1)
theorem Cu.lt(z:Cu t h a its):a<h.objs.size:=by
 cases t with
 |true=>obtain⟨o,e,_⟩:=z;exact AD e
 |false=>obtain⟨o,e,_⟩:=z;exact AD e
theorem wO{a b:An}(hg:Gl X "zip")(hm:X.mg "zip" = Af)(ha:PA X [a,b] ta)(hs:Aw [a,b] X.env=[(Ad,eval a X.env),(Ad,eval b X.env)])(hs2:Aw [b] X.env=[(Ad,eval b X.env)]):
  PI X (.Tuple es n tpos) (.Call (.Name "zip" p) [a,b] [] pos) (cW X.K ta):=by
 intro pI s Z H R I h;refine K8 (Ju I hg hm Y_7 (Cw (thn (ha pos pI s Z H _ I h) λus s1 ⟨vs,H1,I1,r1,q1⟩=>?_) (by rw[hs,hs2]) (by rw[hs2];rfl)))
 obtain⟨t1,t2,c,d,xs,ys,e,sx,sy,q⟩:=q1;subst e;cases r1 with
 |cons r rr=>
  cases rr with
  |cons r' rr=>
   cases rr;cases r;cases r';obtain⟨us,ru,iu,zu⟩:=HE I1 sx;obtain⟨vs,rv,iv,_⟩:=HE I1 sy;refine jA iu iv λh2 z kp=>bR z.1 ?_
   refine⟨s1.heap.objs.size+4,zFp s1.heap.objs.size,_,_,H1,rfl,I1.kept (t':=s1.toks) kp,jM t1 t2 s1.heap.objs.size c d iu.lt iv.lt,z,λb hb=>?_,q zu⟩
   have hb':s1.heap.objs.size<=b:=by
    simp only[zFp,Ax,A1,Cc]at hb;rcases hb with z|z|z|z|z<;>rw[z]<;>simp
   exact I1.fpOk hb' (I1.hok.fresh hb')
theorem L8{ds:Ac D}(r:Rep K CL H A v d)(e:C5 d=.ok ds):∃ t a xs,v=.ref a/\(∀ H2,Kp A H H2->SqX t K H2 a xs)/\Reps K CL H A xs ds:=by
 cases d with
 |lst es=>
  cases e;obtain⟨q,xs,rfl,na,sq,r⟩:=r;exact⟨Ad,q,xs,rfl,λH2 k=>Of k na sq,r⟩
 |tup es=>
  cases e;obtain⟨q,xs,rfl,na,sq,r⟩:=r;exact⟨Ab,q,xs,rfl,λH2 k=>Oe k na sq,r⟩
 |_=>cases e
theorem Qz:∀(xs ys:Ac D),(Gj xs ys).length=min xs.length ys.length
 |[],_=>by simp[Gj]
 |_::_,[]=>by simp[Gj]
 |x::xs,y::ys=>by
  rw[Gj,BY,Qz xs ys];simp only[BY];omega
theorem UR:∀(xs ys:Ac D)(i:Ag)(d:D),(Gj xs ys)[i]?=Aa d->∃ x y,xs[i]?=Aa x/\ys[i]?=Aa y/\d=.tup [x,y]
 |[],_,i,d,h=>by simp[Gj]at h
 |_::_,[],i,d,h=>by simp[Gj]at h
 |x::xs,y::ys,0,d,h=>by
  rw[Gj]at h;simp only[EF,Cy]at h;exact⟨x,y,rfl,rfl,h.symm⟩
 |x::xs,y::ys,i+1,d,h=>by
  rw[Gj]at h;simp only[EE]at h ⊢;exact UR xs ys i d h
theorem jF{t1 t2:Ak}{ys:Ac V}{ds es:Ac D}(s1:∀ H2,Kp A H1 H2->SqX t1 K H2 a xs)(s2:∀ H2,Kp A H1 H2->SqX t2 K H2 b ys)(r1:Reps K CL H1 A xs ds)(r2:Reps K CL H1 A ys es):JI K CL A (Gj ds es) (Itz K t1 t2 a b) H1:=λH k i=>by
 refine⟨λhi=>⟨xs,ys,s1 H k,s2 H k,?_⟩,λd hd=>?_⟩
 .rw[Qz]at hi;rw[r1.length,r2.length];omega
 .obtain⟨x,y,hx,hy,rfl⟩:=UR _ _ _ _ hd;obtain⟨u,hu,ru⟩:=r1.get hx;obtain⟨v,hv,rv⟩:=r2.get hy;refine⟨⟨xs,ys,u,v,s1 H k,s2 H k,hu,hv⟩,?_⟩;rintro w' H' ⟨p,x',y',hp,rfl,c1,c2,rfl⟩;have ex:x'=u:=BE ((c1 xs (s1 H k)).symm.trans hu);have ey:y'=v:=BE ((c2 ys (s2 H k)).symm.trans hv);subst ex ey;have sm:=GB hp (.tup [x',y']);exact⟨sm,λB hB aB=>LI aB hp ⟨MA ru k hB,MA rv k hB,trivial⟩⟩
section
variable{X:Cx}{CL:ClA}{W:XW}{pos p:AL}{a b:An}{fa fb:Rho->R D}
theorem vG(ha:SE X CL W a fa)(hb:SE X CL W b fb)(hg:Gl X "zip")(hm:X.mg "zip" = Af)(hs:Aw [a,b] X.env=[(Ad,eval a X.env),(Ad,eval b X.env)])(hs2:Aw [b] X.env=[(Ad,eval b X.env)]):
  SI X CL W (.Tuple es n tpos) (.Call (.Name "zip" p) [a,b] [] pos) (λY=>(fa Y).bind λx=>(fb Y).bind λy=>(C5 x).bind λxs=>(C5 y).bind λys=>.ok (Gj xs ys)):=
 λA=>PI.weak (wO hg hm (EA (ha A) (EA (hb A) GZ hs2) (by rw[hs,hs2])) hs hs2) λZ H R ⟨hA,Y,g,q⟩=>⟨hA,Y,g,Fk.ex q λd v H1 _ s1 r1 p1=>⟨hA.same s1,Y,g.same s1,Fk.ex p1 λd2 v2 H2 _ s2 r2 p2=>by
  cases e1:C5 d with
  |bad=>rw[e1]at p2;exact p2.elim
  |exn z=>exact absurd e1 (by cases d<;>simp[C5])
  |ok ds=>
   cases e2:C5 d2 with
   |bad=>rw[e1,e2]at p2;exact p2.elim
   |exn z=>exact absurd e2 (by cases d2<;>simp[C5])
   |ok es=>
    rw[e1,e2]at p2;obtain⟨t1,c1,xs,rfl,k1,rs1⟩:=L8 (r1.same s2) e1;obtain⟨t2,c2,ys,rfl,k2,rs2⟩:=L8 r2 e2;refine⟨t1,t2,c1,c2,xs,ys,rfl,k1 H2 (Kp.of (AJ.refl H2)),k2 H2 (Kp.of (AJ.refl H2)),λhz=>p2 _ H2 (AJ.refl H2) (jF k1 k2 rs1 rs2) ?_⟩
    rw[Qz,<-rs1.length];omega⟩⟩
end
theorem EX.live{l:Ag}(z:EX t h j l i):∃ o,h.get? j=Aa o/\∀ v,o.data≠.cell v:=by
 cases t with
 |true=>obtain⟨o,e,c,d⟩:=z;exact⟨o,e,λv z=>by rw[d]at z;cases z⟩
 |false=>obtain⟨o,e,c,d⟩:=z;exact⟨o,e,λv z=>by rw[d]at z;cases z⟩
theorem EX.keep{l:Ag}(z:EX t h j l i)(k:∀ o,h.get? j=Aa o->h2.get? j=Aa o):EX t h2 j l i:=by
 cases t with
 |true=>exact PySem.Heap.IsTupleIter.at z k
 |false=>exact PySem.Heap.IsListIter.at z k
theorem yS{A:A6}(calm:A.handled=Af)(t:Ak)(j l:Al)(ne:l≠j)(its:A9 Ai):Draws prog w A j [j,l] its.size (λi v=>its[i]?=Aa v) (λi h=>EX t h j l i/\Cu t h l its):=
 have d:=IX (prog:=prog) (w:=w) calm t j l ne its
 ⟨λi h z=>let ⟨o,e,_⟩:=z.1.live;⟨o,e⟩,d.frame,d.item,λs Q E h q=>d.done _ s Q E (A5 _) h q⟩
theorem qW{A:A6}(calm:A.handled=Af)(t:Ak)(j l:Al)(ne:l≠j)(its:A9 Ai)(i:Ag)(hi:its.size<=i):Draws prog w A j [j,l] i (λ_ _=>A3) (λk h=>k=i/\EX t h j l i/\Cu t h l its):=
 have d:=IX (prog:=prog) (w:=w) calm t j l ne its
 ⟨λ_ h z=>let ⟨o,e,_⟩:=z.2.1.live;⟨o,e⟩,λk h h' z q=>⟨z.1,d.frame i h h' z.2 q⟩,λk s Q E lt z=>absurd z.1 (Bk lt),λs Q E h q=>d.done i s Q E hi h.2 q⟩
noncomputable def Ite(K:Fg)(t:Ak)(a:Al):It:=
 ⟨λi H=>∃ xs x,SqX t K H a xs/\xs[i]?=Aa x,λi H v H'=>∃ p x,H p=Af/\v=.ref p/\(∀ xs,SqX t K H a xs->xs[i]?=Aa x)/\H'=upd H p (.tup [.int i,x]),λi H=>∃ xs,SqX t K H a xs/\xs.length<=i⟩
def eTn(t:Ak)(I l:Ag)(i:Ag)(h:AB):Prop:=(∃ old,IsEnum h (I+1) I i old)/\EX t h I l i
theorem gN(t:Ak)(I l:Ag)(b:l<I):Turn P w K (.Tuple es n pos) (Ite K t l) [I,I+1] (I+1) (eTn t I l) where
  mem:=by simp
  obj:=λi h ⟨⟨old,z1⟩,z2⟩ c hc=>by
    simp only[Ax,A1,Cc]at hc;rcases hc with rfl|rfl
    · exact z2.live
    · exact⟨_,z1,λv z=>by cases z⟩
  keep:=λi h h2 ⟨⟨old,z1⟩,z2⟩ k=>⟨⟨old,k _ (by simp) _ z1⟩,z2.keep λo e=>k _ (by simp) o e⟩
  item:=by
    intro X hP hw hK hc i pI s Z H E Iv hf ⟨⟨old,z1⟩,z2⟩ ⟨xs,x,q1,hx⟩;subst hP hw hK;obtain⟨us,rx,px,_⟩:=HE Iv q1;obtain⟨u,hu,ru⟩:=rx.get hx;have lu:i<us.toArray.size:=by
      have:=(Bl.mp hu).1;simpa using this
    refine wpAny_pyNext_enum_itemD (yS (A:=X.A.in1) (Iv.ok.hd hc) t I l (Bk b) us.toArray) z1 ⟨z2,px⟩ lu (ni0 (by decide)) (by simp only[Ax,A1,Cc,Ei];exact⟨ni0 (by decide),Du (AH b (Et _ _))⟩) λu' h2 tk hu' ho it2 hT sz kp=>⟨_,rfl,wpAny_letOwnedTupleGo_enum ho λh3 d1 sb=>?_⟩
    have eu:u'=u:=by
      rw[YO,hu]at hu';exact(BE hu').symm
    subst eu;have lt:I+1<s.heap.objs.size:=AD z1;have kp3:∀ c o,c∉[I,I+1]->s.heap.get? c=Aa o->h3.get? c=Aa o:=λc o nc q=>by
      simp only[Ax,A1,Cc,Ei]at nc;exact sb.extBut c o nc.2 (kp c o nc.2 nc.1 q)
    have nT:∀ c∈[I,I+1],c≠s.heap.objs.size:=λc hc z=>by
      have:c<=I+1:=by
        simp only[Ax,A1,Cc]at hc;rcases hc with z|z<;>rw[z]<;>simp
      exact absurd (z ▸ DF this lt) (Bx _)
    have I1:Inv X pI Z (upd H s.heap.objs.size (.tup [.int i,x])) { s with heap:=s.heap.push { cls:=.type "tuple",data:=.seq #[.int i tk,u'] },toks:=s.toks }:=
      Iv.laid (λ_ _ q=>As _ q) (A5 _) ⟨(by decide:2<=sizeLine),[.int i tk,u'],.cons ⟨_,rfl⟩ (.cons ru .nil),⟨_,AE _ rfl,rfl,_,rfl⟩⟩
    have hf':∀ b∈[I,I+1],Hm X pI (upd H s.heap.objs.size (.tup [.int i,x])) b:=λb hb=>⟨by rw[BR (nT b hb)];exact(hf b hb).1,(hf b hb).2⟩
    have I2:Inv X pI Z (upd H s.heap.objs.size (.tup [.int i,x])) {s with heap:=h3,toks:=tk+1}:=Inv.turnedL (s:={ s with heap:=s.heap.push { cls:=.type "tuple",data:=.seq #[.int i tk,u'] },toks:=s.toks }) [I,I+1] I1 (λc o nc q=>by
      rcases Z_2 q with ⟨e1,e2⟩|e1
      · subst e1 e2;exact sb.extBut _ _ (Du lt) hT
      · exact kp3 c o nc e1) hf'
    exact⟨.ref s.heap.objs.size,_,I2,rfl,⟨s.heap.objs.size,x,Iv.fresh,rfl,λzs hz=>by rw[PL Iv hz q1];exact hx,rfl⟩,⟨⟨u',by simpa using d1⟩,it2.1.keep λo q=>sb.extBut _ o (DR (ni0 (by decide))) q⟩,λb hb=>(hf' b hb).1⟩
  done:=by
    intro X hP hw hK hc i pI s Z H E Iv hf ⟨⟨old,z1⟩,z2⟩ ⟨xs,q1,hk⟩;subst hP hw hK;obtain⟨us,rx,px,_⟩:=HE Iv q1;have e1:=rx.length;have e2:us.toArray.size<=i:=by rw[AU,<-e1];exact hk
    refine wpAny_pyNext_enum_endD (qW (A:=X.A.in1) (Iv.ok.hd hc) t I l (Bk b) us.toArray i e2) z1 ⟨rfl,z2,px⟩ λh2 eb=>⟨rfl,Inv.turnedL [I] Iv (t':=s.toks) (λc o nc q=>eb c o (λz=>nc (by simp[z])) q) λc hc=>hf c ?_⟩
    have:c=I:=by simpa using hc
    subst this;simp
  self:=λ_ _ _ _ _ st h=>bQ st.1.choose_spec h
section
variable{prog:AS}{w:AF}{A:A6}{E:Vq}{s:Ar}
theorem jZ(t:Ak)(l:Al)(xs:A9 Ai):Meets (Builtin.«enumerate.__new__» ⟨[.type "enumerate",.ref l],[]⟩) (λ_ R s=>Cu t s.heap l xs /\
   R (.ok (.ret (.ref (s.heap.push (itO t l)).objs.size))) { s with heap:=(s.heap.push (itO t l)).push { cls:=.type "enumerate",data:=.fields #[.none,.bool Ad,.ref s.heap.objs.size,Ct 0,.none,.none] } }):=
 .of_wp λprog w A R s h=>by
  obtain⟨hp,g,d,tk,os⟩:=s;obtain⟨hl,h⟩:=h;have hsub:=sub_enumerate;have hL:Cu t (Go ⟨hp,g,d,tk,os⟩) l xs:=hl
  wp_walk
  refine wpAny_stack_any λst=>Av ?_
  split
  .rename_i c _ _ _ _ _;cases (c==F3 "enumerate")
   .wp_walk using Km hL
    exact⟨_,rfl,h⟩
   .wp_walk using Km hL
    exact⟨_,rfl,h⟩
  .wp_walk using Km hL
   exact⟨_,rfl,h⟩
theorem iK{xs:A9 Ai}{Q:Vq}(hL:Cu t s.heap l xs)(h:∀ h',IsEnum h' (s.heap.objs.size+1) s.heap.objs.size 0 .none->EX t h' s.heap.objs.size l 0->(∀ b o,s.heap.get? b=Aa o->h'.get? b=Aa o)->Q (.ref (s.heap.objs.size+1)) {s with heap:=h'}):
    Au (model prog w) A (call (.type "enumerate") [.ref l]) Q E s:=by
  refine JX F.called_enumerate (by decide) (F.typeCall_enumerate_1 _) (F.newCall_enumerate_1 _) (λobj=>ZM obj _) F.entry_enumerate_new (jZ t l xs) ⟨hL,?_⟩
  have hz:(s.heap.push (itO t l)).objs.size=s.heap.objs.size+1:=BG ..;show _/\_;rw[hz];have he:IsEnum ((s.heap.push (itO t l)).push { cls:=.type "enumerate",data:=.fields #[.none,.bool Ad,.ref s.heap.objs.size,Ct 0,.none,.none] }) (s.heap.objs.size+1) s.heap.objs.size 0 .none:=by
    have:=AE (s.heap.push (itO t l)) (o:={ cls:=.type "enumerate",data:=.fields #[.none,.bool Ad,.ref s.heap.objs.size,Ct 0,.none,.none] }) rfl;rw[hz]at this;exact this
  exact⟨⟨_,he,rfl⟩,h _ he (LS (As _ (AE _ (Lw _ _)))) λb o x=>As _ (As _ x)⟩
end
def cX(K:Fg)(ta:TA):TI:=λZ H R=>ta Z H λvs H1=>∃ t a xs,vs=[.ref a]/\SqX t K H1 a xs/\(xs.length<=sizeLine->R (Ite K t a) H1)
theorem pT{a:An}(hg:Gl X "enumerate")(hm:X.mg "enumerate" = Af)(ha:PA X [a] ta)(hs:Aw [a] X.env=[(Ad,eval a X.env)]):
  PI X (.Tuple es n tpos) (.Call (.Name "enumerate" p) [a] [] pos) (cX X.K ta):=by
 intro pI s Z H R I h;refine K8 (Ju I hg hm PyProof.Rows.boot_enumerate (Cw (thn (ha pos pI s Z H _ I h) λus s1 ⟨vs,H1,I1,r1,q1⟩=>?_) hs rfl))
 obtain⟨t,c,xs,e,sx,q⟩:=q1;subst e;cases r1 with
 |cons r rr=>
  cases rr;cases r;obtain⟨us,ru,pu,zu⟩:=HE I1 sx;refine iK pu λh2 z1 z2 kp=>bQ z1 ?_
  refine⟨s1.heap.objs.size+1,[s1.heap.objs.size,s1.heap.objs.size+1],_,_,H1,rfl,I1.kept (t':=s1.toks) kp,gN t s1.heap.objs.size c pu.lt,⟨⟨_,z1⟩,z2⟩,λb hb=>?_,q zu⟩
  have hb':s1.heap.objs.size<=b:=by
   simp only[Ax,A1,Cc]at hb;rcases hb with z|z<;>rw[z]<;>simp
  exact I1.fpOk hb' (I1.hok.fresh hb')
theorem Qx:∀(j:Ae)(xs:Ac D),(Fn j xs).length=xs.length
 |_,[]=>rfl
 |j,x::xs=>by rw[Fn,BY,Qx,BY]
theorem Vv:∀(xs:Ac D)(j:Ae)(i:Ag)(d:D),(Fn j xs)[i]?=Aa d->∃ x,xs[i]?=Aa x/\d=.tup [.int (j+i),x]
 |[],j,i,d,h=>by simp[Fn]at h
 |x::xs,j,0,d,h=>by
  rw[Fn]at h;simp only[EF,Cy]at h;exact⟨x,rfl,by rw[<-h];simp⟩
 |x::xs,j,i+1,d,h=>by
  rw[Fn]at h;simp only[EE]at h ⊢;obtain⟨y,h1,h2⟩:=Vv xs (j+1) i d h;exact⟨y,h1,by rw[h2];congr 3;omega⟩
theorem gZ{ds:Ac D}(sq:∀ H2,Kp A H1 H2->SqX t K H2 a xs)(r1:Reps K CL H1 A xs ds):JI K CL A (Fn 0 ds) (Ite K t a) H1:=λH k i=>by
 have s1:=sq H k;refine⟨λhi=>⟨xs,s1,?_⟩,λd hd=>?_⟩
 .rw[Qx]at hi;rw[r1.length];exact hi
 .obtain⟨x,hx,rfl⟩:=Vv _ _ _ _ hd;obtain⟨u,hu,ru⟩:=r1.get hx;refine⟨⟨xs,u,s1,hu⟩,?_⟩;rintro w' H' ⟨p,x',hp,rfl,c1,rfl⟩;have ex:x'=u:=BE ((c1 xs s1).symm.trans hu);subst ex;rw[Er];exact⟨GB hp (.tup [.int i,x']),λB hB aB=>LI aB hp ⟨rfl,MA ru k hB,trivial⟩⟩
section
variable{X:Cx}{CL:ClA}{W:XW}{pos p:AL}{a:An}{fa:Rho->R D}
theorem mH(ha:SE X CL W a fa)(hg:Gl X "enumerate")(hm:X.mg "enumerate" = Af)(hs:Aw [a] X.env=[(Ad,eval a X.env)]):
  SI X CL W (.Tuple es n tpos) (.Call (.Name "enumerate" p) [a] [] pos) (λY=>(fa Y).bind λx=>(C5 x).bind λxs=>.ok (Fn 0 xs)):=
 λA=>PI.weak (pT hg hm (EA (ha A) GZ hs) hs) λZ H R ⟨hA,Y,g,q⟩=>⟨hA,Y,g,Fk.ex q λd v H1 _ s1 r1 p1=>by
  cases e1:C5 d with
  |bad=>rw[e1]at p1;exact p1.elim
  |exn z=>exact absurd e1 (by cases d<;>simp[C5])
  |ok ds=>
   rw[e1]at p1;obtain⟨t,c,xs,rfl,k1,rs⟩:=L8 r1 e1;exact⟨t,c,xs,rfl,k1 H1 (Kp.of (AJ.refl H1)),λhz=>p1 _ H1 (AJ.refl H1) (gZ k1 rs) (by rw[Qx,<-rs.length];exact hz)⟩⟩
end
noncomputable abbrev EW(h:AB)(z TI TO:Al)(f0 f1:Ai):Prop:=h.get? z=Aa { cls:=.type "zip",dict:=Af,data:=.fields #[f0,f1,.bool Ad,.ref TI,.ref TO],slots:=#[] }
noncomputable abbrev EK(h:AB)(T:Al)(a b c:Ai):Prop:=h.get? T=Aa { cls:=.type "tuple",data:=.seq #[a,b,c] }
section
variable{prog:AS}{w:AF}{A:A6}{E:Vq}{s:Ar}
theorem nb3{I l c:Ag}(b:l<I)(h:c∈[I+j,l])(i:Ag)(hi:i≠j):c≠I+i:=by
 have h':c=I+j\/c=l:=by simpa using h
 omega
theorem U7{z TI TO T1:Ag}{Q:Ak->Ar->Prop}(hz:EW s.heap z TI TO (Ct T1) (.bool f1))(hT:s.heap.get? T1=Aa o1)(go:∀ h1,EW h1 z TI TO (Ct T1) (.bool Ab)->(∀ c o,c≠z->s.heap.get? c=Aa o->h1.get? c=Aa o)->h1.objs.size=s.heap.objs.size->Q Ad {s with heap:=h1}):Au (model prog w) A (A4 (.ref z)) Q E s:=by
 simp only[A4];refine Ah (Bp hz rfl (x:=Ct T1) rfl ?_);show Au _ _ (loadIfAlive T1 >>= _) _ _ _;refine Ah (λJ p _=>?_)
 show Au _ _ _ _ _ _;rw[hT];show Au _ _ (field (.ref z) 1 >>= _) _ _ _;refine Ah (Bp hz rfl (x:=.bool f1) rfl ?_);cases f1 with
 |true=>exact Av (go s.heap hz (λ_ _ _ e=>e) rfl)
 |false=>exact Ah (Ca hz (by simp) λh1 z1 sb=>Av (go h1 z1 (λc o nc e=>sb.extBut c o nc e) sb.1))
theorem UQ{z TI TO:Ag}{f1:Ai}{Q:Ak->Ar->Prop}(hz:EW s.heap z TI TO f0 f1)(hf:f0=.none\/∃ T1:Ag,f0=Ct T1/\s.heap.get? T1=Af)(go:Q Ab s):Au (model prog w) A (A4 (.ref z)) Q E s:=by
 simp only[A4];rcases hf with rfl|⟨T1,rfl,hT⟩
 .exact Ah (Bp hz rfl (x:=.none) rfl (Av go))
 .refine Ah (Bp hz rfl (x:=Ct T1) rfl ?_);show Au _ _ (loadIfAlive T1 >>= _) _ _ _;refine Ah (λJ p _=>?_)
  show Au _ _ _ _ _ _;rw[hT];exact Av go
theorem gX{I l1 l2 l3 n1 n2 n3 k T1:Ag}{P3:Ag->Ai->Prop}{S3:Ag->AB->Prop}{Q:Vq}(b1:l1<I)(b2:l2<I)(b3:l3<I)(D1:Dw prog w A (I+0) [I+0,l1] n1 P1 S1)(D2:Dw prog w A (I+1) [I+1,l2] n2 P2 S2)(D3:Dw prog w A (I+2) [I+2,l3] n3 P3 S3)(hz:EW s.heap (I+5) (I+3) (I+4) (Ct T1) (.bool f1))(hI:EK s.heap (I+3) (.ref (I+0)) (.ref (I+1)) (.ref (I+2)))(hT:s.heap.get? T1=Aa o1)(g1:S1 k s.heap)(g2:S2 k s.heap)(g3:S3 k s.heap)(k1:k<n1)(k2:k<n2)(k3:k<n3)(go:∀ x y u h2 tk,P1 k x->P2 k y->P3 k u->EW h2 (I+5) (I+3) (I+4) (Ct T1) (.bool Ab)->S1 (k+1) h2->S2 (k+1) h2->S3 (k+1) h2->EK h2 s.heap.objs.size x y u->h2.objs.size=s.heap.objs.size+1 ->
   (∀ c o,c∉[I+0,I+1,I+2,I+5]->s.heap.get? c=Aa o->h2.get? c=Aa o)->Q (.ref s.heap.objs.size) {s with heap:=h2,toks:=tk}):Au (model prog w) A (Builtin.«zip.__next__» ⟨[.ref (I+5)],[]⟩) (λfin s'=>∃ v,fin=.done (.ret v)/\Q v s') E s:=by
 refine Ah (m:=field (.ref (I+5)) 2) (Bp hz rfl (x:=.bool Ad) rfl ?_);refine Ah (m:=field (.ref (I+5)) 3) (Bp hz rfl (x:=.ref (I+3)) rfl (Ah (B4 hI rfl ?_)));refine Ah (m:=A4 (.ref (I+5))) (U7 hz hT λp1 z1 e1 s1=>?_)
 rw[AK (by decide)]
 refine Ah ?_;simp only[<-Yu,D9,DX];have f1':S1 k p1:=D1.frame _ _ _ g1 λc hc o q=>e1 c o (nb3 b1 hc 5 (by decide)) q
 refine Ah (Ah (BV (Ah (m:=A2 (.ref (I+0))) (D1.item k _ _ _ k1 f1' λx p2 t2 px s2 e2=>Av (Av ?_)))))
 have f2':S2 k p2:=D2.frame _ _ _ g2 λc hc o q=>e2.extBut c o (nb3 b2 hc 0 (by decide)) (e1 c o (nb3 b2 hc 5 (by decide)) q)
 refine Ah (Ah (BV (Ah (m:=A2 (.ref (I+1))) (D2.item k _ _ _ k2 f2' λy p3 t3 py s3 e3=>Av (Av ?_)))))
 have f3':S3 k p3:=D3.frame _ _ _ g3 λc hc o q=>e3.extBut c o (nb3 b3 hc 1 (by decide)) (e2.extBut c o (nb3 b3 hc 0 (by decide)) (e1 c o (nb3 b3 hc 5 (by decide)) q))
 refine Ah (Ah (BV (Ah (m:=A2 (.ref (I+2))) (D3.item k _ _ _ k3 f3' λu p4 t4 pu s4 e4=>Av (Av (Av ?_))))))
 refine Ah (Jk (hsz:=by show 3<=sizeLine;decide) (Av ⟨_,rfl,?_⟩))
 have sz:p4.objs.size=s.heap.objs.size:=by rw[e4.1,e3.1,e2.1,s1]
 have z4:EW p4 (I+5) (I+3) (I+4) (Ct T1) (.bool Ab):=e4.extBut _ _ (nij (by decide)) (e3.extBut _ _ (nij (by decide)) (e2.extBut _ _ (nij (by decide)) z1))
 have a1:S1 (k+1) p4:=D1.frame _ _ _ s2 λc hc o q=>e4.extBut c o (nb3 b1 hc 2 (by decide)) (e3.extBut c o (nb3 b1 hc 1 (by decide)) q)
 have a2:S2 (k+1) p4:=D2.frame _ _ _ s3 λc hc o q=>e4.extBut c o (nb3 b2 hc 2 (by decide)) q
 have psh:∀ {c o},p4.get? c=Aa o->(p4.push { cls:=.type "tuple",data:=.seq #[x,y,u] }).get? c=Aa o:=λq=>As _ q
 have q:=go x y u (p4.push { cls:=.type "tuple",data:=.seq #[x,y,u] }) t4 px py pu (psh z4) (D1.frame _ _ _ a1 λc _ o q=>psh q) (D2.frame _ _ _ a2 λc _ o q=>psh q) (D3.frame _ _ _ s4 λc _ o q=>psh q) (by rw[<-sz];exact AE _ rfl) (by rw[BG,sz]) (λc o nc q=>by
  simp only[Ax,A1,Cc,Ei]at nc;exact psh (e4.extBut c o nc.2.2.1 (e3.extBut c o nc.2.1 (e2.extBut c o nc.1 (e1 c o nc.2.2.2 q)))))
 rw[<-sz]at q;exact q
theorem gW{I l1 n1 k T1:Ag}{Q:Fin->Ar->Prop}(b1:l1<I)(D1:Dw prog w A (I+0) [I+0,l1] n1 P1 S1)(hz:EW s.heap (I+5) (I+3) (I+4) (Ct T1) (.bool f1))(hI:EK s.heap (I+3) (.ref (I+0)) (.ref (I+1)) (.ref (I+2)))(hT:s.heap.get? T1=Aa o1)(g1:S1 k s.heap)(k1:n1<=k)(up:∀ h2 e,(∀ c o,c∉[I+0,I+5]->s.heap.get? c=Aa o->h2.get? c=Aa o)->(∃ o,h2.get? e=Aa o/\o.cls=.type "StopIteration")->E (.ref e) {s with heap:=h2}):Au (model prog w) A (Builtin.«zip.__next__» ⟨[.ref (I+5)],[]⟩) Q E s:=by
 refine Ah (m:=field (.ref (I+5)) 2) (Bp hz rfl (x:=.bool Ad) rfl ?_);refine Ah (m:=field (.ref (I+5)) 3) (Bp hz rfl (x:=.ref (I+3)) rfl (Ah (B4 hI rfl ?_)));refine Ah (m:=A4 (.ref (I+5))) (U7 hz hT λp1 z1 e1 s1=>?_)
 rw[AK (by decide)]
 refine Ah ?_;simp only[<-Yu,D9,DX];have f1':S1 k p1:=D1.frame _ _ _ g1 λc hc o q=>e1 c o (nb3 b1 hc 5 (by decide)) q
 refine Ah (Ah (BV (Ah (m:=A2 (.ref (I+0))) (D1.done k _ _ _ k1 f1' λp2 e e2 he=>up p2 e (λc o nc q=>?_) he))))
 simp only[Ax,A1,Cc,Ei]at nc;exact e2 c o nc.1 (e1 c o nc.2 q)
theorem jC{I l1 n1 k:Ag}{f1:Ai}{Q:Fin->Ar->Prop}(b1:l1<I)(D1:Dw prog w A (I+0) [I+0,l1] n1 P1 S1)(hz:EW s.heap (I+5) (I+3) (I+4) f0 f1)(hf:f0=.none\/∃ T1:Ag,f0=Ct T1/\s.heap.get? T1=Af)(hI:EK s.heap (I+3) (.ref (I+0)) (.ref (I+1)) (.ref (I+2)))(g1:S1 k s.heap)(k1:n1<=k)(up:∀ h2 e,(∀ c o,c∉[I+0,I+5]->s.heap.get? c=Aa o->h2.get? c=Aa o)->(∃ o,h2.get? e=Aa o/\o.cls=.type "StopIteration")->E (.ref e) {s with heap:=h2}):Au (model prog w) A (Builtin.«zip.__next__» ⟨[.ref (I+5)],[]⟩) Q E s:=by
 refine Ah (m:=field (.ref (I+5)) 2) (Bp hz rfl (x:=.bool Ad) rfl ?_);refine Ah (m:=field (.ref (I+5)) 3) (Bp hz rfl (x:=.ref (I+3)) rfl (Ah (B4 hI rfl ?_)));refine Ah (m:=A4 (.ref (I+5))) (UQ hz hf ?_);rw[Az rfl];refine Ah (GW (Ah (Bp hz rfl (x:=.ref (I+4)) rfl (Ah (Ca hz (by simp) λp1 z1 e1=>Ah ?_)))))
 have z1':EW p1 (I+5) (I+3) (I+4) .ellipsis f1:=z1;simp only[Gz,GO,D9,DX];have g1':S1 k p1:=D1.frame _ _ _ g1 λc hc o q=>e1.extBut c o (nb3 b1 hc 5 (by decide)) q
 refine Ah (Ah (DU (Ah (m:=A2 (.ref (I+0))) (D1.done _ _ _ _ k1 g1' λp2 e e2 he=>?_))))
 obtain⟨oe,hoe,hce⟩:=he;have z2:EW p2 (I+5) (I+3) (I+4) .ellipsis f1:=e2 _ _ (nij (by decide)) z1'
 have ne:e≠I+5:=λx=>by subst x;rw[z2]at hoe;cases hoe;simp at hce
 refine Ca z2 (by simp) λp3 _ e3=>up p3 e (λc o nc q=>?_) ⟨oe,e3.extBut _ _ ne hoe,hce⟩
 simp only[Ax,A1,Cc,Ei]at nc;exact e3.extBut c o nc.2 (e2 c o nc.1 (e1.extBut c o nc.2 q))
theorem Ra{T:Al}{a b c x:Ai}{Q:F9->Ar->Prop}(h:EK s.heap T a b c)(go:∀ h2,h2.get? T=Aa { cls:=.type "tuple",data:=.seq ((#[a,b,c]:A9 Ai).setIfInBounds k x) }->Ew T s.heap h2->Q () {s with heap:=h2}):Au (model prog w) A (J_6 T (·.setIfInBounds k x)) Q E s:=by
 refine GX h rfl (go _ ?_ (Ha ..)) (by show 3<=sizeLine;decide) (by show ((#[a,b,c]:A9 Ai).setIfInBounds k x).size<=sizeLine+1;rw[Array.size_setIfInBounds];show 3<=sizeLine+1;decide)
 rw[BW _ h rfl];simp[Db]
theorem fQ{I l1 l2 l3 n1 n2 n3 k:Ag}{P3:Ag->Ai->Prop}{S3:Ag->AB->Prop}{a b c f1:Ai}{Q:Vq}(b1:l1<I)(b2:l2<I)(b3:l3<I)(D1:Dw prog w A (I+0) [I+0,l1] n1 P1 S1)(D2:Dw prog w A (I+1) [I+1,l2] n2 P2 S2)(D3:Dw prog w A (I+2) [I+2,l3] n3 P3 S3)(hz:EW s.heap (I+5) (I+3) (I+4) f0 f1)(hf:f0=.none\/∃ T1:Ag,f0=Ct T1/\s.heap.get? T1=Af)(hI:EK s.heap (I+3) (.ref (I+0)) (.ref (I+1)) (.ref (I+2)))(hO:EK s.heap (I+4) a b c)(g1:S1 k s.heap)(g2:S2 k s.heap)(g3:S3 k s.heap)(k1:k<n1)(k2:k<n2)(k3:k<n3)(go:∀ x y u h2 tk,P1 k x->P2 k y->P3 k u->EW h2 (I+5) (I+3) (I+4) (Ct s.heap.objs.size) (.bool Ad)->S1 (k+1) h2->S2 (k+1) h2->S3 (k+1) h2->EK h2 s.heap.objs.size x y u->EK h2 (I+4) x y u->h2.objs.size=s.heap.objs.size+1 ->
   (∀ c o,c∉[I+0,I+1,I+2,I+4,I+5]->s.heap.get? c=Aa o->h2.get? c=Aa o)->Q (.ref s.heap.objs.size) {s with heap:=h2,toks:=tk}):Au (model prog w) A (Builtin.«zip.__next__» ⟨[.ref (I+5)],[]⟩) (λfin s'=>∃ v,fin=.done (.ret v)/\Q v s') E s:=by
 refine Ah (m:=field (.ref (I+5)) 2) (Bp hz rfl (x:=.bool Ad) rfl ?_);refine Ah (m:=field (.ref (I+5)) 3) (Bp hz rfl (x:=.ref (I+3)) rfl (Ah (B4 hI rfl ?_)));refine Ah (m:=A4 (.ref (I+5))) (UQ hz hf ?_);rw[Az rfl];refine Ah (GW (Ah (Bp hz rfl (x:=.ref (I+4)) rfl (Ah (Ca hz (by simp) λp1 z1 e1=>Ah ?_)))))
 have z1':EW p1 (I+5) (I+3) (I+4) .ellipsis f1:=z1;simp only[Gz,GO,D9,DX];have f1':S1 k p1:=D1.frame _ _ _ g1 λc hc o q=>e1.extBut c o (nb3 b1 hc 5 (by decide)) q
 refine Ah (Ah (DU (Ah (m:=A2 (.ref (I+0))) (D1.item k _ _ _ k1 f1' λx p2 t2 px s2 e2=>Av ?_))))
 have o2:EK p2 (I+4) a b c:=e2.extBut _ _ (nij (by decide)) (e1.extBut _ _ (nij (by decide)) hO)
 refine Ah (B4 o2 rfl (Ah (Ra o2 λp3 o3 e3=>Ah (Gr (Av ?_)))))
 have o3':EK p3 (I+4) x b c:=o3;have f2':S2 k p3:=D2.frame _ _ _ g2 λc hc o q=>e3.extBut c o (nb3 b2 hc 4 (by decide)) (e2.extBut c o (nb3 b2 hc 0 (by decide)) (e1.extBut c o (nb3 b2 hc 5 (by decide)) q))
 refine Ah (Ah (DU (Ah (m:=A2 (.ref (I+1))) (D2.item k _ _ _ k2 f2' λy p4 t4 py s4 e4=>Av ?_))))
 have o4:EK p4 (I+4) x b c:=e4.extBut _ _ (nij (by decide)) o3'
 refine Ah (B4 o4 rfl (Ah (Ra o4 λp5 o5 e5=>Ah (Gr (Av ?_)))))
 have o5':EK p5 (I+4) x y c:=o5;have f3':S3 k p5:=D3.frame _ _ _ g3 λc hc o q=>e5.extBut c o (nb3 b3 hc 4 (by decide)) (e4.extBut c o (nb3 b3 hc 1 (by decide)) (e3.extBut c o (nb3 b3 hc 4 (by decide)) (e2.extBut c o (nb3 b3 hc 0 (by decide)) (e1.extBut c o (nb3 b3 hc 5 (by decide)) q))))
 refine Ah (Ah (DU (Ah (m:=A2 (.ref (I+2))) (D3.item k _ _ _ k3 f3' λu p6 t6 pu s6 e6=>Av ?_))))
 have o6:EK p6 (I+4) x y c:=e6.extBut _ _ (nij (by decide)) o5'
 refine Ah (B4 o6 rfl (Ah (Ra o6 λp7 o7 e7=>Ah (Gr (Av (Av ?_))))))
 have o7':EK p7 (I+4) x y u:=o7;have sz:p7.objs.size=s.heap.objs.size:=by rw[e7.1,e6.1,e5.1,e4.1,e3.1,e2.1,e1.1]
 have z7:EW p7 (I+5) (I+3) (I+4) .ellipsis f1:=e7.extBut _ _ (nij (by decide)) (e6.extBut _ _ (nij (by decide)) (e5.extBut _ _ (nij (by decide)) (e4.extBut _ _ (nij (by decide)) (e3.extBut _ _ (nij (by decide)) (e2.extBut _ _ (nij (by decide)) z1')))))
 refine Ah (B4 o7' rfl (Ah (Jk (hsz:=by show 3<=sizeLine;decide) ?_)))
 refine Ah (m:=Dc (.ref (I+5)) (.ref p7.objs.size)) ?_;simp only[Dc];have z8:EW (p7.push { cls:=.type "tuple",data:=.seq #[x,y,u] }) (I+5) (I+3) (I+4) .ellipsis f1:=As _ z7;refine Ah (Ca z8 (by simp) λp9 z9 e9=>?_)
 have z9':EW p9 (I+5) (I+3) (I+4) (Ct p7.objs.size) f1:=z9;refine Ca z9' (by simp) λpa za ea=>Av ⟨_,rfl,?_⟩
 have za':EW pa (I+5) (I+3) (I+4) (Ct p7.objs.size) (.bool Ad):=za;have lt5:I+5<p7.objs.size:=AD z7;have up:∀ c o,c≠I+5->p7.get? c=Aa o->pa.get? c=Aa o:=λc o nc q=>ea.extBut _ _ nc (e9.extBut _ _ nc (As _ q))
 have a1:S1 (k+1) pa:=D1.frame _ _ _ s2 λc hc o q=>up c o (nb3 b1 hc 5 (by decide)) (e7.extBut c o (nb3 b1 hc 4 (by decide)) (e6.extBut c o (nb3 b1 hc 2 (by decide)) (e5.extBut c o (nb3 b1 hc 4 (by decide)) (e4.extBut c o (nb3 b1 hc 1 (by decide)) (e3.extBut c o (nb3 b1 hc 4 (by decide)) q)))))
 have a2:S2 (k+1) pa:=D2.frame _ _ _ s4 λc hc o q=>up c o (nb3 b2 hc 5 (by decide)) (e7.extBut c o (nb3 b2 hc 4 (by decide)) (e6.extBut c o (nb3 b2 hc 2 (by decide)) (e5.extBut c o (nb3 b2 hc 4 (by decide)) q)))
 have a3:S3 (k+1) pa:=D3.frame _ _ _ s6 λc hc o q=>up c o (nb3 b3 hc 5 (by decide)) (e7.extBut c o (nb3 b3 hc 4 (by decide)) q)
 have tp:EK pa p7.objs.size x y u:=ea.extBut _ _ (Du lt5) (e9.extBut _ _ (Du lt5) (AE _ rfl));have q:=go x y u pa t6 px py pu (by rw[<-sz];exact za') a1 a2 a3 (by rw[<-sz];exact tp) (up _ _ (nij (by decide)) o7') (by rw[ea.1,e9.1,BG,sz]) (λc o nc q=>by
  simp only[Ax,A1,Cc,Ei]at nc;exact up c o nc.2.2.2.2 (e7.extBut c o nc.2.2.2.1 (e6.extBut c o nc.2.2.1 (e5.extBut c o nc.2.2.2.1 (e4.extBut c o nc.2.1 (e3.extBut c o nc.2.2.2.1 (e2.extBut c o nc.1 (e1.extBut c o nc.2.2.2.2 q))))))))
 rw[<-sz]at q;exact q
def Z_3(t1 t2 t3:Ak)(I l1 l2 l3 i:Ag)(h:AB):Prop:=EK h (I+3) (.ref (I+0)) (.ref (I+1)) (.ref (I+2))/\EX t1 h (I+0) l1 i/\EX t2 h (I+1) l2 i/\EX t3 h (I+2) l3 i/\(∃ a b c,EK h (I+4) a b c) /\
 (EW h (I+5) (I+3) (I+4) .none (.bool Ad)\/∃(T1:Ag)(f1:Ak),EW h (I+5) (I+3) (I+4) (Ct T1) (.bool f1))
noncomputable def z3w(I:Ag):Ac Al:=[I+0,I+1,I+2,I+4,I+5]
theorem nS{t1 t2 t3:Ak}{I l1 l2 l3 i:Ag}{xs:A9 Ai}{x:Ai}{Q:Ao Ai->Ar->Prop}(calm:A.handled=Af)(b1:l1<I)(b2:l2<I)(b3:l3<I)(z:Z_3 t1 t2 t3 I l1 l2 l3 i s.heap)(q1:Cu t1 s.heap l1 xs)(q2:Cu t2 s.heap l2 ys)(q3:Cu t3 s.heap l3 us)(hx:xs[i]?=Aa x)(hy:ys[i]?=Aa y)(hu:us[i]?=Aa u)(go:∀ h2 tk,Z_3 t1 t2 t3 I l1 l2 l3 (i+1) h2->EK h2 s.heap.objs.size x y u->h2.objs.size=s.heap.objs.size+1->(∀ c o,c∉z3w I->s.heap.get? c=Aa o->h2.get? c=Aa o)->Q (Aa (.ref s.heap.objs.size)) {s with heap:=h2,toks:=tk}):Au (model prog w) A (Eh (.ref (I+5))) Q E s:=by
 obtain⟨zI,i1,i2,i3,zz⟩:=z;have calm':A.in1.handled=Af:=calm;have lt:∀{v:A9 Ai}{k:Ag}{a:Ai},v[k]?=Aa a->k<v.size:=λh=>by
  rw[Array.getElem?_eq_some_iff]at h;exact h.1
 have inj:∀{v:A9 Ai}{k:Ag}{a b:Ai},v[k]?=Aa a->v[k]?=Aa b->b=a:=λh1 h2=>by
  rw[h1]at h2;exact(BE h2).symm
 have d1:=IX (prog:=prog) (w:=w) calm' t1 (I+0) l1 (Bk b1) xs;have d2:=IX (prog:=prog) (w:=w) calm' t2 (I+1) l2 (Bk (AH b2 (Et _ _))) ys;have d3:=IX (prog:=prog) (w:=w) calm' t3 (I+2) l3 (Bk (AH b3 (Et _ _))) us;obtain⟨⟨a,b,c,hO⟩,zz⟩:=zz;have fst:∀{f0 f1:Ai},EW s.heap (I+5) (I+3) (I+4) f0 f1->(f0=.none\/∃ T1:Ag,f0=Ct T1/\s.heap.get? T1=Af)->Au (model prog w) A (Eh (.ref (I+5))) Q E s:=λhz hf=>by
  have hty:s.TypeIs (.ref (I+5)) "zip" := ⟨_,hz,rfl⟩;simp only[Eh];refine Ah (Fv (Ch hty CC (C1 CC hty Ev (fQ (k:=i) b1 b2 b3 d1 d2 d3 hz hf zI hO ⟨i1,q1⟩ ⟨i2,q2⟩ ⟨i3,q3⟩ (lt hx) (lt hy) (lt hu) λx' y' u' h2 tk px py pu c1 c2 c3 c4 c5 c6 c7 kp=>Av ?_) (Eg _))))
  rw[inj hx px,inj hy py,inj hu pu]at c5;exact go h2 tk ⟨kp _ _ (by simp) zI,c2.1,c3.1,c4.1,⟨_,_,_,c6⟩,.inr ⟨_,_,c1⟩⟩ c5 c7 kp
 rcases zz with hz|⟨T1,f1,hz⟩
 .exact fst hz (.inl rfl)
 .cases hT:s.heap.get? T1 with
  |none=>exact fst hz (.inr ⟨T1,rfl,hT⟩)
  |some o1=>
   have hty:s.TypeIs (.ref (I+5)) "zip" := ⟨_,hz,rfl⟩;simp only[Eh];refine Ah (Fv (Ch hty CC (C1 CC hty Ev (gX (k:=i) b1 b2 b3 d1 d2 d3 hz zI hT ⟨i1,q1⟩ ⟨i2,q2⟩ ⟨i3,q3⟩ (lt hx) (lt hy) (lt hu) λx' y' u' h2 tk px py pu c1 c2 c3 c4 c5 c6 kp=>Av ?_) (Eg _))))
   rw[inj hx px,inj hy py,inj hu pu]at c5;exact go h2 tk ⟨kp _ _ (by simp) zI,c2.1,c3.1,c4.1,⟨a,b,c,kp _ _ (by simp) hO⟩,.inr ⟨T1,Ab,c1⟩⟩ c5 c6 (λc o nc q=>kp c o (λh=>nc (by simp only[z3w,Ax,A1,Cc]at h ⊢;rcases h with h|h|h|h<;>simp[h])) q)
theorem vM{t1 t2 t3:Ak}{I l1 l2 l3 i:Ag}{xs:A9 Ai}{Q:Ao Ai->Ar->Prop}(calm:A.handled=Af)(b1:l1<I)(z:Z_3 t1 t2 t3 I l1 l2 l3 i s.heap)(q1:Cu t1 s.heap l1 xs)(hx:xs.size<=i)(go:∀ h2,(∀ c o,c∉z3w I->s.heap.get? c=Aa o->h2.get? c=Aa o)->Q Af {s with heap:=h2}):Au (model prog w) A (Eh (.ref (I+5))) Q E s:=by
 obtain⟨zI,i1,i2,i3,zz⟩:=z;have calm':A.in1.handled=Af:=calm;have d1:=IX (prog:=prog) (w:=w) calm' t1 (I+0) l1 (Bk b1) xs;have go':∀ h2 e,(∀ c o,c∉[I+0,I+5]->s.heap.get? c=Aa o->h2.get? c=Aa o)->(∃ o,h2.get? e=Aa o/\o.cls=.type "StopIteration")->Au (model prog w) A (HL (.ref e) (.type "StopIteration") >>= λb=>if b=Ab then pure Af else throw (.ref e)) Q E {s with heap:=h2}:=λh2 e kp ⟨o,ho,hcl⟩=>
  Ah (bP (T := "StopIteration") (b:=Ab) ⟨o,ho,hcl⟩ bH (Av (go h2 λc o nc q=>kp c o (λh=>nc (by simp only[z3w,Ax,A1,Cc]at h ⊢;rcases h with h|h<;>simp[h])) q)))
 have fin:∀{f0 f1:Ai},EW s.heap (I+5) (I+3) (I+4) f0 f1->(f0=.none\/∃ T1:Ag,f0=Ct T1/\s.heap.get? T1=Af)->Au (model prog w) A (Eh (.ref (I+5))) Q E s:=λhz hf=>by
  have hty:s.TypeIs (.ref (I+5)) "zip" := ⟨_,hz,rfl⟩;simp only[Eh];exact Ah (Fv (Ch hty CC (C1 CC hty Ev (jC (k:=i) b1 d1 hz hf zI ⟨i1,q1⟩ hx λh2 e kp he=>go' h2 e kp he) (Eg _))))
 obtain⟨_,zz⟩:=zz;rcases zz with hz|⟨T1,f1,hz⟩
 .exact fin hz (.inl rfl)
 .cases hT:s.heap.get? T1 with
  |none=>exact fin hz (.inr ⟨T1,rfl,hT⟩)
  |some o1=>
   have hty:s.TypeIs (.ref (I+5)) "zip" := ⟨_,hz,rfl⟩;simp only[Eh];exact Ah (Fv (Ch hty CC (C1 CC hty Ev (gW (k:=i) b1 d1 hz zI hT ⟨i1,q1⟩ hx λh2 e kp he=>go' h2 e kp he) (Eg _))))
end
section
variable{prog:AS}{w:AF}{A:A6}{R:Jf->Ar->Prop}
def LX(I S:Ag)(xs ys us:A9 Ai)(i:Ag)(acc:A9 Ai)(h:AB):Prop:=acc.size=i/\(∀ j,j<i->∃(a:Ag)(x y u:Ai),acc[j]?=Aa (.ref a)/\xs[j]?=Aa x/\ys[j]?=Aa y/\us[j]?=Aa u/\EK h a x y u/\I+5<a/\a≠S)/\∀(j1 j2 a:Ag),acc[j1]?=Aa (BQ a)->acc[j2]?=Aa (BQ a)->j1=j2
theorem Cu.at'(z:Cu t h l its)(k:∀ o,h.get? l=Aa o->h2.get? l=Aa o):Cu t h2 l its:=by
 cases t with
 |true=>exact PySem.Heap.IsTuple.at z k
 |false=>exact PySem.Heap.IsList.at z k
theorem O3{I a:Ag}(h:I+5<a):a∉z3w I:=by
 intro z;simp only[z3w,Ax,A1,Cc]at z;rcases z with z|z|z|z|z<;>· rw[z]at h;exact absurd h (FZ.mpr (G9 (by decide) I))
theorem OC{I l:Ag}(h:l<I):l∉z3w I:=by
 intro z;simp only[z3w,Ax,A1,Cc]at z;rcases z with z|z|z|z|z<;>· rw[z]at h;exact absurd h (FZ.mpr (Et I _))
theorem Z_3.at'{t1 t2 t3:Ak}{I l1 l2 l3 i:Ag}{h h2:AB}(z:Z_3 t1 t2 t3 I l1 l2 l3 i h)(k:∀ j,j<=5->∀ o,h.get? (I+j)=Aa o->h2.get? (I+j)=Aa o):Z_3 t1 t2 t3 I l1 l2 l3 i h2:=by
 obtain⟨zI,i1,i2,i3,⟨a,b,c,hO⟩,zz⟩:=z;exact⟨k 3 (by decide) _ zI,i1.at' λo q=>k 0 (by decide) o q,i2.at' λo q=>k 1 (by decide) o q,i3.at' λo q=>k 2 (by decide) o q,⟨a,b,c,k 4 (by decide) _ hO⟩,zz.imp (k 5 (by decide) _) λ⟨T1,f1,hz⟩=>⟨T1,f1,k 5 (by decide) _ hz⟩⟩
theorem nW{t1 t2 t3:Ak}{I l1 l2 l3 n:Ag}{xs:A9 Ai}{res:Ai}(calm:A.handled=Af)(b1:l1<I)(b2:l2<I)(b3:l3<I)(S:Ag)(hS:I+5<S)(n0:0<n)(nn:n<=1000)(e1:xs.size=n)(e2:ys.size=n)(e3:us.size=n):
  ∀(k i:Ag)(s:Ar)(acc:A9 Ai)(c:Ag),n-i=k->i<=n->Z_3 t1 t2 t3 I l1 l2 l3 i s.heap->Cu t1 s.heap l1 xs->Cu t2 s.heap l2 ys->Cu t3 s.heap l3 us ->
  s.heap.get? S=Aa { cls:=.type "list",dict:=Af,data:=.seq acc c,slots:=#[] }->LX I S xs ys us i acc s.heap ->
  (∀ h2 acc2 c2 tk,(∀ d o,d∉z3w I->d≠S->s.heap.get? d=Aa o->h2.get? d=Aa o)->h2.get? S=Aa { cls:=.type "list",dict:=Af,data:=.seq acc2 c2,slots:=#[] }->LX I S xs ys us n acc2 h2->R (.ok (.ret res)) {s with heap:=h2,toks:=tk}) ->
  E9 (model prog w) A (.builtin "list.extend.loop" ⟨[.ref S,.ref (I+5),res],[]⟩) R s:=by
 have calm':A.in1.handled=Af:=calm;intro k
 induction k with
 |zero=>
  intro i s acc c hk hi hz q1 q2 q3 hSo hd hR;have ein:i=n:=Nat.le_antisymm hi (Nat.le_of_sub_eq_zero hk);subst ein;refine EO ZR ?_;rw[Ek FB _];refine Ah (m:=Eh (.ref (I+5))) (vM calm' b1 hz q1 (YX e1) λh2 kp=>?_)
  exact Av (hR h2 acc c s.toks (λd o nd _ q=>kp d o nd q) (kp _ _ (O3 hS) hSo) ⟨hd.1,λj hj=>by
   obtain⟨a,x,y,u,r1,r2,r3,r4,r5,r6,r7⟩:=hd.2.1 j hj;exact⟨a,x,y,u,r1,r2,r3,r4,kp _ _ (O3 r6) r5,r6,r7⟩,hd.2.2⟩)
 |succ k ih=>
  intro i s acc c hk hi hz q1 q2 q3 hSo hd hR;have lt:i<n:=Nat.lt_of_sub_pos (by rw[hk];exact Nat.succ_pos _)
  have lx:i<xs.size:=by rw[e1];exact lt
  have ly:i<ys.size:=by rw[e2];exact lt
  have lu:i<us.size:=by rw[e3];exact lt
  refine EO ZR ?_;rw[Ek FB _];refine Ah (m:=Eh (.ref (I+5))) (nS calm' b1 b2 b3 hz q1 q2 q3 (CN lx) (CN ly) (CN lu) λh2 tk z2 tr sz kp=>?_)
  have hS2:=kp _ _ (O3 hS) hSo;refine Ah (m:=J_6 S _) ?_;have ot:∀(f:C4->C4) d o,d≠S->h2.get? d=Aa o->(h2.update S f).get? d=Aa o:=λf d o nd q=>(B7 _ _ (DR nd)).trans q
  have lS:I+5<s.heap.objs.size:=YZ hS (AD hSo);have nT:s.heap.objs.size≠S:=Du (AD hSo);have hS3:=BW (Db (·.push (.ref s.heap.objs.size))) hS2 rfl;have lne:∀{l:Ag},l<I->l≠S:=λh e=>by rw[e]at h;exact absurd (YZ h (DF (Et I 5) hS)) (Bx _)
  refine GX hS2 rfl (Av ⟨HA FB _,ih (i+1) {s with heap:=h2.update S (Db (·.push (.ref s.heap.objs.size))),toks:=tk} _ _ (by omega) lt (z2.at' λj hj o q=>ot _ _ o (λe=>by rw[<-e]at hS;exact absurd hS (FZ.mpr (G9 hj I))) q) ?_ ?_ ?_ hS3 ⟨by rw[Yv,hd.1],λj hj=>?_,?_⟩ λh4 acc4 c4 tk4 kp4 hS4 hd4=>hR h4 acc4 c4 tk4 (λd o nd ns q=>kp4 d o nd ns (ot _ d o ns (kp d o nd q))) hS4 hd4⟩) ?_ ?_
  .exact q1.at' λo q=>ot _ _ o (lne b1) (kp _ o (OC b1) q)
  .exact q2.at' λo q=>ot _ _ o (lne b2) (kp _ o (OC b2) q)
  .exact q3.at' λo q=>ot _ _ o (lne b3) (kp _ o (OC b3) q)
  .by_cases ej:j=i
   .subst ej;exact⟨s.heap.objs.size,_,_,_,by rw[G5,Az hd.1.symm],CN lx,CN ly,CN lu,ot _ _ _ nT tr,lS,nT⟩
   .obtain⟨a,x,y,u,r1,r2,r3,r4,r5,r6,r7⟩:=hd.2.1 j (Nat.lt_of_le_of_ne (Nat.le_of_lt_succ hj) ej);exact⟨a,x,y,u,by rw[G5,AK (by rw[hd.1];exact ej)];exact r1,r2,r3,r4,ot _ _ _ r7 (kp _ _ (O3 r6) r5),r6,r7⟩
  .have old:∀(j a:Ag),acc[j]?=Aa (BQ a)->a<s.heap.objs.size:=λj a e=>by
    have hj:j<i:=by rw[<-hd.1];exact(Fq.mp e).1
    obtain⟨a',x,y,u,r1,r2,r3,r4,r5,r6,r7⟩:=hd.2.1 j hj;rw[e]at r1;cases r1;exact AD r5
   intro j1 j2 a q1 q2;rw[G5]at q1 q2;split at q1
   .split at q2
    .omega
    .cases q1;exact absurd (old _ _ q2) (Bx _)
   .split at q2
    .cases q2;exact absurd (old _ _ q1) (Bx _)
    .exact hd.2.2 _ _ _ q1 q2
  .rw[hd.1];exact Ci (Ci hi nn) (by decide)
  .show (acc.push _).size<=sizeLine+1;rw[Yv,hd.1];exact Ci (Nat.succ_le_succ (Ci hi nn)) (by decide)
end
theorem gU(a b c:Ai):checkTypeCall "zip" ⟨[a,b,c],[]⟩=pure ():=by kernel_rfl
theorem jD(a b c:Ai):Ez "zip.__new__" ⟨[.type "zip",a,b,c],[]⟩=pure ():=by kernel_rfl
theorem zL(a b c d:Ai):argsOk "object.__init__" ⟨[a,b,c,d],[]⟩:=by
 unfold argsOk;rw[signature?_of (id := "object.__init__") (n:=['_','_','t','i','n','i','_','_']) (o:=['t','c','e','j','b','o']) (by kernel_rfl) F.owner_object];kernel_rfl
section
variable{prog:AS}{w:AF}{A:A6}{E:Vq}{s:Ar}
noncomputable abbrev yh3(t1 t2 t3:Ak)(h:AB)(l1 l2 l3:Al):AB:=((h.push (itO t1 l1)).push (itO t2 l2)).push (itO t3 l3)
noncomputable abbrev yh4(t1 t2 t3:Ak)(h:AB)(l1 l2 l3:Al):AB:=(yh3 t1 t2 t3 h l1 l2 l3).push { cls:=.type "tuple",data:=.seq #[.ref h.objs.size,.ref (h.push (itO t1 l1)).objs.size,.ref ((h.push (itO t1 l1)).push (itO t2 l2)).objs.size] }
noncomputable abbrev yh5(t1 t2 t3:Ak)(h:AB)(l1 l2 l3:Al):AB:=(yh4 t1 t2 t3 h l1 l2 l3).push { cls:=.type "tuple",data:=.seq #[.none,.none,.none] }
noncomputable abbrev yh6(t1 t2 t3:Ak)(h:AB)(l1 l2 l3:Al):AB:=(yh5 t1 t2 t3 h l1 l2 l3).push { cls:=.type "zip",data:=.fields #[.none,.bool Ad,.bool Ad,.ref (yh3 t1 t2 t3 h l1 l2 l3).objs.size,.ref (yh4 t1 t2 t3 h l1 l2 l3).objs.size] }
theorem jB(t1 t2 t3:Ak)(l1 l2 l3:Al)(xs ys us:A9 Ai):Meets (Builtin.«zip.__new__» ⟨[.type "zip",.ref l1,.ref l2,.ref l3],[]⟩) (λ_ R s=>Cu t1 s.heap l1 xs/\Cu t2 s.heap l2 ys/\Cu t3 s.heap l3 us/\R (.ok (.ret (.ref (yh5 t1 t2 t3 s.heap l1 l2 l3).objs.size))) {s with heap:=yh6 t1 t2 t3 s.heap l1 l2 l3}):=
 .of_wp λprog w A R s h=>by
  obtain⟨hp,g,d,tk,os⟩:=s;obtain⟨a1,a2,a3,q⟩:=h;have hsub:=sub_zip;have L1:Cu t1 (Go ⟨hp,g,d,tk,os⟩) l1 xs:=a1;have L2:Cu t2 (Go ⟨hp.push (itO t1 l1),g,d,tk,os⟩) l2 ys:=a2.push _;have L3:Cu t3 (Go ⟨(hp.push (itO t1 l1)).push (itO t2 l2),g,d,tk,os⟩) l3 us:=(a3.push _).push _
  wp_walk using Km L1,Km L2,Km L3
  exact⟨_,rfl,q⟩
theorem gY{t1 t2 t3:Ak}{l1 l2 l3:Al}{xs:A9 Ai}{Q:Vq}(a1:Cu t1 s.heap l1 xs)(a2:Cu t2 s.heap l2 ys)(a3:Cu t3 s.heap l3 us)(q:∀ h2,Z_3 t1 t2 t3 s.heap.objs.size l1 l2 l3 0 h2->h2.objs.size=s.heap.objs.size+6->(∀ c o,s.heap.get? c=Aa o->h2.get? c=Aa o)->Q (.ref (s.heap.objs.size+5)) {s with heap:=h2}):Au (model prog w) A (call (.type "zip") [.ref l1,.ref l2,.ref l3]) Q E s:=by
 refine JX ZP (by decide) (gU _ _ _) (jD _ _ _) (λobj=>zL obj _ _ _) ZU (jB t1 t2 t3 l1 l2 l3 xs ys us) ⟨a1,a2,a3,?_⟩
 have s1:(s.heap.push (itO t1 l1)).objs.size=s.heap.objs.size+1:=BG ..;have s2:((s.heap.push (itO t1 l1)).push (itO t2 l2)).objs.size=s.heap.objs.size+2:=by rw[BG,s1]
 have s3:(yh3 t1 t2 t3 s.heap l1 l2 l3).objs.size=s.heap.objs.size+3:=by rw[BG,s2]
 have s4:(yh4 t1 t2 t3 s.heap l1 l2 l3).objs.size=s.heap.objs.size+4:=by rw[BG,s3]
 have s5:(yh5 t1 t2 t3 s.heap l1 l2 l3).objs.size=s.heap.objs.size+5:=by rw[BG,s4]
 have s6:(yh6 t1 t2 t3 s.heap l1 l2 l3).objs.size=s.heap.objs.size+6:=by rw[BG,s5]
 have u6:∀ {c o},(yh5 t1 t2 t3 s.heap l1 l2 l3).get? c=Aa o->(yh6 t1 t2 t3 s.heap l1 l2 l3).get? c=Aa o:=λe=>As _ e
 have u5:∀ {c o},(yh4 t1 t2 t3 s.heap l1 l2 l3).get? c=Aa o->(yh6 t1 t2 t3 s.heap l1 l2 l3).get? c=Aa o:=λe=>u6 (As _ e)
 have u4:∀ {c o},(yh3 t1 t2 t3 s.heap l1 l2 l3).get? c=Aa o->(yh6 t1 t2 t3 s.heap l1 l2 l3).get? c=Aa o:=λe=>u5 (As _ e)
 have u3:∀ {c o},((s.heap.push (itO t1 l1)).push (itO t2 l2)).get? c=Aa o->(yh6 t1 t2 t3 s.heap l1 l2 l3).get? c=Aa o:=λe=>u4 (As _ e)
 have u2:∀ {c o},(s.heap.push (itO t1 l1)).get? c=Aa o->(yh6 t1 t2 t3 s.heap l1 l2 l3).get? c=Aa o:=λe=>u3 (As _ e)
 have g6:(yh6 t1 t2 t3 s.heap l1 l2 l3).get? (yh5 t1 t2 t3 s.heap l1 l2 l3).objs.size=Aa _:=AE _ rfl;have g5:(yh6 t1 t2 t3 s.heap l1 l2 l3).get? (yh4 t1 t2 t3 s.heap l1 l2 l3).objs.size=Aa _:=u6 (AE _ rfl);have g4:(yh6 t1 t2 t3 s.heap l1 l2 l3).get? (yh3 t1 t2 t3 s.heap l1 l2 l3).objs.size=Aa _:=u5 (AE _ rfl);have g3:(yh6 t1 t2 t3 s.heap l1 l2 l3).get? ((s.heap.push (itO t1 l1)).push (itO t2 l2)).objs.size=Aa _:=u4 (AE _ (Lw _ _));have g2:(yh6 t1 t2 t3 s.heap l1 l2 l3).get? (s.heap.push (itO t1 l1)).objs.size=Aa _:=u3 (AE _ (Lw _ _));have g1:(yh6 t1 t2 t3 s.heap l1 l2 l3).get? s.heap.objs.size=Aa _:=u2 (AE _ (Lw _ _));show _/\_;rw[s3,s4,s5]at g6;rw[s4]at g5;rw[s1,s2,s3]at g4;rw[s2]at g3;rw[s1]at g2;rw[s5];exact⟨⟨_,g6,rfl⟩,q _ ⟨g4,LS g1,LS g2,LS g3,⟨_,_,_,g5⟩,.inl g6⟩ s6 λc o e=>u2 (As _ e)⟩
end
theorem fP:Jp (.type "zip") "__len__" = pure Af:=by rw[bM,bD];kernel_rfl
theorem eZ:Jp (.type "zip") "__length_hint__" = pure Af:=by rw[bM,bD];kernel_rfl
theorem Z_3.ty{t1 t2 t3:Ak}{I l1 l2 l3 i:Ag}(z:Z_3 t1 t2 t3 I l1 l2 l3 i s.heap):s.TypeIs (.ref (I+5)) "zip" := by
 obtain⟨_,_,_,_,_,hz|⟨_,_,hz⟩⟩:=z
 .exact⟨_,hz,rfl⟩
 .exact⟨_,hz,rfl⟩
theorem Z_3.lt{t1 t2 t3:Ak}{I l1 l2 l3 i:Ag}(z:Z_3 t1 t2 t3 I l1 l2 l3 i s.heap):I+5<s.heap.objs.size:=by
 obtain⟨o,h,_⟩:=z.ty;exact AD h
theorem nV{t1 t2 t3:Ak}{I l1 l2 l3 i:Ag}(z:Z_3 t1 t2 t3 I l1 l2 l3 i h):Z_3 t1 t2 t3 I l1 l2 l3 i (h.push o):=by
 have k:∀ {c u},h.get? c=Aa u->(h.push o).get? c=Aa u:=λq=>As _ q
 obtain⟨zI,i1,i2,i3,zz⟩:=z;refine⟨k zI,i1.at' λo q=>k q,i2.at' λo q=>k q,i3.at' λo q=>k q,?_⟩
 obtain⟨⟨a,b,c,hO⟩,zz⟩:=zz;refine⟨⟨a,b,c,k hO⟩,?_⟩;rcases zz with hz|⟨T1,f1,hz⟩
 .exact .inl (k hz)
 .exact .inr ⟨T1,f1,k hz⟩
section
variable{prog:AS}{w:AF}{A:A6}{E:Vq}{s:Ar}
theorem iY{z:Al}{Q:Vq}(hT:s.TypeIs (.ref z) "zip")(h:Q (.ref z) s):Au (model prog w) A (Le (.ref z)) Q E s:=by
 refine wpAny_pyIter_slot hT ZY (C1 ZY hT F.entry_zip_iter ?_ (F.args_zip_iter_1 _));show Au _ _ (ret (.ref z)) _ _ s;exact Av ⟨_,rfl, "zip",_,hT,F.slot_zip_next.lookup,h⟩
theorem fR{t1 t2 t3:Ak}{I l1 l2 l3 n:Ag}{xs:A9 Ai}{Q:Ac Ai->Ar->Prop}(calm:A.handled=Af)(b1:l1<I)(b2:l2<I)(b3:l3<I)(n0:0<n)(nn:n<=1000)(e1:xs.size=n)(e2:ys.size=n)(e3:us.size=n)(hz:Z_3 t1 t2 t3 I l1 l2 l3 0 s.heap)(q1:Cu t1 s.heap l1 xs)(q2:Cu t2 s.heap l2 ys)(q3:Cu t3 s.heap l3 us)(hQ:∀ h2 acc tk,(∀ d o,d∉z3w I->s.heap.get? d=Aa o->h2.get? d=Aa o)->LX I s.heap.objs.size xs ys us n acc h2->Q acc.toList {s with heap:=h2,toks:=tk}):Au (model prog w) A (collect (.ref (I+5))) Q E s:=by
  have lt:=hz.lt;have hSI:s.heap.objs.size≠I+5:=Du lt;unfold collect;refine Ah (wpAny_runValue (EO F.entry_proto_collect ?_));rw[Ek F.plain_proto_collect _];show Au _ A.in1 (newList [] >>= λl=>again (.builtin "list.__iadd__" ⟨[l,.ref (I+5)],[]⟩)) _ _ s
  refine Ah (CP ?_);refine Av ⟨HA ZV _,EO F.entry_list_iadd ?_⟩;rw[Ek ZV _];have hz1:Z_3 t1 t2 t3 I l1 l2 l3 0 (s.heap.push { cls:=.type "list",data:=.seq ([]:Ac Ai).toArray }):=nV hz;have ty1:Shared.TypeIs { s with heap:=s.heap.push { cls:=.type "list",data:=.seq ([]:Ac Ai).toArray } } (.ref (I+5)) "zip" := Z_3.ty (s:={ s with heap:=s.heap.push { cls:=.type "list",data:=.seq ([]:Ac Ai).toArray } }) hz1
  show Au _ A.in1 (Zc (.ref s.heap.objs.size) (.ref (I+5)) (.ref s.heap.objs.size)) _ _ _;unfold Zc;refine Ah (wpAny_typeOf ty1 ?_);have h1:Zd (.ref s.heap.objs.size) (.ref (I+5))=Ad:=by simp[Zd,hSI]
  have h2:(F3 "zip" == F3 "list")=Ad:=by decide
  have h3:(F3 "zip" == F3 "tuple")=Ad:=by decide
  simp only[h1,h2,h3,EL,Ho,IC];refine Ah (iY ty1 ?_);refine Ah (BV ?_);unfold Builtin.List.listLengthHint;refine Ah (IK ty1 fP ?_);show Au _ A.in1 (specialOf (BQ (I+5)) (By "__length_hint__") >>= _) _ _ _;refine Ah (IK ty1 eZ ?_);refine Av ?_;show Au _ A.in1 (rule "list.extend.makes-room" >>= λ_=>Builtin.List.listTouch (.ref s.heap.objs.size) >>= λ_=>
    again (.builtin "list.extend.loop" ⟨[.ref s.heap.objs.size,.ref (I+5),.ref s.heap.objs.size],[]⟩)) _ _ _
  refine Ah (GW ?_);have hS₁:(s.heap.push { cls:=.type "list",data:=.seq ([]:Ac Ai).toArray }).get? s.heap.objs.size=Aa { cls:=.type "list",data:=.seq ([]:Ac Ai).toArray }:=AE _ rfl;refine Ah ?_;show Au _ A.in1 (J_6 s.heap.objs.size (·.push .none) >>= λ_=>J_6 s.heap.objs.size (·.pop)) _ _ _
  refine Ah (GX hS₁ rfl ?_);have hS₂:=BW (Db (·.push Dk)) hS₁ rfl;refine GX hS₂ rfl ?_;have hS₃:=BW (Db (·.pop)) hS₂ rfl;have oth:∀ b o,b≠s.heap.objs.size->(s.heap.push { cls:=.type "list",data:=.seq ([]:Ac Ai).toArray }).get? b=Aa o ->
      (((s.heap.push { cls:=.type "list",data:=.seq ([]:Ac Ai).toArray }).update s.heap.objs.size (Db (·.push Dk))).update s.heap.objs.size (Db (·.pop))).get? b=Aa o:=
    λb o hb e=>(B7 _ _ (DR hb)).trans ((B7 _ _ (DR hb)).trans e)
  have oth':∀ b o,s.heap.get? b=Aa o->(((s.heap.push { cls:=.type "list",data:=.seq ([]:Ac Ai).toArray }).update s.heap.objs.size (Db (·.push Dk))).update s.heap.objs.size (Db (·.pop))).get? b=Aa o:=
    λb o e=>oth b o (Bk (AD e)) (As _ e)
  refine Av ⟨HA FB _,nW calm b1 b2 b3 s.heap.objs.size lt n0 nn e1 e2 e3 n 0 _ _ _ rfl (Gn _) (hz1.at' λj hj o q=>oth _ o (λe=>by rw[<-e]at lt;exact absurd lt (FZ.mpr (G9 hj I))) q) (q1.at' λo e=>oth' _ o e) (q2.at' λo e=>oth' _ o e) (q3.at' λo e=>oth' _ o e) hS₃ ⟨rfl,λj hj=>absurd hj (Y_2 _),λj1 j2 a e=>by simp[Db]at e⟩ λh2 acc c tk kp hS hd=>?_⟩
  show Au _ A (load s.heap.objs.size >>= _) _ _ _;refine Ah (wpAny_load hS ?_);exact Av (hQ h2 acc tk (λd o nd e=>kp d o nd (Bk (AD e)) (oth' d o e)) hd)
theorem nX{t1 t2 t3:Ak}{I l1 l2 l3 n:Ag}{xs:A9 Ai}{Q₁:Vq}(calm:A.handled=Af)(b1:l1<I)(b2:l2<I)(b3:l3<I)(n0:0<n)(nn:n<=1000)(e1:xs.size=n)(e2:ys.size=n)(e3:us.size=n)(hz:Z_3 t1 t2 t3 I l1 l2 l3 0 s.heap)(q1:Cu t1 s.heap l1 xs)(q2:Cu t2 s.heap l2 ys)(q3:Cu t3 s.heap l3 us)(h:∀ h2 acc tk,(∀ d o,d∉z3w I->s.heap.get? d=Aa o->h2.get? d=Aa o)->LX I s.heap.objs.size xs ys us n acc h2->Q₁ (.ref h2.objs.size) { s with heap:=h2.push { cls:=.type "tuple",data:=.seq acc },toks:=tk }):
  E9 (model prog w) A (.call (.builtin "tuple.__new__") ⟨[.type "tuple",.ref (I+5)],[]⟩) (wants Q₁ E) s:=by
 refine bF ?_;show Au _ A.in1 (do Ez "tuple.__new__" ⟨[.type "tuple",.ref (I+5)],[]⟩;again (.builtin "tuple.__new__" ⟨[.type "tuple",.ref (I+5)],[]⟩)) _ _ s
 refine Ah (IN (F.newCall_tuple_1 _) (Av ⟨HA ZW _,EO F.entry_tuple_new ?_⟩));rw[Ek ZW _];have hsub:=sub_tuple_self;have hinit:=init_tuple_lookup;have hmh:=madeHere_tuple;have hTI:=hz.ty;have calm2:A.in1.handled=Af:=calm
 wp_walk using wpAny_typeOf hTI,fR calm2 b1 b2 b3 n0 nn e1 e2 e3 hz q1 q2 q3
 intro h2 acc tk kp hd;show Au _ _ (Dd acc.toList.toArray >>= λv=>ret v) _ _ _
 unfold Dd;refine Ah (CP ?_ (by show acc.toList.toArray.size<=sizeLine;simp only[Yw];rw[hd.1,Dx];omega))
 refine Av ?_;have e:acc.toList.toArray=acc:=by simp
 rw[e];exact h h2 acc tk kp hd
theorem jE{t1 t2 t3:Ak}{I l1 l2 l3 n:Ag}{xs:A9 Ai}{Q:Vq}(calm:A.handled=Af)(b1:l1<I)(b2:l2<I)(b3:l3<I)(n0:0<n)(nn:n<=1000)(e1:xs.size=n)(e2:ys.size=n)(e3:us.size=n)(hz:Z_3 t1 t2 t3 I l1 l2 l3 0 s.heap)(q1:Cu t1 s.heap l1 xs)(q2:Cu t2 s.heap l2 ys)(q3:Cu t3 s.heap l3 us)(h:∀ h2 acc tk,(∀ d o,d∉z3w I->s.heap.get? d=Aa o->h2.get? d=Aa o)->LX I s.heap.objs.size xs ys us n acc h2->Q (.ref h2.objs.size) { s with heap:=h2.push { cls:=.type "tuple",data:=.seq acc },toks:=tk }):
  Au (model prog w) A (call (.type "tuple") [.ref (I+5)]) Q E s:=by
 refine callType_codes (Q₁:=λobj s₁=>s₁.TypeIs obj "tuple"/\Q obj s₁) F.called_tuple (F.typeCall_tuple_1 _) F.entry_object_init
  (nX (by exact calm) b1 b2 b3 n0 nn e1 e2 e3 hz q1 q2 q3 λh2 acc tk kp hd=>⟨⟨_,AE _ rfl,rfl⟩,h h2 acc tk kp hd⟩) λobj s₁ h₁=>?_
 exact⟨h₁.1,ZM obj _,object_init_meets F.called_tuple.init.lookup F.called_tuple.made (by decide) prog w A.in1 _ s₁ ⟨h₁.1,rfl,h₁.2⟩⟩
end
noncomputable def IY(H:Hp)(ps:Ac (Al×Ac V)):Hp:=λb=>match ps.lookup b with
  |some xs=>Aa (.tup xs)
  |none=>H b
theorem WX(h:ps.lookup a=Aa xs):(a,xs)∈ps:=by
 induction ps with
 |nil=>cases h
 |cons p ps ih=>
  obtain⟨b,ys⟩:=p;rw[BZ]at h;split at h
  .rename_i e;cases h;rw[AZ]at e;subst e;exact AX
  .exact AN _ (ih h)
theorem UW(h:∀ p∈ps,p.1≠b):IY H ps b=H b:=by
 unfold IY;cases e:ps.lookup b with
 |none=>rfl
 |some xs=>exact absurd rfl (h _ (WX e))
theorem kL(ps:Ac (Al×Ac V))(I:Inv X pI Z H s)(k:∀ b u,s.heap.get? b=Aa u->h'.get? b=Aa u)(hp:∀ p∈ps,s.heap.objs.size<=p.1)(new:∀ p∈ps,p.2.length<=sizeLine/\∃ its:Ac Ai,Bq p.2 its/\Ku h' p.1 its.toArray):Inv X pI Z (IY H ps) {s with heap:=h',toks:=t'}:=by
 have old:∀ b,b<s.heap.objs.size->IY H ps b=H b:=λb hb=>UW λp hq e=>by
  have:=hp p hq;rw[e]at this;exact absurd hb (FZ.mpr this)
 have hl:∀ b o,H b=Aa o->IY H ps b=Aa o:=λb o q=>by rw[old b (I.hok.lt q)];exact q
 refine I.un ⟨λb u q _ _ _=>k b u q,λb u q _ _ _=>⟨u.slots,k b u q⟩,λb u q n _=>by rw[old b (AD q)];exact n,λb u q _=>⟨u,k b u q⟩,λb xs q=>hl b _ q,λb u xs q=>hl b _ q,λb xs q=>⟨#[],by rw[hl b _ q];simp⟩⟩ λb u e=>?_
 unfold IY at e;split at e
 .rename_i xs hx;cases e;exact new _ (WX hx)
 .exact(I.hok b u e).stay (λc v _ q=>k c v q) (λc q=>hl c _ q) λc xs q=>hl c _ q
noncomputable def HF:Ac V->Ac V->Ac V->Ac (Ac V)
 |x::xs,y::ys,u::us=>[x,y,u]::HF xs ys us
 |_,_,_=>[]
theorem Ut:∀(xs ys us:Ac V)(j:Ag)(r:Ac V),(HF xs ys us)[j]?=Aa r->∃ x y u,xs[j]?=Aa x/\ys[j]?=Aa y/\us[j]?=Aa u/\r=[x,y,u]
 |[],_,_,j,r,h=>by simp[HF]at h
 |_::_,[],_,j,r,h=>by simp[HF]at h
 |_::_,_::_,[],j,r,h=>by simp[HF]at h
 |x::xs,y::ys,u::us,0,r,h=>by
  simp only[HF,EF,Cy]at h;exact⟨x,y,u,rfl,rfl,rfl,h.symm⟩
 |x::xs,y::ys,u::us,j+1,r,h=>by
  simp only[HF,EE]at h ⊢;exact Ut xs ys us j r h
theorem NI{α β:Type}:∀{as:Ac α}{bs:Ac β}{a:α}{b:β},(a,b)∈as.zip bs->∃ j:Ag,as[j]?=Aa a/\bs[j]?=Aa b
 |[],_,_,_,h=>by simp at h
 |_::_,[],_,_,h=>by simp at h
 |x::as,y::bs,a,b,h=>by
  simp only[Hr,Ax,Prod.mk.injEq]at h;rcases h with ⟨rfl,rfl⟩|h
  .exact⟨0,rfl,rfl⟩
  .obtain⟨j,h1,h2⟩:=NI h;exact⟨j+1,h1,h2⟩
def dJ(K:Fg)(ta:TA):TE:=λZ H Q=>ta Z H λvs H1=>∃ t1 t2 t3 a b c xs ys us,vs=[.ref a,.ref b,.ref c]/\SqX t1 K H1 a xs/\SqX t2 K H1 b ys/\SqX t3 K H1 c us/\0<xs.length/\xs.length<=1000/\ys.length=xs.length/\us.length=xs.length /\
 ∀(as:Ac Al)(T:Al),as.length=xs.length->as.Nodup->(∀ p∈as,H1 p=Af)->T∉as->H1 T=Af->Q (.ref T) (IY H1 ((T,as.map .ref)::as.zip (HF xs ys us)))
theorem kA{I S:Ag}{xs acc:A9 Ai}(d:LX I S xs ys us n acc h):∃ as:Ac Al,acc.toList=as.map BQ/\as.length=n/\as.Nodup/\∀(j:Ag)(a:Al),as[j]?=Aa a->∃ x y u,xs[j]?=Aa x/\ys[j]?=Aa y/\us[j]?=Aa u/\EK h a x y u/\I+5<a:=by
  obtain⟨hn,hj,inj⟩:=d
  let f:Ai->Al:=λv=>match v with
    |.ref a=>a
    |_=>0
  have hg:∀ j v,acc.toList[j]?=Aa v->∃(a:Ag)(x y u:Ai),v=BQ a/\xs[j]?=Aa x/\ys[j]?=Aa y/\us[j]?=Aa u/\EK h a x y u/\I+5<a:=λj v e=>by
    rw[Array.getElem?_toList]at e;have lt:j<n:=by rw[<-hn];exact(Fq.mp e).1
    obtain⟨a,x,y,u,r1,r2,r3,r4,r5,r6,_⟩:=hj j lt;rw[e]at r1;cases r1;exact⟨a,x,y,u,rfl,r2,r3,r4,r5,r6⟩
  have hf:∀ v∈acc.toList,BQ (f v)=v:=λv hv=>by
    obtain⟨j,hj⟩:=YM hv;obtain⟨a,_,_,_,rfl,_⟩:=hg j v hj;rfl
  have hm:acc.toList=(acc.toList.map f).map BQ:=by
    rw[E2]
    conv=>lhs;rw[<-List.map_id acc.toList]
    exact G8 λv hv=>(hf v hv).symm
  refine⟨acc.toList.map f,hm,by rw[BO,ED,hn],?_,λj a e=>?_⟩
  · rw[List.nodup_iff_pairwise_ne,List.pairwise_iff_getElem];intro i j hi hj' lt e;rw[BO,ED]at hi hj';have at':∀(k:Ag)(hk:k<acc.size)(hk':k<(acc.toList.map f).length),acc[k]?=Aa (BQ (acc.toList.map f)[k]):=λk hk hk'=>by
      rw[CN hk,List.getElem_map,hf _ (Fh _),Array.getElem_toList]
    have:=inj i j _ (at' i hi _) (by rw[e];exact at' j hj' _)
    omega
  · rw[DP,Option.map_eq_some_iff]at e;obtain⟨v,hv,rfl⟩:=e;obtain⟨a,x,y,u,rfl,r⟩:=hg j v hv;exact⟨x,y,u,r⟩
theorem wY{a b:An}{p':AL}(hc:X.calm=Ab)(hg:Gl X "tuple")(hm:X.mg "tuple" = Af)(hg':Gl X "zip")(hm':X.mg "zip" = Af)(ha:PA X [a,b,c] ta)(hs:Aw [a,b,c] X.env=[(Ad,eval a X.env),(Ad,eval b X.env),(Ad,eval c X.env)])(hs2:Aw [b,c] X.env=[(Ad,eval b X.env),(Ad,eval c X.env)]):
    PE X (.Call (.Name "tuple" p) [.Call (.Name "zip" p') [a,b,c] [] pos'] [] pos) (dJ X.K ta):=by
  intro pI s Z H Q I h;refine K8 (Ju I hg hm F6 (Cw ?_ rfl rfl));show Au _ _ (spliced ((Ad,eval (.Call (.Name "zip" p') [a,b,c] [] pos') X.env)::Cj pos (Aw [] X.env))) _ _ s;refine Zi ?_;refine K8 (Ju I hg' hm' Y_7 (Cw (thn (ha pos' pI s Z H _ I h) λus s1 ⟨vs,H1,I1,r1,q1⟩=>?_) (by rw[hs,hs2]) (by rw[hs2];rfl)))
  obtain⟨t1,t2,t3,l1,l2,l3,xs,ys,zs,e,sx,sy,sz,n0,nn,ey,ez,q⟩:=q1;subst e;cases r1 with
  |cons r rr=>
    cases rr with
    |cons r' rr=>
      cases rr with
      |cons r'' rr=>
        cases rr;cases r;cases r';cases r'';obtain⟨xv,rx,ix,_⟩:=HE I1 sx;obtain⟨yv,ry,iy,_⟩:=HE I1 sy;obtain⟨zv,rz,iz,_⟩:=HE I1 sz;refine gY ix iy iz λh2 z hsz kp=>Zj ?_
        have lx:=rx.length;have ly:=ry.length;have lz:=rz.length;refine jE (s:={s1 with heap:=h2}) (n:=xs.length) (I1.ok.hd hc) ix.lt iy.lt iz.lt n0 nn (by simp[lx]) (by simp[<-ly,ey]) (by simp[<-lz,ez]) z (ix.at' λo e=>kp _ o e) (iy.at' λo e=>kp _ o e) (iz.at' λo e=>kp _ o e) λh3 acc tk kp3 dr=>?_
        obtain⟨as,e1,e2,nd,each⟩:=kA dr;have nw:∀ b,b<s1.heap.objs.size->b∉z3w s1.heap.objs.size:=λb hb=>OC hb
        have kp4:∀ b o,s1.heap.get? b=Aa o->(h3.push { cls:=.type "tuple",data:=.seq acc }).get? b=Aa o:=λb o e=>As _ (kp3 b o (nw b (AD e)) (kp b o e))
        have big:∀ a∈as,s1.heap.objs.size<=a/\a<h3.objs.size:=λa ha=>by
          obtain⟨j,hj⟩:=YM ha;obtain⟨x,y,u,_,_,_,tr,lt⟩:=each j a hj;exact⟨E5 (DF (Et _ 5) lt),AD tr⟩
        have b3:s1.heap.objs.size<=h3.objs.size:=by
          obtain⟨a,ha⟩:∃ a,a∈as:=List.exists_mem_of_length_pos (by rw[e2];exact n0)
          exact E5 (DF (big a ha).1 (big a ha).2)
        refine⟨.ref h3.objs.size,_,kL (s:=s1) (h':=h3.push { cls:=.type "tuple",data:=.seq acc }) (t':=tk) ((h3.objs.size,as.map V.ref)::as.zip (HF xs ys zs)) I1 kp4 (λp hp=>?_) (λp hp=>?_),rfl,q as h3.objs.size e2 nd (λp hp=>I1.hok.fresh (big p hp).1) (λhT=>absurd (big _ hT).2 (Bx _)) (I1.hok.fresh b3)⟩
        · rcases Ax.mp hp with rfl|hp
          · exact b3
          · obtain⟨j,h1,h2⟩:=NI (a:=p.1) (b:=p.2) hp;exact(big _ (DL h1)).1
        · rcases Ax.mp hp with rfl|hp
          · refine⟨by rw[BO,e2,Dx];omega,as.map BQ,?_,?_⟩
            · clear q each big hp e1 e2 nd
              induction as with
              |nil=>exact .nil
              |cons a as ih=>exact .cons rfl ih
            · rw[<-e1,Yw];exact JR _ _
          · obtain⟨j,h1,h2⟩:=NI (a:=p.1) (b:=p.2) hp;obtain⟨x,y,u,g1,g2,g3,er⟩:=Ut _ _ _ _ _ h2;obtain⟨x',y',u',k1,k2,k3,tr,_⟩:=each j _ h1;obtain⟨x2,m1,w1⟩:=rx.get g1;obtain⟨y2,m2,w2⟩:=ry.get g2;obtain⟨u2,m3,w3⟩:=rz.get g3;rw[YO]at k1 k2 k3;cases m1.symm.trans k1;cases m2.symm.trans k2;cases m3.symm.trans k3;rw[er];exact⟨by show 3<=sizeLine;decide,[x',y',u'],.cons w1 (.cons w2 (.cons w3 .nil)),⟨_,As _ tr,rfl,_,rfl⟩⟩
theorem TW{K:Fg}{CL:ClA}{H H3:Hp}{A:Al->Prop}(hA:AOk H A)(sm:AJ H H3):∀{as:Ac Al}{xs ys us:Ac V}{ds es fs:Ac D},(∀(j:Ag)(a:Al)(r:Ac V),as[j]?=Aa a->(HF xs ys us)[j]?=Aa r->H3 a=Aa (.tup r))->(∀ p∈as,H p=Af)->as.length=xs.length->ys.length=xs.length->us.length=xs.length->Reps K CL H A xs ds->Reps K CL H A ys es->Reps K CL H A us fs->Reps K CL H3 A (as.map .ref) (RA ds es fs)
 |[],[],[],[],[],[],[],_,_,_,_,_,_,_,_=>trivial
 |a::as,x::xs,y::ys,u::us,d::ds,e::es,f::fs,h,hn,l1,l2,l3,r1,r2,r3=>
  ⟨⟨a,[x,y,u],rfl,.inl (hA.new (hn a AX)),SqT.of (h 0 a _ rfl rfl),r1.1.same sm,r2.1.same sm,r3.1.same sm,trivial⟩,
   TW hA sm (λj a' r p q=>h (j+1) a' r p q) (λp hp=>hn p (AN _ hp)) (HY l1) (HY l2) (HY l3) r1.2 r2.2 r3.2⟩
 |[],_::_,_,_,_,_,_,_,_,l,_,_,_,_,_=>nomatch l
 |_::_,[],_,_,_,_,_,_,_,l,_,_,_,_,_=>nomatch l
 |_,[],_::_,_,_,_,_,_,_,_,l,_,_,_,_=>nomatch l
 |_,[],_,_::_,_,_,_,_,_,_,_,l,_,_,_=>nomatch l
 |_,_::_,[],_,_,_,_,_,_,_,l,_,_,_,_=>nomatch l
 |_,_::_,_,[],_,_,_,_,_,_,_,l,_,_,_=>nomatch l
 |_,[],_,_,_::_,_,_,_,_,_,_,_,r,_,_=>r.elim
 |_,_::_,_,_,[],_,_,_,_,_,_,_,r,_,_=>r.elim
 |_,_,[],_,_,_::_,_,_,_,_,_,_,_,r,_=>r.elim
 |_,_,_::_,_,_,[],_,_,_,_,_,_,_,r,_=>r.elim
 |_,_,_,[],_,_,_::_,_,_,_,_,_,_,_,r=>r.elim
 |_,_,_,_::_,_,_,[],_,_,_,_,_,_,_,r=>r.elim
theorem WW:∀{as:Ac Al}{rs:Ac (Ac V)}{j:Ag}{a:Al}{r:Ac V},as.Nodup->as[j]?=Aa a->rs[j]?=Aa r->(as.zip rs).lookup a=Aa r
 |[],_,_,_,_,_,h,_=>by simp at h
 |_::_,[],_,_,_,_,_,h=>by simp at h
 |b::as,q::rs,0,a,r,nd,h1,h2=>by
  simp only[EF,Cy]at h1 h2;subst h1 h2;rw[Hr,YT]
 |b::as,q::rs,j+1,a,r,nd,h1,h2=>by
  simp only[EE]at h1 h2;have nb:a≠b:=λe=>by subst e;exact(EN.mp nd).1 (DL h1)
  rw[Hr,BZ,jq nb];exact WW (EN.mp nd).2 h1 h2
section
variable{X:Cx}{CL:ClA}{W:XW}{pos p pos' p':AL}{a b c:An}{fa fb fc:Rho->R D}
theorem uN(ha:SE X CL W a fa)(hb:SE X CL W b fb)(hd:SE X CL W c fc)(hc:X.calm=Ab)(hg:Gl X "tuple")(hm:X.mg "tuple" = Af)(hg':Gl X "zip")(hm':X.mg "zip" = Af)(hs:Aw [a,b,c] X.env=[(Ad,eval a X.env),(Ad,eval b X.env),(Ad,eval c X.env)])(hs2:Aw [b,c] X.env=[(Ad,eval b X.env),(Ad,eval c X.env)])(hs3:Aw [c] X.env=[(Ad,eval c X.env)]):
  SE X CL W (.Call (.Name "tuple" p) [.Call (.Name "zip" p') [a,b,c] [] pos'] [] pos) (λY=>((fa Y).bind λx=>(fb Y).bind λy=>(fc Y).bind λz=>L5 x y z).bind λxs=>.ok (.tup xs)):=
 λA=>PE.weak (wY hc hg hm hg' hm' (EA (ha A) (EA (hb A) (EA (hd A) GZ hs3) (by rw[hs2,hs3])) (by rw[hs,hs2])) hs hs2) λZ H Q ⟨hA,Y,g,q⟩=>by
  simp only[R.bind_assoc]at q;refine⟨hA,Y,g,Bv.bind q λd v H1 _ s1 r1 p1=>⟨hA.same s1,Y,g.same s1,Bv.bind p1 λd2 v2 H2 _ s2 r2 p2=>⟨(hA.same s1).same s2,Y,(g.same s1).same s2,Bv.bind p2 λd3 v3 H3 _ s3 r3 p3=>?_⟩⟩⟩
  unfold L5 at p3;cases e1:C5 d with
  |bad=>rw[e1]at p3;exact p3.elim
  |exn z=>exact absurd e1 (by cases d<;>simp[C5])
  |ok ds=>
   cases e2:C5 d2 with
   |bad=>rw[e1,e2]at p3;exact p3.elim
   |exn z=>exact absurd e2 (by cases d2<;>simp[C5])
   |ok es=>
    cases e3:C5 d3 with
    |bad=>rw[e1,e2,e3]at p3;exact p3.elim
    |exn z=>exact absurd e3 (by cases d3<;>simp[C5])
    |ok fs=>
     rw[e1,e2,e3]at p3;simp only[R.bind_ok]at p3;obtain⟨t1,c1,xs,rfl,k1,rs1⟩:=L8 ((r1.same s2).same s3) e1;obtain⟨t2,c2,ys,rfl,k2,rs2⟩:=L8 (r2.same s3) e2;obtain⟨t3,c3,us,rfl,k3,rs3⟩:=L8 r3 e3;split at p3
     .rename_i hn;obtain⟨n0,nn,ny,nz⟩:=hn;rw[<-rs1.length]at n0 nn ny nz;rw[<-rs2.length]at ny;rw[<-rs3.length]at nz;refine⟨t1,t2,t3,c1,c2,c3,xs,ys,us,rfl,k1 H3 (Kp.of (AJ.refl H3)),k2 H3 (Kp.of (AJ.refl H3)),k3 H3 (Kp.of (AJ.refl H3)),n0,nn,ny,nz,λas T el nd fr hT fT=>?_⟩
      have hA3:AOk H3 A:=((hA.same s1).same s2).same s3;have fr':∀ q∈(T,as.map V.ref)::as.zip (HF xs ys us),H3 q.1=Af:=λq hq=>by
       rcases Ax.mp hq with rfl|hq
       .exact fT
       .obtain⟨j,h1,h2⟩:=NI (a:=q.1) (b:=q.2) hq;exact fr _ (DL h1)
      have sm:AJ H3 (IY H3 ((T,as.map V.ref)::as.zip (HF xs ys us))):=λb o e=>by
       rw[UW λq hq z=>by rw[<-z,fr' q hq]at e;cases e]
       exact e
      refine p3 _ _ sm ⟨T,as.map V.ref,rfl,.inl (hA3.new fT),SqT.of ?_,TW hA3 sm (λj a r h1 h2=>?_) fr el ny nz rs1 rs2 rs3⟩
      .unfold IY;rw[YT]
      .have na:a≠T:=λe=>by subst e;exact hT (DL h1)
       unfold IY;rw[BZ,jq na,WW nd h1 h2]
     .exact p3.elim
end
section
variable{X:Cx}{CL:ClA}{W:XW}{pos p tpos:AL}{a b c:An}{fa fb fc:Rho->R D}{x:Aj}
end
section
variable{X:Cx}{CL:ClA}{W:XW}{a:An}{fa:Rho->R D}
end
section
variable{X:Cx}{CL:ClA}{W:XW}{o o' e:An}{fe:Rho->R D}{i j:Ag}{apos cpos apos' cpos' pos:AL}
end
section
variable{X:Cx}{CL:ClA}{W:XW}
end
section
variable{X:Cx}
variable{CL:ClA}{W:XW}{pos p pos' p':AL}{a b:An}{fa fb:Rho->R D}
end
section
variable{X:Cx}{CL:ClA}{W:XW}{e o o' k l:An}{fe:Rho->R Ov.D}{i ik il:Ag}{pos spos spos' tpos:AL}{kt:Ag}
end
section
variable{prog:AS}{w:AF}{A:A6}{E:Vq}{s:Ar}
theorem Ud{it t:Al}{items:A9 Ai}(hne:t≠it):∀(n i:Ag)(s:Ar)(Q:Ac Ai->Ar->Prop),s.heap.IsListIter it t i->s.heap.IsList t items->i+n<=items.size->(∀ h',h'.IsListIter it t (i+n)->Ew it s.heap h'->Q ((items.toList.drop i).take n) {s with heap:=h'})->Au (model prog w) A (draw (.ref it) n) Q E s
 |0,i,s,Q,hit,_,_,hQ=>by
  show Au _ _ (pure []) Q E s;exact Av (by simpa using hQ s.heap hit (Z_0 ..))
 |n+1,i,s,Q,hit,ht,hle,hQ=>by
  have hlt:i<items.size:=by omega
  show Au _ _ (Eh (.ref it) >>= _) Q E s;refine Ah (bT hit ht (x:=items[i]) (by simp[hlt]) λh₁ hit₁ hs₁=>?_)
  refine Ah (BV (Ud hne n (i+1) _ _ hit₁ (ht.extBut hs₁.extBut hne) (by omega) λh₂ hit₂ hs₂=>Av ?_))
  have hd:items.toList.drop i=items[i]::items.toList.drop (i+1):=by simp[FK,hlt]
  have:=hQ h₂ (by rw[show i+(n+1)=i+1+n by omega];exact hit₂) (hs₁.trans hs₂)
  rw[hd,List.take_succ_cons]at this;exact this
theorem eQ{t:Al}{Q:Ac Ai->Ar->Prop}(hh:A.handled=Af)(ht:s.heap.IsList t items)(hQ:∀ h',IM s.heap.objs.size s.heap h'->Q items.toList {s with heap:=h'}):Au (model prog w) A (unpackItems (.ref t) items.size Af) Q E s:=by
 have hlt:t≠s.heap.objs.size:=by obtain⟨o,ho,_⟩:=ht;exact Bk (AD ho)
 have htp:(s.heap.push { cls:=.type "list_iterator",data:=.fields #[.ref t,.int 0 0] }).IsList t items:=by
  obtain⟨o,ho,r⟩:=ht;exact⟨o,As _ ho,r⟩
 unfold unpackItems;refine Ah ?_
 .unfold notIterableAtAll;refine Ah (IK ht.typeIs slot_list_iter.lookup ?_);refine Av ?_;simp only[Ho,IC];refine Ah (BV (F8 ht ?_));refine Ah (BV (Ud hlt items.size 0 _ _ ⟨_,AE _ rfl,rfl,rfl⟩ htp (by omega) λh₁ hit₁ hs₁=>?_))
  have hall:List.take items.size (List.drop 0 items.toList)=items.toList:=by
   rw[YJ];exact ES (by simp)
  rw[hall];rw[AK (by simp)]
  have ht₁:h₁.IsList t items:=htp.extBut hs₁.extBut hlt;refine Ah (BV (bS hh hit₁ ht₁ (by simp) λh₂ he₂=>?_))
  simp only[Option.isSome_none,Ho,IC];refine Av (hQ h₂ λb o hb e=>he₂ b o hb (hs₁.extBut b o hb (As _ e)))
theorem eR{elts:Ac An}{x1}{t:Al}{Q:F9->Ar->Prop}(hh:A.handled=Af)(ht:s.heap.IsList t items) (hn:(CF elts env).length=items.size) (hstar:(CF elts env).findIdx? (·.1)=Af) (h:∀ h',IM s.heap.objs.size s.heap h'->Au (model prog w) A (assignInOrder ((CF elts env).map (·.2)) items.toList) Q E {s with heap:=h'}):Au (model prog w) A (assign (.Tuple elts x1 pos) env (.ref t)) Q E s:=by
 rw[assign_Tuple];refine Ah (Ee ?_);unfold unpack;rw[hn,hstar];exact Ah (BV (eQ hh ht h))
end
section
variable{X:Cx}{pos:AL}{CL:ClA}
def gSq(K:Fg)(n:Ag)(t:TGs):TG:=λv Z H Q=>Mh K n t v Z H Q\/∃ a xs,v=.ref a/\SqL K H a xs/\xs.length=n/\t xs Z H Q
theorem cm{t:TGs}(hc:X.calm=Ab)(h:PGs X es t)(hn:(CF es X.env).length=n)(hst:(CF es X.env).findIdx? (·.1)=Af):PG X (.Tuple es k pos) (gSq X.K n t):=by
 intro pI s Z H v u Q I r hw;rcases hw with hw|hw
 .exact Rl hc h hn hst pI s Z H v u Q I r hw
 .obtain⟨a,xs,e1,hq,hl,hw⟩:=hw;subst e1;cases r;obtain⟨its,rv,ht,hz⟩:=I.list hq;refine eR (I.ok.hd hc) ht.isList (by simp[hn,<-hl,rv.length]) hst λh' hx=>?_
  have I1:Inv X pI Z H {s with heap:=h'}:=I.kept (t':=s.toks) λb o e=>hx b o (Bk (AD e)) e
  exact h pI _ Z H xs _ Q I1 (by simpa using rv) hw
theorem j6(ts:Ac Ag):GT K CL (JA ts) (gSq K ts.length (ts.foldr (λt u=>Iq (FF t) u) Iy)):=λFz B Y Z H v d Y' Q x r e k=>by
 cases d with
 |lst ds=>
  obtain⟨a,xs,rfl,na,sq,rs⟩:=r;rw[jR]at e;cases e2:Fa ts ds Y with
  |none=>rw[e2]at e;cases e
  |some Y2=>
   rw[e2]at e;cases e;exact .inr ⟨a,xs,rfl,sq,by rw[rs.length];exact NH _ _ _ _ e2,Rh ts ds xs Y _ Z Q x rs e2 k⟩
 |_=>exact .inl (W1 ts Fz B Y Z H v _ Y' Q x r e k)
end
section
variable{X:Cx}{CL:ClA}{W:XW}
end
end Ov
namespace Ov
open PySem PySem.W PyProof.Rows
variable{p:A9 Ag}{m:Ag}
def Kr{α:Type}(lt:Ag->Ag->Ak)(n:Ag):KasT α->(α->Prop)->Prop
 |.ret a,Q=>Q a
 |.ask i j k,Q=>i<n/\j<n/\Kr lt n (k (lt i j)) Q
theorem Kr.mono{α:Type}{lt:Ag->Ag->Ak}{n:Ag}{Q Q':α->Prop}:∀{t:KasT α},Kr lt n t Q->(∀ a,Q a->Q' a)->Kr lt n t Q'
 |.ret _,h,k=>k _ h
 |.ask i j f,h,k=>⟨h.1,h.2.1,Kr.mono (t:=f (lt i j)) h.2.2 k⟩
theorem Kr.bind{α β:Type}{lt:Ag->Ag->Ak}{n:Ag}{f:α->KasT β}{Q:β->Prop}:∀{t:KasT α},Kr lt n t (λa=>Kr lt n (f a) Q)->Kr lt n (t.bind f) Q
 |.ret _,h=>h
 |.ask i j k,h=>⟨h.1,h.2.1,Kr.bind (t:=k (lt i j)) h.2.2⟩
structure Sto (lt:Ag->Ag->Ak) (n:Ag):Prop where
 tr:∀ i j k,i<n->j<n->k<n->lt i j=Ab->lt j k=Ab->lt i k=Ab
 tot:∀ i j,i<n->j<n->i≠j->lt i j=Ad->lt j i=Ab
 asy:∀ i j,i<n->j<n->lt i j=Ab->lt j i=Ad
noncomputable def at0(p:A9 Ag)(x:Ag):Ag:=p.getD x 0
structure Pm (n:Ag) (p:A9 Ag):Prop where
 sz:p.size=n
 lt:∀ x,x<n->at0 p x<n
 inj:∀ x y,x<n->y<n->at0 p x=at0 p y->x=y
section
variable{lt:Ag->Ag->Ak}{n:Ag}
def O7(lt:Ag->Ag->Ak)(p:A9 Ag)(m:Ag):Prop:=∀ x y,x<y->y<m->lt (at0 p x) (at0 p y)=Ab
def O9(lt:Ag->Ag->Ak)(p:A9 Ag)(m:Ag):Prop:=∀ x y,x<y->y<m->lt (at0 p y) (at0 p x)=Ab
theorem O7.succ(S:Sto lt n)(hp:Pm n p)(h1:1<=m)(hm:m<n)(h:O7 lt p m)(e:lt (at0 p (m-1)) (at0 p m)=Ab):O7 lt p (m+1):=λx y hxy hy=>by
 by_cases hym:y<m
 .exact h x y hxy hym
 .have:y=m:=by omega
  subst this;by_cases hx:x=y-1
  .rw[hx];exact e
  .exact S.tr _ _ _ (hp.lt _ (by omega)) (hp.lt _ (by omega)) (hp.lt _ hm) (h x (y-1) (by omega) (by omega)) e
theorem O9.succ(S:Sto lt n)(hp:Pm n p)(h1:1<=m)(hm:m<n)(h:O9 lt p m)(e:lt (at0 p m) (at0 p (m-1))=Ab):O9 lt p (m+1):=λx y hxy hy=>by
 by_cases hym:y<m
 .exact h x y hxy hym
 .have:y=m:=by omega
  subst this;by_cases hx:x=y-1
  .rw[hx];exact e
  .exact S.tr _ _ _ (hp.lt _ hm) (hp.lt _ (by omega)) (hp.lt _ (by omega)) e (h x (y-1) (by omega) (by omega))
end
section
variable{prog:AS}{w:AF}{A:A6}{E:Vq}{κ:SortKind}{it:A9 Keyed}
end
section
variable{lt:Ag->Ag->Ak}{n:Ag}
end
def QS(h:AB)(v:Ai)(r:Ac Ae):Prop:=∃ a its,v=.ref a/\Ku h a its/\Jd its.toList r/\r≠[]
theorem QS.kept{h h':AB}{v:Ai}{r:Ac Ae}(t:QS h v r)(k:∀ b o,h.get? b=Aa o->h'.get? b=Aa o):QS h' v r:=by
 obtain⟨a,its,e,⟨o,ho,q⟩,i,n⟩:=t;exact⟨a,its,e,⟨o,k _ _ ho,q⟩,i,n⟩
section
variable{prog:AS}{w:AF}{A:A6}{E:Vq}{s:Ar}
end
end Ov
section
namespace Ov
theorem gE{α:Type}[DecidableEq α]{l m:Ac α}(hl:l.Nodup)(hm:m.Nodup)(h:∀ x,x∈l↔x∈m):l.Perm m:=by
 rw[List.perm_iff_count];intro a;rw[hl.count,hm.count];simp[h]
open PySem PySem.Spec PyProof.Rows L2
section
variable{X:Cx}{CL:ClA}{W:XW}
end
end Ov
end
section
namespace Ov
open PySem PySem.Spec PyProof.Rows
section
variable{t:SetTable}{hashAt:Ag->Ae}{h:Ae}
noncomputable def stand(i b:Ag):SetTable.Probe:=⟨i,0,i,b,Af⟩
end
section
variable{prog:AS}{w:AF}{A:A6}{E:Vq}{s:Ar}{K:Type} [DecidableEq K] {knd:KeyKind prog w K}
end
section
variable{prog:AS}{w:AF}{A:A6}{R:Jf->Ar->Prop}{I:Al}{fp wr:Ac Al}{G:A9 ET->A9 ET->Prop}{n:Ag}{P:Ag->Ai->Prop}{St:Ag->Ar->Prop}
end
section
variable{prog:AS}{w:AF}{A:A6}{E:Vq}{s:Ar}
end
end Ov
end
namespace Ov
open PySem PySem.Spec PyProof.Rows L2
variable{h h':AB}{P:AS}{w:AF}{H H':Hp}{oe:C4}{vs:A9 Ai}{Q:F9->Ar->Prop}{T' C C' OV:Al}{a0 oc:Ai}{X:Cx}{pI:Pn}{Z Z0:L2.St}{K:Fg}{m:Aj->Ao Ai}{x g name qual z x0 x1:Aj}{v:Ao Ai}{M:Hn}{tk:Dj}{fill expr fr:Ak}{φ:AB->Prop}{CL:ClA}{Fz:Al->HO->Prop}{B A:Al->Prop}{Y:Rho}{W:XW}{hs body:Ac AW}{h0:AW}{p1 pos p pos' np cpos:AL}{fh:Rho->O}{dx an od:Ao Al}{up:Ag->Ac Ag}{CX:CXT}{k c kk l:Ag}{fd:B9}{ps:Ac Aj}{sp:Sp}{F:Ac D->R D}{Xw:Vq}{fs:Rho->R (Ac D)}{xn:Ag->Ac D->R Ex}{d:D}{scope:Cv}{osl:A9 (Ao Ai)}{α:Type}{xs ys:Ac An}{env:CI}{ts:Ac Ag}{as:Es}
section
variable{X:Cx}
def OW(K:Fg)(H:Hp):Ac V->Ac (Ac Ae)->Prop
 |[],[]=>Ic
 |x::xs,k::ks=>(∃ b,x=.ref b/\SqT K H b (k.map V.int))/\OW K H xs ks
 |_,_=>A3
theorem OW.length{K:Fg}{H:Hp}:∀{xs:Ac V}{ks:Ac (Ac Ae)},OW K H xs ks->xs.length=ks.length
 |[],[],_=>rfl
 |_::_,_::_,h=>congrArg (· + 1) (OW.length h.2)
 |[],_::_,h=>h.elim
 |_::_,[],h=>h.elim
variable{CL:ClA}{W:XW}{pos p pos' p':AL}{a:An}{fa:Rho->R D}
end
section
end
section
variable{X:Cx}
variable{CL:ClA}{W:XW}{o e:An}{fe:Rho->R D}{i:Ag}{apos cpos pos:AL}
end
section
open PySem.AutoSeq1 (wpAny_loadPart')
end
section
variable{prog:AS}{w:AF}{A:A6}{R:Jf->Ar->Prop}{I S T:Al}{u v:Ai}{c:Ag}{P:Ag->Ai->Prop}{St:Ag->AB->Prop}{s:Ar}{r q:Ac Ae}
end
section
variable{X:Cx}{CL:ClA}{W:XW}
end
def OY(e T:Al)(cls:Ai)(dx:Ao Al)(fl:Ai)(h:AB):Prop:=∃ oe vs oT ts a0,h.get? e=Aa oe/\oe.cls=cls/\oe.dict=dx/\vs[0]?=Aa a0/\oe.data=.fields vs/\vs[1]?=Aa (.ref T)/\T≠e/\h.get? T=Aa oT/\oT.data=.fields ts/\ts[3]?=Aa fl
noncomputable abbrev Fly(e T:Al)(cls:Ai)(dx:Ao Al)(h:AB):Prop:=OY e T cls dx Dk h
noncomputable def GD(C:Al)(dx:Ao Al)(t:Al):C4:={cls:=.ref C,dict:=dx,data:=.fields #[.ref t,.none,.none,.none,.bool Ad,.none]}
structure Shift (ex fs:Ac Al) (h h':AB):Prop where
 keep:∀ b o,h.get? b=Aa o->b∉ex->b∉fs->h'.get? b=Aa o
 slot:∀ b o,h.get? b=Aa o->b∈fs->∃ sl,h'.get? b=Aa {o with slots:=sl}
theorem Shift.trans{ex fs:Ac Al}{h1 h2:AB}(a:Shift ex fs h h1)(b:Shift ex fs h1 h2):Shift ex fs h h2:=
 ⟨λc o q n m=>b.keep c o (a.keep c o q n m) n m,λc o q m=>by
  obtain⟨sl,e1⟩:=a.slot c o q m;obtain⟨sl',e2⟩:=b.slot c _ e1 m;exact⟨sl',e2⟩⟩
theorem ObjOk.isThere{a:Al}:∀(o:HO),L2.ObjOk P w H h a o->∃ ob,h.get? a=Aa ob
 |.lst _,x=>by obtain⟨_,_,_,_,e⟩:=x;exact⟨_,e⟩
 |.tup _,x=>by obtain⟨_,_,_,p⟩:=x;obtain⟨o,e,_⟩:=p;exact⟨_,e⟩
 |.dK _,x=>by obtain⟨_,_,_,_,o,_,_,e,_⟩:=x;exact⟨_,e⟩
 |.dT _,x=>by obtain⟨_,_,_,_,o,_,_,e,_⟩:=x;exact⟨_,e⟩
 |.set _ _,x=>by obtain⟨o,_,_,_,e,_⟩:=x;exact⟨_,e⟩
 |.ins _ _ _,x=>by obtain⟨_,_,_,e,_⟩:=x;exact⟨_,e⟩
 |.own _,x=>x
 |.xd _,x=>by obtain⟨_,⟨_,_,_,e,_⟩,_⟩:=x;exact⟨_,e⟩
 |.met _ _,x=>⟨_,x⟩
 |.rng _ _,x=>by obtain⟨_,_,_,e⟩:=x;exact⟨_,e⟩
 |.frz _ _,x=>⟨_,x.1⟩
 |.tbl _,x=>⟨_,x⟩
 |.ext _,x=>x.2.1
theorem LO{a:Al}(x:HOk P w H h)(e:h.get? a=Af):H a=Af:=by
 cases q:H a with
 |none=>rfl
 |some o=>
  obtain⟨ob,z⟩:=ObjOk.isThere o (x a o q);rw[e]at z;cases z
theorem HOk.shift{ex fs:Ac Al}(x:HOk P w H h)(sh:Shift ex fs h h')(h1:∀ b∈ex,H b=Af)(h2:∀ b∈fs,H b=Af):HOk P w H h':=λa o e=>
 (x a o e).stay (λb u hb q=>by
  have hs:∃ v,H b=Aa v:=by
   rcases hb with rfl|hb
   .exact⟨_,e⟩
   .exact⟨_,hb⟩
  obtain⟨v,hv⟩:=hs;exact sh.keep b u q (λz=>by rw[h1 b z]at hv;cases hv) (λz=>by rw[h2 b z]at hv;cases hv)) (λ_ q=>q) λ_ _ q=>q
theorem Un.shift{fs0 fs ex:Ac Al}{h0:AB}(u:Un fs0 [] H H' h0 h)(sh:Shift ex fs h h')(h1:∀ b∈ex,h0.get? b=Af)(h2:∀ b∈fs,b∈fs0\/h0.get? b=Af):Un fs0 [] H H' h0 h' where
 keep:=λb o q n hb hx=>sh.keep b o (u.keep b o q n hb hx) (λz=>by rw[h1 b z]at q;cases q) λz=>(h2 b z).elim hb λe=>by rw[e]at q;cases q
 slot:=λb o q n hb hx=>by
  obtain⟨sl,e1⟩:=u.slot b o q n hb hx;by_cases hf:b∈fs
  .obtain⟨sl',e2⟩:=sh.slot b _ e1 hf;exact⟨sl',e2⟩
  .exact⟨sl,sh.keep b _ e1 (λz=>by rw[h1 b z]at q;cases q) hf⟩
 free:=u.free
 there:=λb o q hx=>by
  obtain⟨o',e1⟩:=u.there b o q hx;by_cases hf:b∈fs
  .obtain⟨sl',e2⟩:=sh.slot b _ e1 hf;exact⟨_,e2⟩
  .exact⟨o',sh.keep b _ e1 (λz=>by rw[h1 b z]at q;cases q) hf⟩
 tups:=u.tups
 frzs:=u.frzs
 tbls:=u.tbls
theorem qX(f:A9 Ai->A9 Ai)(o:C4):(Gu f o).dict=o.dict:=by
 obtain⟨c,d,dt,sl⟩:=o;cases dt<;>rfl
section
variable{M:Hn}{A:A6}{E:Vq}{s:Ar}{env:CI}{outer:Ac CI}{L e T:Al}{cls:Ai}{dx:Ao Al}{base h:AB}
theorem Ux{hd:Ai}{nx:Ak}(hfr:A.frames=Aa (env::outer))(hf:env.frame=Aa L)(ff:s.heap.FunFrames base (env::outer))(he:s.heap.get? e=Aa oe)(dt:oe.data=.fields vs)(hz:1<vs.size)(hQ:∀ h' T' oT ts,h'.get? e=Aa (Gu (·.setIfInBounds 1 (.ref T')) oe)->T'≠e->s.heap.get? T'=Af->h'.get? T'=Aa oT->oT.data=.fields ts->ts[3]?=Aa (Ct L)->Shift [e] (frs (env::outer)) s.heap h'->Q () {s with heap:=h'}):
  Au M A (do
   let fr <-frameOf env
   let pl <-entryPlaceOf L nx
   let en <-Zl hd fr .none (Ct L) .none pl
   setField (.ref e) 1 en) Q E s:=by
 have nf:e∉frs (env::outer):=λz=>by
  obtain⟨_,o,q,n⟩:=ff.mem z;rw[he]at q;cases q;exact n vs dt
 refine Ah (wpAny_frameOf_fun hfr ff hf λk1 so=>Ah (wpAny_entryPlaceOf λpl ip=>?_))
 obtain⟨sz,sm,sl⟩:=so;have e1:k1.get? e=Aa oe:=(sm e nf).trans he;unfold Zl;unfold newFields;refine Ah (CP ?_ (ip.sizeOk5 _ _ _ _ _));generalize hX:({ cls:=.type "traceback",dict:=Af,data:=.fields ([hd,.ref L,.none,Ct L,.none]++(if pl.isEmpty then Hb 6 Dk else pl)).toArray }:C4)=ob
 have od:ob.data=.fields ([hd,.ref L,.none,Ct L,.none]++(if pl.isEmpty then Hb 6 Dk else pl)).toArray:=by rw[<-hX]
 have nl:k1.objs.size≠e:=Du (AD e1);have e2:=As ob e1;refine F4 e2 dt hz ?_;have up:∀ b,b≠e->((k1.push ob).update e (Gu (·.setIfInBounds 1 (.ref k1.objs.size)))).get? b=(k1.push ob).get? b:=λb nb=>B7 _ _ (DR nb)
 have lf:ob.isFreed=Ad:=by rw[<-hX];rfl
 refine hQ _ k1.objs.size ob _ (BW _ e2 (E8 (DG dt _))) nl ?_ ((up _ nl).trans (AE k1 lf)) od ?_ ⟨λb o q n1 n2=>?_,λb o q hb=>?_⟩
 .rw[sz];exact DN (A5 _)
 .simp
 .have nb:b≠e:=λz=>n1 (by rw[z];exact AX)
  rw[up b nb];exact As ob ((sm b n2).trans q)
 .obtain⟨sl',q'⟩:=sl b o q;have nb:b≠e:=λz=>nf (z ▸ hb)
  exact⟨sl',(up b nb).trans (As ob q')⟩
theorem Uc{oT:C4}{ts:A9 Ai}{fl:Ai}(hc:oe.cls=cls)(hx:oe.dict=dx)(h0:vs[0]?=Aa a0)(dt:oe.data=.fields vs)(hz:1<vs.size)(g:h'.get? e=Aa (Gu (·.setIfInBounds 1 (.ref T')) oe))(ne:T'≠e)(gT:h'.get? T'=Aa oT)(dT:oT.data=.fields ts)(f3:ts[3]?=Aa fl):OY e T' cls dx fl h':=
 ⟨_,_,oT,ts,a0,g,(Z_5 _ _).trans hc,(qX _ _).trans hx,by rw[Array.getElem?_setIfInBounds_ne (by decide)];exact h0,DG dt _,by simp[hz],ne,gT,dT,f3⟩
theorem LB{i:Ag}{v:Ai}(q:vs[i]?=Aa v):i<vs.size:=(Fq.mp q).1
theorem Vs(hfr:A.frames=Aa (env::outer))(hf:env.frame=Aa L)(ff:s.heap.FunFrames base (env::outer))(fl:Fly e T cls dx s.heap)(hQ:∀ h' T',OY e T' cls dx (Ct L) h'->Shift [e,T] (frs (env::outer)) s.heap h'->s.heap.get? T'=Af->Q () {s with heap:=h'}):Au M A (Hv (.ref e) env) Q E s:=by
 obtain⟨oe,vs,oT,ts,a0,he,hc,hx,h0,dt,h1,ne,hT,dT,h3⟩:=fl;have z3:=LB h3;unfold Hv;simp only[hf];refine Ah (Bp he dt h1 ?_);rw[Az (by simp:(BQ T != Dk)=Ab)]
 refine Ah (Bp hT dT h3 ?_);rw[AK (by simp[Ct]:¬ (Dk==Ct L)=Ab)]
 refine Ah (F4 hT dT z3 ?_);have up:∀ b,b≠T->(s.heap.update T (Gu (·.setIfInBounds 3 Dk))).get? b=s.heap.get? b:=λb nb=>B7 _ _ (DR nb)
 have rcd:∀ b o,s.heap.get? b=Aa o->(∀ us,o.data≠.fields us)->b≠T:=λb o q n z=>by
  rw[z,hT]at q;cases q;exact n ts dT
 refine Ux (base:=base) hfr hf (ff.of_keeps λb o q n=>⟨o,(up b (rcd b o q n)).trans q,rfl⟩) ((up e (DR ne)).trans he) dt (LB h1) λh' T' oT' ts' g nT gn gT dT' f3 sh=>?_
 have T0:s.heap.get? T'=Af:=by
  by_cases z:T'=T
  .rw[z]at gn;rw[BW _ hT (E8 (DG dT _))]at gn;cases gn
  .rw[<-up T' z];exact gn
 refine hQ h' T' (Uc hc hx h0 dt (LB h1) g nT gT dT' f3) ⟨λb o q n1 n2=>?_,λb o q hb=>?_⟩ T0
 .simp only[Ax,A1,Cc,Ei]at n1;exact sh.keep b o ((up b n1.2).trans q) (by simp[n1.1]) n2
 .obtain⟨_,o',q',n⟩:=ff.mem hb;rw[q]at q';cases q';exact sh.slot b o ((up b (rcd b o q n)).trans q) hb
theorem N7{fv:Ai}(fl:OY e T cls dx fv s.heap)(hQ:∀ h',Fly e T cls dx h'->(∀ b o,b≠T->s.heap.get? b=Aa o->h'.get? b=Aa o)->Q () {s with heap:=h'}):Au M A (IJ (.ref e) Af) Q E s:=by
 obtain⟨oe,vs,oT,ts,a0,he,hc,hx,h0,dt,h1,ne,hT,dT,h3⟩:=fl;have z3:=LB h3;unfold IJ;refine Ah (Bp he dt h1 ?_);rw[Az (by simp:(BQ T != Dk)=Ab)]
 refine F4 hT dT z3 (hQ _ ?_ λb o nb q=>(B7 _ _ (DR nb)).trans q)
 exact⟨oe,vs,_,_,a0,(B7 _ _ ne).trans he,hc,hx,h0,dt,h1,ne,BW _ hT (E8 (DG dT _)),DG dT _,by simp[z3]⟩
theorem Qk{h1 h2:AB}{ex:Ac Al}(ff:s.heap.FunFrames base (env::outer))(sh:Shift ex (frs (env::outer)) s.heap h1)(hT:s.heap.get? T'=Af)(k:∀ b o,b≠T'->h1.get? b=Aa o->h2.get? b=Aa o):Shift ex (frs (env::outer)) s.heap h2:=
 ⟨λb o q n1 n2=>k b o (λz=>by rw[z,hT]at q;cases q) (sh.keep b o q n1 n2),λb o q hb=>let ⟨sl,q'⟩:=sh.slot b o q hb;⟨sl,k b _ (λz=>by rw[z,hT]at q;cases q) q'⟩⟩
theorem iH(hfr:A.frames=Aa (env::outer))(hf:env.frame=Aa L)(ff:s.heap.FunFrames base (env::outer))(fl:Fly e T cls dx s.heap)(hQ:∀ h' T',Fly e T' cls dx h'->Shift [e,T] (frs (env::outer)) s.heap h'->(T'=T\/s.heap.get? T'=Af)->Q () {s with heap:=h'}):Au M A (leaving env (.ref e)) Q E s:=by
 unfold leaving;exact Ah (Vs hfr hf ff fl λh1 T' f1 sh hT=>N7 f1 λh2 f2 k=>hQ h2 T' f2 (Qk ff sh hT k) (.inr hT))
theorem fK(hfr:A.frames=Aa (env::outer))(hf:env.frame=Aa L)(ff:s.heap.FunFrames base (env::outer))(he:s.heap.get? e=Aa oe)(hc:oe.cls=cls)(hx:oe.dict=dx)(dt:oe.data=.fields vs)(h0:vs[0]?=Aa a0)(h1:vs[1]?=Aa .none)(hQ:∀ h' T',Fly e T' cls dx h'->Shift [e] (frs (env::outer)) s.heap h'->s.heap.get? T'=Af->Q () {s with heap:=h'}):Au M A (leaving env (.ref e)) Q E s:=by
 unfold leaving Hv;simp only[hf];refine Ah (Ah (Bp he dt h1 ?_));rw[AK (by decide)]
 exact Ux (base:=base) hfr hf ff he dt (LB h1) λh' T' oT ts g nT gn gT dT f3 sh=>N7 (Uc hc hx h0 dt (LB h1) g nT gT dT f3) λh2 f2 k=>hQ h2 T' f2 (Qk ff sh gn k) gn
theorem jW(hfr:A.frames=Aa (env::outer))(hf:env.frame=Aa L)(ff:s.heap.FunFrames base (env::outer))(fl:Fly e T cls dx s.heap)(hQ:∀ h' T',Fly e T' cls dx h'->Shift [e,T] (frs (env::outer)) s.heap h'->(T'=T\/s.heap.get? T'=Af)->Q () {s with heap:=h'}):Au M A (Hv (.ref e) env) (λ_ s2=>Au M A (IJ (.ref e) Af) Q E s2) E s:=
 Vs hfr hf ff fl λh1 T' f1 sh hT=>N7 f1 λh2 f2 k=>hQ h2 T' f2 (Qk ff sh hT k) (.inr hT)
theorem iI{l:Ac CI}{A':A6}(ff:s.heap.FunFrames base l)(fl:Fly e T cls dx s.heap)(hQ:∀ h' T',Fly e T' cls dx h'->Shift [e,T] (frs l) s.heap h'->(T'=T\/s.heap.get? T'=Af)->Q () {s with heap:=h'}):Au M A' (IJ (.ref e) Af) Q E s:=by
 obtain⟨oe,vs,oT,ts,a0,he,hc,hx,h0,dt,h1,ne,hT,dT,h3⟩:=id fl;refine N7 fl λh' f' k=>hQ h' T f' ⟨λb o q n1 n2=>k b o (λz=>n1 (by rw[z];simp)) q,λb o q hb=>⟨o.slots,k b o (λz=>?_) q⟩⟩ (.inl rfl)
 obtain⟨_,o',q',n⟩:=ff.mem hb;rw[z,hT]at q';cases q';exact n ts dT
end
def CXR(P:AS)(w:AF):CXT:=λouter H s E ev s'=>∃ e T cls dx H',ev=.ref e/\s'.os=s.os/\F1 s'.gens/\Un (frs outer) [] H H' s.heap s'.heap/\HOk P w H' s'.heap/\Fly e T cls dx s'.heap/\H' e=Af/\H' T=Af/\s.heap.get? e=Af/\s.heap.get? T=Af/\E cls dx H'
def Nm(X:Cx)(CL:ClA)(W:XW):Prop:=∀ pI Z H s e C dx t x,Inv X pI Z H s->(X.ex=[]->X.s₀.heap.get? e=Af)->H e=Af->s.heap.get? e=Aa (GD C dx t)->GE X.K CL H (.ref C) dx x->W x H->X.xe (.ref e) s
section
variable{P:AS}{w:AF}{K:Fg}{mg:Aj->Ao Ai}{base:AB}{N:Ac Aj}{qual:Aj}{scope:Cv}{f:Al}{cd:Ai}{A:A6}{outer:Ac CI}{s:Ar}{H:Hp}{E:XK}{CL:ClA}{W:XW}
theorem QO{s:Ar}(I:Inv X pI Z H s):∀ b∈frs X.stack,b∈X.fs\/X.s₀.heap.get? b=Af:=λb hb=>by
 rcases Ax.mp (I.stkSub b hb) with z|z
 .exact .inr (by rw[z];exact DN I.ok.above)
 .exact .inl z
theorem KN{s:Ar}{b:Al}(I:Inv X pI Z H s)(hx:X.ex=[])(h:s.heap.get? b=Af):X.s₀.heap.get? b=Af:=by
 cases q:X.s₀.heap.get? b with
 |none=>rfl
 |some o=>
  obtain⟨o',z⟩:=I.base.there b o q (by rw[hx];simp)
  rw[h]at z;cases z
theorem jc(hE:∀ x cls dx H',W x H'->GE K CL H' cls dx x->E cls dx H'):∀ A',LW (CXR P w) (Fd (CXR P w) P w K mg base N qual scope f cd A outer s H E) (EKW K CL A' W):=by
 intro A' pI Z H1 s1 ev s2 I h;obtain⟨e,T,cls,dx,H',rfl,os,bare,un,hok,fl,he,hT,ne,nT,x,xr,wx⟩:=h;have I':=I.call' (s':=s2) (ch:=[]) os un hok bare (λb z=>absurd z (by simp))
 have hb0:Un (frs outer) [] H H' s.heap s2.heap:=I'.base;show Au (model P w) (A.deeper (E6 qual scope s.heap.objs.size f cd)) (leaving (E6 qual scope s.heap.objs.size f cd) (.ref e)) _ _ s2;refine iH (L:=s.heap.objs.size) I'.ok.frames rfl I'.stack fl λh' T' fl' sh hT'=>?_
 have e0:s.heap.get? e=Af:=KN I rfl ne;have T0:s.heap.get? T=Af:=KN I rfl nT;refine⟨e,T',cls,dx,H',rfl,I'.os,bare,Un.shift hb0 sh ?_ (QO I'),HOk.shift hok sh ?_ I'.stkFree,fl',he,?_,e0,?_,?_⟩
 .intro b hb;rcases Ax.mp hb with rfl|hb
  .exact e0
  .rw[BA.mp hb];exact T0
 .intro b hb;rcases Ax.mp hb with rfl|hb
  .exact he
  .rw[BA.mp hb];exact hT
 .rcases hT' with rfl|z
  .exact hT
  .exact LO hok z
 .rcases hT' with rfl|z
  .exact T0
  .exact KN I' rfl z
 .exact hE x cls dx H' wx xr
theorem rzR(hE:∀ x cls dx H',W x H'->GE K CL H' cls dx x->E cls dx H'):Nm (Fd (CXR P w) P w K mg base N qual scope f cd A outer s H E) CL W:=by
 intro pI Z H1 s1 e C dx t x I e0 he ge xr hw;have hb0:Un (frs outer) [] H H1 s.heap s1.heap:=I.base;have e0':s.heap.get? e=Af:=e0 rfl;show Au (model P w) (A.deeper (E6 qual scope s.heap.objs.size f cd)) (leaving (E6 qual scope s.heap.objs.size f cd) (.ref e)) _ _ s1;refine fK (cls:=.ref C) (dx:=dx) (L:=s.heap.objs.size) I.ok.frames rfl I.stack ge rfl rfl rfl (a0:=.ref t) rfl rfl λh' T' fl' sh hT'=>?_
 have one:∀{Z_:Al->Prop},Z_ e->∀ b∈[e],Z_ b:=λ{Z_} z b hb=>by rw[BA.mp hb];exact z
 exact⟨e,T',.ref C,dx,H1,rfl,I.os,I.bare,Un.shift hb0 sh (one e0') (QO I),HOk.shift I.hok sh (one (Z_:=λb=>H1 b=Af) he) I.stkFree,fl',he,LO I.hok hT',e0',KN I rfl hT',hE x _ dx H1 hw xr⟩
theorem ownR:FU (model P w) (Fd (CXR P w) P w K mg base N qual scope f cd A outer s H E).A (Fd (CXR P w) P w K mg base N qual scope f cd A outer s H E).env (Fd (CXR P w) P w K mg base N qual scope f cd A outer s H E).xe:=Z_7
end
noncomputable def veB:Ac Ai:=[.type "ValueError",.type "Exception",.type "BaseException",.type "object"]
noncomputable def D5(K:Fg)(C:Al)(v:Ao Ai):Ak:=match K.lookup C with
  | some ⟨.type "type",_,.cls c,z⟩=>(match c.mro,z.toList with
    |.ref c0::tl,[_,_,_,_,Aa (.builtin nw),_]=>c0==C&&(nw == "ValueError.__new__" && (!c.hasDel&&(PySem.W.tailIn K veB tl&&(aY K c.ns&&BX K c.ns "__init__" == Aa v))))
    | _,_=>Ad)
  |_=>Ad
theorem oA(q:JO K C veB "ValueError.__new__" = Ab):D5 K C Af=Ab:=by
 unfold JO at q;unfold D5;split at q
 .rename_i dd cd sl ho;split at q
  .rename_i C' bm k0 k1 k2 k3 n k5 hm hs;simp only[Am]at q;obtain⟨⟨⟨⟨⟨h1,h2⟩,h3⟩,h4⟩,h5⟩,h6⟩:=q;simp only[ho,hm,hs,Am];exact⟨h1,h2,h3,h4,h5,h6⟩
  .cases q
 .cases q
structure XcOk (K:Fg) (C:Al):Prop where
 exc:∃ v,D5 K C v=Ab
 ga:AR K (.ref C) "__getattribute__" = Aa (Aa (.builtin "BaseException.__getattribute__"))
 gt:AR K (.ref C) "__getattr__" = Aa Af
 cl:AR K (.ref C) "__class__" = Aa (Aa (.builtin "object.__class__"))
 ob:Di K C (.type "object")=Aa Ab
 be:B6 K (.ref C) (.type "BaseException")=Aa Ab
 cs:(DT K C).isSome=Ab
 ve:Dl K (.ref C) (.type "ValueError")=Aa Ab
def XAt(e C:Al)(h:AB):Prop:=∃ o,h.get? e=Aa o/\o.cls=.ref C
theorem wD{N:Al}{v:Ai}(X:K.In h)(G:h.Ns N m)(q:BX K N x=Aa (Aa v)):m x=Aa v:=by
 obtain⟨ob,es,ep,g,dt,_,fd⟩:=G;unfold BX at q;split at q
 .rename_i es' n' sl lk;have g':=X _ _ lk;rw[g]at g';cases g';cases dt;split at q
  .rename_i hf;cases q;rw[<-fd];unfold nsFind findBy;rw[<-Array.find?_toList,hf];rfl
  .by_cases z:(es.toList.any λy=>y.refKey)=Ab
   .rw[Az z]at q;cases q
   .rw[AK z]at q;cases q
 .cases q
theorem Qv{h0:AB}(X0:K.In h0)(q:D5 K C v=Ab):
  ∃ bm N nm qn bs hd sn sub ab col dd k0 k1 k2 k3 k5 mN,(∀ h:AB,K.In h->h.get? C=Aa (CJ nm qn C N bs bm hd sn sub ab col dd k0 k1 k2 k3 k5 "ValueError.__new__")/\h.Ns N mN/\Eo h veB bm)/\mN "__init__" = v/\bm.contains (.type "BaseException")=Ab:=by
 unfold D5 at q;split at q
 .rename_i dd cd sl ho;split at q
  .rename_i C' bm k0 k1 k2 k3 n k5 hm hs;simp only[Am,AZ,BN]at q;obtain⟨rfl,rfl,hdel,ht,hok,hni⟩:=q;obtain⟨nm,bs,mro,ns,qn,hd,sn,sub,ab,col,del⟩:=cd;dsimp only at hm hdel hok hni;subst hm hdel;have hsl:sl=#[k0,k1,k2,k3,Aa (.builtin "ValueError.__new__"),k5]:=by
    obtain⟨l⟩:=sl;simp only at hs;rw[hs]
   subst hsl;have kN:∃ o,K.lookup ns=Aa o:=by
    unfold aY at hok;split at hok
    .rename_i z;exact⟨_,z⟩
    .cases hok
   obtain⟨oN,hoN⟩:=kN;have nsAt:∀ h:AB,K.In h->h.Ns ns (h0.nsMap ns):=λh X=>by
    obtain⟨o,es,ep,e1,r⟩:=Heap.Ns.of_isNs (aU X0 hok);have e2:=X0 _ _ hoN;rw[e1]at e2;cases e2;exact⟨_,es,ep,X _ _ hoN,r⟩
   refine⟨bm,ns,nm,qn,bs,hd,sn,sub,ab,col,dd,k0,k1,k2,k3,k5,h0.nsMap ns,λh X=>⟨X _ _ ho,nsAt h X,aZ X ht⟩,?_,(aZ X0 ht).hasType (by decide)⟩
   cases v with
   |none=>exact PySem.W.nsMap_none_of_in X0 hok hni
   |some u=>exact wD X0 (.of_isNs (aU X0 hok)) hni
  .cases q
 .cases q
theorem rW(X:K.In h)(q:D5 K C v=Ab):
  ∃ bm N nm qn bs hd sn sub ab col dd k0 k1 k2 k3 k5 mN,h.get? C=Aa (CJ nm qn C N bs bm hd sn sub ab col dd k0 k1 k2 k3 k5 "ValueError.__new__")/\h.Ns N mN/\mN "__init__" = v/\Eo h veB bm:=by
 obtain⟨bm,N,nm,qn,bs,hd,sn,sub,ab,col,dd,k0,k1,k2,k3,k5,mN,ho,hi,_⟩:=Qv X q;obtain⟨o1,o2,o3⟩:=ho h X;exact⟨bm,N,nm,qn,bs,hd,sn,sub,ab,col,dd,k0,k1,k2,k3,k5,mN,o1,o2,hi,o3⟩
section
variable{prog:AS}{w:AF}{A:A6}{E:Vq}{h:AB}{g:A9 ET}{d:IG}{t:Ag}{os:HN}{K:Fg}{e C:Al}
theorem Kd(p:XAt e C h):PySem.W.Looks M h (typeOf (.ref e)) (.ref C):=by
 obtain⟨o,h1,h2⟩:=p;exact h2 ▸ (PySem.W.Looks.ld h1).andThen .now
theorem jJ{R:Jf->Ar->Prop}{tp:Ai}(X:K.In h)(p:XAt e C h)(hm:Di K C (.type "object")=Aa Ab)(hq:R (.ok (.ret (.ref C))) ⟨h,g,d,t,os⟩):
  E9 (model prog w) A (.call (.builtin "getset_descriptor.__get__") ⟨[.builtin "object.__class__",.ref e,tp],[]⟩) R ⟨h,g,d,t,os⟩:=by
 have L0:=Kd (M:=model prog w) p;have L1:=PySem.W.looks_mroIn (M:=model prog w) X hm;refine Em PySem.W.KF.slot_gs.plain PySem.W.KF.entry_gs (PySem.W.KF.slot_gs.check _ _ _ _ _ _ _ _ PySem.W.KF.type_class (PySem.W.KF.args_gs _ _ _) ?_);unfold Builtin.«getset_descriptor.__get__» Builtin.Getset_descriptor.descrGet;rw[PySem.W.dga_obj];refine Ah (Av ?_);unfold Builtin.Getset_descriptor.descrGetter Builtin.Getset_descriptor.descrCheckInstance Builtin.Getset_descriptor.descrNameAndClass HL;simp only[PySem.W.KF.owner_class]
 repeat lk
 refine⟨Hs _ (by decide+kernel),EO PySem.W.KF.entry_class ?_⟩
 unfold Builtin.«object.__class__» shownTypeOf
 repeat lk
 exact hq
theorem fU{Q:Fin->Ar->Prop}(X:K.In h)(x:XcOk K C)(p:XAt e C h)(hq:Q (.done (.ret (.ref C))) ⟨h,g,d,t,os⟩):
  Au (model prog w) A (Builtin.«object.__getattribute__» ⟨[.ref e,.str "__class__" tk],[]⟩) Q E ⟨h,g,d,t,os⟩:=by
 have L0:=Kd (M:=model prog w) p;have L1:=CZ (M:=model prog w) X x.cl;have hT5:(⟨h,g,d,t,os⟩:Ar).TypeIs (.builtin "object.__class__") "getset_descriptor" := ZZ;have f5:=ZZ;have f6:=F.slot_gs_get.lookup;have f7:=F.slot_gs_set.lookup
 repeat (any_goals (first|assumption|with_reducible refine L0.at ?_|with_reducible refine L1.at ?_|wp_step))
 refine jJ X p x.ob ?_
 repeat (any_goals (first|assumption|wp_step))
theorem TX{nameV:Ai}(X:K.In h)(x:XcOk K C)(p:XAt e C h)(hq:Q () ⟨h,g,d,t,os⟩):Au M A (Ez "BaseException.__getattribute__" ⟨[.ref e,nameV],[]⟩) Q E ⟨h,g,d,t,os⟩:=by
 have hk:builtinKind "BaseException.__getattribute__" = Aa .slot:=by decide+kernel
 have hsplit:splitId "BaseException.__getattribute__" = Aa ("BaseException", "__getattribute__"):=by decide+kernel
 have L0:=Kd (M:=M) p;have L1:=aX (M:=M) X x.be;have ha:=F.args_bexc_ga (.ref e) nameV;simp only[Ez,hk,hsplit];refine Ah ?_
 .unfold HL
  repeat (first|(with_reducible refine Ah (L0.at ?_))|(with_reducible refine L1.at ?_)|wp_step)
  exact hq
theorem oB{Q:Vq}(X:K.In h)(x:XcOk K C)(p:XAt e C h)(hq:Q (.ref C) ⟨h,g,d,t,os⟩):Au (model prog w) A (getAttrBy (.ref e) (.str "__class__" tk) fill expr) Q E ⟨h,g,d,t,os⟩:=by
 have L0:=Kd (M:=model prog w) p;have L1:=CZ (M:=model prog w) X x.ga;have L2:=CZ (M:=model prog w) X x.gt;have f3:=F7.ga.bind (.ref e);have hx0:(expr&&J_3 (Dz "BaseException.__getattribute__"))=Ad:=by cases expr<;>rfl
 have hx2:(Dz "BaseException.__getattribute__" == Dz "object.__getattribute__")=Ad:=by decide+kernel
 have hx1:(J_3 (BQ C)&&Dz "BaseException.__getattribute__" == Dz "object.__getattribute__")=Ad:=by rw[hx2];rfl
 repeat (any_goals (first|assumption|with_reducible refine L0.at ?_|with_reducible refine L1.at ?_|with_reducible refine L2.at ?_|wp_step))
 refine Em F7.ga.plain ZQ (TX X x p (fU X x p ?_))
 repeat (any_goals (first|assumption|wp_step))
theorem hJ{Q:Ao Ai->Ar->Prop}(X:K.In h)(x:XcOk K C)(p:XAt e C h)(hq:Q (Aa (.ref C)) ⟨h,g,d,t+1,os⟩):Au (model prog w) A (getAttr? (.ref e) "__class__") Q E ⟨h,g,d,t,os⟩:=by
 unfold getAttr? getAttrBy?
 repeat (any_goals (first|assumption|with_reducible apply oB X x p|wp_step))
end
theorem Vn{e C:Al}(x:XcOk K C):PySem.W.KitX K (.ref e) (.ref C) (XAt e C) where
 ty:=λM h _ p=>Kd p
 it:=λM h X _=>by
  obtain⟨cd,hc⟩:=Eu.mp x.cs;unfold DT at hc;split at hc
  .rename_i c' d' cd' sl' ho;intro A' Q' E' s' k q;unfold isType loadHead;exact Ah (wpAny_loadPart (k _ _ (X _ _ ho)) (Av q))
  .cases hc
 ne:=λh tp dd its n sl X htp=>by
  obtain⟨cd,hc⟩:=Eu.mp x.cs;refine Bool.eq_false_iff.mpr λq=>?_
  have e:C=tp:=JN (AZ.mp q);subst e;unfold DT at hc;split at hc
  .rename_i c' d' cd' sl' ho;have z:=(X _ _ ho).symm.trans htp;cases z
  .cases hc
 ca:=λ{_ _ _ _ _ s} X p k=>by
  obtain⟨h,g,d,t,os⟩:=s;exact hJ X x p k
theorem jK{A:A6}{E:Vq}{g:A9 ET}{d:IG}{t:Ag}{os:HN}{e C C':Al}{b:Ak}{Q:Ak->Ar->Prop}(X:K.In h)(p:XAt e C h)(x':XcOk K C')(hs:B6 K (.ref C) (.ref C')=Aa b)(hq:Q b ⟨h,g,d,t,os⟩):Au M A (excMatches (.ref e) (.ref C')) Q E ⟨h,g,d,t,os⟩:=by
 obtain⟨bm,N,nm,qn,bs,hd,sn,sub,ab,col,dd,k0,k1,k2,k3,k5,mN,hC',_,_,T⟩:=rW X x'.exc.choose_spec;have hcB:(BQ C'::bm).contains (.type "BaseException")=Ab:=by rw[Hq,T.hasType (show veB.contains (.type "BaseException")=Ab by decide),JP]
 have L0:=Kd (M:=M) p;have L1:=aX (M:=M) X hs;have f:=tc_notTuple;unfold excMatches
 repeat (first|(with_reducible refine Ah (L0.at ?_))|(with_reducible refine L1.at ?_)|(with_reducible refine Ah (L1.at ?_))|with_reducible refine Cz hC' ?_|(with_reducible refine FC hC' ?_;rw[hcB])|wp_step)
 all_goals first|exact hq|(cases b<;>(wp_walk;exact hq))
def HG(X:Cx)(pI:Pn)(e:Al):Prop:=e≠X.env.locals/\(∀ x c,X.env.cells.lookup x=Aa c->c≠e)/\(∀ p∈X.pn++pI,p.1≠e)/\X.s₀.heap.get? e=Af
section
variable{X:Cx}{pI:Pn}{Z:L2.St}{H:Hp}{s:Ar}{e:Al}
theorem MG(I:Inv X pI Z H s)(hx:X.ex=[])(h:s.heap.get? e=Af):HG X pI e:=by
 refine⟨?_,λx c q z=>?_,λp hp z=>?_,KN I hx h⟩
 .rintro rfl;obtain⟨m,⟨o,_,_,ho,_⟩,_⟩:=I.loc;rw[h]at ho;cases ho
 .obtain⟨v,o,ho,_⟩:=I.cell x c q;rw[z,h]at ho;cases ho
 .obtain⟨q,_⟩:=I.pin p hp;rw[z,h]at q;cases q
theorem UC{ex:Ac Al}(I:Inv X pI Z H s)(hx:X.ex=[])(sh:Shift ex (frs X.stack) s.heap h')(ha:∀ b∈ex,HG X pI b)(hH:∀ b∈ex,H b=Af):Inv X pI Z H {s with heap:=h'}:=by
 have kp:∀ b o,s.heap.get? b=Aa o->b∉ex->∃ sl,h'.get? b=Aa {o with slots:=sl}:=λb o q n=>by
  by_cases hb:b∈frs X.stack
  .exact sh.slot b o q hb
  .exact⟨o.slots,sh.keep b o q n hb⟩
 have cellK:∀ x c,X.env.cells.lookup x=Aa c->∀ v,s.heap.IsCell c v->h'.IsCell c v:=λx c q v ⟨o,ho,hd⟩=>by
  obtain⟨sl,z⟩:=kp c o ho λz=>(ha c z).2.1 x c q rfl
  exact⟨_,z,hd⟩
 refine⟨I.ok,I.os,I.bare,?_,?_,λx c q=>?_,I.free,I.freeC,λp hp=>?_,HOk.shift I.hok sh hH I.stkFree,I.len⟩
 .have b0:=I.base;rw[hx]at b0 ⊢;exact Un.shift b0 sh (λb hb=>(ha b hb).2.2.2) (QO I)
 .obtain⟨m,⟨o,es,ep,ho,r⟩,hl⟩:=I.loc;obtain⟨sl,z⟩:=kp _ o ho λz=>(ha _ z).1 rfl
  refine⟨m,⟨_,es,ep,z,r⟩,λi x v e1 e2 e3=>?_⟩
  obtain⟨u,ru,l⟩:=hl i x v e1 e2 e3;refine⟨u,ru,?_⟩;rcases l with l|⟨k,c,q,z⟩
  .exact .inl l
  .exact .inr ⟨k,c,q,cellK x c q _ z⟩
 .obtain⟨v,z⟩:=I.cell x c q;exact⟨v,cellK x c q v z⟩
 .obtain⟨q,n,ne,nf,d⟩:=I.pin p hp;exact⟨sh.keep p.1 p.2 q (λz=>(ha p.1 z).2.2.1 p hp rfl) (λz=>(Ax.mp (I.stkSub p.1 z)).elim ne nf),n,ne,nf,d⟩
theorem iD(I:Inv X pI Z H s)(hx:X.ex=[])(ha:HG X pI e)(hH:H e=Af)(ho:∃ o,s.heap.get? e=Aa o)(p:φ s.heap)(hφ:∀ h1 h2:AB,φ h1->(∀ o,h1.get? e=Aa o->h2.get? e=Aa o)->φ h2):Inv X pI Z (upd H e (.ext φ)) s:=by
 have ne:∀ b o,H b=Aa o->b≠e:=λb o q z=>by rw[z,hH]at q;cases q
 refine⟨I.ok,I.os,I.bare,⟨I.base.keep,I.base.slot,λb o q n hb=>?_,I.base.there,λb xs q=>?_,λb o u q=>?_,λb ps q=>?_⟩,I.loc,I.cell,?_,λx c q=>?_,λp hp=>?_,λb o q=>?_,I.len⟩
 .rw[BR λz=>by rw[z,ha.2.2.2]at q;cases q]
  exact I.base.free b o q n hb
 .have:=I.base.tups b xs q;rw[BR (ne _ _ this)];exact this
 .have:=I.base.frzs b o u q;rw[BR (ne _ _ this)];exact this
 .obtain⟨more,this⟩:=I.base.tbls b ps q;exact⟨more,by rw[BR (ne _ _ this)];exact this⟩
 .rw[BR λz=>ha.1 z.symm];exact I.free
 .rw[BR (ha.2.1 x c q)];exact I.freeC x c q
 .obtain⟨q,n,r⟩:=I.pin p hp;exact⟨q,by rw[BR (ha.2.2.1 p hp)];exact n,r⟩
 .by_cases hb:b=e
  .subst hb;rw[FW]at q;cases q;exact⟨p,ho,hφ⟩
  .rw[BR hb]at q;exact(I.hok b o q).stay (λc v hc z=>z) (λc z=>by rw[BR (ne _ _ z)];exact z) λc zs z=>by rw[BR (ne _ _ z)];exact z
theorem iB{i:Ag}{n:Aj}{tk:Ag}(I:Inv X pI Z H s)(hN:X.N.Nodup)(hi:X.N[i]?=Aa n)(hn:s.heap.Ns X.env.locals m)(hn':h'.Ns X.env.locals (λx=>if x=n then v else m x))(hs:Ew X.env.locals s.heap h'):Inv X pI (Z.set i Af) H {s with heap:=h',toks:=tk}:=by
 obtain⟨m0,hn0,hl⟩:=I.loc;have em:m0=m:=by
  obtain⟨o,es,ep,h1,h2,_,h3⟩:=hn0;obtain⟨o',es',ep',h1',h2',_,h3'⟩:=hn;rw[h1]at h1';cases h1';rw[h2]at h2';cases h2'
  funext y
  rw[<-h3,<-h3']
 subst em;obtain⟨oL,_,_,hoL,_⟩:=id hn;have lt:∀ b o,X.s₀.heap.get? b=Aa o->b≠X.env.locals:=λb o q=>Bk (AH (AD q) I.ok.above)
 refine⟨I.ok,I.os,I.bare,⟨λb o q n hb hx=>?_,λb o q n hb hx=>?_,I.base.free,λb o q hx=>?_,I.base.tups,I.base.frzs,I.base.tbls⟩,⟨_,hn',λj y v' e1 e2 e3=>?_⟩,λy c q=>?_,I.free,I.freeC,λp hp=>?_,λb ob q=>?_,by rw[Bc];exact I.len⟩
 .exact(hs.2 b (lt b o q)).trans (I.base.keep b o q n hb hx)
 .obtain⟨sl,e1⟩:=I.base.slot b o q n hb hx;exact⟨sl,(hs.2 b (lt b o q)).trans e1⟩
 .obtain⟨o',e1⟩:=I.base.there b o q hx;exact⟨o',(hs.2 b (lt b o q)).trans e1⟩
 .by_cases hj:i=j
  .subst hj;have:=Hg e2;cases this
  .rw[CK hj]at e2;obtain⟨u',r',q⟩:=hl j y v' e1 e2 e3;refine⟨u',r',?_⟩;rcases q with ⟨k,e⟩|⟨k,c,e,z⟩
   .refine .inl ⟨k,?_⟩;have:y≠n:=λe=>hj (Qr hN hi (e ▸ e1))
    simp[this,e]
   .exact .inr ⟨k,c,e,z.sameBut hs (I.cne y c e)⟩
 .obtain⟨w',z⟩:=I.cell y c q;exact⟨w',z.sameBut hs (I.cne y c q)⟩
 .obtain⟨q,n,ne,nf,d⟩:=I.pin p hp;exact⟨(hs.2 p.1 ne).trans q,n,ne,nf,d⟩
 .refine(I.hok b ob q).stay (λc w' hc z=>(hs.2 c ?_).trans z) (λ_ q=>q) λ_ _ q=>q
  rintro rfl;have hfree:=I.free;rcases hc with z|hc
  .rw[<-z,hfree]at q;cases q
  .rw[hfree]at hc;cases hc
end
noncomputable def Cx.hot(X:Cx)(e:Al):Cx:={X with A:=X.A.mark (Aa (.ref e)),calm:=Ad,xe:=λ_ _=>A3}
section
variable{X:Cx}{pI:Pn}{Z:L2.St}{H:Hp}{s:Ar}{e:Al}
theorem wA(ok:X.Ok):(Cx.hot X e).Ok:=⟨ok.mod,ok.kind,ok.glob,ok.blt,ok.above,ok.inj,ok.has,ok.cab,λz=>(nomatch z),ok.frames,ok.stk,ok.exf,ok.bs,ok.bsz,ok.noex,ok.exfs,ok.funs,ok.frf⟩
theorem QN(I:Inv X pI Z H s)(e:Al):Inv (Cx.hot X e) pI Z H s:=⟨wA I.ok,I.os,I.bare,I.base,I.loc,I.cell,I.free,I.freeC,I.pin,I.hok,I.len⟩
theorem kO(ok:X.Ok)(I:Inv (Cx.hot X e) pI Z H s):Inv X pI Z H s:=⟨ok,I.os,I.bare,I.base,I.loc,I.cell,I.free,I.freeC,I.pin,I.hok,I.len⟩
theorem Sx.unset(x:Sx K CL Fz B Y Z H)(i:Ag):Sx K CL Fz B (Y.set i Af) (Z.set i Af) H:=by
 have get:∀(j:Ag)(y:D×Ak),(Y.set i Af)[j]?=Aa (Aa y)->i≠j/\Y[j]?=Aa (Aa y):=λj y h=>by
  by_cases hj:i=j
  .subst hj;have:=Hg h;cases this
  .exact⟨hj,by rw[CK hj]at h;exact h⟩
 have sub:∀ a,Cb B (Y.set i Af) (Z.set i Af) a->Cb B Y Z a:=λa h=>by
  rcases h with h|⟨j,d,h1,h2⟩
  .exact .inl h
  .obtain⟨hj,h1⟩:=get j _ h1;rw[CK hj]at h2;exact .inr ⟨j,d,h1,h2⟩
 refine⟨⟨λj d h=>?_,λj d h=>?_,by rw[Bc,Bc];exact x.len⟩,λa h=>x.aok a (sub a h),λj d a h1 h2=>?_,λj k d f a h1 h2 h3 h4=>?_,x.same,by rw[Bc,Bc];exact x.len⟩
 .obtain⟨hj,h1⟩:=get j _ h;obtain⟨v,q,r⟩:=x.good.sh j d h1;exact⟨v,by rw[CK hj];exact q,Rep.sub sub _ r⟩
 .obtain⟨hj,h1⟩:=get j _ h;obtain⟨a,xs,ds,q,z,ha,hh,rr⟩:=x.good.ow j d h1;exact⟨a,xs,ds,by rw[CK hj];exact q,z,.inr ⟨j,d,h,by rw[CK hj];exact q⟩,hh,Reps.sub sub _ rr⟩
 .obtain⟨hj,h1⟩:=get j _ h1;rw[CK hj]at h2;exact x.new j d a h1 h2
 .obtain⟨hj,h1⟩:=get j _ h1;obtain⟨hk,h2⟩:=get k _ h2;rw[CK hj]at h3;rw[CK hk]at h4;exact x.dis j k d f a h1 h2 h3 h4
end
def JJ(e C:Al)(dx:Ao Al)(h:AB):Prop:=∃ o,h.get? e=Aa o/\o.cls=.ref C/\o.dict=dx/\∃ us,o.data=.fields us
noncomputable def K4(X:Cx)(CL:ClA)(pI:Pn)(Z:L2.St)(H:Hp)(y:Ex)(Xw:Vq):Prop:=
 ∀ s' H' e T cls dx,Inv X pI Z H' s'->AJ H H'->Fly e T cls dx s'.heap->H' e=Af->H' T=Af->HG X pI e->HG X pI T->GE X.K CL H' cls dx y->Xw (.ref e) s'
def STB(X:Cx)(CL:ClA)(body:Ac AW)(f:Rho->O):Prop:=∀ Fz B pI s Z H D Y (Xw:Vq),FU (model X.prog X.w) X.A X.env Xw->Inv X pI Z H s->Sx X.K CL Fz B Y Z H ->
  (match f Y with
   |.exn y Y'=>Y'=Y->K4 X CL pI Z H y Xw
   | o=>Cp X.K CL Fz B (λ_ _=>A3) o D)->(∀ y Y',f Y=.exn y Y'->Y'=Y)->Au (model X.prog X.w) X.A (execs body X.env) (SP X pI D) Xw s
noncomputable def Td(up:Ag->Ac Ag)(c i:Ag)(o:O)(fh:Rho->O):O:=match o with
  | .exn y Y'=>if (up y.c).contains c=Ab then (match fh (Y'.set i (Aa (.exc y.c y.fs,Ad))) with
      |.next Y''=>.next (Y''.set i Af)
      |.ret d f=>.ret d f
      | _=>.bad) else .bad
  |o=>o
theorem rN{i:Ag}{g n:Aj}{hp:AL}{b:Ak}{rest:Ac Ft}{s1:Ar}{Y':Rho}{D:Ends}{e T1:Al}{y:Ex}(hx:X.ex=[])(hN:X.N.Nodup)(hi:X.N[i]?=Aa n)(hl:X.env.scope.names.lookup n=Aa .local)(hg:Gl X g)(hm:X.mg g=Aa (.ref C'))(hdb:(g==("__debug__" : Aj))=Ad)(xc:XcOk X.K C')(hsu:B6 X.K (.ref C) (.ref C')=Aa b)(hh:∀ e,SSs (Cx.hot X e) CL (λ_ _=>A3) (h0::hs) fh)(I1:Inv X pI Z H' s1)(fl1:Fly e T1 (.ref C) dx s1.heap)(ae:HG X pI e)(aT1:HG X pI T1)(he:H' e=Af)(HT1:H' T1=Af)(gx:Sx X.K CL Fz B Y' Z H')(hcl:CL y.c=Aa C)(xr:GE X.K CL H' (.ref C) dx y)(p2:b=Ab->Cp X.K CL Fz B W (hdO i y Y' fh) D)(p3:b=Ad->Au (model X.prog X.w) X.A (KB (.ref e) X.env rest) (SP X pI D) X.xe s1):Au (model X.prog X.w) X.A (KB (.ref e) X.env (.ExceptHandler (Aa (.Name g p1)) (Aa n) (h0::hs) hp::rest)) (SP X pI D) X.xe s1:=by
 obtain⟨Cx0,hcl0,ecl,hfs⟩:=xr (Cb B Y' Z) gx.aok;have xat:∀{h:AB}{T:Al},Fly e T (.ref C) dx h->XAt e C h:=λ{h T} z=>by
  obtain⟨oe,_,_,_,_,z1,z2,_⟩:=z;exact⟨oe,z1,z2⟩
 have xad:∀{h:AB}{T:Al},Fly e T (.ref C) dx h->JJ e C dx h:=λ{h T} z=>by
  obtain⟨oe,vs,_,_,_,z1,z2,z3,_,z4,_⟩:=z;exact⟨oe,z1,z2,z3,vs,z4⟩
 have two:∀{T:Al}{Z_:Al->Prop},Z_ e->Z_ T->∀ b∈[e,T],Z_ b:=λ{T Z_} h1 h2 b hb=>by
  rcases Ax.mp hb with rfl|hb
  .exact h1
  .rw[BA.mp hb];exact h2
 refine wpAny_handleBy_cons (codeAny_handlers_test (Kb (X:=Cx.hot X e) (QN I1 e) hg hm ?_ hdb)) (by intro q;cases q)
 refine jK (K:=X.K) I1.kIn (xat fl1) xc hsu ?_;cases b with
 |false=>exact p3 rfl
 |true=>
 have p2:=p2 rfl;refine codeAny_handlers_suite_as ?_;refine iI (base:=X.base) (l:=X.stack) I1.stack fl1 λh3 T3 fl3 sh3 hT3=>?_
 have I3:=UC I1 hx sh3 (two ae aT1) (two (Z_:=λb=>H' b=Af) he HT1)
 obtain⟨oe,oeg,oec⟩:=xad fl3;have I3':=iD (φ:=JJ e C dx) I3 hx ae he ⟨oe,oeg⟩ ⟨oe,oeg,oec⟩ λh1 h2 ⟨o,q1,q2⟩ k=>⟨o,k o q1,q2⟩
 have sm3:AJ H' (upd H' e (.ext (JJ e C dx))):=λb o q=>by rw[BR λz=>by rw[z,he]at q;cases q];exact q
 refine QA (X:=Cx.hot X e) (i:=i) (v:=.ref e) (QN I3' e) hN hi (.inl hl) rfl (λs4 I4=>?_) (.inr hl)
 have x3:=gx.grow sm3;have nA:¬ Cb B Y' Z e:=λz=>by
  obtain⟨xs,q⟩:=x3.aok e z;rw[FW]at q;cases q
 have rp:Rep X.K CL (upd H' e (.ext (JJ e C dx))) (Cb B Y' Z) (.ref e) (.exc y.c y.fs):=by
  refine⟨e,C,JJ e C dx,rfl,nA,hcl,FW,λh ⟨o,z1,z2,_⟩=>⟨o,z1,z2⟩,?_⟩
  rcases hfs with z|⟨d,vs,ed,nd,hd,rf⟩
  .exact .inl z
  .exact .inr ⟨d,vs,nd,sm3 _ _ hd,Repf.kp (Kp.of sm3) _ rf,λh ⟨o,z1,_,z3,z4⟩=>⟨o,z1,z3.trans ed,z4⟩⟩
 have x4:=x3.set i rp;have fin:∀{s5:Ar}{Z5:L2.St}{H5:Hp}{Q:F9->Ar->Prop},Inv (Cx.hot X e) pI Z5 H5 s5->(∀ s6,Inv X pI (Z5.set i Af) H5 s6->Q () s6)->Au (model X.prog X.w) X.A (do bindName X.env n .none;unbindBehindTheSuite X.env n hp) Q X.xe s5:=λ{s5 Z5 H5 Q} I5 k=>by
  have I5':=kO I1.ok I5;obtain⟨m,hn,_⟩:=id I5'.loc;refine wpAny_nameGoes_keeps hl hn (by rw[I1.ok.kind];rfl) λh6 v6 hn6 sb6=>?_
  exact k _ (iB I5' hN hi hn hn6 sb6)
 refine Bu (hh e Fz B pI s4 _ _ {nx:=λZ5 H5=>D.nx (Z5.set i Af) H5,rt:=D.rt} I4 ⟨_,x4,?_⟩) (λf s5 hf=>?_) λ_ _ z=>Bs z
 .unfold hdO at p2;cases ef:fh (Y'.set i (Aa (.exc y.c y.fs,Ad))) with
  |next Y''=>rw[ef]at p2;exact λZ5 H5 x5=>p2 _ _ (x5.unset i)
  |ret d b=>rw[ef]at p2;exact p2
  |brk _=>rw[ef]at p2;exact p2.elim
  |cont _=>rw[ef]at p2;exact p2.elim
  |exn _ _=>rw[ef]at p2;exact p2.elim
  |bad=>rw[ef]at p2;exact p2.elim
 .cases f with
  |next=>
   obtain⟨Z5,H5,I5,q⟩:=hf;exact fin I5 λs6 I6=>⟨_,H5,I6,q⟩
  |ret u=>
   obtain⟨v,Z5,H5,I5,r,q⟩:=hf;exact fin I5 λs6 I6=>⟨v,_,H5,I6,r,q⟩
  |brk=>obtain⟨_,_,_,q⟩:=hf;exact Bs q
  |cont=>obtain⟨_,_,_,q⟩:=hf;exact Bs q
def Tv(X:Cx)(CL:ClA)(up:Ag->Ac Ag)(g:Aj)(c:Ag):Prop:=∃ C',Gl X g/\X.mg g=Aa (.ref C')/\(g==("__debug__" : Aj))=Ad/\XcOk X.K C'/\∀ c' C,CL c'=Aa C->B6 X.K (.ref C) (.ref C')=Aa ((up c').contains c)
theorem jN{y:Ex}{Q:Flow->Ar->Prop}{hd:Ac Ft}(hx:X.ex=[])(hst:X.stack=X.env::X.outer)(hfm:X.env.frame=Aa X.env.locals)(k:∀ e T1 cls dx H' s1,Inv X pI Z H' s1->AJ H H'->Fly e T1 cls dx s1.heap->HG X pI e->HG X pI T1->H' e=Af->H' T1=Af->GE X.K CL H' cls dx y->Au (model X.prog X.w) X.A (KB (.ref e) X.env hd) Q X.xe s1):K4 X CL pI Z H y (λev s1=>Au (model X.prog X.w) X.A (Hv ev X.env) (λ_ s2=>Au (model X.prog X.w) X.A (IJ ev Af) (λ_ s3=>Au (model X.prog X.w) X.A (KB ev X.env hd) Q X.xe s3) X.xe s2) X.xe s1):=by
 intro s' H' e T cls dx I' sm fl he hT ae aT xr;have two:∀{T:Al}{Z_:Al->Prop},Z_ e->Z_ T->∀ b∈[e,T],Z_ b:=λ{T Z_} h1 h2 b hb=>by
  rcases Ax.mp hb with rfl|hb
  .exact h1
  .rw[BA.mp hb];exact h2
 have hfr:X.A.frames=Aa (X.env::X.outer):=by rw[<-hst];exact I'.ok.frames
 refine jW (base:=X.base) hfr hfm (by rw[<-hst];exact I'.stack) fl λh1 T1 fl1 sh1 hT1=>?_
 rw[<-hst]at sh1;exact k e T1 cls dx H' _ (UC I' hx sh1 (two ae aT) (two (Z_:=λb=>H' b=Af) he hT)) sm fl1 ae (hT1.elim (λz=>z ▸ aT) λz=>MG I' hx z) he (hT1.elim (λz=>z ▸ hT) λz=>LO I'.hok z) xr
theorem uX{c i:Ag}{g n:Aj}{hp:AL}{fb:Rho->O}(hx:X.ex=[])(hst:X.stack=X.env::X.outer)(hfm:X.env.frame=Aa X.env.locals)(hN:X.N.Nodup)(hi:X.N[i]?=Aa n)(hl:X.env.scope.names.lookup n=Aa .local)(h1:Tv X CL up g c)(hb:STB X CL body fb)(hρ:∀ Y y Y',fb Y=.exn y Y'->Y'=Y)(hh:∀ e,SSs (Cx.hot X e) CL (λ_ _=>A3) (h0::hs) fh):SS X CL W (.Try body [.ExceptHandler (Aa (.Name g p1)) (Aa n) (h0::hs) hp] [] [] pos) (λY=>Td up c i (fb Y) fh):=λFz B pI s Z H D I ⟨Y,x,p⟩=>by
 refine wpAny_Try_except (Bu (hb Fz B pI s Z H D Y _ PassesOwn.looking I x ?_ (hρ Y)) (λf s1 hf=>?_) λ_ _ z=>z)
 .dsimp only at p;cases eb:fb Y with
  |exn y Y'=>
   rw[eb]at p;intro e0;subst e0;have p2:Cp X.K CL Fz B W (if (up y.c).contains c=Ab then hdO i y Y' fh else .bad) D:=p
   refine jN hx hst hfm λe T1 cls dx H' s1 I1 sm fl1 ae aT1 he HT1 xr=>?_
   have gx:=x.grow sm;obtain⟨C,hcl,rfl,_⟩:=xr (Cb B Y' Z) gx.aok;obtain⟨C',hg,hm,hdb,xc,hup⟩:=h1;refine rN (W:=W) hx hN hi hl hg hm hdb xc (hup y.c C hcl) hh I1 fl1 ae aT1 he HT1 gx hcl xr (λhc=>?_) (λhc=>?_)
   .rw[Az hc]at p2;exact p2
   .rw[AK (by rw[hc];exact AG)]at p2;exact p2.elim
  |next Y'=>rw[eb]at p;exact p
  |ret d b=>rw[eb]at p;exact p
  |brk Y'=>rw[eb]at p;exact p
  |cont Y'=>rw[eb]at p;exact p
  |bad=>rw[eb]at p;exact p.elim
 .cases f with
  |next=>exact FQ hf
  |ret u=>exact hf
  |brk=>exact hf
  |cont=>exact hf
theorem UL{f:Al}{E:XK}{e:An}{es:Ac An}{t:TA}(F:FnOk X.prog X.w X.K X.mg X.base CX k f fd ps sp)(hr:Room k X.A)(hg:Gl X x)(hm:X.mg x=Aa (.ref f))(hk:Co X.K (.ref f)=Ab)(hb:Ge X.K fd ps [])(hx:∀ pI H s e s',Inv X pI Z0 H s->CX X.stack H s E e s'->X.xe e s')(ha:PA X (e::es) t)(hdb:(x==("__debug__" : Aj))=Ad)(he:Aw (e::es) X.env=(Ad,eval e X.env)::Aw es X.env)(hpl:(Cj pos (Aw es X.env)).any (·.1)=Ad):PE X (.Call (.Name x p) (e::es) [] pos) (λZ H Q=>Z=Z0/\t Z H λvs H1=>sp vs H1 Q E):=by
 intro pI s Z H Q I ⟨e0,h⟩;subst e0;refine EQ (Kb I hg hm ?_ hdb);refine Ht (h₀:=X.base) I.ok.mod.kin hk (thn (ha pos pI s Z H _ I h) λus s1 ⟨vs,H1,I1,r,q⟩=>⟨I1.kIn,?_⟩) he hpl
 have hl:us.length=ps.length:=by rw[<-r.length];exact F.len _ _ _ _ q
 have hb':GJ s1 fd ⟨us,[]⟩ (ps.zip us):=by
  have:=hb s1 us I1.kIn (by rw[CT];exact hl)
  rw[CT]at this;exact this
 refine GV (FV (F.run X.A X.stack s1 H1 ⟨us,[]⟩ us vs Q E hr I1.env0 hb' r q) λr s' hq=>?_)
 cases r with
 |error e=>exact hx pI H1 s1 e s' I1 hq
 |ok fl=>
  cases fl with
  |ret u=>exact I1.after hq
  |next=>exact Bs hq
  |brk=>exact Bs hq
  |cont=>exact Bs hq
def R8(K:Fg)(CL:ClA)(Rp:Hp->V->D->Prop)(E0:XK)(H:Hp)(r:R D)(Q:VK):Prop:=match r with
  |.ok d=>∀ v H',AJ H H'->Rp H' v d->Q v H'
  |.exn y=>∀ cls dx H',AJ H H'->GE K CL H' cls dx y->E0 cls dx H'
  |.bad=>A3
theorem NS{k n:Ag}{f:Al}{e:An}{es:Ac An}{fs ft:Rho->R (Ac D)}{sh:Rho->Ak}{E0:XK}(G:FnOk X.prog X.w X.K X.mg X.base CX k f fd ps (spD X.K CL n fr F))(hr:Room k X.A)(hg:Gl X x)(hm:X.mg x=Aa (.ref f))(hk:Co X.K (.ref f)=Ab)(hb:Ge X.K fd ps [])(hx:∀ pI H s e s',Inv X pI Z0 H s->CX X.stack H s E0 e s'->X.xe e s')(ha:SA X CL (λ_ _=>A3) (e::es) fs)(hat:SAT X CL (λ_ _=>A3) (e::es) ft)(hst:∀ Y,sh Y=Ab->ft Y=fs Y)(hn:∀ Y ds,ft Y=.ok ds->ds.length=n)(hnx:∀ Y y,ft Y≠.exn y)(hdb:(x==("__debug__" : Aj))=Ad)(he:Aw (e::es) X.env=(Ad,eval e X.env)::Aw es X.env)(hpl:∀ pos,(Cj pos (Aw es X.env)).any (·.1)=Ad)(A:Al->Prop):PE X (.Call (.Name x p) (e::es) [] pos) (λZ H Q=>Z=Z0/\AOk H A/\∃ Y,Good X.K CL A Y Z H/\R8 X.K CL (D4 X.K CL fr H A) E0 H ((ft Y).bind λds=>(F ds).bind λd=>if sh Y=Ab then .ok d else if Gi fr d=Ab then .ok d else .bad) Q):=λpI s Z H Q I ⟨e0,hA,Y,gd,q⟩=>by
 by_cases hs:sh Y=Ab
 .rw[hst Y hs]at q;refine UL G hr hg hm hk hb hx (ha A) hdb he (hpl _) pI s Z H Q I ⟨e0,hA,Y,gd,?_⟩;cases e1:fs Y with
  |bad=>rw[e1]at q;exact q
  |exn y=>exact absurd (by rw[hst Y hs];exact e1) (hnx Y y)
  |ok ds=>
   rw[e1]at q;intro vs H1 s1 r1;refine⟨ds,A,by rw[r1.length];exact hn Y ds (by rw[hst Y hs];exact e1),hA.same s1,r1,?_⟩
   have q':R8 X.K CL (D4 X.K CL fr H A) E0 H ((F ds).bind λd=>if sh Y=Ab then .ok d else if Gi fr d=Ab then .ok d else .bad) Q:=q
   cases e2:F ds with
   |ok d=>
    rw[e2,R.bind_ok,Az hs]at q';exact λv H2 s2 r2=>q' v H2 (s1.trans s2) ⟨r2.1,λz ds' e'=>let ⟨a,xs,z1,z2,z3⟩:=r2.2 z ds' e';⟨a,xs,z1,s1.free z2,z3⟩⟩
   |exn y=>
    rw[e2]at q';exact λcls dx H2 s2 xr=>q' cls dx H2 (s1.trans s2) xr
   |bad=>rw[e2]at q';exact q'.elim
 .refine UL G hr hg hm hk hb hx (hat A) hdb he (hpl _) pI s Z H Q I ⟨e0,hA,Y,gd,?_⟩;cases e1:ft Y with
  |bad=>rw[e1]at q;exact q
  |exn y=>exact absurd e1 (hnx Y y)
  |ok ds=>
   rw[e1]at q;intro vs H1 s1 r1;refine⟨ds,A0,by rw[r1.plain.length];exact hn Y ds e1,λ_ z=>z.elim,r1.plain,?_⟩
   have q':R8 X.K CL (D4 X.K CL fr H A) E0 H ((F ds).bind λd=>if sh Y=Ab then .ok d else if Gi fr d=Ab then .ok d else .bad) Q:=q
   cases e2:F ds with
   |ok d=>
    rw[e2,R.bind_ok,AK hs]at q';split at q'
    .rename_i hc;exact λv H2 s2 r2=>q' v H2 (s1.trans s2) (Rb hA (s1.trans s2) hc ⟨r2.1,λz ds' e'=>let ⟨a,xs,z1,z2,z3⟩:=r2.2 z ds' e';⟨a,xs,z1,s1.free z2,z3⟩⟩)
    .exact q'.elim
   |exn y=>
    rw[e2]at q';exact λcls dx H2 s2 xr=>q' cls dx H2 (s1.trans s2) xr
   |bad=>rw[e2]at q';exact q'.elim
noncomputable def Cx.pw(X:Cx)(pI:Pn)(Xw:Vq):Cx:={X with pn:=X.pn++pI,xe:=Xw}
section
variable{X:Cx}{pI pins':Pn}{Z:L2.St}{H:Hp}{s:Ar}{Xw:Vq}
theorem jh(ok:X.Ok):(Cx.pw X pI Xw).Ok:=⟨ok.mod,ok.kind,ok.glob,ok.blt,ok.above,ok.inj,ok.has,ok.cab,ok.hd,ok.frames,ok.stk,ok.exf,ok.bs,ok.bsz,ok.noex,ok.exfs,ok.funs,ok.frf⟩
theorem M5(I:Inv X pI Z H s)(Xw:Vq):Inv (Cx.pw X pI Xw) [] Z H s:=⟨jh I.ok,I.os,I.bare,I.base,I.loc,I.cell,I.free,I.freeC,λp hp=>I.pin p (by
 rcases IF.mp hp with z|z
 .exact z
 .exact absurd z (by simp)),I.hok,I.len⟩
theorem Lz(ok:X.Ok)(I:Inv (Cx.pw X pI Xw) pins' Z H s):Inv X pI Z H s:=⟨ok,I.os,I.bare,I.base,I.loc,I.cell,I.free,I.freeC,λp hp=>I.pin p (GM _ hp),I.hok,I.len⟩
theorem Oa(ok:X.Ok){D:Ends}{f:Flow}{s':Ar}(h:SP (Cx.pw X pI Xw) pins' D f s'):SP X pI D f s':=by
 cases f with
 |next=>obtain⟨Z',H',I,q⟩:=h;exact⟨Z',H',Lz ok I,q⟩
 |brk=>obtain⟨Z',H',I,q⟩:=h;exact⟨Z',H',Lz ok I,q⟩
 |cont=>obtain⟨Z',H',I,q⟩:=h;exact⟨Z',H',Lz ok I,q⟩
 |ret u=>obtain⟨v,Z',H',I,r,q⟩:=h;exact⟨v,Z',H',Lz ok I,r,q⟩
end
section
variable{X:Cx}{CL:ClA}{k n:Ag}{fr:Ak}{f:Al}{fd:B9}{ps:Ac Aj}{F:Ac D->R D}{x:Aj}{p pos pos2:AL}{e:An}{es:Ac An}{fs ft:Rho->R (Ac D)}{sh:Rho->Ak}
theorem VO{y:Ex}(hx:X.ex=[])(ok:X.Ok)(q:K4 X CL pI Z H y Xw):∀ pins' H1 s1 e s',Inv (Cx.pw X pI Xw) pins' Z H1 s1->CXR X.prog X.w (Cx.pw X pI Xw).stack H1 s1 (λcls dx H'=>GE X.K CL H' cls dx y/\AJ H H') e s'->(Cx.pw X pI Xw).xe e s':=by
 intro pins' H1 s1 ev s' J_ h;obtain⟨e,T,cls,dx,H',rfl,os,bare,un,hok,fl,he,hT,ne,nT,xr,sm⟩:=h;have J_':=Lz ok J_;have J_2:=J_'.call' (s':=s') (ch:=[]) os un hok bare (λb z=>absurd z (by simp))
 exact q s' H' e T cls dx J_2 sm fl he hT (MG J_' hx ne) (MG J_' hx nT) xr
theorem VP:∀ pins' H1 s1 e s',Inv (Cx.pw X pI Xw) pins' Z H1 s1->CXR X.prog X.w (Cx.pw X pI Xw).stack H1 s1 (λ_ _ _=>A3) e s'->(Cx.pw X pI Xw).xe e s':=by
 intro pins' H1 s1 ev s' J_ h;obtain⟨e,T,cls,dx,H',rfl,os,bare,un,hok,fl,he,hT,ne,nT,w⟩:=h;exact w.elim
variable(hx0:X.ex=[])(G:FnOk X.prog X.w X.K X.mg X.base (CXR X.prog X.w) k f fd ps (spD X.K CL n fr F))(hr:Room k X.A)(hg:Gl X x)(hm:X.mg x=Aa (.ref f))
    (hk:Co X.K (.ref f)=Ab) (hb:Ge X.K fd ps []) (hst:∀ Y,sh Y=Ab->ft Y=fs Y) (hn:∀ Y ds,ft Y=.ok ds->ds.length=n) (hnx:∀ Y y,ft Y≠.exn y)
    (hdb:(x==("__debug__" : Aj))=Ad) (he:Aw (e::es) X.env=(Ad,eval e X.env)::Aw es X.env) (hpl:∀ pos,(Cj pos (Aw es X.env)).any (·.1)=Ad)
    (ha:∀ pI Xw,FU (model X.prog X.w) X.A X.env Xw->SA (Cx.pw X pI Xw) CL (λ_ _=>A3) (e::es) fs/\SAT (Cx.pw X pI Xw) CL (λ_ _=>A3) (e::es) ft)
include hx0 G hr hg hm hk hb hst hn hnx hdb he hpl ha
theorem jP(hs:DH (.Call (.Name x p) (e::es) [] pos) Af pos2.line X.env=pure Ad):STB X CL [.Expr (.Call (.Name x p) (e::es) [] pos) pos2] (λY=>O.of Y ((ft Y).bind λds=>(F ds).bind λd=>if sh Y=Ab then .ok d else if Gi fr d=Ab then .ok d else .bad) λ_=>.next Y):=by
 intro Fz B pI s Z H D Y Xw own I sx q _;obtain⟨ha1,ha2⟩:=ha pI Xw own;dsimp only at q;cases er:(ft Y).bind λds=>(F ds).bind λd=>if sh Y=Ab then .ok d else if Gi fr d=Ab then .ok d else .bad with
 |bad=>rw[er]at q;exact q.elim
 |exn y=>
  rw[er]at q;have key:=NS (X:=Cx.pw X pI Xw) (p:=p) (pos:=pos) (Z0:=Z) (fr:=fr) (F:=F) (n:=n) (sh:=sh) G hr hg hm hk hb (VO hx0 I.ok (q rfl)) ha1 ha2 hst hn hnx hdb he hpl (Cb B Y Z);refine Bu (MO (MP (pos:=pos2) key hs) [] s Z H D (M5 I Xw) ⟨rfl,sx.aok,Y,sx.good,?_⟩) (λ_ _ z=>Oa I.ok z) λ_ _ z=>z
  rw[er];exact λcls dx H' sm xr=>⟨xr,sm⟩
 |ok d=>
  rw[er]at q;have key:=NS (X:=Cx.pw X pI Xw) (p:=p) (pos:=pos) (Z0:=Z) (fr:=fr) (F:=F) (n:=n) (sh:=sh) (E0:=λ_ _ _=>A3) G hr hg hm hk hb VP ha1 ha2 hst hn hnx hdb he hpl (Cb B Y Z)
  refine Bu (MO (MP (pos:=pos2) key hs) [] s Z H D (M5 I Xw) ⟨rfl,sx.aok,Y,sx.good,?_⟩) (λ_ _ z=>Oa I.ok z) λ_ _ z=>z
  rw[er];exact λv H' sm r=>q Z H' (sx.grow sm)
theorem nK{i:Ag}{m:Aj}(hN:X.N.Nodup)(hi:X.N[i]?=Aa m)(hl:Loc X.env.scope m)(hf:X.fn m=Ab\/X.env.scope.names.lookup m=Aa .local)(hs:DH (.Call (.Name x p) (e::es) [] pos) (Aa (.Name m pos')) pos2.line X.env=pure Ad):STB X CL [.Assign [.Name m pos'] (.Call (.Name x p) (e::es) [] pos) pos2] (λY=>O.of Y ((ft Y).bind λds=>(F ds).bind λd=>if sh Y=Ab then .ok d else if Gi fr d=Ab then .ok d else .bad) λd=>.next (Y.set i (Aa (d,Ad)))):=by
 intro Fz B pI s Z H D Y Xw own I sx q _;obtain⟨ha1,ha2⟩:=ha pI Xw own;dsimp only at q;cases er:(ft Y).bind λds=>(F ds).bind λd=>if sh Y=Ab then .ok d else if Gi fr d=Ab then .ok d else .bad with
 |bad=>rw[er]at q;exact q.elim
 |exn y=>
  rw[er]at q;have key:=NS (X:=Cx.pw X pI Xw) (p:=p) (pos:=pos) (Z0:=Z) (fr:=fr) (F:=F) (n:=n) (sh:=sh) G hr hg hm hk hb (VO hx0 I.ok (q rfl)) ha1 ha2 hst hn hnx hdb he hpl (Cb B Y Z);refine Bu (MO (Oc (X:=Cx.pw X pI Xw) (i:=i) (pos:=pos2) hN hi hl key hs hf) [] s Z H D (M5 I Xw) ⟨rfl,sx.aok,Y,sx.good,?_⟩) (λ_ _ z=>Oa I.ok z) λ_ _ z=>z
  rw[er];exact λcls dx H' sm xr=>⟨xr,sm⟩
 |ok d=>
  rw[er]at q;have key:=NS (X:=Cx.pw X pI Xw) (p:=p) (pos:=pos) (Z0:=Z) (fr:=fr) (F:=F) (n:=n) (sh:=sh) (E0:=λ_ _ _=>A3) G hr hg hm hk hb VP ha1 ha2 hst hn hnx hdb he hpl (Cb B Y Z)
  refine Bu (MO (Oc (X:=Cx.pw X pI Xw) (i:=i) (pos:=pos2) hN hi hl key hs hf) [] s Z H D (M5 I Xw) ⟨rfl,sx.aok,Y,sx.good,?_⟩) (λ_ _ z=>Oa I.ok z) λ_ _ z=>z
  rw[er];exact λv H' sm r=>q _ H' ((sx.grow sm).set i r.1)
end
section
variable{X:Cx}{CL:ClA}{W:XW}
theorem iP{e:An}{es:Ac An}(hcalm:X.calm=Ab)(rz:Nm X CL W)(hg:Gl X g)(hm:X.mg g=Aa (.ref C))(hdb:(g==("__debug__" : Aj))=Ad)(xc:D5 X.K C Af=Ab)(hcl:CL c=Aa C)(ha:SA X CL W (e::es) fs)(hxn:∀ ds,xn c ds=.bad\/xn c ds=.ok ⟨c,[]⟩)(he:Aw (e::es) X.env=(Ad,eval e X.env)::Aw es X.env)(hpl:∀ pos,(Cj pos (Aw es X.env)).any (·.1)=Ad)(hz:∀ Y ds,fs Y=.ok ds->ds.length<=100000):SS X CL W (.Raise (Aa (.Call (.Name g np) (e::es) [] cpos)) Af pos) (λY=>O.of Y (noX (fs Y)) λxs=>O.of Y (xn c xs) λx=>.exn x Y):=λFz B pI s Z H D I ⟨Y,x,p⟩=>by
 dsimp only at p;cases e1:fs Y with
 |bad=>rw[e1]at p;exact p.elim
 |exn y=>rw[e1]at p;exact p.elim
 |ok ds=>
  rw[e1]at p;have p2:Cp X.K CL Fz B W (O.of Y (xn c ds) λx=>.exn x Y) D:=p
  rcases hxn ds with e2|e2
  .rw[e2]at p2;exact p2.elim
  .rw[e2]at p2;have p3:∀ H,(∀ b o,Fz b o->H b=Aa o)->W ⟨c,[]⟩ H:=p2;obtain⟨bm,N,nm,qn,bs,hd,sn,sub,ab,col,dd,k0,k1,k2,k3,k5,mN,hob,hni,hbase⟩:=Qv I.kIn xc;refine wpAny_Raise_call_subT (bmB:=veB) (nm:=nm) (q:=qn) (C:=C) (N:=N) (bs:=bs) (bm:=bm) (hdct:=hd) (sn:=sn) (sub:=sub) (ab:=ab) (col:=col) (dd:=dd) (k0:=k0) (k1:=k1) (k2:=k2) (k3:=k3) (k5:=k5) (mN:=mN) Fu hbase (I.ok.hd hcalm) (by rw[he];show (Ad||(Cj cpos (Aw es X.env)).any (·.1))=Ad;rw[hpl];rfl) hni ?_
   refine Kb I hg hm ⟨rfl,?_⟩ hdb;have q1:=ha (Cb B Y Z) cpos pI s Z H (λvs H1=>AJ H H1/\vs.length=ds.length) I ⟨x.aok,Y,x.good,by rw[e1];exact λvs H1 s1 r1=>⟨s1,r1.length⟩⟩
   rw[he]at q1 ⊢;refine Fi (Bu q1 (λus s2 ⟨vs,H2,I2,r2,s2',hl⟩=>⟨rfl,?_⟩) λ_ _ z=>z)
   obtain⟨o1,o2,o3⟩:=hob _ I2.kIn;refine⟨?_,o1,o2,o3,λh' ev hmade=>?_⟩
   .rw[<-r2.length,hl,Dx];have:=hz Y ds e1;omega
   .obtain⟨t,ge,_⟩:=hmade.there;have I3:Inv X pI Z H2 {s2 with heap:=h'}:=I2.kept (t':=s2.toks) hmade.keeps
    exact rz pI Z H2 _ ev C Af t ⟨c,[]⟩ I3 (λhx=>KN I2 hx hmade.new) (LO I2.hok hmade.new) ge (λA _=>⟨C,hcl,rfl,.inl rfl⟩) (p3 H2 λb o z=>s2' _ _ (x.same b o z))
def MY(K:Fg)(CL:ClA)(up:Ag->Ac Ag)(c':Ag)(C':Al):Prop:=∀ c C,CL c=Aa C->Dl K (.ref C) (.ref C')=Aa ((up c).contains c')
theorem Vo{s:Ar}{a C:Al}{cv:Ai}{b:Ak}{Q:VK}(I:Inv X pI Z H s)(ha:H a=Aa (.ext φ))(hφ:∀ h,φ h->∃ o,h.get? a=Aa o/\o.cls=.ref C)(xc:XcOk X.K C)(e:Dl X.K (.ref C) cv=Aa b)(q:Q (.bl b) H):
  Au (model X.prog X.w) X.A (call (.builtin "isinstance") [.ref a,cv]) (EP X pI Z Q) X.xe s:=by
 have p:XAt a C s.heap:=hφ _ (I.hok a _ ha).1;exact PySem.W.kia_one (Vn xc) I.kIn p e (by intro z;cases z) λtk=>⟨.bl b,H,I.tok tk,rfl,q⟩
theorem TR:∀(Cs:Ac Al){its:Ac Ai},Bq (Cs.map V.ref) its->its=Cs.map BQ
 |[],_,rv=>by cases rv;rfl
 |c::cs,_,rv=>by
  cases rv with
  |cons h1 h2=>rw[TR cs h2];cases h1;rfl
theorem rC{s:Ar}{a C tp:Al}{Cs:Ac Al}{b:Ak}{Q:VK}(I:Inv X pI Z H s)(ha:H a=Aa (.ext φ))(hφ:∀ h,φ h->∃ o,h.get? a=Aa o/\o.cls=.ref C)(xc:XcOk X.K C)(ht:H tp=Aa (.tup (Cs.map V.ref)))(e:Jg X.K (.ref C) (Cs.map BQ)=Aa b)(q:Q (.bl b) H):
  Au (model X.prog X.w) X.A (call (.builtin "isinstance") [.ref a,.ref tp]) (EP X pI Z Q) X.xe s:=by
 have p:XAt a C s.heap:=hφ _ (I.hok a _ ha).1;obtain⟨_,its,rv,⟨o,ho,hc,n,hd⟩⟩:=I.hok tp _ ht;have ei:its=Cs.map BQ:=TR Cs rv;subst ei;obtain⟨cls,dd,dat,sl⟩:=o;have hc':cls=.type "tuple" := hc;have hd':dat=.seq (FS (Cs.map BQ)) n:=hd;subst hc' hd';exact PySem.W.kia_tup (Vn xc) I.kIn p ho e (by intro z;cases z) λtk=>⟨.bl b,H,I.tok tk,rfl,q⟩
theorem V2{K:Fg}{up:Ag->Ac Ag}{c:Ag}{C:Al}(h:CL c=Aa C):∀(cs:Ac (Ag×Al)),(∀ p∈cs,MY K CL up p.1 p.2)->Jg K (.ref C) ((cs.map λq:Ag×Al=>q.2).map BQ)=Aa (cs.any λp=>(up c).contains p.1)
  |[],_=>rfl
  |p::cs,hk=>by
    have h1:=hk p AX c C h;have h2:=V2 h cs λq hq=>hk q (AN _ hq)
    show (match Dl K (.ref C) (.ref p.2) with
      |some Ab=>Aa Ab
      |some Ad=>Jg K (.ref C) ((cs.map λq:Ag×Al=>q.2).map BQ)
      | none=>Af)=_
    rw[h1,JL];cases (up c).contains p.1 with
    |true=>rfl
    |false=>rw[h2];rfl
theorem Qs{ks:Ac Ki}{Rp:Hp->V->D->Prop}{Q:VK}(hk:ks.all Ef=Ab)(hne:ks≠[])(p:Bv Rp W H (EV up ks d) Q):∃ c fs,d=.exc c fs/\Bv Rp W H (.ok (.bl (ks.any λk=>kiD up k d))) Q:=by
 have ha:ks.any Ef=Ab:=by
  cases ks with
  |nil=>exact absurd rfl hne
  |cons k ks=>simp only[Gs,Am]at hk;simp[JL,hk.1]
 cases d with
 | exc c fs=>exact⟨c,fs,rfl,by
   have p':Bv Rp W H (if ks.all Ef=Ab then .ok (.bl (ks.any λk=>kiD up k (.exc c fs))) else .bad) Q:=p
   rw[Az hk]at p';exact p'⟩
 |obj c fs=>exact Bs p
 |dic _=>exact Bs p
 |non=>simp only[EV,ha,Fe]at p;exact Bs p
 |bl _=>simp only[EV,ha,Fe]at p;exact Bs p
 |int _=>simp only[EV,ha,Fe]at p;exact Bs p
 |str _=>simp only[EV,ha,Fe]at p;exact Bs p
 |tup _=>simp only[EV,ha,Fe]at p;exact Bs p
 |lst _=>simp only[EV,ha,Fe]at p;exact Bs p
theorem QE{v:V}{fs:Ac (Aj×D)}(r:Dp K CL H A v (.exc c fs)):∃ a C φ,v=.ref a/\CL c=Aa C/\H a=Aa (.ext φ)/\∀ h,φ h->∃ o,h.get? a=Aa o/\o.cls=.ref C:=by
 rcases r with ⟨a,C,φ,e,_,hc,hH,hφ,_⟩|⟨a,xs,ds,_,z,_⟩
 .exact⟨a,C,φ,e,hc,hH,hφ⟩
 .cases z
variable{a:An}{fa:Rho->R D}{up:Ag->Ac Ag}{x:Aj}{p p2 pos:AL}
theorem uK{c':Ag}(hxc:∀ c C,CL c=Aa C->XcOk X.K C)(hg:Gl X "isinstance")(hm:X.mg "isinstance" = Af)(hg2:Gl X x)(hm2:X.mg x=Aa (.ref C'))(hkit:MY X.K CL up c' C')(hdb:(x==("__debug__" : Aj))=Ad)(ha:ST X CL W a fa)(he:Aw [a,.Name x p2] X.env=(Ad,eval a X.env)::Aw [.Name x p2] X.env):SE X CL W (.Call (.Name "isinstance" p) [a,.Name x p2] [] pos) (λY=>(fa Y).bind λx=>EV up [.cls c'] x):=λA=>
 PE.weak (MI (r:=λxs H Q=>∃ a C φ c,xs=[.ref a,.ref C']/\CL c=Aa C/\H a=Aa (.ext φ)/\(∀ h,φ h->∃ o,h.get? a=Aa o/\o.cls=.ref C)/\Q (.bl ((up c).contains c')) H) (λpI s Z H xs us Q I r ⟨b,C,φ,c,e,hc,hH,hφ,q⟩=>by
   subst e;obtain⟨u,w',rfl,r1,r2⟩:=M7 r;cases r1;cases r2;exact Vo I hH hφ (hxc c C hc) (hkit c C hc) q)
  hg hm GQ (EA (ha A) (EA (Wa (v:=.ref C') hg2 hm2 rfl hdb) GZ rfl) he) (by decide) (by decide) he rfl) λZ H Q ⟨hA,Y,g,q⟩=>⟨hA,Y,g,Bv.bind q λd v H1 _ s1 r1 p1=>by
   obtain⟨c,fs,rfl,p2⟩:=Qs (by rfl) (by simp) p1
   obtain⟨b,C,φ,rfl,hc,hH,hφ⟩:=QE r1;refine⟨b,C,φ,c,rfl,hc,hH,hφ,p2 _ H1 (AJ.refl H1) ?_⟩;exact congrArg V.bl (EL _).symm⟩
theorem vL(hxc:∀ c C,CL c=Aa C->XcOk X.K C)(hg:Gl X "isinstance")(hm:X.mg "isinstance" = Af)(hg2:Gl X "ValueError")(hm2:X.mg "ValueError" = Af)(ha:ST X CL W a fa)(he:Aw [a,.Name "ValueError" p2] X.env=(Ad,eval a X.env)::Aw [.Name "ValueError" p2] X.env):SE X CL W (.Call (.Name "isinstance" p) [a,.Name "ValueError" p2] [] pos) (λY=>(fa Y).bind λx=>EV up [.verr] x):=λA=>
 PE.weak (MI (r:=λxs H Q=>∃ a C φ c,xs=[.ref a,.ty "ValueError"]/\CL c=Aa C/\H a=Aa (.ext φ)/\(∀ h,φ h->∃ o,h.get? a=Aa o/\o.cls=.ref C)/\Q (.bl Ab) H) (λpI s Z H xs us Q I r ⟨b,C,φ,c,e,hc,hH,hφ,q⟩=>by
   subst e;obtain⟨u,w',rfl,r1,r2⟩:=M7 r;cases r1;cases r2;exact Vo I hH hφ (hxc c C hc) (hxc c C hc).ve q)
  hg hm GQ (EA (ha A) (EA (Wc (v:=.ty "ValueError") hg2 hm2 PyProof.Rows.Boot.«ValueError» rfl (by decide) (by decide)) GZ rfl) he) (by decide) (by decide) he rfl) λZ H Q ⟨hA,Y,g,q⟩=>⟨hA,Y,g,Bv.bind q λd v H1 _ s1 r1 p1=>by
   obtain⟨c,fs,rfl,p2⟩:=Qs (by rfl) (by simp) p1
   obtain⟨b,C,φ,rfl,hc,hH,hφ⟩:=QE r1;refine⟨b,C,φ,c,rfl,hc,hH,hφ,p2 _ H1 (AJ.refl H1) ?_⟩;exact congrArg V.bl (EL _).symm⟩
theorem tD(up:Ag->Ac Ag)(c:Ag)(fs:Ac (Aj×D))(cs:Ac (Ag×Al)):((cs.map λq=>Ki.cls q.1).any λk=>kiD up k (.exc c fs))=cs.any λq=>(up c).contains q.1:=List.any_map
def Tg(Cs:Ac Al):TA:=λ_ H Q=>Q (Cs.map V.ref) H
theorem uI{ts:Ac An}{cs:Ac (Ag×Al)}(hxc:∀ c C,CL c=Aa C->XcOk X.K C)(hg:Gl X "isinstance")(hm:X.mg "isinstance" = Af)(hts:PA X ts (Tg (cs.map λq:Ag×Al=>q.2)))(hne:cs≠[])(hl:cs.length<=1000)(hkit:∀ q∈cs,MY X.K CL up q.1 q.2)(ha:ST X CL W a fa)(he:Aw [a,.Tuple ts kk p2] X.env=(Ad,eval a X.env)::Aw [.Tuple ts kk p2] X.env):SE X CL W (.Call (.Name "isinstance" p) [a,.Tuple ts kk p2] [] pos) (λY=>(fa Y).bind λx=>EV up (cs.map λq=>.cls q.1) x):=λA=>
 PE.weak (MI (r:=λxs H Q=>∃ a C φ c tp,xs=[.ref a,.ref tp]/\CL c=Aa C/\H a=Aa (.ext φ)/\(∀ h,φ h->∃ o,h.get? a=Aa o/\o.cls=.ref C)/\H tp=Aa (.tup ((cs.map λq:Ag×Al=>q.2).map V.ref))/\Q (.bl (cs.any λq=>(up c).contains q.1)) H) (λpI s Z H xs us Q I r ⟨b,C,φ,c,tp,e,hc,hH,hφ,ht,q⟩=>by
   subst e;obtain⟨u,w',rfl,r1,r2⟩:=M7 r;cases r1;cases r2;exact rC I hH hφ (hxc c C hc) ht (V2 hc cs hkit) q)
  hg hm GQ (EA (ha A) (EA (WT hts) GZ rfl) he) (by decide) (by decide) he rfl) λZ H Q ⟨hA,Y,g,q⟩=>⟨hA,Y,g,Bv.bind q λd v H1 _ s1 r1 p1=>by
   have hk:(cs.map λq=>Ki.cls q.1).all Ef=Ab:=by simp[YG,Ef]
   obtain⟨c,fs,rfl,p2⟩:=Qs hk (by simpa using hne) p1
   obtain⟨b,C,φ,rfl,hc,hH,hφ⟩:=QE r1;refine⟨by rw[BO,BO,Dx];omega,λt ht=>?_⟩
   have hbt:b≠t:=Gb hH ht;refine⟨b,C,φ,c,t,rfl,hc,by rw[BR hbt];exact hH,hφ,FW,p2 _ _ (GB ht _) ?_⟩
   exact congrArg V.bl (tD up c fs cs).symm⟩
end
theorem WB(q:D5 K C v=Ab):∃ dd cd sl bm,K.lookup C=Aa ⟨.type "type",dd,.cls cd,sl⟩/\cd.mro=.ref C::bm:=by
 unfold D5 at q;split at q
 .rename_i dd cd sl ho;split at q
  .rename_i C' bm k0 k1 k2 k3 n k5 hm hs;simp only[Am,AZ,BN]at q;obtain⟨rfl,_⟩:=q;exact⟨dd,cd,sl,bm,ho,hm⟩
  .cases q
 .cases q
theorem N8(q:D5 K C v=Ab):∃ cd bm,DT K C=Aa cd/\cd.mro=.ref C::bm:=by
 obtain⟨dd,cd,sl,bm,h1,h2⟩:=WB q;exact⟨cd,bm,by unfold DT;rw[h1],h2⟩
theorem yP(q:D5 K C v=Ab):DY K (.ref C)=Aa (.type "type"):=by
 obtain⟨dd,cd,sl,bm,h1,h2⟩:=WB q;show (K.lookup C).map _=_;rw[h1];rfl
theorem sM{v:Ak}{i i':Ao Ai}(q:D5 K C i=Ab)(q':D5 K C' i'=Ab)(su:B6 K (.ref C) (.ref C')=Aa v):Dl K (.ref C) (.ref C')=Aa v:=by
 unfold Dl;by_cases e:C=C'
 .subst e;obtain⟨cd,bm,h1,h2⟩:=N8 q;have su':Di K C (.ref C)=Aa v:=su;have:v=Ab:=by
   unfold Di at su';rw[h1,Y_3,h2,AK (by simp)]at su'
   rw[<-BE su'];simp
  rw[Az (by simp),this]
 .rw[AK (λz=>e (JN (AZ.mp z)))]
  obtain⟨cd,bm,h1,h2⟩:=N8 q';show (if ((DT K C').isSome&&DY K (.ref C')==Aa (.type "type"))=Ab then B6 K (.ref C) (.ref C') else Af)=_
  rw[h1,yP q',Az (by simp),su]
theorem br(exc:D5 K C v=Ab)(ga:AR K (.ref C) "__getattribute__" = Aa (Aa (.builtin "BaseException.__getattribute__")))(gt:AR K (.ref C) "__getattr__" = Aa Af)(cl:AR K (.ref C) "__class__" = Aa (Aa (.builtin "object.__class__")))(ob:Di K C (.type "object")=Aa Ab)(be:B6 K (.ref C) (.type "BaseException")=Aa Ab)(sv:B6 K (.ref C) (.type "ValueError")=Aa Ab):XcOk K C:=by
 obtain⟨cd,bm,h1,h2⟩:=N8 exc;refine⟨⟨v,exc⟩,ga,gt,cl,ob,be,by rw[h1];rfl,?_⟩
 unfold Dl;rw[AK (λz=>by cases AZ.mp z)]
 have hm:aW "ValueError" = Ab:=by decide+kernel
 show (if aW "ValueError" = Ab then B6 K (.ref C) (.type "ValueError") else Af)=_
 rw[Az hm,sv]
noncomputable abbrev JK:CXT:=λ_ _ _ _ _ _=>A3
structure HotOk (P:AS) (w:AF) (K:Fg) (mg:Aj->Ao Ai) (base:AB) (k:Ag) (f:Al) (fd:B9) (ps:Ac Aj) (sp:Sp):Prop where
 len:∀ vs H Q E,sp vs H Q E->vs.length=ps.length
 run:∀(A:A6)(ev:Al)(outer:Ac CI)(s:Ar)(H:Hp)(args:Args)(us:Ac Ai)(vs:Ac V)(Q:VK)(E:XK),Room k A->Env0 P w K mg base (A.mark (Aa (.ref ev))) outer s H->GJ s fd args (ps.zip us)->Bq vs us->sp vs H Q E ->
  E9 (model P w) (A.mark (Aa (.ref ev))) (.call (.ref f) args) (CR JK outer P w H s Q E) s
theorem zP{mg:Aj->Ao Ai}{base:AB}{f:Al}{params:Mm}{dV kV doc pm cdv ct oc:Ai}{N ps:Ac Aj}(lk:K.lookup f=Aa ⟨oc,od,.func (CQ name qual params body scope dV kV doc pm an cdv ct),osl⟩)(hcd:Ep K cdv qual=Ab)(S:FnScope N ps scope)(len:∀ vs H Q E,sp vs H Q E->vs.length=ps.length)(hbody:∀(A:A6)(ev:Al)(outer:Ac CI)(s:Ar)(H:Hp)(vs:Ac V)(Q:VK)(E:XK),Room k (A.deeper (E6 qual scope s.heap.objs.size f cdv))->sp vs H Q E ->
   ∃ t,PSs (Cx.hot (Fd JK P w K mg base N qual scope f cdv A outer s H E) ev) body t/\t {nx:=λ_ H'=>Q .non H',rt:=Q} (start N vs) H):HotOk P w K mg base (k+1) f (CQ name qual params body scope dV kV doc pm an cdv ct) ps sp:=by
 refine⟨len,λA ev outer s H args us vs Q E hr e0 hb r hsp=>?_⟩
 have hl:=len _ _ _ _ hsp;have e1:Env0 P w K mg base A outer s H:=⟨e0.frames,e0.mod,e0.bs,e0.bsz,e0.funs,e0.frf,e0.hok,e0.bare⟩;have KX:K.In s.heap:=e0.mod.kin.keeps λb o e=>(e0.bs b o e).1
 have lim:s.heap.NoLimit:=e0.mod.nolimit.keeps λb o e=>(e0.bs b o e).1
 have hkind:∀ y∈ps.zip us,scope.names.lookup y.1=Aa .local\/(scope.names.lookup y.1=Aa .cell/\((De (s.heap.objs.size+1) scope.names []).lookup y.1).isSome=Ab):=λ⟨n,v⟩ hy=>by
  rcases S.par n (GN hy).1 with q|q
  .exact .inl q
  .exact .inr ⟨q,Gq _ _ _ (.inl q)⟩
 have hdp:(A.mark (Aa (.ref ev))).depth<Hd:=hr.depth;refine GK hdp (KX _ _ lk) rfl S.co S.gen rfl (Hu KX hcd) (hb _ _ _ _ ?_);refine Fw S.kind hkind λenv he s1 x=>?_
 subst he;refine⟨lim.keeps x.toInCall.keep,JY ?_⟩;obtain⟨t,ht,hq⟩:=hbody A ev outer s H vs Q E (hr.deeper _) hsp;have I:Inv (Fd JK P w K mg base N qual scope f cdv A outer s H E) [] (start N vs) H s1:=P5 S hr.hd e1 hl r x;refine Bu (ht [] s1 (start N vs) H _ (QN I ev) hq) (λfl s' hs=>?_) λe s' hs=>hs.elim
 have fin:∀{Z':L2.St}{H':Hp}{v:V}{u:Ai},Inv (Cx.hot (Fd JK P w K mg base N qual scope f cdv A outer s H E) ev) [] Z' H' s'->BS v u->Q v H'->CE outer P w H s Q u s':=
  λ{Z' H' v u} J_ rv q=>⟨v,H',J_.os,J_.bare,J_.base,J_.hok,rv,q⟩
 cases fl with
 |ret u=>
  obtain⟨v,Z',H',J_,rv,q⟩:=hs;exact fin J_ rv q
 |next=>
  obtain⟨Z',H',J_,q⟩:=hs;exact fin (v:=V.non) (u:=Dk) J_ rfl q
 |brk=>
  obtain⟨_,_,_,q⟩:=hs;exact Bs q
 |cont=>
  obtain⟨_,_,_,q⟩:=hs;exact Bs q
theorem kJ{v:Ak}{i:Ao Ai}(q:D5 K C i=Ab)(mr:Di K C' (.type "object")=Aa Ab)(ty:DY K (.ref C')=Aa (.type "type"))(su:B6 K (.ref C) (.ref C')=Aa v):Dl K (.ref C) (.ref C')=Aa v:=by
 unfold Dl;by_cases e:C=C'
 .subst e;obtain⟨cd,bm,h1,h2⟩:=N8 q;have su':Di K C (.ref C)=Aa v:=su;have:v=Ab:=by
   unfold Di at su';rw[h1,Y_3,h2,AK (by simp)]at su'
   rw[<-BE su'];simp
  rw[Az (by simp),this]
 .rw[AK (λz=>e (JN (AZ.mp z)))]
  show (if ((DT K C').isSome&&DY K (.ref C')==Aa (.type "type"))=Ab then B6 K (.ref C) (.ref C') else Af)=_
  have cs:(DT K C').isSome=Ab:=by
   unfold Di at mr;cases e1:DT K C' with
   |none=>rw[e1]at mr;cases mr
   |some cd=>rfl
  rw[cs,ty,Az (by simp),su]
def spH(K:Fg)(CL:ClA)(n:Ag)(fr:Ak)(F:Ac D->R D):Sp:=λvs H Q _=>∃(ds:Ac D)(A:Al->Prop),vs.length=n/\AOk H A/\Reps K CL H A vs ds/\(match F ds with
  |.ok d=>∀ v H',AJ H H'->D4 K CL fr H A H' v d->Q v H'
  |.exn _=>A3
  | .bad=>A3)
section
variable{X:Cx}{CL:ClA}{ev:Al}
theorem UM{f:Al}{E:XK}{e:An}{es:Ac An}{t:TA}(F:HotOk X.prog X.w X.K X.mg X.base k f fd ps sp)(hr:Room k X.A)(hg:Gl X x)(hm:X.mg x=Aa (.ref f))(hk:Co X.K (.ref f)=Ab)(hb:Ge X.K fd ps [])(ha:PA (Cx.hot X ev) (e::es) t)(hdb:(x==("__debug__" : Aj))=Ad)(he:Aw (e::es) X.env=(Ad,eval e X.env)::Aw es X.env)(hpl:(Cj pos (Aw es X.env)).any (·.1)=Ad):PE (Cx.hot X ev) (.Call (.Name x p) (e::es) [] pos) (λZ H Q=>t Z H λvs H1=>sp vs H1 Q E):=by
 intro pI s Z H Q I h;refine EQ (Kb (X:=Cx.hot X ev) I hg hm ?_ hdb);refine Ht (h₀:=X.base) I.ok.mod.kin hk (thn (ha pos pI s Z H _ I h) λus s1 ⟨vs,H1,I1,r,q⟩=>⟨I1.kIn,?_⟩) he hpl
 have hl:us.length=ps.length:=by rw[<-r.length];exact F.len _ _ _ _ q
 have hb':GJ s1 fd ⟨us,[]⟩ (ps.zip us):=by
  have:=hb s1 us I1.kIn (by rw[CT];exact hl)
  rw[CT]at this;exact this
 refine GV (FV (F.run X.A ev X.stack s1 H1 ⟨us,[]⟩ us vs Q E hr I1.env0 hb' r q) λr s' hq=>?_)
 cases r with
 |error e=>exact Bs hq
 |ok fl=>
  cases fl with
  |ret u=>exact I1.after hq
  |next=>exact Bs hq
  |brk=>exact Bs hq
  |cont=>exact Bs hq
theorem iT{k n:Ag}{f:Al}{e:An}{es:Ac An}{fs ft:Rho->R (Ac D)}{sh:Rho->Ak}(G:HotOk X.prog X.w X.K X.mg X.base k f fd ps (spH X.K CL n fr F))(hr:Room k X.A)(hg:Gl X x)(hm:X.mg x=Aa (.ref f))(hk:Co X.K (.ref f)=Ab)(hb:Ge X.K fd ps [])(ha:SA (Cx.hot X ev) CL (λ_ _=>A3) (e::es) fs)(hat:SAT (Cx.hot X ev) CL (λ_ _=>A3) (e::es) ft)(hst:∀ Y,sh Y=Ab->ft Y=fs Y)(hn:∀ Y ds,ft Y=.ok ds->ds.length=n)(hdb:(x==("__debug__" : Aj))=Ad)(he:Aw (e::es) X.env=(Ad,eval e X.env)::Aw es X.env)(hpl:∀ pos,(Cj pos (Aw es X.env)).any (·.1)=Ad):SC (Cx.hot X ev) CL (λ_ _=>A3) fr (.Call (.Name x p) (e::es) [] pos) (λY=>(ft Y).bind λds=>(F ds).bind λd=>if sh Y=Ab then .ok d else if Gi fr d=Ab then .ok d else .bad):=λA pI s Z H Q I ⟨hA,Y,gd,q⟩=>by
 dsimp only at q;by_cases hs:sh Y=Ab
 .rw[hst Y hs]at q;refine UM (E:=λ_ _ _=>A3) G hr hg hm hk hb (ha A) hdb he (hpl _) pI s Z H Q I ⟨hA,Y,gd,?_⟩
  cases e1:fs Y with
  |bad=>rw[e1]at q;exact q
  |exn y=>rw[e1]at q;exact q
  |ok ds=>
   rw[e1]at q;intro vs H1 s1 r1;refine⟨ds,A,by rw[r1.length];exact hn Y ds (by rw[hst Y hs];exact e1),hA.same s1,r1,?_⟩
   have q':Bv (D4 X.K CL fr H A) (λ_ _=>A3) H ((F ds).bind λd=>if sh Y=Ab then .ok d else if Gi fr d=Ab then .ok d else .bad) Q:=q
   cases e2:F ds with
   |ok d=>
    rw[e2,R.bind_ok,Az hs]at q';exact λv H2 s2 r2=>q' v H2 (s1.trans s2) ⟨r2.1,λz ds' e'=>let ⟨a,xs,z1,z2,z3⟩:=r2.2 z ds' e';⟨a,xs,z1,s1.free z2,z3⟩⟩
   |exn y=>rw[e2]at q';exact(q' H (AJ.refl H)).elim
   |bad=>rw[e2]at q';exact q'.elim
 .refine UM (E:=λ_ _ _=>A3) G hr hg hm hk hb (hat A) hdb he (hpl _) pI s Z H Q I ⟨hA,Y,gd,?_⟩
  cases e1:ft Y with
  |bad=>rw[e1]at q;exact q
  |exn y=>rw[e1]at q;exact q
  |ok ds=>
   rw[e1]at q;intro vs H1 s1 r1;refine⟨ds,A0,by rw[r1.plain.length];exact hn Y ds e1,λ_ z=>z.elim,r1.plain,?_⟩
   have q':Bv (D4 X.K CL fr H A) (λ_ _=>A3) H ((F ds).bind λd=>if sh Y=Ab then .ok d else if Gi fr d=Ab then .ok d else .bad) Q:=q
   cases e2:F ds with
   |ok d=>
    rw[e2,R.bind_ok,AK hs]at q';split at q'
    .rename_i hc;exact λv H2 s2 r2=>q' v H2 (s1.trans s2) (Rb hA (s1.trans s2) hc ⟨r2.1,λz ds' e'=>let ⟨a,xs,z1,z2,z3⟩:=r2.2 z ds' e';⟨a,xs,z1,s1.free z2,z3⟩⟩)
    .exact q'.elim
   |exn y=>rw[e2]at q';exact(q' H (AJ.refl H)).elim
   |bad=>rw[e2]at q';exact q'.elim
theorem nJ{t:An}{xs ys:Ac AW}{fc:Rho->R Ak}{fx fy:Rho->O}(hc:∀ pI Xw,FU (model X.prog X.w) X.A X.env Xw->SB (Cx.pw X pI Xw) CL (λ_ _=>A3) t fc)(hnx:∀ Y y,fc Y≠.exn y)(hx:STB X CL xs fx)(hy:STB X CL ys fy):STB X CL [.If t xs ys pos] (λY=>O.of Y (fc Y) λb=>if b=Ab then fx Y else fy Y):=by
  intro Fz B pI s Z H D Y Xw own I sx q hρ;dsimp only at q hρ;cases ec:fc Y with
  |bad=>rw[ec]at q;exact q.elim
  |exn y=>exact absurd ec (hnx Y y)
  |ok b=>
    rw[ec]at q hρ;have key:=hc pI Xw own (Cb B Y Z) [] s Z H (λb' H'=>b'=b/\AJ H H') (M5 I Xw) ⟨sx.aok,Y,sx.good,by rw[ec];exact λH' sm=>⟨rfl,sm⟩⟩
    refine Ib (thn (wpAny_If (Q:=SP X pI D) (thn key λb' s1 ⟨H1,I1,e,sm⟩=>?_)) (λf s1 z=>by
      cases f with
      |next=>exact FQ z
      |ret v=>exact z
      |brk=>exact z
      | cont=>exact z))
    subst e;have J_:=Lz I.ok I1;have up:∀{y:Ex},K4 X CL pI Z H y Xw->K4 X CL pI Z H1 y Xw:=λ{y} w s' H' e T cls dx a1 a2=>w s' H' e T cls dx a1 (sm.trans a2)
    have lift:∀{o:O},(match o with
       |.exn y Y'=>Y'=Y->K4 X CL pI Z H y Xw
       |o=>Cp X.K CL Fz B (λ_ _=>A3) o D)->(match o with
       |.exn y Y'=>Y'=Y->K4 X CL pI Z H1 y Xw
       | o=>Cp X.K CL Fz B (λ_ _=>A3) o D):=λ{o} z=>by
      cases o with
      |exn y Y'=>exact λe=>up (z e)
      |next _=>exact z
      |ret _ _=>exact z
      |brk _=>exact z
      |cont _=>exact z
      |bad=>exact z
    cases b' with
    |true=>exact hx Fz B pI s1 Z H1 D Y Xw own J_ (sx.grow sm) (lift q) hρ
    |false=>exact hy Fz B pI s1 Z H1 D Y Xw own J_ (sx.grow sm) (lift q) hρ
end
section
variable{M:Hn}{A:A6}{E:Vq}{s:Ar}{env:CI}{nm q:Aj}{C N:Al}{bs bm bmB:Ac Ai}{hdct:Ak}{sn:Ac Aj}{sub:Ac Ai}{ab:Ak}{col:Ao Ak}{dd:Ao Al}{k0 k1 k2 k3 k5:Ao Ai}{B newId initId:Dy}
theorem pZ{x:Hc Ai}{Q:Flow->Ar->Prop}(hb:bm.contains (.type "BaseException")=Ab)(hh:A.handled=Af)(h:Au M A x (λv s'=>∃ e t dx,v=.ref e/\s'.heap.get? C=Aa (CJ nm q C N bs bm hdct sn sub ab col dd k0 k1 k2 k3 k5 newId)/\s'.heap.get? e=Aa (GD C dx t)/\E (.ref e) s') E s):Au M A (raiseStmt env (Aa x) Af) Q E s:=by
 have hB:(BQ C::bm).contains (.type "BaseException")=Ab:=by rw[Hq,hb,JP]
 unfold raiseStmt;refine Ah (Bu h (λv s' z=>?_) λ_ _ z=>z)
 obtain⟨e,t,dx,rfl,gC,ge,hE⟩:=z;obtain⟨hp,g,d,tk,os⟩:=s';unfold GD at ge
 repeat (first|(with_reducible refine Cz ge ?_)|(with_reducible refine Cz gC ?_)|(with_reducible refine FC gC ?_;rw[hB])|wp_step)
 exact wpAny_raiseNew_none hh hE
end
section
variable{prog:AS}{w:AF}{A:A6}{E:Vq}{h:AB}{g:A9 ET}{d:IG}{t:Ag}{os:HN}
variable{nm q:Aj}{C N fI:Al}{bs bm bmB:Ac Ai}{hdct:Ak}{sn:Ac Aj}{sub:Ac Ai}{ab:Ak}{col:Ao Ak}{dd:Ao Al}{k0 k1 k2 k3 k5:Ao Ai}{B newId initId:Dy}{mN:Aj->Ao Ai}{rest:Ac Ai}{oI:C4}
theorem nY{Q:Fin->Ar->Prop}(F:HZ B newId initId bmB)(T:Eo h bmB bm)(gC:h.get? C=Aa (CJ nm q C N bs bm hdct sn sub ab col dd k0 k1 k2 k3 k5 newId))(hn:h.Ns N mN)(hi:mN "__init__" = Aa (.ref fI))(gI:h.get? fI=Aa oI)(cI:oI.cls=.type "function")(hl:rest.length<=sizeLine)(hq:∀ h' e,Je h h' e (.ref C) rest->Au (model prog w) A (call (.ref fI) (.ref e::rest)) (λr s'=>r=.none/\Q (.done (.ret (.ref e))) s') E ⟨h',g,d,t,os⟩):Au (model prog w) A (Builtin.«type.__call__» ⟨.ref C::rest,[]⟩) Q E ⟨h,g,d,t,os⟩:=by
 repeat (first|(with_reducible refine Cz gC ?_)|(with_reducible refine wpAny_madeBy_exc gC ?_)|wp_step)
 refine codeAny_call_builtin_code (Hs _ F.quiet) (wpAny_check_new_subT F T gC (codeAny_exc_new_subT F T gC ?_ hl));show Au _ _ _ _ _ _;have kp:∀ b o,h.get? b=Aa o->((h.push { cls:=.type "tuple",data:=.seq rest.toArray }).push {cls:=.ref C,data:=.fields #[.ref h.objs.size,.none,.none,.none,.bool Ad,.none]}).get? b=Aa o:=λb o z=>As _ (As _ z)
 have ge:((h.push { cls:=.type "tuple",data:=.seq rest.toArray }).push {cls:=.ref C,data:=.fields #[.ref h.objs.size,.none,.none,.none,.bool Ad,.none]}).get? (h.objs.size+1)=Aa {cls:=.ref C,data:=.fields #[.ref h.objs.size,.none,.none,.none,.bool Ad,.none]}:=by heap_get
 have gt:((h.push { cls:=.type "tuple",data:=.seq rest.toArray }).push {cls:=.ref C,data:=.fields #[.ref h.objs.size,.none,.none,.none,.bool Ad,.none]}).get? h.objs.size=Aa { cls:=.type "tuple",data:=.seq rest.toArray }:=As _ (Z_1 rfl rfl);generalize (h.push { cls:=.type "tuple",data:=.seq rest.toArray }).push {cls:=.ref C,data:=.fields #[.ref h.objs.size,.none,.none,.none,.bool Ad,.none]}=h2 at *;have gC2:=kp _ _ gC;have gI2:=kp _ _ gI;have hn2:h2.Ns N mN:=let ⟨o,es,ep,z,r⟩:=hn;⟨o,es,ep,kp _ _ z,r⟩
 have T2:=T.keeps (h':=h2) kp;have cC:(BQ C::bm).contains (.ref C)=Ab:=by simp
 unfold HL
 repeat (first|(with_reducible refine Cz ge ?_)|(with_reducible refine FC gC2 ?_;rw[cC])|wp_step)
 show Au _ _ (Jp (.ref C) _) _ _ _;refine wpAny_typeLookup_tail gC2 hn2 T2 F.mroIs F.init.lookup ?_;rw[hi];refine BV (Ah ?_);unfold bindSpecial;refine Ah (wpAny_typeOf (T := "function") ⟨_,gI2,cI⟩ ?_);rw[Az (by decide)]
 refine Av (Ah (Bu (hq h2 (h.objs.size+1) ⟨kp,DN (YY _),h.objs.size,ge,DN (A5 _),gt⟩) (λr s' z=>?_) λ_ _ z=>z))
 obtain⟨rfl,z⟩:=z
 wp_walk
 exact z
theorem nZ{Q:Vq}(F:HZ B newId initId bmB)(T:Eo h bmB bm)(gC:h.get? C=Aa (CJ nm q C N bs bm hdct sn sub ab col dd k0 k1 k2 k3 k5 newId))(hn:h.Ns N mN)(hi:mN "__init__" = Aa (.ref fI))(gI:h.get? fI=Aa oI)(cI:oI.cls=.type "function")(hl:rest.length<=sizeLine)(hq:∀ h' e,Je h h' e (.ref C) rest->Au (model prog w) (A.under (.builtin "type.__call__" ⟨.ref C::rest,[]⟩)) (call (.ref fI) (.ref e::rest)) (λr s'=>r=.none/\Q (.ref e) s') E ⟨h',g,d,t,os⟩):Au (model prog w) A (call (.ref C) rest) Q E ⟨h,g,d,t,os⟩:=by
 have l1:=tc_lookup;have l2:=tc_bind (.ref C);have ty:(⟨h,g,d,t,os⟩:Ar).TypeIs (.ref C) "type" := ⟨_,gC,rfl⟩;refine GV (bF ?_);show Au _ _ (callAny (.ref C) _) _ _ _
 repeat (any_goals (first|assumption|(with_reducible refine Cz gC ?_)|wp_step))
 refine⟨rfl,codeAny_call_builtin_at (Hs _ (by decide+kernel)) entry_typeCall (wpAny_check_type_call_sub gC (nY F T gC hn hi gI cI hl λh' e m=>?_))⟩
 exact hq h' e m
end
section
variable{prog:AS}{w:AF}{A:A6}{E:Vq}{s:Ar}{env:CI}
variable{nm q:Aj}{C N fI:Al}{bs bm bmB:Ac Ai}{hdct:Ak}{sn:Ac Aj}{sub:Ac Ai}{ab:Ak}{col:Ao Ak}{dd:Ao Al}{k0 k1 k2 k3 k5:Ao Ai}{B newId initId:Dy}{mN:Aj->Ao Ai}
theorem jH{Q:Flow->Ar->Prop}{args:Ac An}(F:HZ B newId initId bmB)(hb:bm.contains (.type "BaseException")=Ab)(hh:A.handled=Af)(hp:(Cj cpos (Aw args env)).any (·.1)=Ad)(hi:mN "__init__" = Aa (.ref fI))(h:Au (model prog w) A (eval (.Name x np) env) (λf s1=>f=.ref C/\Au (model prog w) A (evalArgs (.ref C) Ab (Cj cpos (Aw args env)) [])
   (λa s2=>a.kw=[]/\a.pos.length<=sizeLine/\s2.heap.get? C=Aa (CJ nm q C N bs bm hdct sn sub ab col dd k0 k1 k2 k3 k5 newId)/\s2.heap.Ns N mN/\Eo s2.heap bmB bm/\(∃ oI,s2.heap.get? fI=Aa oI/\oI.cls=.type "function") /\
    ∀ h' e,Je s2.heap h' e (.ref C) a.pos->Au (model prog w) (A.under (.builtin "type.__call__" ⟨.ref C::a.pos,[]⟩)) (call (.ref fI) (.ref e::a.pos)) (λr s'=>r=.none/\∃ t dx,s'.heap.get? C=Aa (CJ nm q C N bs bm hdct sn sub ab col dd k0 k1 k2 k3 k5 newId)/\s'.heap.get? e=Aa (GD C dx t)/\E (.ref e) s') E {s2 with heap:=h'}) E s1) E s):Au (model prog w) A (exec (.Raise (Aa (.Call (.Name x np) args [] cpos)) Af pos) env) Q E s:=by
 rw[arm_exec_Raise]
 try simp only[evalOpt,F0]
 refine Ah (Ee (pZ (nm:=nm) (q:=q) (C:=C) (N:=N) (bs:=bs) (bm:=bm) (hdct:=hdct) (sn:=sn) (sub:=sub) (ab:=ab) (col:=col) (dd:=dd) (k0:=k0) (k1:=k1) (k2:=k2) (k3:=k3) (k5:=k5) (newId:=newId) hb hh ?_));refine Ah (Bu (wpAny_Call_ofName (Bu h (λf s1 z=>?_) λ_ _ z=>z)) (λv s3 z=>Ah (Ee (Av z))) λ_ _ z=>z)
 obtain⟨rfl,z⟩:=z;unfold callWith;refine Ah (BV (Bu z (λa s2 y=>Ah (Ee ?_)) λ_ _ y=>y))
 obtain⟨us,kw⟩:=a;obtain⟨hk,hl,gC,hn,T,⟨oI,gI,cI⟩,k⟩:=y;obtain rfl:kw=[]:=hk;obtain⟨hp2,g,d,tk,os⟩:=s2;simp only[hp];refine Ah (wpAny_keeperOf_exc gC (Ah (nZ F T gC hn hi gI cI hl λh' e m=>Bu (k h' e m) (λr s' y=>?_) λ_ _ y=>y)))
 obtain⟨rfl,t,dx,c1,c2,c3⟩:=y;exact⟨rfl,Ah (BV (wpAny_point (Av ⟨e,t,dx,rfl,c1,c2,c3⟩)))⟩
end
section
variable{prog:AS}{w:AF}{A:A6}{E:Vq}{h:AB}{g:A9 ET}{d:IG}{tk0:Ag}{os:HN}
variable{nm q:Aj}{C N e t:Al}{dx:Ao Al}{bs bm bmB:Ac Ai}{hdct:Ak}{sn:Ac Aj}{sub:Ac Ai}{ab:Ak}{col:Ao Ak}{dd:Ao Al}{k0 k1 k2 k3 k5:Ao Ai}{B newId initId:Dy}
theorem vT{Q:Vq}(F:HZ B newId initId bmB)(T:Eo h bmB bm)(gC:h.get? C=Aa (CJ nm q C N bs bm hdct sn sub ab col dd k0 k1 k2 k3 k5 newId))(ge:h.get? e=Aa (GD C dx t))(hq:∀ h' t',(∀ b o,b≠e->h.get? b=Aa o->h'.get? b=Aa o)->h'.get? e=Aa (GD C dx t')->Q .none ⟨h',g,d,tk0,os⟩):Au (model prog w) A (call (.builtin initId) [.ref e,.str z tk]) Q E ⟨h,g,d,tk0,os⟩:=by
 refine GV (Em F.init.plain F.initEntry (wpAny_check_init_subT F T gC ge rfl ?_));unfold GD at ge
 wp_walk
 refine hq _ h.objs.size (λb o nb z=>(B7 _ _ (DR nb)).trans (As _ z)) ?_
 rw[BW _ (As _ ge) rfl];rfl
end
noncomputable def xbd:Ag->Ag
 |0=>4
 |n+1=>8*xbd n+19
theorem rE:∀ n:Fin 100,(By (toString ((n.val:Ag):Ae))).length<=4:=by decide+kernel
theorem Xd{α:Type}(f:α->Ag){m:Ag}:∀ l:Ac α,(∀ x∈l,f x<=m)->(l.map f).sum<=l.length*m
 |[],_=>by simp
 |x::l,h=>by
  have h1:=h x AX;have h2:=Xd f l λy hy=>h y (AN _ hy)
  rw[C3,List.sum_cons,BY,Nat.succ_mul];omega
section
variable{X:Cx}{CL:ClA}{pI:Pn}{Z:L2.St}{H:Hp}{s:Ar}
structure Shw (h:AB) (n:Ag) (u:Ai) (pd:K9):Prop where
 rd:Reads h u pd []
 sh:pd.showable=Ab
 nd:pd.hasDict=Ad
 dp:pd.depth<=n
 ln:pd.shown.length<=xbd n
inductive ShwA (h:AB) (n:Ag):Ac Ai->Ac K9->Prop where
 |nil:ShwA h n [] []
 |cons {u:Ai} {pd:K9} {us:Ac Ai} {pds:Ac K9}:Shw h n u pd->ShwA h n us pds->ShwA h n (u::us) (pd::pds)
theorem VJ{h:AB}{n:Ag}:∀{us:Ac Ai}{pds:Ac K9},ShwA h n us pds->ReadsAll h us pds []/\Z_9 pds=Ab/\Z_8 pds=Ad/\IH pds<=n/\(∀ t∈Ea pds,t.length<=xbd n)/\(Ea pds).length=us.length
 |[],[],_=>⟨.nil,rfl,rfl,Gn _,(λ_ h=>nomatch h),rfl⟩
 |u::us,pd::pds,.cons h1 h2=>by
  obtain⟨a,b,c,d,e,f⟩:=VJ h2;refine⟨.cons h1.rd a,?_,?_,?_,?_,?_⟩
  .show (pd.showable&&Z_9 pds)=Ab;rw[h1.sh,b];rfl
  .show (pd.hasDict||Z_8 pds)=Ad;rw[h1.nd,c];rfl
  .show max pd.depth (IH pds)<=n;exact Nat.max_le.mpr ⟨h1.dp,d⟩
  .intro t ht;rcases Ax.mp ht with rfl|ht
   .exact h1.ln
   .exact e t ht
  .show (Ea pds).length+1=us.length+1;rw[f]
theorem bu(I:Inv X pI Z H s):∀(n:Ag){d:D}{v:V}{u:Ai},xfD n d=Ab->Rep X.K CL H A v d->BS v u->∃ pd,Shw s.heap n u pd:=by
 intro n
 induction n with
 |zero=>
  intro d v u hx r rv;cases d with
  |int i=>
   have e:v=.int i:=r;subst e;obtain⟨t,rfl⟩:=rv;simp only[xfD,Am,AO]at hx;refine⟨.int i,.int i t,?_,rfl,A5 _,?_⟩
   .show decide (i.natAbs.log2<1920)=Ab;refine CS (DF (Nat.log2_le_self _) (by omega))
   .have:=rE ⟨i.toNat,by omega⟩
    rw[show ((i.toNat:Ag):Ae)=i by omega]at this
    exact this
  |_=>exact absurd (show Ad=Ab from hx) AG
 |succ n ih0=>
  intro d v u hx r rv;cases d with
  |tup ds=>
   obtain⟨a,xs,rfl,_,sq,rs⟩:=r;cases rv;obtain⟨its,vs,⟨o,ho,hc,m,hd⟩,hz⟩:=I.tuple sq;simp only[xfD,Am,Ce]at hx;have key:∀{xs:Ac V}{ds:Ac D}{its:Ac Ai},(∀ d∈ds,xfD n d=Ab)->Reps X.K CL H A xs ds->Bq xs its->∃ pds,ShwA s.heap n its pds:=λ{xs}=>by
    induction xs with
    |nil=>
     intro ds its _ rs vs;cases vs;exact⟨[],.nil⟩
    |cons x xs ih=>
     intro ds its hd rs vs;cases ds with
     |nil=>exact rs.elim
     |cons d ds=>
      cases vs with
      |cons v1 v2=>
       obtain⟨pd,h1⟩:=ih0 (hd d AX) rs.1 v1;obtain⟨pds,h2⟩:=ih (λe he=>hd e (AN _ he)) rs.2 v2
       exact⟨pd::pds,.cons h1 h2⟩
   obtain⟨pds,hf⟩:=key hx.2 rs vs;obtain⟨p1,p2,p3,p4,p5,p6⟩:=VJ hf;have l8:its.length<=8:=by
    have h8:=Nat.ble_eq.mp hx.1;rw[<-vs.length,rs.length];exact h8
   refine⟨.tuple pds,.tuple ho hc hd (by simpa using p1),p2,p3,?_,?_⟩
   .show IH pds+1<=n+1;omega
   .show (tupleText (Ea pds)).length<=8*xbd n+19;have h1:=tupleText_len_le (Ea pds);have h2:=Xd (λt:Aj=>t.length) (Ea pds) p5
    have h3:(Ea pds).length*xbd n<=8*xbd n:=Nat.mul_le_mul_right _ (by omega)
    omega
  |_=>exact absurd (show Ad=Ab from hx) AG
end
section
variable{X:Cx}{CL:ClA}
def tFs(K:Fg)(CL:ClA)(i:Ag):TE:=λZ H Q=>∃ v d A n,Z[i]?=Aa (Aa v)/\Rep K CL H A v d/\xfD (n+1) d=Ab/\n<=1/\∀ t:Aj,Q (.str t) H
theorem pU{e:An}{i:Ag}{p2 p3:AL}(hu:X.A.units+64<CG)(hg:X.A.guards=Aa [])(hz:z.length<=1000)(he:PE X e (G4 i)):PE X (.JoinedStr [.FormattedValue e (-1) Af p1,.Constant (.str z) k p2] p3) (tFs X.K CL i):=by
 intro pI s Z H Q I ⟨v,d,A,n,hv,r,hx,hn,q⟩;refine wpAny_JoinedStr ?_;show Au (model X.prog X.w) X.A (eval (.FormattedValue e (-1) Af p1) X.env) (λv s1=>∃ y t,v=.str y t/\(JV++y).length<=sizeLine/\Joins (model X.prog X.w) X.A X.xe [eval (.Constant (.str z) k p2) X.env] (JV++y) _ s1) X.xe s
 refine wpAny_FormattedValue_plain (thn (he pI s Z H (λx H1=>x=v/\H1=H) I ⟨v,hv,rfl,rfl⟩) λu s1 ⟨x,H1,I1,r1,e1,e2⟩=>?_)
 subst e1 e2;have zl:sizeLine ≥ 2000:=by decide
 obtain⟨pd,sw⟩:=bu I1 (n+1) hx r r1;cases d with
 |tup ds=>
  obtain⟨a,xs,rfl,_,sq,rs⟩:=r;cases r1;have xb:xbd (n+1)<=500:=by
   have:n=0\/n=1:=by omega
   rcases this with rfl|rfl<;>decide
  have ln:=sw.ln;have dp:=sw.dp;refine formatField_of_reads sw.rd sw.sh (λz=>by rw[sw.nd]at z;cases z) hg (by omega) (λ_ _ z=>z) (λh' tk1 tk2 kp=>?_) (by omega)
  have l0:(JV++pd.shown).length<=500:=by
   rw[strLen_append];have:Str.empty.length=0:=rfl;omega
  refine⟨pd.shown,tk1,rfl,by omega,?_⟩
  have I2:Inv X pI Z H1 {s1 with heap:=h',toks:=tk2}:=I1.kept kp
  show Au (model X.prog X.w) X.A (eval (.Constant (.str z) k p2) X.env) _ X.xe {s1 with heap:=h',toks:=tk2}
  refine thn (WU (X:=X) pI _ Z H1 (λx H2=>x=.str z/\H2=H1) I2 ⟨rfl,rfl⟩) λu2 s2 ⟨x2,H2,I3,r3,e3,e4⟩=>?_
  subst e3 e4;obtain⟨t3,rfl⟩:=r3;have l1:(JV++pd.shown++z).length<=sizeLine:=by
   rw[strLen_append];omega
  exact⟨z,t3,rfl,l1,l1,⟨.str _,H2,I3.tok _,⟨_,rfl⟩,q _⟩⟩
 |_=>cases hx
end
def XEx(e C:Al)(dx:Ao Al)(t:Al):AB->Prop:=λh=>h.get? e=Aa (GD C dx t)
theorem Q6{e C:Al}{t:Al}:∀ h1 h2:AB,XEx e C dx t h1->(∀ o,h1.get? e=Aa o->h2.get? e=Aa o)->XEx e C dx t h2:=λ_ _ p k=>k _ p
section
variable{X:Cx}{CL:ClA}{C:Al}{nm q:Aj}{N:Al}{bs bm:Ac Ai}{hdct:Ak}{sn:Ac Aj}{sub:Ac Ai}{ab:Ak}{col:Ao Ak}{dd:Ao Al}{k0 k1 k2 k3 k5:Ao Ai}
theorem lG{apos:AL}{es ej:An}{i j:Ag}(hob:∀ h:AB,X.K.In h->h.get? C=Aa (CJ nm q C N bs bm hdct sn sub ab col dd k0 k1 k2 k3 k5 "ValueError.__new__")/\Eo h veB bm)(hg:Gl X g)(hm:X.mg g=Aa (.ref OV))(hdb:(g==("__debug__" : Aj))=Ad)(s1:EZ X.K (.ref OV) "__getattribute__" = Aa (Aa (.builtin "type.__getattribute__")))(s2:FP X.K OV (.type "type")=Ab)(s3:FO X.K (.ref OV) (.type "type") "__init__" = Aa (.val (.builtin "ValueError.__init__")))(hline:(apos.endLine==cpos.line)=Ab)(he:PE X es (G4 i))(hj:PE X ej (tFs X.K CL j))(sA:Aw [es,ej] X.env=(Ad,eval es X.env)::Aw [ej] X.env)(sB:Aw [ej] X.env=[(Ad,eval ej X.env)]):
  PE X (.Call (.Attribute (.Name g np) "__init__" apos) [es,ej] [] cpos) (λZ H Q=>∃ e dx t v d A n,Z[i]?=Aa (Aa (.ref e))/\H e=Aa (.ext (XEx e C dx t))/\Z[j]?=Aa (Aa v)/\Rep X.K CL H A v d/\xfD (n+1) d=Ab/\n<=1/\∀ t',Q .non (upd H e (.ext (XEx e C dx t')))):=by
 have st1:Aw [es,ej] X.env=[(Ad,eval es X.env),(Ad,eval ej X.env)]:=by rw[sA,sB]
 intro pI s Z H Q I ⟨e,dx,t,v,d,A,n,h1,h2,h3,r,hx,hn,hq⟩;rw[arm_eval_Call];refine Ah (show Au (model X.prog X.w) X.A (eval (.Name g np) X.env) _ X.xe s from Kb I hg hm ?_ hdb)
 refine Ah (Ee ?_);have form:methodCallForm ([es,ej].length+([]:Ac F2).length) (Cj cpos (Aw [es,ej] X.env)) (Mu cpos (Kz [] X.env))=Ab:=by
  rw[st1];rfl
 have mpos:methodCallPos Ab (.Name g np) X.env apos cpos=pure cpos:=by
  unfold methodCallPos;simp[hline]
 unfold methodCall;rw[form];refine Ah (BV (PySem.W.method_cls I.kIn s1 (PySem.W.cls_value I.kIn s2 s3 rfl ?_)));refine Ah (IN mpos ?_);have I1:=I.tok (s.toks+1);have pa:PA X [es,ej] _:=EA he (EA hj GZ sB) sA;have hA:=pa cpos pI {s with toks:=s.toks+1} Z H (λxs H'=>H'=H/\∃ z,xs=[.ref e,.str z]) I1 ⟨_,h1,⟨v,d,A,n,h3,r,hx,hn,λz=>⟨rfl,z,rfl⟩⟩⟩
 rw[st1]at hA ⊢;refine Zh rfl (Fi (thn hA λus s2 ⟨xs,H2,I2,rv,e2,z,ex⟩=>?_))
 subst e2 ex;obtain⟨u1,u2,rfl,ru1,ru2⟩:=M7 rv;cases ru1;obtain⟨tk,rfl⟩:=ru2;obtain⟨gC,T⟩:=hob _ I2.kIn;have ge:XEx e C dx t s2.heap:=(I2.hok e _ h2).1;obtain⟨hp,g2,d2,tk2,os2⟩:=s2;refine vT Fu T gC ge λh' t' kp ge'=>?_
 refine⟨.non,_,I2.write (x:=e) (e:=e) (o:=.ext (XEx e C dx t')) (t':=tk2) (by rw[h2];exact trivial) (.inl rfl) kp ⟨_,ge'⟩ ⟨ge',⟨_,ge'⟩,Q6⟩,rfl,hq t'⟩
end
theorem fB{bmB bm:Ac Ai}(T:Eo h bmB bm){self:Ai}{what:Aj}(hb:refuseLoop self what bmB=pure ()):refuseLoop self what bm=pure ():=by
 induction T with
 |base=>exact hb
 |own _ _ _ _ ih=>rw[bK];exact ih
section
variable{prog:AS}{w:AF}{A:A6}{E:Vq}{h:AB}{g:A9 ET}{d:IG}{tk0:Ag}{os:HN}{K:Fg}
variable{nm q:Aj}{C N e t:Al}{bs bm bmB:Ac Ai}{sn:Ac Aj}{sub:Ac Ai}{ab:Ak}{col:Ao Ak}{dd:Ao Al}{k0 k1 k2 k3 k5:Ao Ai}{B newId sa owner:Dy}
theorem oC{Q:Fin->Ar->Prop}{v:Ai}(X:K.In h)(SF:Lb B bmB sa owner)(T:Eo h bmB bm)(gC:h.get? C=Aa (CJ nm q C N bs bm Ab sn sub ab col dd k0 k1 k2 k3 k5 newId))(hf:AR K (.ref C) name=Aa Af)(ge:h.get? e=Aa (GD C Af t))(hq:∀ h' dx tk',(∀ b o,b≠e->h.get? b=Aa o->h'.get? b=Aa o)->h'.get? e=Aa (GD C (Aa dx) t)->h.get? dx=Af->h'.Ns1 dx (λy=>if y=name then Aa v else Af)->Q (.done (.ret .none)) ⟨h',g,d,tk',os⟩):Au (model prog w) A (Builtin.«object.__setattr__» ⟨[.ref e,.str name tk,v],[]⟩) Q E ⟨h,g,d,tk0,os⟩:=by
  have pass:=fB T (SF.passes (.ref e));have L1:=CZ (M:=model prog w) X hf;obtain⟨o,ho⟩:∃ o,GD C Af t=o:=⟨_,rfl⟩;rw[ho]at ge;have oc:o.cls=.ref C:=by rw[<-ho];rfl
  unfold Builtin.«object.__setattr__»
  repeat (first|rw[refuse_eq]|(rw[bK,pass])|(with_reducible refine Cz ge ?_;rw[oc])|(with_reducible refine wpAny_mroOf_exc gC ?_)|(with_reducible refine L1.at ?_)|(with_reducible refine Ah (L1.at ?_))|wp_step)
  have od:o.dict=Af:=by rw[<-ho];rfl
  have odt:o.data=.fields #[.ref t,.none,.none,.none,.bool Ad,.none]:=by rw[<-ho];rfl
  rw[od,odt,AK (by simp[typeHasDict])]
  let D:C4:={ cls:=.type "dict",data:=.dict #[] }
  have g1:(h.push D).get? e=Aa o:=As _ ge;have ne:e≠h.objs.size:=Bk (AD ge);refine Ah (wpAny_alloc' ?_);refine Ah (wpAny_update' g1 ?_);refine Av ?_
  let U:C4->C4:=λo=>{cls:=o.cls,dict:=Aa h.objs.size,data:=o.data,slots:=o.slots}
  have gD:((h.push D).update e U).get? h.objs.size=Aa D:=(Z_4 _ _ _ _ ne.symm).trans (Z_1 rfl rfl);have nD:((h.push D).update e U).Ns h.objs.size (λ_=>Af):=⟨_,#[],_,gD,rfl,λz hz=>absurd hz (by simp),λ_=>rfl⟩
  change Au _ _ (Ze h.objs.size (.str name tk) name v) _ _ _;unfold Ze Builtin.ObjectAttr.newKeyGuard;refine Ah (Av (Ah (wpAny_nsSet1 (Heap.Ns1.of_empty nD) λk hk hs=>?_)))
  obtain⟨oD,eD,pD,q1,q2,q3⟩:=hk.count (Within.cons name v Within.nil);have le:oD.data.pastItsLine=Af:=by
    rw[q2];refine pastItsLine_dict (Ci q3 ?_);rw[BY,List.length_nil,Dx];omega
  refine Ah (wpAny_lookBehind q1 le ?_)
  wp_walk
  refine hq k h.objs.size _ (λb ob nb hb=>?_) ?_ (DN (A5 _)) hk
  · rw[hs.2 b (Bk (AD hb)),Z_4 _ _ _ _ nb];exact As _ hb
  · rw[hs.2 e ne];have:Aa (GD C (Aa h.objs.size) t)=Aa (U o):=by rw[<-ho];rfl
    rw[this];exact BW _ g1 (by rw[<-ho];rfl)
end
section
variable{prog:AS}{w:AF}{A:A6}{E:Vq}{h:AB}{g:A9 ET}{d:IG}{tk0:Ag}{os:HN}{K:Fg}
variable{nm q:Aj}{C N e t:Al}{bs bm bmB:Ac Ai}{sn:Ac Aj}{sub:Ac Ai}{ab:Ak}{col:Ao Ak}{dd:Ao Al}{k0 k1 k2 k3 k5:Ao Ai}{B newId sa owner:Dy}
theorem oE{o:C4}{a b:Ai}(SF:Lb B bmB sa owner)(T:Eo h bmB bm)(gC:h.get? C=Aa (CJ nm q C N bs bm Ab sn sub ab col dd k0 k1 k2 k3 k5 newId))(ge:h.get? e=Aa o)(hc:o.cls=.ref C)(hq:Q () ⟨h,g,d,tk0,os⟩):Au M A (Ez sa ⟨[.ref e,a,b],[]⟩) Q E ⟨h,g,d,tk0,os⟩:=by
 have hb:(BQ C::bm).contains (.type owner)=Ab:=by rw[Hq,T.hasType SF.hasOwner,JP]
 have ha:=SF.args (.ref e) a b;simp only[Ez,SF.kind,SF.split];refine Ah ?_;unfold HL
 repeat (first|(with_reducible refine Cz ge ?_;rw[hc])|(with_reducible refine FC gC ?_;rw[hb])|wp_step)
 unfold argsOk at ha;split
 .rename_i sig hs;rw[hs]at ha;refine IN ha ?_;exact hq
 .exact Av hq
theorem vQ{v:Ai}(X:K.In h)(SF:Lb B bmB sa owner)(T:Eo h bmB bm)(gC:h.get? C=Aa (CJ nm q C N bs bm Ab sn sub ab col dd k0 k1 k2 k3 k5 newId))(hf:AR K (.ref C) name=Aa Af)(hs:AR K (.ref C) "__setattr__" = Aa (Aa (.builtin sa)))(ge:h.get? e=Aa (GD C Af t))(hq:∀ h' dx tk',(∀ b o,b≠e->h.get? b=Aa o->h'.get? b=Aa o)->h'.get? e=Aa (GD C (Aa dx) t)->h.get? dx=Af->h'.Ns1 dx (λy=>if y=name then Aa v else Af)->Q () ⟨h',g,d,tk',os⟩):Au (model prog w) A (setAttr (.ref e) name v) Q E ⟨h,g,d,tk0,os⟩:=by
 have f3:=SF.slot.bind (.ref e);have L1:=CZ (M:=model prog w) X hs;obtain⟨o,ho⟩:∃ o,GD C Af t=o:=⟨_,rfl⟩;have oc:o.cls=.ref C:=by rw[<-ho];rfl
 have ge':=ge;rw[ho]at ge';unfold setAttr JW specialOf
 repeat (any_goals (first|assumption|(with_reducible refine Cz ge' ?_;rw[oc])|(with_reducible refine Ah (L1.at ?_))|(with_reducible refine L1.at ?_)|wp_step))
 refine Em SF.slot.plain SF.entry (oE SF T gC ge' oc (oC X SF T gC hf ge λh' dx tk' k1 k2 k3 k4=>?_))
 repeat (any_goals (first|assumption|wp_step))
 exact hq h' dx tk' k1 k2 k3 k4
end
section
variable{X:Cx}{pI:Pn}{Z:L2.St}{H:Hp}{s:Ar}{e:Al}
theorem V5{o:HO}(I:Inv X pI Z H s)(ha:HG X pI e)(hH:H e=Af)(ho:ObjOk X.prog X.w (upd H e o) s.heap e o):Inv X pI Z (upd H e o) s:=by
 have ne:∀ b o,H b=Aa o->b≠e:=λb o q z=>by rw[z,hH]at q;cases q
 refine⟨I.ok,I.os,I.bare,⟨I.base.keep,I.base.slot,λb o q n hb=>?_,I.base.there,λb xs q=>?_,λb o u q=>?_,λb ps q=>?_⟩,I.loc,I.cell,?_,λx c q=>?_,λp hp=>?_,λb o q=>?_,I.len⟩
 .rw[BR λz=>by rw[z,ha.2.2.2]at q;cases q]
  exact I.base.free b o q n hb
 .have:=I.base.tups b xs q;rw[BR (ne _ _ this)];exact this
 .have:=I.base.frzs b o u q;rw[BR (ne _ _ this)];exact this
 .obtain⟨more,this⟩:=I.base.tbls b ps q;exact⟨more,by rw[BR (ne _ _ this)];exact this⟩
 .rw[BR λz=>ha.1 z.symm];exact I.free
 .rw[BR (ha.2.1 x c q)];exact I.freeC x c q
 .obtain⟨q,n,r⟩:=I.pin p hp;exact⟨q,by rw[BR (ha.2.2.1 p hp)];exact n,r⟩
 .by_cases hb:b=e
  .subst hb;rw[FW]at q;cases q;exact ho
  .rw[BR hb]at q;exact(I.hok b o q).stay (λc v hc z=>z) (λc z=>by rw[BR (ne _ _ z)];exact z) λc zs z=>by rw[BR (ne _ _ z)];exact z
theorem kM(I:Inv X pI Z H s)(hH:H e=Aa (.ext φ))(h0:X.s₀.heap.get? e=Af)(h1:X.ex=[]->Ic):Inv X pI Z (λb=>if b=e then Af else H b) s:=by
 have get:∀ b o,(if b=e then Af else H b)=Aa o->b≠e/\H b=Aa o:=λb o q=>by
  by_cases z:b=e
  .rw[Az z]at q;cases q
  .rw[AK z]at q;exact⟨z,q⟩
 have put:∀ b o,H b=Aa o->o≠.ext φ->(if b=e then Af else H b)=Aa o:=λb o q n=>by
  by_cases z:b=e
  .rw[z,hH]at q;cases q;exact absurd rfl n
  .rw[AK z];exact q
 have non:∀ b,H b=Af->(if b=e then Af else H b)=Af:=λb q=>by
  by_cases z:b=e
  .rw[Az z]
  .rw[AK z];exact q
 refine⟨I.ok,I.os,I.bare,⟨λb o q n hb hx=>?_,I.base.slot,λb o q n hb=>?_,I.base.there,λb xs q=>?_,λb o u q=>?_,λb ps q=>?_⟩,I.loc,I.cell,non _ I.free,λx c q=>non _ (I.freeC x c q),λp hp=>?_,λb o q=>?_,I.len⟩
 .exact I.base.keep b o q n hb hx
 .exact non b (I.base.free b o q n hb)
 .exact put b _ (I.base.tups b xs q) (by intro z;cases z)
 .exact put b _ (I.base.frzs b o u q) (by intro z;cases z)
 .obtain⟨more,this⟩:=I.base.tbls b ps q;exact⟨more,put b _ this (by intro z;cases z)⟩
 .obtain⟨q,n,r⟩:=I.pin p hp;exact⟨q,non _ n,r⟩
 .obtain⟨nb,q⟩:=get b o q;exact(I.hok b o q).stay (λc v hc z=>z) (λc z=>put c _ z (by intro z;cases z)) λc zs z=>put c _ z (by intro z;cases z)
end
section
variable{X:Cx}{C:Al}{nm q:Aj}{N:Al}{bs bm:Ac Ai}{sn:Ac Aj}{sub:Ac Ai}{ab:Ak}{col:Ao Ak}{dd:Ao Al}{k0 k1 k2 k3 k5:Ao Ai}
theorem pO{i j:Ag}{f:Aj}{eo ev:An}{p8 p10:AL}(hob:∀ h:AB,X.K.In h->h.get? C=Aa (CJ nm q C N bs bm Ab sn sub ab col dd k0 k1 k2 k3 k5 "ValueError.__new__")/\Eo h veB bm)(hx:X.ex=[])(hf:AR X.K (.ref C) f=Aa Af)(hs:AR X.K (.ref C) "__setattr__" = Aa (Aa (.builtin "object.__setattr__")))(he:PE X eo (G4 i))(hv:PE X ev (G4 j))(sw:DH ev (Aa (.Attribute eo f p8)) p10.line X.env=pure Ad):PS X (.Assign [.Attribute eo f p8] ev p10) (λD Z H=>∃ e t v,Z[i]?=Aa (Aa (.ref e))/\H e=Aa (.ext (XEx e C Af t))/\Z[j]?=Aa (Aa v)/\∀ dx,H dx=Af->dx≠e->D.nx Z (upd (upd H e (.ext (XEx e C (Aa dx) t))) dx (.xd [(f,v)]))):=by
 intro pI s Z H D I ⟨e,t,v,h1,h2,h3,hq⟩;refine plainObj_wpAny_Assign_Attribute (thn (hv pI s Z H (λx H1=>x=v/\H1=H) I ⟨v,h3,rfl,rfl⟩) λu s1 ⟨x,H1,I1,r1,e1,e2⟩=>?_) sw
 subst e1 e2;refine thn (he pI s1 Z H1 (λx H2=>x=.ref e/\H2=H1) I1 ⟨_,h1,rfl,rfl⟩) λu2 s2 ⟨x2,H2,I2,r2,e3,e4⟩=>?_
 subst e3 e4;cases r2;obtain⟨gC,T⟩:=hob _ I2.kIn;have ge:XEx e C Af t s2.heap:=(I2.hok e _ h2).1;obtain⟨hp,g2,d2,tk2,os2⟩:=s2;refine vQ I2.kIn PySem.F.store_ValueError T gC hf hs ge λh' dx tk' kp ge' nd ns=>?_
 have nH:H2 dx=Af:=LO I2.hok nd;have nde:dx≠e:=λz=>by rw[z,h2]at nH;cases nH
 have ap:HG X pI dx:=MG I2 hx nd;have I3:=I2.write (x:=e) (e:=e) (o:=.ext (XEx e C (Aa dx) t)) (t':=tk') (by rw[h2];exact trivial) (.inl rfl) kp ⟨_,ge'⟩ ⟨ge',⟨_,ge'⟩,Q6⟩
 have I4:=V5 (o:=.xd [(f,x)]) I3 ap (by rw[BR nde];exact nH) ⟨_,ns,λy=>by
  by_cases z:y=f
  .subst z;rw[Az rfl];simp only[Gk,Fp];exact r1
  .rw[AK z];have:(y==f)=Ad:=by simp[z]
   simp only[Gk,this]
   trivial⟩
 exact⟨Z,_,I4,hq dx nH nde⟩
end
noncomputable def G2(K:Fg)(C:Al):Ak:=match K.lookup C with
  |some ⟨_,_,.cls c,_⟩=>c.hasDict
  |_=>Ad
noncomputable def Sr(g par f z:Aj)(k:Ag)(np apos p1 p2 p3 p4 p5 cpos p6 p7 p8 p9 p10:AL):Ac AW:=
 [.Expr (.Call (.Attribute (.Name g np) "__init__" apos) [.Name "self" p1,.JoinedStr [.FormattedValue (.Name par p2) (-1) Af p3,.Constant (.str z) k p4] p5] [] cpos) p6,.Assign [.Attribute (.Name "self" p7) f p8] (.Name par p9) p10]
inductive XIn (K:Fg) (mg:Aj->Ao Ai) (C:Al) (f:Aj):Prop
 |mk {fI OV:Al} {x qual g par z:Aj} {st:AW} {fd:B9} {k:Ag} {np apos p1 p2 p3 p4 p5 cpos p6 p7 p8 p9 p10:AL} (xc:D5 K C (Aa (.ref fI))=Ab) (dc:G2 K C=Ab) (fn:Fun K x qual st fI fd) (ty:DY K (.ref fI)=Aa (.type "function"))
  (S:FnScope ["self",par] ["self",par] (CV st)) (l1:(CV st).names.lookup ("self" : Aj)=Aa .local) (l2:(CV st).names.lookup par=Aa .local) (bd:Ge K fd ["self",par] []) (body:FE st=Sr g par f z k np apos p1 p2 p3 p4 p5 cpos p6 p7 p8 p9 p10)
  (gl:(CV st).names.lookup g=Aa .globalImplicit) (mo:mg g=Aa (.ref OV)) (dg:(g==("__debug__" : Aj))=Ad) (dp:(par==("__debug__" : Aj))=Ad) (dq:(par==("__classdict__" : Aj))=Ad)
  (s1:EZ K (.ref OV) "__getattribute__" = Aa (Aa (.builtin "type.__getattribute__"))) (s2:FP K OV (.type "type")=Ab) (s3:FO K (.ref OV) (.type "type") "__init__" = Aa (.val (.builtin "ValueError.__init__")))
  (hl:(apos.endLine==cpos.line)=Ab) (hz:z.length<=1000) (hf:AR K (.ref C) f=Aa Af) (hs:AR K (.ref C) "__setattr__" = Aa (Aa (.builtin "object.__setattr__"))):XIn K mg C f
section
variable{P:AS}{w:AF}{K:Fg}{mg:Aj->Ao Ai}{base:AB}{CL:ClA}{C fI OV:Al}{x qual g par z f:Aj}{st:AW}{fd:B9}{k:Ag}{np apos p1 p2 p3 p4 p5 cpos p6 p7 p8 p9 p10:AL}
variable{nm q:Aj}{N:Al}{bs bm:Ac Ai}{sn:Ac Aj}{sub:Ac Ai}{ab:Ak}{col:Ao Ak}{dd:Ao Al}{k0 k1 k2 k3 k5:Ao Ai}
theorem rF(hob:∀ h:AB,K.In h->h.get? C=Aa (CJ nm q C N bs bm Ab sn sub ab col dd k0 k1 k2 k3 k5 "ValueError.__new__")/\Eo h veB bm)(fn:Fun K x qual st fI fd)(S:FnScope ["self",par] ["self",par] (CV st))(l1:(CV st).names.lookup ("self" : Aj)=Aa .local)(l2:(CV st).names.lookup par=Aa .local)(bd:Ge K fd ["self",par] [])(body:FE st=Sr g par f z k np apos p1 p2 p3 p4 p5 cpos p6 p7 p8 p9 p10)(gl:(CV st).names.lookup g=Aa .globalImplicit)(mo:mg g=Aa (.ref OV))(dg:(g==("__debug__" : Aj))=Ad)(dp:(par==("__debug__" : Aj))=Ad)(dq:(par==("__classdict__" : Aj))=Ad)(s1:EZ K (.ref OV) "__getattribute__" = Aa (Aa (.builtin "type.__getattribute__")))(s2:FP K OV (.type "type")=Ab)(s3:FO K (.ref OV) (.type "type") "__init__" = Aa (.val (.builtin "ValueError.__init__")))(hl:(apos.endLine==cpos.line)=Ab)(hz:z.length<=1000)(hf:AR K (.ref C) f=Aa Af)(hs:AR K (.ref C) "__setattr__" = Aa (Aa (.builtin "object.__setattr__"))){A:A6}{outer:Ac CI}{s:Ar}{E:XK}{e t:Al}{v:V}{u:Ai}{n:Ag}(hh:A.handled=Af)(hdp:A.depth<Hd)(hun:A.units+70<CG)(hgd:A.guards=Aa [])(e0:Env0 P w K mg base A outer s H)(he:H e=Aa (.ext (XEx e C Af t)))(rp:Rep K CL H B v d)(hx:xfD (n+1) d=Ab)(hn:n<=1)(r:BS v u):E9 (model P w) A (.call (.ref fI) ⟨[.ref e,u],[]⟩) (CR JK outer P w H s (λy H'=>y=.non/\∃ t' dx,H dx=Af/\dx≠e/\H'=upd (upd H e (.ext (XEx e C (Aa dx) t'))) dx (.xd [(f,v)])) E) s:=by
 obtain⟨oc,od,kV,doc,pm,an,cdv,ct,osl,rfl,lk,hcd⟩:=fn.ex;have KX:K.In s.heap:=e0.mod.kin.keeps λb o e=>(e0.bs b o e).1
 have lim:s.heap.NoLimit:=e0.mod.nolimit.keeps λb o e=>(e0.bs b o e).1
 have hkind:∀ y∈(["self",par]:Ac Aj).zip [BQ e,u],(CV st).names.lookup y.1=Aa .local\/((CV st).names.lookup y.1=Aa .cell/\((De (s.heap.objs.size+1) (CV st).names []).lookup y.1).isSome=Ab):=λy hy=>by
  refine .inl ?_;rcases Ax.mp hy with rfl|hy
  .exact l1
  .rw[BA.mp hy];exact l2
 have rv:Bq [.ref e,v] [.ref e,u]:=.cons rfl (.cons r .nil);refine GK hdp (KX _ _ lk) rfl S.co S.gen rfl (Hu KX hcd) (bd s [.ref e,u] KX rfl _ _ _ _ ?_);refine Fw S.kind hkind λenv hen s1' x=>?_
 subst hen;refine⟨lim.keeps x.toInCall.keep,JY ?_⟩;have I:Inv (Fd JK P w K mg base ["self",par] qual (CV st) fI cdv A outer s H E) [] (start ["self",par] [.ref e,v]) H s1':=P5 S hh e0 rfl rv x;generalize hX:Fd JK P w K mg base ["self",par] qual (CV st) fI cdv A outer s H E=X at I;have pself:∀ p,PE X (.Name "self" p) (G4 0):=λp=>by rw[<-hX];exact Od rfl (.inl l1)
 have ppar:∀ p,PE X (.Name par p) (G4 1):=λp=>by rw[<-hX];exact Od rfl (.inl l2) dp dq
 have st1:=lG (X:=X) (CL:=CL) (C:=C) (g:=g) (np:=np) (apos:=apos) (cpos:=cpos) (i:=0) (j:=1) (OV:=OV) (by rw[<-hX];exact hob) (by rw[<-hX];exact gl) (by rw[<-hX];exact mo) dg (by rw[<-hX];exact s1) (by rw[<-hX];exact s2) (by rw[<-hX];exact s3) hl (pself p1)
  (pU (k:=k) (p1:=p3) (p2:=p4) (p3:=p5) (by rw[<-hX];show A.units+3+64<CG;omega) (by rw[<-hX];exact hgd) hz (ppar p2)) rfl rfl
 have st2:=pO (X:=X) (p8:=p8) (p10:=p10) (by rw[<-hX];exact hob) (by rw[<-hX];rfl) (by rw[<-hX];exact hf) (by rw[<-hX];exact hs) (pself p7) (ppar p9) rfl
 have all:=UJ (MP (pos:=p6) st1 rfl) (MO st2);have hk:=all [] s1' _ H {nx:=λ_ H'=>∃ t' dx,H dx=Af/\dx≠e/\H'=upd (upd H e (.ext (XEx e C (Aa dx) t'))) dx (.xd [(f,v)]),rt:=λ_ _=>A3} I ⟨e,Af,t,v,d,B,n,rfl,he,rfl,by rw[<-hX];exact rp,hx,hn,λt'=>⟨e,t',v,rfl,FW,rfl,λdx h1 h2=>⟨t',dx,by rw[BR h2]at h1;exact h1,h2,by rw[VU]⟩⟩⟩
 rw[body];refine Bu (by rw[<-hX]at hk;exact hk) (λfl s' hfl=>?_) λev s' hev=>hev
 cases fl with
 |next=>
  obtain⟨Z',H',J_,w'⟩:=hfl;exact⟨.non,H',J_.os,J_.bare,J_.base,J_.hok,rfl,rfl,w'⟩
 |ret y=>obtain⟨_,_,_,_,_,w'⟩:=hfl;exact w'.elim
 |brk=>obtain⟨_,_,_,w'⟩:=hfl;exact w'.elim
 |cont=>obtain⟨_,_,_,w'⟩:=hfl;exact w'.elim
end
theorem Xz:∀(n m:Ag)(d:D),xfD n d=Ab->n+1<=m->nlD m d=Ab
 |0,m+1,.int i,_,_=>rfl
 |n+1,m+1,.tup ds,h,hm=>by
  have h':(Dr ds.length 8&&ds.all (xfD n))=Ab:=h;rw[Am]at h';show ds.all (nlD m)=Ab;rw[Ce]at h' ⊢;exact λx hx=>Xz n m x (h'.2 x hx) (by omega)
 |0,_,.tup _,h,_=>nomatch h
 |n+1,_,.int _,h,_=>nomatch h
section
variable{X:Cx}{CL:ClA}{W:XW}
def Nh(xn:Ag->Ac D->R Ex)(c:Ag)(f:Aj)(ds:Ac D):Prop:=∃ d n,ds=[d]/\xfD (n+1) d=Ab/\n<=1/\xn c ds=.ok ⟨c,[(f,d)]⟩
theorem gP{e:An}{es:Ac An}(hcalm:X.calm=Ab)(hx:X.ex=[])(hr:Room k X.A)(rz:Nm X CL W)(hg:Gl X g)(hm:X.mg g=Aa (.ref C))(hdb:(g==("__debug__" : Aj))=Ad)(hcl:CL c=Aa C)(ha:SA X CL W (e::es) fs)(hxn:∀ ds,xn c ds=.bad\/(xn c ds=.ok ⟨c,[]⟩/\D5 X.K C Af=Ab)\/∃ f,XIn X.K X.mg C f/\Nh xn c f ds)(he:Aw (e::es) X.env=(Ad,eval e X.env)::Aw es X.env)(hpl:∀ pos,(Cj pos (Aw es X.env)).any (·.1)=Ad)(hz:∀ Y ds,fs Y=.ok ds->ds.length<=100000):SS X CL W (.Raise (Aa (.Call (.Name g np) (e::es) [] cpos)) Af pos) (λY=>O.of Y (noX (fs Y)) λxs=>O.of Y (xn c xs) λx=>.exn x Y):=λFz B pI s Z H D I ⟨Y,x,p⟩=>by
 have hpl':(Cj cpos (Aw (e::es) X.env)).any (·.1)=Ad:=by rw[he];show (Ad||(Cj cpos (Aw es X.env)).any (·.1))=Ad;rw[hpl];rfl
 cases e1:fs Y with
 |bad=>dsimp only at p;rw[e1]at p;exact p.elim
 |exn y=>dsimp only at p;rw[e1]at p;exact p.elim
 |ok ds=>
  rcases hxn ds with e2|⟨e2,xc⟩|⟨f,xi,d,n,rfl,xf,hn,e2⟩
  .dsimp only at p;rw[e1]at p;have p2:Cp X.K CL Fz B W (O.of Y (xn c ds) λx=>.exn x Y) D:=p
   rw[e2]at p2;exact p2.elim
  .refine iP (fs:=fs) (xn:=λ_ ds'=>match xn c ds' with | .ok ⟨_,[]⟩=>.ok ⟨c,[]⟩|_=>.bad) hcalm rz hg hm hdb xc hcl ha (λds'=>by
    split
    .exact .inr rfl
    .exact .inl rfl) he hpl hz Fz B pI s Z H D I ⟨Y,x,?_⟩
   dsimp only at p ⊢;rw[e1]at p ⊢;have p2:Cp X.K CL Fz B W (O.of Y (xn c ds) λx=>.exn x Y) D:=p
   rw[e2]at p2;show Cp X.K CL Fz B W (O.of Y (match xn c ds with | .ok ⟨_,[]⟩=>(.ok ⟨c,[]⟩:R Ex)|_=>.bad) λx=>.exn x Y) D
   rw[e2];exact p2
  .dsimp only at p;rw[e1]at p;have p2:Cp X.K CL Fz B W (O.of Y (xn c [d]) λx=>.exn x Y) D:=p
   rw[e2]at p2;have p3:∀ H,(∀ b o,Fz b o->H b=Aa o)->W ⟨c,[(f,d)]⟩ H:=p2;cases xi with
   |mk xc dc fn ty S l1 l2 bd body gl mo dg dp dq w1 w2 w3 hl hz0 hf hs=>
    rename_i fI OV x0 qual g0 par z st fd k0' np0 apos q1 q2 q3 q4 q5 cpos0 q6 q7 q8 q9 q10;obtain⟨bm,N,nm,qn,bs,hd,sn,sub,ab,col,dd,k0,k1,k2,k3,k5,mN,hob,hni,hbase⟩:=Qv I.kIn xc;have hdt:hd=Ab:=by
     unfold G2 at dc;split at dc
     .rename_i c0 d0 cd sl lk;have g1:=I.kIn _ _ lk;rw[(hob _ I.kIn).1]at g1;unfold CJ at g1;cases g1;exact dc
     .cases dc
    subst hdt;have hob2:∀ h:AB,X.K.In h->h.get? C=Aa (CJ nm qn C N bs bm Ab sn sub ab col dd k0 k1 k2 k3 k5 "ValueError.__new__")/\Eo h veB bm:=λh z=>⟨(hob h z).1,(hob h z).2.2⟩
    refine jH (bmB:=veB) (nm:=nm) (q:=qn) (C:=C) (N:=N) (fI:=fI) (bs:=bs) (bm:=bm) (hdct:=Ab) (sn:=sn) (sub:=sub) (ab:=ab) (col:=col) (dd:=dd) (k0:=k0) (k1:=k1) (k2:=k2) (k3:=k3) (k5:=k5) (mN:=mN) Fu hbase (I.ok.hd hcalm) hpl' hni ?_;refine Kb I hg hm ⟨rfl,?_⟩ hdb;have q1:=ha (Cb B Y Z) cpos pI s Z H (λvs H1=>AJ H H1/\Reps X.K CL H1 (Cb B Y Z) vs [d]) I ⟨x.aok,Y,x.good,by rw[e1];exact λvs H1 s1 r1=>⟨s1,r1⟩⟩
    rw[he]at q1 ⊢;refine Fi (Bu q1 (λus s2 ⟨vs,H2,I2,r2,sm2,rps⟩=>⟨rfl,?_⟩) λ_ _ z=>z)
    cases vs with
    |nil=>exact rps.elim
    |cons v vs=>
     cases vs with
     |cons=>exact rps.2.elim
     |nil=>
      obtain⟨u,rfl,ru⟩:=K2 r2;obtain⟨o1,o2,o3⟩:=hob _ I2.kIn;obtain⟨oc,od,kV,doc,pm,an,cdv,ct,osl,efd,lk,hcd⟩:=fn.ex;have coc:oc=.type "function" := by
       have ty':(X.K.lookup fI).map _=_:=ty;rw[lk]at ty';exact BE ty'
      refine⟨by rw[Dx];show 1<=_;omega,o1,o2,o3,⟨_,I2.kIn _ _ lk,coc⟩,λh' e0 made=>?_⟩
      obtain⟨t,ge,_⟩:=made.there;have I3:Inv X pI Z H2 {s2 with heap:=h'}:=I2.kept (t':=s2.toks) made.keeps
      have ap:HG X pI e0:=MG I2 hx made.new;have n0:H2 e0=Af:=LO I2.hok made.new;have I4:=V5 (o:=.ext (XEx e0 C Af t)) I3 ap n0 ⟨ge,⟨_,ge⟩,Q6⟩;have sm4:AJ H2 (upd H2 e0 (.ext (XEx e0 C Af t))):=λb o z=>by rw[BR λy=>by rw[y,n0]at z;cases z];exact z
      have ru0:=hr.mono (Gn k);have run:=rF (P:=X.prog) (w:=X.w) (mg:=X.mg) (base:=X.base) (CL:=CL) (E:=λ_ _ _=>A3) (B:=Cb B Y Z) (H:=upd H2 e0 (.ext (XEx e0 C Af t))) (t:=t) hob2 fn S l1 l2 bd body gl mo dg dp dq w1 w2 w3 hl hz0 hf hs (A:=X.A.under (.builtin "type.__call__" ⟨.ref C::[u],[]⟩)) (outer:=X.stack) hr.hd (by rw[fJ];have:=ru0.dp;omega) (by rw[fH];have:=ru0.un;omega) hr.gd (I4.env0.make C [u] []) FW (Rep.same sm4 rps.1) xf hn ru
      refine GV (FV run λr s' hq=>?_)
      cases r with
      |error _=>exact Bs hq
      |ok fl=>
       cases fl with
       |next=>exact Bs hq
       |brk=>exact Bs hq
       |cont=>exact Bs hq
       |ret u'=>
        obtain⟨v',H5,I5,rr,ev,t',dx,ndx,dne,eH⟩:=I4.after hq;subst ev;cases rr;have nd2:H2 dx=Af:=by rw[BR dne]at ndx;exact ndx
        rw[VU]at eH;have H5e:H5 e0=Aa (.ext (XEx e0 C (Aa dx) t')):=by rw[eH,BR (DR dne),FW]
        have ge5:XEx e0 C (Aa dx) t' s'.heap:=(I5.hok e0 _ H5e).1;have I6:=kM I5 H5e ap.2.2.2 λ_=>trivial
        have H6d:(if dx=e0 then Af else H5 dx)=Aa (.xd [(f,v)]):=by rw[AK dne,eH,FW]
        have sm6:AJ H2 (λb=>if b=e0 then Af else H5 b):=λb o z=>by
         have nb:b≠e0:=λy=>by rw[y,n0]at z;cases z
         have nb2:b≠dx:=λy=>by rw[y,nd2]at z;cases z
         show (if b=e0 then Af else H5 b)=Aa o
         rw[AK nb,eH,BR nb2,BR nb];exact z
        refine⟨rfl,t',Aa dx,(hob2 _ I6.kIn).1,ge5,rz pI Z _ s' e0 C (Aa dx) t' ⟨c,[(f,d)]⟩ I6 (λhx=>KN I2 hx made.new) (Az rfl) ge5 (λA hA=>⟨C,hcl,rfl,.inr ⟨dx,[(f,v)],rfl,λz=>?_,H6d,⟨rfl,?_⟩,trivial⟩⟩) (p3 _ λb o z=>sm6 _ _ (sm2 _ _ (x.same b o z)))⟩
        .obtain⟨ys,q⟩:=hA dx z;have q':(if dx=e0 then Af else H5 dx)=Aa (.lst ys):=q
         rw[H6d]at q';cases q'
        .exact RS hA 5 d (Xz (n+1) 5 d xf (by omega)) (Rep.sub (λ_ z=>z.elim) _ (Rep.same sm6 rps.1))
end
section
variable{prog:AS}{w:AF}{A:A6}{E:Vq}{h:AB}{g:A9 ET}{d:IG}{t:Ag}{os:HN}{K:Fg}{e C dx:Al}{f:Aj}{mA:Aj->Ao Ai}{v:Ai}
theorem Q7(p:JJ e C (Aa dx) h):XAt e C h:=let ⟨o,a,b,_⟩:=p;⟨o,a,b⟩
theorem hG{Q:Fin->Ar->Prop}(X:K.In h)(hf:AR K (.ref C) f=Aa Af)(hd:G2 K C=Ab)(p:JJ e C (Aa dx) h)(hn:h.Ns1 dx mA)(hv:mA f=Aa v)(hq:Q (.done (.ret v)) ⟨h,g,d,t,os⟩):Au (model prog w) A (Builtin.«object.__getattribute__» ⟨[.ref e,.str f tk],[]⟩) Q E ⟨h,g,d,t,os⟩:=by
 have L0:=Kd (M:=model prog w) (Q7 p);have L1:=CZ (M:=model prog w) X hf;obtain⟨o,ge,oc,od,us,dt⟩:=p;unfold G2 at hd;split at hd
 .rename_i c' d' cd' sl' lk;have gC:=X _ _ lk;unfold Builtin.«object.__getattribute__»
  repeat (any_goals (first|assumption|with_reducible refine L0.at ?_|with_reducible refine L1.at ?_|wp_step))
  rw[dt];unfold instanceDict
  repeat (first|(with_reducible refine Cz ge ?_;rw[oc])|with_reducible refine Cz gC ?_|wp_step)
  rw[od]
  repeat (first|(with_reducible refine wpAny_nsGet hn.ns ?_;rw[hv])|wp_step)
  exact hq
 .cases hd
theorem vO{Q:Vq}(X:K.In h)(x:XcOk K C)(hf:AR K (.ref C) f=Aa Af)(hd:G2 K C=Ab)(p:JJ e C (Aa dx) h)(hn:h.Ns1 dx mA)(hv:mA f=Aa v)(hh:handedOut v=pure v)(hq:Q v ⟨h,g,d,t,os⟩):Au (model prog w) A (getAttrBy (.ref e) (.str f tk) fill expr) Q E ⟨h,g,d,t,os⟩:=by
 have L0:=Kd (M:=model prog w) (Q7 p);have L1:=CZ (M:=model prog w) X x.ga;have L2:=CZ (M:=model prog w) X x.gt;have f3:=F7.ga.bind (.ref e);have hx0:(expr&&J_3 (Dz "BaseException.__getattribute__"))=Ad:=by cases expr<;>rfl
 have hx2:(Dz "BaseException.__getattribute__" == Dz "object.__getattribute__")=Ad:=by decide+kernel
 have hx1:(J_3 (BQ C)&&Dz "BaseException.__getattribute__" == Dz "object.__getattribute__")=Ad:=by rw[hx2];rfl
 repeat (any_goals (first|assumption|with_reducible refine L0.at ?_|with_reducible refine L1.at ?_|with_reducible refine L2.at ?_|wp_step))
 refine Em F7.ga.plain ZQ (TX X x (Q7 p) (hG X hf hd p hn hv ?_))
 repeat (any_goals (first|assumption|wp_step))
 all_goals trace_state
theorem jI{b:Ak}{Q:Vq}(X:K.In h)(x:XcOk K C)(hf:AR K (.ref C) f=Aa Af)(hd:G2 K C=Ab)(p:JJ e C (Aa dx) h)(hn:h.Ns1 dx mA)(hv:mA f=Aa v)(hh:handedOut v=pure v)(hq:Q v ⟨h,g,d,t+1,os⟩):Au (model prog w) A (getAttr (.ref e) f b) Q E ⟨h,g,d,t,os⟩:=by
 unfold getAttr
 repeat (any_goals (first|assumption|with_reducible apply vO X x hf hd p hn hv hh|wp_step))
end
section
variable{X:Cx}{CL:ClA}{W:XW}{K:Fg}{H:Hp}{A:Al->Prop}
theorem U5{f:Aj}{d:D}:∀{vs:Ac (Aj×V)}{fs:Ac (Aj×D)},Repf K CL H A vs fs->fs.lookup f=Aa d->∃ v,vs.lookup f=Aa v/\Rep K CL H A v d
 |[],[],_,q=>nomatch q
 |(n,v)::vs,(m,d')::fs,⟨⟨e,r⟩,rs⟩,q=>by
  have e':n=m:=e;subst e';by_cases z:(f==n)=Ab
  .simp only[Gk,z]at q ⊢;cases q;exact⟨v,rfl,r⟩
  .simp only[Gk,z]at q ⊢;exact U5 rs q
theorem mI{a:An}{fa:Rho->R D}{f:Aj}(hxc:∀ c C,CL c=Aa C->XcOk X.K C)(hnf:∀ c C,CL c=Aa C->G2 X.K C=Ab/\AR X.K (.ref C) f=Aa Af)(ha:ST X CL W a fa)(hb:Hy a f X.env (eval a X.env)=eval a X.env):SE X CL W (.Attribute a f pos) (λY=>(fa Y).bind λx=>Kn x f):=λA=>by
 intro pI s Z H Q I ⟨hA,Y,gd,q⟩;refine sZ hb (thn (ha A pI s Z H _ I ⟨hA,Y,gd,Bv.bind q (Q':=λv H1=>∃ d,Dp X.K CL H1 A v d/\Bv (λH2=>Rep X.K CL H2 A) W H1 (Kn d f) Q) λd v H1 _ s1 r1 p1=>⟨d,r1,p1⟩⟩) λu s1 ⟨v,H1,I1,rv,d,rp,p1⟩=>?_)
 cases d with
 |exc c fs=>
  have p2:Bv (λH2=>Rep X.K CL H2 A) W H1 (match fs.lookup f with|some d=>.ok d|none=>.bad) Q:=p1
  cases el:fs.lookup f with
  |none=>rw[el]at p2;exact p2.elim
  |some d=>
   rw[el]at p2;rcases rp with ⟨e,C,φ,rfl,_,hc,hH,hφ,hfs⟩|⟨a,xs,ds,_,z,_⟩
   .rcases hfs with z|⟨dx,vs,nd,hd,rf,hφ2⟩
    .rw[z]at el;cases el
    .obtain⟨y,l,ry⟩:=U5 rf el;cases rv;have ph:=(I1.hok e _ hH).1;obtain⟨o,ge,oc⟩:=hφ _ ph;obtain⟨o',ge',od,us,odt⟩:=hφ2 _ ph;rw[ge]at ge';cases ge';obtain⟨mA,hn,rel⟩:=I1.hok dx _ hd;obtain⟨u',hu,ru⟩:=Nn.some_of (v:=y) (o:=mA f) (by rw[<-l];exact rel f)
     obtain⟨k1,k2⟩:=hnf c C hc;obtain⟨hp,g2,d2,tk2,os2⟩:=s1;exact jI I1.kIn (hxc c C hc) k2 k1 ⟨o,ge,oc,od,us,odt⟩ hn hu (PySem.W.handedOut_of (iG ru)) ⟨y,H1,I1.tok _,ru,p2 y H1 (AJ.refl H1) ry⟩
   .cases z
 |_=>exact p1.elim
end
theorem noF{P:Prop}(h:Ad=Ab):P:=nomatch h
structure Tc where
 sc:Cv
 N:Ac Aj
 /-- a def's name,its number,how many parameters it has -/
 fns:Ac (Aj×Ag×Ag)
 /-- built-in names that the text does not hide -/
 bl:Ac Aj
 /-- exceptions' classes by their names: those that are raised,all that are asked for -/
 rzs:Ac (Aj×Ag)
 exs:Ac (Aj×Ag)
 /-- the text's constants -/
 gls:Ac (Aj×Ag)
noncomputable def Sj(T:Tc)(x:Aj):Ak:=match T.sc.names.lookup x with
  |some .local=>Ab
  |some .cell=>Ab
  |some .free=>Ab
  |_=>Ad
noncomputable def JG(T:Tc)(x:Aj):Ak:=match T.sc.names.lookup x with
  |some .local=>Ab
  |some .cell=>Ab
  |_=>Ad
noncomputable def glB(T:Tc)(x:Aj):Ak:=T.sc.names.lookup x==Aa .globalImplicit
noncomputable def Hk(x:Aj):Ak:=!(x==("__debug__" : Aj)) && !(x==("__classdict__" : Aj)) && !(x==("__name__" : Aj))
noncomputable def isV(T:Tc)(x:Aj)(i:Ag):Ak:=T.N[i]? == Aa x&&Sj T x&&Hk x
noncomputable def isB(T:Tc)(x:Aj):Ak:=T.bl.contains x&&glB T x&&Hk x
theorem CY{a b:Ak}(h:(a&&b)=Ab):a=Ab/\b=Ab:=(Am a b).mp h
theorem orT{a b:Ak}(h:(a||b)=Ab):a=Ab\/b=Ab:=(CB a b).mp h
noncomputable def Fj(e:An)(F:Aj->Ak):Ak:=if c:e.ctorIdx=23 then ZD (motive_1:=λ_=>Ak) e c λx _=>F x else Ad
theorem FX{e:An}{F:Aj->Ak}(h:Fj e F=Ab):∃ x p,e=ZC x p/\F x=Ab:=by
 by_cases c:e.ctorIdx=23
 .exact ZD (motive_1:=λe=>Fj e F=Ab->∃ x p,e=ZC x p/\F x=Ab) e c (λx p h=>⟨x,p,rfl,h⟩) h
 .exact noF ((Cr c).symm.trans h)
noncomputable def Kl(e:An)(F:Const->Ak):Ak:=if c:e.ctorIdx=19 then Zx (motive_1:=λ_=>Ak) e c λc _ _=>F c else Ad
theorem Lr{e:An}{F:Const->Ak}(h:Kl e F=Ab):∃ c u p,e=Zw c u p/\F c=Ab:=by
 by_cases c:e.ctorIdx=19
 .exact Zx (motive_1:=λe=>Kl e F=Ab->∃ c u p,e=Zw c u p/\F c=Ab) e c (λc u p h=>⟨c,u,p,rfl,h⟩) h
 .exact noF ((Cr c).symm.trans h)
noncomputable def Oz(e:An)(F:An->FT->An->Ak):Ak:=if c:e.ctorIdx=2 then Zp (motive_1:=λ_=>Ak) e c λx o y _=>F x o y else Ad
theorem Vh{e:An}{F:An->FT->An->Ak}(h:Oz e F=Ab):∃ x o y p,e=Zo x o y p/\F x o y=Ab:=by
 by_cases c:e.ctorIdx=2
 .exact Zp (motive_1:=λe=>Oz e F=Ab->∃ x o y p,e=Zo x o y p/\F x o y=Ab) e c (λx o y p h=>⟨x,o,y,p,rfl,h⟩) h
 .exact noF ((Cr c).symm.trans h)
noncomputable def JH(e:An)(F:Kv->An->Ak):Ak:=if c:e.ctorIdx=3 then ZL (motive_1:=λ_=>Ak) e c λo x _=>F o x else Ad
theorem MR{e:An}{F:Kv->An->Ak}(h:JH e F=Ab):∃ o x p,e=ZK o x p/\F o x=Ab:=by
 by_cases c:e.ctorIdx=3
 .exact ZL (motive_1:=λe=>JH e F=Ab->∃ o x p,e=ZK o x p/\F o x=Ab) e c (λo x p h=>⟨o,x,p,rfl,h⟩) h
 .exact noF ((Cr c).symm.trans h)
noncomputable def IV(e:An)(F:BoolOp->Ac An->AL->Ak):Ak:=if c:e.ctorIdx=0 then Zr (motive_1:=λ_=>Ak) e c λo xs p=>F o xs p else Ad
theorem Ls{e:An}{F:BoolOp->Ac An->AL->Ak}(h:IV e F=Ab):∃ o xs p,e=Zq o xs p/\F o xs p=Ab:=by
 by_cases c:e.ctorIdx=0
 .exact Zr (motive_1:=λe=>IV e F=Ab->∃ o xs p,e=Zq o xs p/\F o xs p=Ab) e c (λo xs p h=>⟨o,xs,p,rfl,h⟩) h
 .exact noF ((Cr c).symm.trans h)
noncomputable def Nd(e:An)(F:An->Ac DM->Ac An->Ak):Ak:=if c:e.ctorIdx=15 then Zv (motive_1:=λ_=>Ak) e c λx os ys _=>F x os ys else Ad
theorem Ve{e:An}{F:An->Ac DM->Ac An->Ak}(h:Nd e F=Ab):∃ x os ys p,e=Zu x os ys p/\F x os ys=Ab:=by
 by_cases c:e.ctorIdx=15
 .exact Zv (motive_1:=λe=>Nd e F=Ab->∃ x os ys p,e=Zu x os ys p/\F x os ys=Ab) e c (λx os ys p h=>⟨x,os,ys,p,rfl,h⟩) h
 .exact noF ((Cr c).symm.trans h)
noncomputable def Oy(e:An)(F:An->Ac An->Ac F2->AL->Ak):Ak:=if c:e.ctorIdx=16 then Zt (motive_1:=λ_=>Ak) e c λf as ks p=>F f as ks p else Ad
theorem Vf{e:An}{F:An->Ac An->Ac F2->AL->Ak}(h:Oy e F=Ab):∃ f as ks p,e=Zs f as ks p/\F f as ks p=Ab:=by
 by_cases c:e.ctorIdx=16
 .exact Zt (motive_1:=λe=>Oy e F=Ab->∃ f as ks p,e=Zs f as ks p/\F f as ks p=Ab) e c (λf as ks p h=>⟨f,as,ks,p,rfl,h⟩) h
 .exact noF ((Cr c).symm.trans h)
noncomputable def OA(e:An)(F:An->Aj->AL->Ak):Ak:=if c:e.ctorIdx=20 then Zn (motive_1:=λ_=>Ak) e c λo m p=>F o m p else Ad
theorem Vi{e:An}{F:An->Aj->AL->Ak}(h:OA e F=Ab):∃ o m p,e=Zm o m p/\F o m p=Ab:=by
 by_cases c:e.ctorIdx=20
 .exact Zn (motive_1:=λe=>OA e F=Ab->∃ o m p,e=Zm o m p/\F o m p=Ab) e c (λo m p h=>⟨o,m,p,rfl,h⟩) h
 .exact noF ((Cr c).symm.trans h)
noncomputable def Nc(e:An)(F:An->An->Ak):Ak:=if c:e.ctorIdx=21 then ZH (motive_1:=λ_=>Ak) e c λx y _=>F x y else Ad
theorem Qm{e:An}{F:An->An->Ak}(h:Nc e F=Ab):∃ x y p,e=ZG x y p/\F x y=Ab:=by
 by_cases c:e.ctorIdx=21
 .exact ZH (motive_1:=λe=>Nc e F=Ab->∃ x y p,e=ZG x y p/\F x y=Ab) e c (λx y p h=>⟨x,y,p,rfl,h⟩) h
 .exact noF ((Cr c).symm.trans h)
noncomputable def RN(e:An)(F:Ao An->Ao An->Ao An->Ak):Ak:=if c:e.ctorIdx=26 then ZF (motive_1:=λ_=>Ak) e c λl u s _=>F l u s else Ad
theorem lL{e:An}{F:Ao An->Ao An->Ao An->Ak}(h:RN e F=Ab):∃ l u s p,e=ZE l u s p/\F l u s=Ab:=by
 by_cases c:e.ctorIdx=26
 .exact ZF (motive_1:=λe=>RN e F=Ab->∃ l u s p,e=ZE l u s p/\F l u s=Ab) e c (λl u s p h=>⟨l,u,s,p,rfl,h⟩) h
 .exact noF ((Cr c).symm.trans h)
noncomputable def Kk(e:An)(F:Ac An->Ak):Ak:=if c:e.ctorIdx=25 then ZJ (motive_1:=λ_=>Ak) e c λxs _ _=>F xs else Ad
theorem Lq{e:An}{F:Ac An->Ak}(h:Kk e F=Ab):∃ xs c p,e=ZI xs c p/\F xs=Ab:=by
 by_cases c:e.ctorIdx=25
 .exact ZJ (motive_1:=λe=>Kk e F=Ab->∃ xs c p,e=ZI xs c p/\F xs=Ab) e c (λxs c p h=>⟨xs,c,p,rfl,h⟩) h
 .exact noF ((Cr c).symm.trans h)
noncomputable def OJ(e:An)(F:Ac An->Ak):Ak:=if c:e.ctorIdx=24 then Zz (motive_1:=λ_=>Ak) e c λxs _=>F xs else Ad
theorem Qn{e:An}{F:Ac An->Ak}(h:OJ e F=Ab):∃ xs p,e=Zy xs p/\F xs=Ab:=by
 by_cases c:e.ctorIdx=24
 .exact Zz (motive_1:=λe=>OJ e F=Ab->∃ xs p,e=Zy xs p/\F xs=Ab) e c (λxs p h=>⟨xs,p,rfl,h⟩) h
 .exact noF ((Cr c).symm.trans h)
noncomputable def RP(e:An)(F:An->Ac JM->Cv->Ak):Ak:=if c:e.ctorIdx=8 then ZB (motive_1:=λ_=>Ak) e c λx gs sc _=>F x gs sc else Ad
theorem lP{e:An}{F:An->Ac JM->Cv->Ak}(h:RP e F=Ab):∃ x gs sc p,e=ZA x gs sc p/\F x gs sc=Ab:=by
 by_cases c:e.ctorIdx=8
 .exact ZB (motive_1:=λe=>RP e F=Ab->∃ x gs sc p,e=ZA x gs sc p/\F x gs sc=Ab) e c (λx gs sc p h=>⟨x,gs,sc,p,rfl,h⟩) h
 .exact noF ((Cr c).symm.trans h)
noncomputable def RQ(e:AW)(F:Ac An->An->Ak):Ak:=if c:e.ctorIdx=5 then aE (motive_2:=λ_=>Ak) e c λts v _=>F ts v else Ad
theorem kD{e:AW}{F:Ac An->An->Ak}(h:RQ e F=Ab):∃ ts v p,e=aD ts v p/\F ts v=Ab:=by
 by_cases c:e.ctorIdx=5
 .exact aE (motive_2:=λe=>RQ e F=Ab->∃ ts v p,e=aD ts v p/\F ts v=Ab) e c (λts v p h=>⟨ts,v,p,rfl,h⟩) h
 .exact noF ((Cr c).symm.trans h)
noncomputable def L9(e:AW)(F:An->Ak):Ak:=if c:e.ctorIdx=24 then aG (motive_2:=λ_=>Ak) e c λv _=>F v else Ad
theorem Qo{e:AW}{F:An->Ak}(h:L9 e F=Ab):∃ v p,e=aF v p/\F v=Ab:=by
 by_cases c:e.ctorIdx=24
 .exact aG (motive_2:=λe=>L9 e F=Ab->∃ v p,e=aF v p/\F v=Ab) e c (λv p h=>⟨v,p,rfl,h⟩) h
 .exact noF ((Cr c).symm.trans h)
noncomputable def OH(e:AW)(F:Ao An->Ak):Ak:=if c:e.ctorIdx=3 then aM (motive_2:=λ_=>Ak) e c λo _=>F o else Ad
theorem UP{e:AW}{F:Ao An->Ak}(h:OH e F=Ab):∃ o p,e=aL o p/\F o=Ab:=by
 by_cases c:e.ctorIdx=3
 .exact aM (motive_2:=λe=>OH e F=Ab->∃ o p,e=aL o p/\F o=Ab) e c (λo p h=>⟨o,p,rfl,h⟩) h
 .exact noF ((Cr c).symm.trans h)
noncomputable def Nj(e:AW)(F:An->Ac AW->Ac AW->Ak):Ak:=if c:e.ctorIdx=12 then aI (motive_2:=λ_=>Ak) e c λt xs ys _=>F t xs ys else Ad
theorem QI{e:AW}{F:An->Ac AW->Ac AW->Ak}(h:Nj e F=Ab):∃ t xs ys p,e=Stmt.If t xs ys p/\F t xs ys=Ab:=by
 by_cases c:e.ctorIdx=12
 .exact aI (motive_2:=λe=>Nj e F=Ab->∃ t xs ys p,e=Stmt.If t xs ys p/\F t xs ys=Ab) e c (λt xs ys p h=>⟨t,xs,ys,p,rfl,h⟩) h
 .exact noF ((Cr c).symm.trans h)
noncomputable def OK(e:AW)(F:An->An->Ac AW->Ac AW->Ak):Ak:=if c:e.ctorIdx=9 then aH (motive_2:=λ_=>Ak) e c λt it xs ys _=>F t it xs ys else Ad
theorem Vd{e:AW}{F:An->An->Ac AW->Ac AW->Ak}(h:OK e F=Ab):∃ t it xs ys p,e=Stmt.For t it xs ys p/\F t it xs ys=Ab:=by
 by_cases c:e.ctorIdx=9
 .exact aH (motive_2:=λe=>OK e F=Ab->∃ t it xs ys p,e=Stmt.For t it xs ys p/\F t it xs ys=Ab) e c (λt it xs ys p h=>⟨t,it,xs,ys,p,rfl,h⟩) h
 .exact noF ((Cr c).symm.trans h)
noncomputable def OI(e:AW)(F:Ao An->Ao An->Ak):Ak:=if c:e.ctorIdx=16 then aK (motive_2:=λ_=>Ak) e c λa b _=>F a b else Ad
theorem lO{e:AW}{F:Ao An->Ao An->Ak}(h:OI e F=Ab):∃ a b p,e=aJ a b p/\F a b=Ab:=by
 by_cases c:e.ctorIdx=16
 .exact aK (motive_2:=λe=>OI e F=Ab->∃ a b p,e=aJ a b p/\F a b=Ab) e c (λa b p h=>⟨a,b,p,rfl,h⟩) h
 .exact noF ((Cr c).symm.trans h)
noncomputable def Jz{α:Type}:Ac α->(α->Ac α->Ak)->Ak
 |[],_=>Ad
 |x::xs,F=>F x xs
theorem Ka{l:Ac α}{F:α->Ac α->Ak}(h:Jz l F=Ab):∃ x xs,l=x::xs/\F x xs=Ab:=by
 cases l with
 |nil=>exact noF h
 |cons x xs=>exact⟨x,xs,rfl,h⟩
theorem IU{l:Ac α}(h:l.isEmpty=Ab):l=[]:=List.isEmpty_iff.mp h
noncomputable def Fl{α:Type}(l:Ac α)(F:α->Ak):Ak:=Jz l λx r=>r.isEmpty&&F x
theorem Ga{l:Ac α}{F:α->Ak}(h:Fl l F=Ab):∃ x,l=[x]/\F x=Ab:=by
 obtain⟨x,r,rfl,h⟩:=Ka h;obtain⟨h1,h2⟩:=CY h;exact⟨x,by rw[IU h1],h2⟩
noncomputable def JB{α:Type}(l:Ac α)(F:α->α->Ak):Ak:=Jz l λx r=>Fl r λy=>F x y
theorem Lp{l:Ac α}{F:α->α->Ak}(h:JB l F=Ab):∃ x y,l=[x,y]/\F x y=Ab:=by
 obtain⟨x,r,rfl,h⟩:=Ka h;obtain⟨y,rfl,h⟩:=Ga h;exact⟨x,y,rfl,h⟩
noncomputable def JC(e:An)(F:Aj->Ac An->Ak):Ak:=Oy e λf as ks _=>Fj f λg=>ks.isEmpty&&F g as
theorem J_9{e:An}{F:Aj->Ac An->Ak}(h:JC e F=Ab):∃ g p as q,e=.Call (.Name g p) as [] q/\F g as=Ab:=by
 obtain⟨f,as,ks,q,rfl,h⟩:=Vf h;obtain⟨g,p,rfl,h⟩:=FX h;obtain⟨h1,h2⟩:=CY h;exact⟨g,p,as,q,by rw[IU h1],h2⟩
noncomputable def M3(e:An)(F:Aj->An->Ac An->Ak):Ak:=JC e λg l=>Jz l λx xs=>F g x xs
theorem NO{e:An}{F:Aj->An->Ac An->Ak}(h:M3 e F=Ab):∃ g p x xs q,e=.Call (.Name g p) (x::xs) [] q/\F g x xs=Ab:=by
 obtain⟨g,p,as,q,rfl,h⟩:=J_9 h;obtain⟨x,xs,rfl,h⟩:=Ka h;exact⟨g,p,x,xs,q,rfl,h⟩
noncomputable def RO(st:AW)(F:Aj->Aj->Ac An->Ak):Ak:=L9 st λe=>Oy e λf as ks cp=>OA f λo m ap=>Fj o λx=>ks.isEmpty&&(ap.endLine==cp.line&&F x m as)
theorem Vc{st:AW}{F:Aj->Aj->Ac An->Ak}(h:RO st F=Ab):∃ x p m ap as cp q,st=.Expr (.Call (.Attribute (.Name x p) m ap) as [] cp) q/\ap.endLine=cp.line/\F x m as=Ab:=by
 obtain⟨e,q,rfl,h⟩:=Qo h;obtain⟨f,as,ks,cp,rfl,h⟩:=Vf h;obtain⟨o,m,ap,rfl,h⟩:=Vi h;obtain⟨x,p,rfl,h⟩:=FX h;obtain⟨h1,h⟩:=CY h;obtain⟨h2,h3⟩:=CY h;exact⟨x,p,m,ap,as,cp,q,by rw[IU h1],eq_of_beq h2,h3⟩
noncomputable def OB(st:AW)(F:An->An->Ak):Ak:=RQ st λts v=>Fl ts λt=>F t v
theorem Qq{st:AW}{F:An->An->Ak}(h:OB st F=Ab):∃ t v q,st=.Assign [t] v q/\F t v=Ab:=by
 obtain⟨ts,v,q,rfl,h⟩:=kD h;obtain⟨t,rfl,h⟩:=Ga h;exact⟨t,v,q,rfl,h⟩
noncomputable def Nf(st:AW)(F:Aj->An->Ak):Ak:=OB st λt v=>Fj t λx=>F x v
theorem Qp{st:AW}{F:Aj->An->Ak}(h:Nf st F=Ab):∃ x p v q,st=.Assign [.Name x p] v q/\F x v=Ab:=by
 obtain⟨t,v,q,rfl,h⟩:=Qq h;obtain⟨x,p,rfl,h⟩:=FX h;exact⟨x,p,v,q,rfl,h⟩
noncomputable def Sv(e:An)(F:An->An->An->Ac An->Cv->Ak):Ak:=RP e λx gs sc=>Fl gs λg=>decide (g.is_async=0)&&F x g.target g.iter g.ifs sc
theorem Wk{e:An}{F:An->An->An->Ac An->Cv->Ak}(h:Sv e F=Ab):∃ x t it ifs sc p,e=.ListComp x [⟨t,it,ifs,0⟩] sc p/\F x t it ifs sc=Ab:=by
 obtain⟨x,gs,sc,p,rfl,h⟩:=lP h;obtain⟨g,rfl,h⟩:=Ga h;obtain⟨t,it,ifs,a⟩:=g;obtain⟨h1,h2⟩:=CY h;have h1:a=0:=AV h1;subst h1;exact⟨x,t,it,ifs,sc,p,rfl,h2⟩
noncomputable def Mf(e:E)(F:E->Ak):Ak:=if c:e.ctorIdx=8 then E.no.elim (motive_1:=λ_=>Ak) e c F else Ad
theorem Wj{e:E}{F:E->Ak}(h:Mf e F=Ab):∃ a,e=E.no a/\F a=Ab:=by
 by_cases c:e.ctorIdx=8
 .exact E.no.elim (motive_1:=λe=>Mf e F=Ab->∃ a,e=E.no a/\F a=Ab) e c (λa h=>⟨a,rfl,h⟩) h
 .exact noF ((Cr c).symm.trans h)
noncomputable def Mb(e:E)(F:Es->Ak):Ak:=if c:e.ctorIdx=9 then E.and.elim (motive_1:=λ_=>Ak) e c F else Ad
theorem Vj{e:E}{F:Es->Ak}(h:Mb e F=Ab):∃ es,e=E.and es/\F es=Ab:=by
 by_cases c:e.ctorIdx=9
 .exact E.and.elim (motive_1:=λe=>Mb e F=Ab->∃ es,e=E.and es/\F es=Ab) e c (λes h=>⟨es,rfl,h⟩) h
 .exact noF ((Cr c).symm.trans h)
noncomputable def Me(e:E)(F:Es->Ak):Ak:=if c:e.ctorIdx=10 then E.or.elim (motive_1:=λ_=>Ak) e c F else Ad
theorem Wi{e:E}{F:Es->Ak}(h:Me e F=Ab):∃ es,e=E.or es/\F es=Ab:=by
 by_cases c:e.ctorIdx=10
 .exact E.or.elim (motive_1:=λe=>Me e F=Ab->∃ es,e=E.or es/\F es=Ab) e c (λes h=>⟨es,rfl,h⟩) h
 .exact noF ((Cr c).symm.trans h)
noncomputable def Ou(e:E)(F:DM->E->E->Ak):Ak:=if c:e.ctorIdx=11 then E.cmp.elim (motive_1:=λ_=>Ak) e c F else Ad
theorem lQ{e:E}{F:DM->E->E->Ak}(h:Ou e F=Ab):∃ o a b,e=E.cmp o a b/\F o a b=Ab:=by
 by_cases c:e.ctorIdx=11
 .exact E.cmp.elim (motive_1:=λe=>Ou e F=Ab->∃ o a b,e=E.cmp o a b/\F o a b=Ab) e c (λo a b h=>⟨o,a,b,rfl,h⟩) h
 .exact noF ((Cr c).symm.trans h)
noncomputable def Ow(e:E)(F:DM->DM->E->E->E->Ak):Ak:=if c:e.ctorIdx=12 then E.cmp2.elim (motive_1:=λ_=>Ak) e c F else Ad
theorem kB{e:E}{F:DM->DM->E->E->E->Ak}(h:Ow e F=Ab):∃ o q a b c,e=E.cmp2 o q a b c/\F o q a b c=Ab:=by
 by_cases c:e.ctorIdx=12
 .exact E.cmp2.elim (motive_1:=λe=>Ow e F=Ab->∃ o q a b c,e=E.cmp2 o q a b c/\F o q a b c=Ab) e c (λo q a b c h=>⟨o,q,a,b,c,rfl,h⟩) h
 .exact noF ((Cr c).symm.trans h)
noncomputable def Ox(e:E)(F:BI->Es->Ak):Ak:=if c:e.ctorIdx=15 then E.bi.elim (motive_1:=λ_=>Ak) e c F else Ad
theorem kC{e:E}{F:BI->Es->Ak}(h:Ox e F=Ab):∃ b as,e=E.bi b as/\F b as=Ab:=by
 by_cases c:e.ctorIdx=15
 .exact E.bi.elim (motive_1:=λe=>Ox e F=Ab->∃ b as,e=E.bi b as/\F b as=Ab) e c (λb as h=>⟨b,as,rfl,h⟩) h
 .exact noF ((Cr c).symm.trans h)
noncomputable def Sw(e:E)(F:Ak->Ak):Ak:=if c:e.ctorIdx=1 then E.bl.elim (motive_1:=λ_=>Ak) e c F else Ad
theorem sF{e:E}{F:Ak->Ak}(h:Sw e F=Ab):∃ b,e=E.bl b/\F b=Ab:=by
 by_cases c:e.ctorIdx=1
 .exact E.bl.elim (motive_1:=λe=>Sw e F=Ab->∃ b,e=E.bl b/\F b=Ab) e c (λb h=>⟨b,rfl,h⟩) h
 .exact noF ((Cr c).symm.trans h)
noncomputable def Kj(e:E)(F:Ag->Ak):Ak:=if c:e.ctorIdx=4 then E.var.elim (motive_1:=λ_=>Ak) e c F else Ad
theorem MJ{e:E}{F:Ag->Ak}(h:Kj e F=Ab):∃ i,e=E.var i/\F i=Ab:=by
 by_cases c:e.ctorIdx=4
 .exact E.var.elim (motive_1:=λe=>Kj e F=Ab->∃ i,e=E.var i/\F i=Ab) e c (λi h=>⟨i,rfl,h⟩) h
 .exact noF ((Cr c).symm.trans h)
noncomputable def Ma(e:E)(F:Ag->Es->Ak):Ak:=if c:e.ctorIdx=14 then E.call.elim (motive_1:=λ_=>Ak) e c F else Ad
theorem Vg{e:E}{F:Ag->Es->Ak}(h:Ma e F=Ab):∃ f as,e=E.call f as/\F f as=Ab:=by
 by_cases c:e.ctorIdx=14
 .exact E.call.elim (motive_1:=λe=>Ma e F=Ab->∃ f as,e=E.call f as/\F f as=Ab) e c (λf as h=>⟨f,as,rfl,h⟩) h
 .exact noF ((Cr c).symm.trans h)
noncomputable def OE(e:E):Ak:=decide (e.ctorIdx=0)
theorem kK{e:E}(h:OE e=Ab):e=.non:=E.non.elim (motive_1:=λe=>e=.non) e (AV h) rfl
noncomputable def DZ:An->Ak
 |.Starred _ _=>Ad
 |_=>Ab
noncomputable def QJ:An->Ak
 |.Slice _ _ _ _=>Ad
 |_=>Ab
noncomputable def Ng:An->Ak
 |.Set _ _ _=>Ad
 |_=>Ab
noncomputable def K0:An->Ak
 |.ListComp _ _ _ _=>Ad
 |.SetComp _ _ _ _=>Ad
 |.DictComp _ _ _ _ _=>Ad
 |_=>Ab
noncomputable def Tf(tu:Ak):An->Ak
 |.Tuple ..=>tu
 |.Name ..=>!tu
 |_=>Ad
noncomputable def im:An->Ak
 |.Tuple _ _ _=>Ab
 |_=>Ad
noncomputable def XG:An->Ak
 |.Tuple _ _ _=>Ad
 |_=>Ab
noncomputable def Jr:An->Ak
 |.UnaryOp _ _ _=>Ad
 |.BoolOp _ _ _=>Ad
 |.IfExp _ _ _ _=>Ad
 |.Compare _ _ _ _=>Ad
 |_=>Ab
noncomputable def RT:Ki->Ao Aj
 |.int=>Aa "int"
 |.bool=>Aa "bool"
 |.str=>Aa "str"
 |.list=>Aa "list"
 |.tuple=>Aa "tuple"
 |_=>Af
noncomputable def RU:BI->Ao Aj
 |.len=>Aa "len"
 |.abs=>Af
 |.max=>Af
 |.min=>Af
 |.int=>Af
 |.list=>Aa "list"
 |.tuple=>Aa "tuple"
 |.all=>Af
 |.any=>Af
 |.sum=>Aa "sum"
 |.sorted=>Af
 |.tmin=>Af
 |.tmax=>Af
 |_=>Af
noncomputable def RE(o scope:Cv):Cv:={scope with names:=scope.names.map λ(n,k)=>if (k==.free&&o.kind==.function&&o.names.lookup n==Aa .cell) then (n,.cell) else (n,k)}
noncomputable def Mi:Ac Ag->Ac Aj->Ac Aj->Ac Aj
 |t::ts,x::xs,N=>Mi ts xs ((N.map λy=>if y==x then N.getD t x else y).set t x)
 |_,_,N=>N
noncomputable def LQ:Ac Aj->Ak
 |[]=>Ab
 |x::xs=>!xs.contains x&&LQ xs
noncomputable def Np(T:Tc)(scope:Cv)(ts:Ac Ag)(N':Ac Aj):Ak:=
  scope.kind==.function&&scope.names.all (λy=>scope.names.lookup y.1==Aa y.2) &&
  scope.names.all (λy=>y.2 != .free||T.sc.names.lookup y.1==Aa .cell||T.sc.names.lookup y.1==Aa .free) &&
  N'.length==T.N.length&&LQ N' &&
  (Cm N'.length).all λi=>ts.contains i||(match N'[i]? with
    |some x=>(scope.names.lookup x != Aa .local&&scope.names.lookup x != Aa .cell)&&(scope.names.lookup x != Aa .free||T.N[i]? == Aa x)
    | none=>Ab)
noncomputable def FD:Ac An->Ao (Ac Aj)
 |[]=>Aa []
 |.Name x _::r=>(FD r).map (x :: ·)
 |_=>Af
noncomputable def tgN(ys:Ac An):Ac Aj:=(FD ys).getD []
noncomputable def tgB(T:Tc):Ac Ag->Ac Aj->Ak
 |[],[]=>Ab
 |t::ts,x::xs=>T.N[t]? == Aa x&&T.sc.names.lookup x==Aa .local&&tgB T ts xs
 |_,_=>Ad
noncomputable def tgO(T:Tc)(scope:Cv)(t:Ag)(x:Aj):Ak:=T.N[t]? == Aa x&&(T.sc.names.lookup x==Aa .local||(T.sc.names.lookup x==Aa .cell&&scope.names.lookup x==Aa .cell))
noncomputable def tgC(T:Tc):Ac Ag->Ac Aj->Ak
 |[],[]=>Ab
 |t::ts,x::xs=>T.N[t]? == Aa x&&JG T x&&tgC T ts xs
 |_,_=>Ad
noncomputable def Tc.blk(T:Tc)(scope:Cv)(ts:Ac Ag)(xs:Ac Aj):Tc:={T with sc:=RE T.sc scope,N:=Mi ts xs T.N}
noncomputable def inX(l:Ac (Aj×Ag))(g:Aj)(c:Ag):Ak:=l.any λp=>p.1==g&&p.2==c
noncomputable def Tq:An->Ao (An×An×AL)
  | .Compare x ops ys p=>(match ops with
    | [.Lt]=>(match ys with
      |[y]=>Aa (x,y,p)
      | _=>Af)
    | _=>Af)
  |_=>Af
noncomputable def RX(_:Es):Ao (E×E):=Af
noncomputable def Sk(_:Tc)(_:Tc->An->E->Ak)(_:An)(_:Ac DM)(_:Ac An)(_:BI)(_:Es):Ak:=Ad
noncomputable def Tl(T:Tc)(e:An)(b:BI)(as:Es):Ak:=Ad
noncomputable def Ru:An->Ao (Aj×AL)
 |.Name x p=>Aa (x,p)
 |_=>Af
theorem Um{e:An}{t:Aj×AL}(q:Ru e=Aa t):e=.Name t.1 t.2:=by
 cases e with
 |Name x p=>cases q;rfl
 |_=>cases q
noncomputable def Rv:An->Ao (An×Ac An×Ac F2×AL)
 |.Call f as ks p=>Aa (f,as,ks,p)
 |_=>Af
theorem Uo{e:An}{t:An×Ac An×Ac F2×AL}(q:Rv e=Aa t):e=.Call t.1 t.2.1 t.2.2.1 t.2.2.2:=by
 cases e with
 |Call f as ks p=>cases q;rfl
 |_=>cases q
noncomputable def cP:An->Ao (Ac An×Ag×AL)
 |.Tuple es k p=>Aa (es,k,p)
 |_=>Af
noncomputable def one{α:Type}:Ac α->Ao α
 |[a]=>Aa a
 |_=>Af
theorem xG{l:Ac α}{a:α}(q:one l=Aa a):l=[a]:=by
  match l,q with
  |[b],q=>cases q;rfl
noncomputable def Nl(e:An):Ao (Aj×Aj×Ac An):=(Rv e).bind λc=>(Ru c.1).bind λg=>(one c.2.1).bind λa=>(Rv a).bind λd=>(Ru d.1).bind λh=>if (c.2.2.1.isEmpty&&d.2.2.1.isEmpty)=Ab then Aa (g.1,h.1,d.2.1) else Af
theorem rB{e:An}{h:Aj}{bs:Ac An}(q:Nl e=Aa (g,h,bs)):∃ p p' pos pos',e=.Call (.Name g p) [.Call (.Name h p') bs [] pos'] [] pos:=by
 obtain⟨⟨f,as,ks,pos⟩,e1,q⟩:=AQ.mp q;obtain⟨⟨g',p⟩,e2,q⟩:=AQ.mp q;obtain⟨a,e3,q⟩:=AQ.mp q;obtain⟨⟨f',bs',ks',pos'⟩,e4,q⟩:=AQ.mp q;obtain⟨⟨h',p'⟩,e5,q⟩:=AQ.mp q;by_cases hk:(ks.isEmpty&&ks'.isEmpty)=Ab
 .rw[Az hk]at q;cases q;rw[Am,HV,HV]at hk;obtain⟨rfl,rfl⟩:=hk;have x1:=Uo e1;have x2:=Um e2;have x3:=xG e3;have x4:=Uo e4;have x5:=Um e5;dsimp only at x1 x2 x3 x4 x5;subst x1 x2 x3 x4 x5;exact⟨_,_,_,_,rfl⟩
 .rw[AK hk]at q;cases q
noncomputable def O0(e:An):Ao (Aj×Aj×An×An×An):=match Nl e with
  | some (g,h,bs)=>(match bs with
    |[x,y,z]=>Aa (g,h,x,y,z)
    | _=>Af)
  |none=>Af
theorem qY{e:An}{h:Aj}{x y z:An}(q:O0 e=Aa (g,h,x,y,z)):∃ p p' pos pos',e=.Call (.Name g p) [.Call (.Name h p') [x,y,z] [] pos'] [] pos:=by
  unfold O0 at q;cases c:Nl e with
  |none=>rw[c]at q;cases q
  |some t=>
    obtain⟨g',h',bs⟩:=t;rw[c]at q
    match bs,q,c with
    |[a,b,d],q,c=>cases q;exact rB c
noncomputable def S6(e:An):Ao (Aj×Aj×An×An):=match Nl e with
  | some (g,h,bs)=>(match bs with
    |[x,y]=>Aa (g,h,x,y)
    | _=>Af)
  |none=>Af
noncomputable def R1(_:Es):Ao (E×E):=Af
noncomputable def S5(e:An):Ao (Aj×Aj×An):=match Nl e with
  | some (g,h,bs)=>(match bs with
    |[x]=>Aa (g,h,x)
    | _=>Af)
  |none=>Af
noncomputable def RZ(_:Es):Ao E:=Af
noncomputable def two(e:An):Ao (An×An):=(cP e).bind λt=>match t.1 with
  |[a,b]=>Aa (a,b)
  |_=>Af
noncomputable def Pb(_:Es):Ao E:=Af
noncomputable def SN(_:An):Ao An:=Af
noncomputable def Th:An->Ao (An×Ae)
  | .Subscript v s _=>(match s with
    | .Slice lo hi st _=>(match lo with
      | some (.Constant (.int k) _ _)=>(match hi with
        | none=>(match st with
          |some (.Constant (.int j) _ _)=>if j=2 then Aa (v,k) else Af
          | _=>Af)
        | some _=>Af)
      | _=>Af)
    | _=>Af)
  |_=>Af
noncomputable def RY(_:Es):Ao (E×Ae):=Af
mutual
noncomputable def Bz:Ag->Tc->An->E->Ak
  |0,_,_,_=>Ad
  |n+1,T,e,c=>match c with
    |.non=>Kl e λc=>decide (c=.none)
    |.bl b=>Kl e λc=>decide (c=.bool b)
    |.int i=>Kl e λc=>decide (c=.int i)
    |.str x=>Kl e λc=>decide (c=.str x)
    |.var i=>Fj e λx=>isV T x i
    |.glob g=>Ad
    |.bin op a b=>Oz e λx op' y=>decide (op'=op)&&Bz n T x a&&Bz n T y b
    |.un op a=>JH e λo x=>decide (o=.USub)&&(decide (op=.USub)&&Bz n T x a)
    |.no a=>JH e λo x=>decide (o=.Not)&&Bz n T x a
    |.and es=>IV e λo xs _=>decide (o=.And)&&(chkEs n T xs es && !xs.isEmpty)
    |.or es=>IV e λo xs _=>decide (o=.Or)&&(chkEs n T xs es && !xs.isEmpty)
    |.cmp op a b=>Nd e λx os ys=>Fl os λop'=>Fl ys λy=>decide (op'=op) && !behindInMarks op y&&Bz n T x a&&Bz n T y b
    |.cmp2 op1 op2 a b c=>Ad
    |.ite c a b=>Ad
    |.call f as=>M3 e λg x xs=>(T.fns.any λp=>p.1==g&&p.2.1==f&&p.2.2==xs.length+1)&&decide (xs.length<900)&&glB T g&&Hk g&&chkEs n T (x::xs) as
    |.bi b as=>(M3 e λg x xs=>RU b==Aa g&&isB T g&&chkEs n T (x::xs) as)||Tl T e b as||(match R1 as with|some (a,c)=>(match S6 e with|some (g,h,x,y)=>decide (b=.list)&&g==("list" : Aj)&&h==("range" : Aj)&&isB T g&&isB T h&&DZ x&&DZ y&&Bz n T x a&&Bz n T y c|none=>Ad)|none=>Ad)||(match RY as with|some (a,k)=>(match Th e with|some (x,j)=>decide (b=.stp)&&decide (j=k)&&decide (0<=k)&&Bz n T x a|none=>Ad)|none=>Ad)||(match RZ as with|some a=>(match S5 e with|some (g,h,x)=>decide (b=.lset)&&g==("len" : Aj)&&h==("set" : Aj)&&isB T g&&isB T h&&DZ x&&Bz n T x a|none=>Ad)|none=>Ad)||(match RX as with|some (a,c)=>(match Tq e with|some (x,y,_)=>decide (b=.tlt) && !behindInMarks .Lt y&&Bz n T x a&&Bz n T y c|none=>Ad)|none=>Ad)||(match Pb as with|some a=>(match SN e with|some x=>decide (b=.rvs)&&Bz n T x a|none=>Ad)|none=>Ad)
    |.isi a ks=>Fl ks λk=>JC e λg l=>JB l λx t=>Fj t λt=>g==("isinstance" : Aj)&&isB T g&&RT k==Aa t&&isB T t&&DZ x&&Bz n T x a
    |.idx a i=>Nc e λx y=>QJ y&&Bz n T x a&&Bz n T y i
    |.sl a lo hi=>Nc e λx s=>RN s λl h st=>st.isNone&&(Bz n T x a&&chkO n T l lo&&chkO n T h hi)
    |.tup es=>Kk e λxs=>chkEs n T xs es&&decide (xs.length<=1000)
    |.lst es=>OJ e λxs=>chkEs n T xs es&&decide (xs.length<=1000)
    |.comp elt t it c=>Sv e λx tg iter ifs scope=>Fj tg λy=>chkI n T Ad iter it&&Ng iter&&Np T scope [t] (Mi [t] [y] T.N)&&tgO (T.blk scope [t] [y]) scope t y&&chkT n (T.blk scope [t] [y]) ifs c&&Bz n (T.blk scope [t] [y]) x elt
    |.compT elt ts it c=>Sv e λx tg iter ifs scope=>Kk tg λys=>(FD ys).isSome&&chkI n T Ab iter it&&Ng iter&&Np T scope ts (Mi ts (tgN ys) T.N)&&tgB (T.blk scope ts (tgN ys)) ts (tgN ys)&&chkT n (T.blk scope ts (tgN ys)) ifs c&&Bz n (T.blk scope ts (tgN ys)) x elt
    |.tupI it=>(match it with | .zip3 a b c=>(match O0 e with|some (g,h,x,y,z)=>g==("tuple" : Aj)&&h==("zip" : Aj)&&isB T g&&isB T h&&DZ x&&DZ y&&DZ z&&Bz n T x a&&Bz n T y b&&Bz n T z c|none=>Ad)|_=>Ad)
    |.dnew=>Ad
    |.fld _ _=>Ad
noncomputable def Jb:Ag->Tc->An->E->Ak
 |0,_,_,_=>Ad
 |n+1,T,e,c=>(JH e λo x=>decide (o=.Not)&&(Mf c λa=>Jb n T x a)) ||
  (IV e λo xs _=>(decide (o=.And)&&(Mb c λes=>chkBs n T xs es && !xs.isEmpty))||(decide (o=.Or)&&(Me c λes=>chkBs n T xs es && !xs.isEmpty))) ||
  (Nd e λx os ys=>(Ou c λop a b=>Fl os λop'=>Fl ys λy=>decide (op'=op) && !behindInMarks op y&&Bz n T x a&&Bz n T y b) ||
   (Ow c λop1 op2 a b c=>JB os λo1 o2=>JB ys λy z=>decide (o1=op1)&&decide (o2=op2) && !lastMarks [op1,op2] [y,z]&&Bz n T x a&&Bz n T y b&&Bz n T z c) ||
   (Ox c λb as=>Sk T (Bz n) x os ys b as)) ||
  Jr e&&Bz n T e c
noncomputable def chkBs:Ag->Tc->Ac An->Es->Ak
  |0,_,_,_=>Ad
  |n+1,T,xs,es=>match xs,es with
    |[],.nil=>Ab
    |x::xs,.cons e es=>Jb n T x e&&chkBs n T xs es
    |_,_=>Ad
noncomputable def chkEs:Ag->Tc->Ac An->Es->Ak
  |0,_,_,_=>Ad
  |n+1,T,xs,es=>match xs,es with
    |[],.nil=>Ab
    |x::xs,.cons e es=>DZ x&&Bz n T x e&&chkEs n T xs es
    |_,_=>Ad
noncomputable def chkO:Ag->Tc->Ao An->E->Ak
  |0,_,_,_=>Ad
  |n+1,T,x,e=>match x with
    |none=>OE e
    |some x=>!(OE e)&&Bz n T x e
noncomputable def chkT:Ag->Tc->Ac An->E->Ak
  |0,_,_,_=>Ad
  |n+1,T,xs,e=>match xs with
    |[]=>Sw e λb=>b
    |x::r=>r.isEmpty&&Jb n T x e
noncomputable def chkI:Ag->Tc->Ak->An->I->Ak
  |0,_,_,_,_=>Ad
  |n+1,T,tu,e,i=>match i with
    |.e a=>Bz n T e a
    |.rng a=>JC e λg l=>Fl l λx=>g==("range" : Aj)&&isB T g&&DZ x&&Bz n T x a
    |.enm a=>JC e λg l=>Fl l λx=>tu&&g==("enumerate" : Aj)&&isB T g&&DZ x&&Bz n T x a
    |.zip a b=>JC e λg l=>JB l λx y=>tu&&g==("zip" : Aj)&&isB T g&&DZ x&&DZ y&&Bz n T x a&&Bz n T y b
    |.rng2 a b=>JC e λg l=>JB l λx y=>g==("range" : Aj)&&isB T g&&DZ x&&DZ y&&Bz n T x a&&Bz n T y b
    |.zip3 a b c=>Ad
end
noncomputable def Se:E->E->Ak
 |.var _,.int _=>Ab
 |_,_=>Ad
noncomputable def Tj:FT->Ak
 |.Sub=>Ab
 |_=>Ad
noncomputable def OS:E->Ak
 |.idx a b=>Se a b
 |.bin op a b=>Tj op&&Se a b
 |.var _=>Ab
 |.int _=>Ab
 |.bl _=>Ab
 |.str _=>Ab
 |.non=>Ab
 |_=>Ad
noncomputable def Kh:Es->Ak
 |.nil=>Ab
 |.cons e es=>OS e&&Kh es
noncomputable def Kq:An->Ao (Aj×AL)
 |.Name x p=>Aa (x,p)
 |_=>Af
theorem LH{e:An}{t:Aj×AL}(h:Kq e=Aa t):e=.Name t.1 t.2:=by
 cases e with
 |Name x p=>cases h;rfl
 |_=>exact nomatch (show Af=Aa t from h)
noncomputable def S9:An->Ao (An×Ac An×AL)
  | .Call f as ks p=>(match ks with
    |[]=>Aa (f,as,p)
    | _=>Af)
  |_=>Af
theorem mQ{e:An}{t:An×Ac An×AL}(h:S9 e=Aa t):e=.Call t.1 t.2.1 [] t.2.2:=by
 cases e with
 |Call f as ks p=>
  cases ks with
  |nil=>cases h;rfl
  |cons=>exact nomatch (show Af=Aa t from h)
 |_=>exact nomatch (show Af=Aa t from h)
noncomputable def OT{α:Type}:Ac α->Ao (α×α)
 |[a,b]=>Aa (a,b)
 |_=>Af
theorem QB{l:Ac α}{t:α×α}(h:OT l=Aa t):l=[t.1,t.2]:=by
 cases l with
 |nil=>exact nomatch (show Af=Aa t from h)
 |cons a l=>
  cases l with
  |nil=>exact nomatch (show Af=Aa t from h)
  |cons b l=>
   cases l with
   |nil=>cases h;rfl
   |cons=>exact nomatch (show Af=Aa t from h)
noncomputable def xHd:Ft->Ao (Aj×Aj×AW×Ac AW)
  | .ExceptHandler ty nm b _=>(match nm,b,ty with
    |some m,h0::hs,Aa e=>(Kq e).bind λg=>Aa (g.1,m,h0,hs)
    | _,_,_=>Af)
theorem vR{h:Ft}{m:Aj}(q:xHd h=Aa (g,m,h0,hs)):∃ p r,h=.ExceptHandler (Aa (.Name g p)) (Aa m) (h0::hs) r:=by
 obtain⟨ty,nm,b,r⟩:=h;cases nm with
 |none=>cases ty<;>cases b<;>exact nomatch (show Af=Aa (g,m,h0,hs) from q)
 |some m'=>
  cases b with
  |nil=>cases ty<;>exact nomatch (show Af=Aa (g,m,h0,hs) from q)
  |cons h0' hs'=>
   cases ty with
   |none=>exact nomatch (show Af=Aa (g,m,h0,hs) from q)
   |some e=>
    obtain⟨g',e1,q⟩:=AQ.mp (show ((Kq e).bind λg=>Aa (g.1,m',h0',hs'))=Aa (g,m,h0,hs) from q)
    cases q;rw[LH e1];exact⟨_,_,rfl⟩
noncomputable def Sg:AW->Ao (AW×Ac Ft×Ac AW)
  | .Try b hs es fs _=>(match b,fs with
    |[bt],[]=>Aa (bt,hs,es)
    | _,_=>Af)
  |_=>Af
theorem mK{st bt:AW}{hs:Ac Ft}{es:Ac AW}(q:Sg st=Aa (bt,hs,es)):∃ p,st=.Try [bt] hs es [] p:=by
 cases st with
 |Try b h e f p=>
  cases b with
  |nil=>cases f<;>exact nomatch (show Af=Aa (bt,hs,es) from q)
  |cons x b=>
   cases b with
   |cons=>cases f<;>exact nomatch (show Af=Aa (bt,hs,es) from q)
   |nil=>
    cases f with
    |nil=>cases q;exact⟨_,rfl⟩
    |cons=>exact nomatch (show Af=Aa (bt,hs,es) from q)
 |_=>exact nomatch (show Af=Aa (bt,hs,es) from q)
noncomputable def SZ(e:An)(F:Aj->Aj->An->Ak):Ak:=JC e λg l=>JB l λa t=>Fj a λv=>F g v t
theorem sE{e:An}{F:Aj->Aj->An->Ak}(h:SZ e F=Ab):∃ g p v q t r,e=.Call (.Name g p) [.Name v q,t] [] r/\F g v t=Ab:=by
 obtain⟨g,p,l,r,rfl,h⟩:=J_9 h;obtain⟨a,t,rfl,h⟩:=Lp h;obtain⟨v,q,rfl,h⟩:=FX h;exact⟨g,p,v,q,t,r,rfl,h⟩
noncomputable def RH(T:Tc):Ac An->Ac Ki->Ak
  |[],ks=>ks.isEmpty
  | e::r,ks=>Jz ks λk ks=>Fj e λt=>(match k with
    |.cls c=>inX T.exs t c&&glB T t&&Hk t
    | _=>Ad)&&RH T r ks
noncomputable def SM(T:Tc)(g:Aj)(f:Ag):Ak:=(T.fns.any λp=>p.1==g&&p.2.1==f&&p.2.2==1001)&&glB T g&&Hk g
noncomputable def M9(f:An->E->Ak):Ac An->Es->Ak
 |[],.nil=>Ab
 |x::xs,.cons e es=>DZ x&&f x e&&M9 f xs es
 |_,_=>Ad
noncomputable def cK(T:Tc)(t:An)(ks:Ac Ki):Ak:=Jz ks λk r=>match k with
  |.verr=>r.isEmpty&&(Fj t λt=>t==("ValueError" : Aj)&&isB T t)
  | .cls c=>(match r with
    |[]=>Fj t λt=>inX T.exs t c&&glB T t&&Hk t
    | k2::r=>Kk t λts=>RH T ts (.cls c::k2::r)&&decide (ts.length<=1000))
  |_=>Ad
noncomputable def FG:Ag->Tc->Ag->An->E->Ak
  |0,_,_,_,_=>Ad
  |n+1,T,x,e,c=>match c with
    |.bl b=>Kl e λk=>decide (k=.bool b)
    |.no a=>JH e λo y=>decide (o=.Not)&&FG n T x y a
    | .and es=>(match es with
      |.nil=>Ad
      | .cons a r=>(match r with
        |.nil=>IV e λo l _=>decide (o=.And)&&(Fl l λy=>FG n T x y a)
        | .cons a' as=>IV e λo l p=>decide (o=.And)&&(Jz l λy l=>Jz l λz zs=>FG n T x y a&&FG n T x (.BoolOp .And (z::zs) p) (.and (.cons a' as)))))
    |.isi a ks=>Kj a λi=>SZ e λg v t=>i==x&&g==("isinstance" : Aj)&&isB T g&&isV T v x&&cK T t ks
    | .call f as=>(match as with
      |.nil=>Ad
      | .cons a r=>(match r with
        |.nil=>Kj a λi=>JC e λg l=>Fl l λw=>Fj w λv=>SM T g f&&isV T v i
        | .cons _ _=>Ad))
    |.str s=>Kl e λk=>decide (k=.str s)
    |.lst es=>OJ e λxs=>M9 (FG n T x) xs es&&decide (xs.length<=1000)
    |.tup es=>Kk e λxs=>M9 (FG n T x) xs es&&decide (xs.length<=1000)
    |.bin op a b=>decide (op=.Add)&&(Kj a λi=>Oz e λl o y=>decide (o=.Add)&&(Fj l λv=>isV T v i&&FG n T x y b))
    |.fld o f=>Kj o λi=>OA e λw g _=>Fj w λv=>i==x&&g==f&&(f==("triple" : Aj)||f==("points" : Aj))&&isV T v x
    |_=>Ad
noncomputable def LZ(n:Ag)(T:Tc)(x:Ag)(y:An)(e:E):Ak:=(JH y λo z=>decide (o=.Not)&&(Mf e λa=>Jr z&&FG n T x z a))||(Jr y&&FG n T x y e)
noncomputable def Jw(n:Ag)(T:Tc)(x:Ag):Ac An->Es->Ak
 |[],.nil=>Ab
 |y::ys,.cons e es=>LZ n T x y e&&Jw n T x ys es
 |_,_=>Ad
noncomputable def Yo(n:Ag)(T:Tc)(x:Ag)(e:An)(c:E):Ak:=(IV e λo ys _=>(decide (o=.Or)&&(Me c λes=>Jw n T x ys es && !ys.isEmpty))||(decide (o=.And)&&(Mb c λes=>Jw n T x ys es && !ys.isEmpty)))||LZ n T x e c
noncomputable def S8:E->Ak
 |.isi _ _=>Ab
 |.bl _=>Ab
 |_=>Ad
noncomputable def cT:E->Ak
 |.lst _=>Ab
 |_=>Ad
noncomputable def cJ(n:Ag)(T:Tc)(x:Ag)(v:An)(e:E):Ak:=(Kj e λi=>Fj v λy=>isV T y i)||(S8 e&&FG n T x v e)
noncomputable def M8:Ag->Tc->Ag->Ac AW->Ss->Ak
  |0,_,_,_,_=>Ad
  |n+1,T,x,sts,ss=>match ss with
    |.nil=>sts.isEmpty
    | .cons s ss=>Jz sts λst r=>(match s with
      |.asg i b e=>Nf st λy v=>T.N[i]? == Aa y&&JG T y&&K0 v&&FG n T x v e&&(!b||cT e)
      | .ife c a b=>(match b with
        |.nil=>Nj st λt xs ys=>ys.isEmpty&&(Yo n T x t c&&M8 n T x xs a)
        | .cons _ _=>Ad)
      | .ret e=>OH st λo=>(match o with
        |some v=>cJ n T x v e
        | none=>Ad)
      |.app i e=>RO st λy m l=>Fl l λv=>m==("append" : Aj)&&isV T y i&&DZ v&&FG n T x v e
      | _=>Ad)&&M8 n T x r ss
noncomputable def Sd:E->Ak
 |.var _=>Ab
 |.cmp _ a b=>OS a&&OS b
 |_=>Ad
noncomputable def Op(n:Ag)(T:Tc)(st:AW)(s:S):Ak:=match s with
  |.expr e=>Ma e λf as=>L9 st λv=>Bz n T v (.call f as)&&Kh as
  |.asg i b e=>!b&&(Ma e λf as=>Nf st λy v=>T.N[i]? == Aa y&&JG T y&&Bz n T v (.call f as)&&Kh as)
  |_=>Ad
noncomputable def RM:Ss->(S->Ak)->Ak
  |.nil,_=>Ad
  | .cons a r,F=>(match r with
    |.nil=>F a
    | .cons _ _=>Ad)
theorem UO{l:Ss}{F:S->Ak}(h:RM l F=Ab):∃ a,l=.cons a .nil/\F a=Ab:=by
 cases l with
 |nil=>exact noF h
 |cons a r=>
  cases r with
  |nil=>exact⟨a,rfl,h⟩
  |cons=>exact noF h
noncomputable def Xg(f:AW->S->Ak)(n:Ag)(T:Tc)(st:AW):S->Ak
 |.ife c a b=>RM a λa=>RM b λb=>Nj st λt xs ys=>Fl xs λx=>Fl ys λy=>Jb n T t c&&Sd c&&f x a&&f y b
 |_=>Ad
noncomputable def OM:Ag->Ag->Tc->AW->S->Ak
 |0,n,T,st,s=>Op n T st s
 |m+1,n,T,st,s=>Op n T st s||Xg (OM m n T) n T st s
noncomputable def dZ:E->Ak
  | .bi b as=>(match b,as with
    |.len,.nil=>Ab
    | _,_=>Ad)
  |_=>Ad
noncomputable def dY:S->Ak
 |.expr e=>dZ e
 |_=>Ad
noncomputable def OU:Ss->Ak
 |.cons s _=>dY s
 |.nil=>Ad
noncomputable def hdB(T:Tc)(g:Aj)(c:Ag):Ak:=inX T.exs g c&&inX T.rzs g c&&glB T g&&Hk g
mutual
noncomputable def No:Ag->Tc->AW->S->Ak
  |0,_,_,_=>Ad
  |n+1,T,st,s=>match s with
    |.pass=>Ad
    |.brk=>Ad
    |.cont=>Ad
    |.asg i _ e=>Nf st λx v=>T.N[i]? == Aa x&&JG T x&&Bz n T v e
    |.asgT ts e=>OB st λt v=>Kk t λys=>(FD ys).isSome&&tgC T ts (tgN ys)&&(XG v||Dr 4 ys.length)&&Bz n T v e
    |.expr e=>L9 st λv=>K0 v&&Bz n T v e
    |.ret e=>OH st λo=>match o with|some v=>Bz n T v e|none=>Ad
    |.retN=>Ad
    |.ife c a b=>Nj st λt xs ys=>Jb n T t c&&chkSs n T xs a&&chkSs n T ys b
    |.fors t it body=>OK st λtg iter xs ys=>ys.isEmpty&&(Fj tg λx=>tgC T [t] [x]&&Ng iter&&chkI n T Ad iter it&&chkSs n T xs body)
    |.forT ts it body=>OK st λtg iter xs zs=>zs.isEmpty&&(Kk tg λys=>(FD ys).isSome&&tgC T ts (tgN ys)&&Ng iter&&chkI n T Ab iter it&&chkSs n T xs body)
    |.whl c body=>Ad
    |.rais c as=>!(T.rzs.any λp=>p.2==c)||(OI st λa b=>b.isNone&&(match a with|some e=>M3 e λg x xs=>inX T.rzs g c&&glB T g&&Hk g&&decide (xs.length<=1000)&&chkEs n T (x::xs) as|none=>Ad))
    |.tryx bs c x h=>(match bs with | .cons b .nil=>(match Sg st with|some (bt,[h1],[])=>(match xHd h1 with|some (g,m,h0,hs)=>hdB T g c&&T.N[x]? == Aa m&&T.sc.names.lookup m==Aa .local&&OM 6 n T bt b&&M8 n T x (h0::hs) h|none=>Ad)|_=>Ad)|_=>Ad)
    |.try2 _ _ _ _ _ _ _=>Ad
    |.app i e=>RO st λx m l=>Fl l λv=>m==("append" : Aj)&&isV T x i&&DZ v&&Bz n T v e
    |.ext i e=>Ad
    |.rev i=>Ad
    |.clr i=>Ad
    |.put i k e=>OB st λt v=>Nc t λo y=>Fj o λx=>isV T x i&&QJ y&&Bz n T y k&&Bz n T v e
    |.swp _ _ _=>Ad
    |.apop _ _ _=>Ad
    |.ins i k e=>Ad
    |.dput _ _ _=>Ad
    |.dsd _ _ _=>Ad
    |.rel _=>Ad
noncomputable def chkSs:Ag->Tc->Ac AW->Ss->Ak
  |0,_,_,_=>Ad
  | n+1,T,sts,ss=>(match ss with
    |.nil=>sts.isEmpty
    |.cons (.rel i) ss=>chkSs n T sts ss
    | .cons s ss=>(match sts with
      |st::r=>No n T st s&&chkSs n T r ss
      | []=>Ad))||OU ss
end
noncomputable def IA(fuel:Ag)(hot:Ak)(fns:Ac (Aj×Ag×Ag))(bl:Ac Aj)(rzs exs gls:Ac (Aj×Ag))(ps N:Ac Aj)(st:AW)(df:Df):Ak:=
  let sc:=CV st
  sc.kind==.function && !sc.isCoroutine && !sc.isGenerator&&LQ N&&N.take ps.length==ps&&ps.all (λx=>sc.names.lookup x==Aa .local||sc.names.lookup x==Aa .cell)&&sc.names.all (λy=>y.2 != .free)&&N.length==df.n &&
  (match hot with
  |true=>M8 fuel ⟨sc,N,fns,bl,rzs,exs,gls⟩ 0 (FE st) df.body
  | false=>chkSs fuel ⟨sc,N,fns,bl,rzs,exs,gls⟩ (FE st) df.body)
structure XT (up:Ag->Ac Ag) (xn:Ag->Ac D->R Ex) (CL:ClA) (rzs exs:Ac (Aj×Ag)) (K:Fg) (mg:Aj->Ao Ai):Prop where
 xc:∀ c C,CL c=Aa C->XcOk K C
 rz:∀ p∈rzs,∃ C,CL p.2=Aa C/\mg p.1=Aa (.ref C)
 ex:∀ p∈exs,∃ C,mg p.1=Aa (.ref C)/\MY K CL up p.2 C/\∀ c D,CL c=Aa D->B6 K (.ref D) (.ref C)=Aa ((up c).contains p.2)
 made:∀ c C ds,CL c=Aa C->xn c ds=.bad\/(xn c ds=.ok ⟨c,[]⟩/\D5 K C Af=Ab)\/∃ f,XIn K mg C f/\Nh xn c f ds
 nf:∀ c C,CL c=Aa C->∀ f:Aj,(f==("triple" : Aj)||f==("points" : Aj))=Ab->G2 K C=Ab/\AR K (.ref C) f=Aa Af
 xb:∀ c,(∀ p∈rzs,p.2≠c)->∀ ds,xn c ds=.bad
def OX(K:Fg)(mg:Aj->Ao Ai)(CL:ClA)(x:Aj)(d:D):Prop:=∃ u v,mg x=Aa u/\BS v u/\∀ H A,Rep K CL H A v d
structure VX (J:Gam) (CL:ClA) (k:Ag) (W:XW) (T:Tc) (X:Cx):Prop where
 sc:X.env.scope=T.sc
 kd:T.sc.kind=.function
 N:X.N=T.N
 nd:T.N.Nodup
 calm:X.calm=Ab
 room:Room k X.A
 bl:∀ x,x∈T.bl->X.mg x=Af
 fn:∀ p∈T.fns,∃ f fd ps,X.mg p.1=Aa (.ref f)/\Co X.K (.ref f)=Ab/\Ge X.K fd ps []/\ps.length=p.2.2%1000/\(p.2.2<1000->FnOk X.prog X.w X.K X.mg X.base (CXR X.prog X.w) k f fd ps (spD X.K CL (p.2.2%1000) (J.fr p.2.1) (J.F p.2.1)))/\(1000<=p.2.2->HotOk X.prog X.w X.K X.mg X.base k f fd ps (spH X.K CL (p.2.2%1000) (J.fr p.2.1) (J.F p.2.1)))
 own:FU (model X.prog X.w) X.A X.env X.xe
 px:∀ A,LW (CXR X.prog X.w) X (EKW X.K CL A W)
 rz:Nm X CL W
 xt:XT J.up J.xn CL T.rzs T.exs X.K X.mg
 gl:∀ p∈T.gls,OX X.K X.mg CL p.1 (J.G p.2)
theorem Rm:∀ A,LW (CXR X.prog X.w) X (EKW X.K CL A W0):=λA pI Z H s ev s' I h=>by
 obtain⟨e,T,cls,dx,H',_,_,_,_,_,_,_,_,_,_,x,_,w⟩:=h;exact w.elim
theorem Sq:Nm X CL W0:=λ_ _ _ _ _ _ _ _ _ _ _ _ _ _ z=>z.elim
def Rf{α:Type}(g f:Rho->R α):Prop:=∀ Y,g Y=.bad\/g Y=f Y
section
variable{X:Cx}{CL:ClA}{W:XW}{a:An}{f g:Rho->R D}
theorem SE.ref(h:SE X CL W a f)(r:Rf g f):SE X CL W a g:=λA=>PE.weak (h A) λZ H Q ⟨hA,Y,q,p⟩=>⟨hA,Y,q,by
 rcases r Y with e|e
 .rw[e]at p;exact p.elim
 .rw[e]at p;exact p⟩
theorem SB.ref{f g:Rho->R Ak}(h:SB X CL W a f)(r:Rf g f):SB X CL W a g:=λA=>PT.weak (h A) λZ H Q ⟨hA,Y,q,p⟩=>⟨hA,Y,q,by
 rcases r Y with e|e
 .rw[e]at p;exact p.elim
 .rw[e]at p;exact p⟩
theorem SW.ref{f g:Rho->R Ak}(h:SW X CL W a f)(r:Rf g f):SW X CL W a g:=λA=>PW.weak (h A) λZ H Q ⟨hA,Y,q,p⟩=>⟨hA,Y,q,by
 rcases r Y with e|e
 .rw[e]at p;exact p.elim
 .rw[e]at p;exact p⟩
theorem SC.ref(h:SC X CL W fr a f)(r:Rf g f):SC X CL W fr a g:=λA=>PE.weak (h A) λZ H Q ⟨hA,Y,q,p⟩=>⟨hA,Y,q,by
 rcases r Y with e|e
 .rw[e]at p;exact p.elim
 .rw[e]at p;exact p⟩
theorem SS.ref{st:AW}{f g:Rho->O}(h:SS X CL W st f)(r:∀ Y,g Y=.bad\/g Y=f Y):SS X CL W st g:=λFz B=>PS.weak (h Fz B) λD Z H ⟨Y,x,p⟩=>⟨Y,x,by
 rcases r Y with e|e
 .rw[e]at p;exact p.elim
 .rw[e]at p;exact p⟩
end
theorem KI:∀{l:Ac Aj},LQ l=Ab->l.Nodup
 |[],_=>List.nodup_nil
 |x::xs,h=>by
  unfold LQ at h;simp only[Am,BN,YH,decide_eq_false_iff_not]at h;exact List.nodup_cons.mpr ⟨h.1,KI h.2⟩
section
variable{T:Tc}{X:Cx}{J:Gam}{CL:ClA}{k:Ag}{W:XW}
theorem VQ(h:Sj T x=Ab):Vis T.sc x:=by
 unfold Sj at h;split at h
 .exact .inl (by assumption)
 .exact .inr (.inl (by assumption))
 .exact .inr (.inr (by assumption))
 .cases h
theorem LJ(h:JG T x=Ab):Loc T.sc x:=by
 unfold JG at h;split at h
 .exact .inl (by assumption)
 .exact .inr (by assumption)
 .cases h
theorem Ii(h:Hk x=Ab):(x==("__debug__" : Aj))=Ad/\(x==("__classdict__" : Aj))=Ad/\x≠"__name__" := by
 unfold Hk at h;simp only[Am,BN]at h;exact⟨h.1.1,h.1.2,λe=>by subst e;exact absurd h.2 (by simp)⟩
theorem M4{i:Ag}(v:VX J CL k W T X)(h:isV T x i=Ab):PE X (.Name x pos) (G4 i):=by
 unfold isV at h;simp only[Am,AZ]at h;obtain⟨h2,h3,_⟩:=Ii h.2;exact Od (by rw[v.N];exact h.1.1) (by rw[v.sc];exact VQ h.1.2) h2 h3
theorem Im(v:VX J CL k W T X)(h:isB T x=Ab):Gl X x/\X.mg x=Af/\x≠"__name__"/\(x==("__debug__" : Aj))=Ad:=by
 unfold isB glB at h;simp only[Am,AZ,YH,AO]at h;obtain⟨h2,h3,h4⟩:=Ii h.2;exact⟨by show X.env.scope.names.lookup x=_;rw[v.sc];exact h.1.2,v.bl x h.1.1,h4,h2⟩
theorem DA{x:An}(h:DZ x=Ab):Aw (x::xs) env=(Ad,eval x env)::Aw xs env:=by
 cases x<;>first|rfl|cases h
theorem iR{y:An}(h:QJ y=Ab):QW y:=by
 intro o i;cases y<;>first|rfl|cases h
theorem Oh{e:An}(h:Ng e=Ab):∀ x,Do e env x=pure x:=by
 intro x;cases e<;>first|rfl|cases h
theorem LN{e:An}{t:Ao An}(h:K0 e=Ab):DH e t l env=pure Ad:=by
 cases e<;>first|rfl|cases h
theorem VB{e:An}(h:Jr e=Ab):∀ whole,Jh e env whole=(do let v <-whole;Kx e.pos;holding [v] (truthy v)):=by
 intro whole;cases e<;>first|rfl|cases h
theorem fX(v:VX J CL k W T X)(scope:Cv):relabel scope X.env=RE T.sc scope:=by
 unfold relabel RE;have:∀ n,X.env.kindOf n=T.sc.names.lookup n:=λn=>by show X.env.scope.names.lookup n=_;rw[v.sc]
 simp only[this,v.sc]
theorem Rt{N':Ac Aj}(v:VX J CL k W T X)(h:Np T scope ts N'=Ab):BlockOk X scope N' ts/\N'.Nodup/\scope.kind=.function:=by
 unfold Np at h;simp only[Am,AZ,Ce,CB,HM,Mq]at h;obtain⟨⟨⟨⟨⟨h1,h2⟩,h4⟩,h5⟩,h6⟩,h7⟩:=h;have at7:∀ i x,N'[i]?=Aa x->i∈ts\/((scope.names.lookup x≠Aa .local/\scope.names.lookup x≠Aa .cell)/\(scope.names.lookup x≠Aa .free\/T.N[i]?=Aa x)):=λi x e=>by
  have hi:=(Bl.mp e).1;have:=h7 i (DE.mpr hi);rcases this with z|z
  .exact .inl (by simpa using z)
  .rw[e]at z;simp only[Am,HM,Mq,CB,AZ]at z;exact .inr z
 refine⟨⟨h1,h2,λy hy hl=>by rw[h2 y hy,hl],λy hy hf=>?_,by rw[v.N];exact h5,λi x e hf hn=>?_,λi x e hl=>?_⟩,KI h6,h1⟩
 .rw[v.sc];rcases h4 y hy with (z|z)|z
  .exact absurd hf z
  .exact .inl z
  .exact .inr z
 .rw[v.N];rcases at7 i x e with z|⟨_,z⟩
  .exact absurd z hn
  .exact z.resolve_left λq=>q hf
 .rcases at7 i x e with z|⟨z,_⟩
  .exact z
  .exact hl.elim (λq=>absurd q z.1) (λq=>absurd q z.2)
theorem VX.blk{xs:Ac Aj}{cl:Ac (Aj×Al)}{s:Ar}{fp:Ac Al}(v:VX J CL k W T X)(h:Np T scope ts (Mi ts xs T.N)=Ab):VX J CL k W0 (T.blk scope ts xs) (cxC X scope cl C (Mi ts xs T.N) s H fp):=by
 obtain⟨_,h2,h3⟩:=Rt v h;exact⟨fX v scope,h3,rfl,h2,v.calm,v.room,v.bl,v.fn,PassesOwn.never,Rm,Sq,v.xt,v.gl⟩
theorem mW{t:Ag}(v:VX J CL k W T X)(hfn:scope.names.lookup x=Aa .cell->X.fn x=Ab)(h:tgO T scope t x=Ab):PG X (.Name x pos) (FF t):=by
 unfold tgO at h;simp only[Am,CB,AZ]at h;rcases h with ⟨h1,h2|h2⟩
 .exact MQ (by rw[v.N];exact v.nd) (by rw[v.N];exact h1) (by rw[v.sc];exact .inl h2) (.inr (by rw[v.sc];exact h2))
 .exact MQ (by rw[v.N];exact v.nd) (by rw[v.N];exact h1) (by rw[v.sc];exact .inr h2.1) (.inl (hfn h2.2))
theorem Px{y:An}{r:Ac An}{zs:Ac Aj}(h:FD (y::r)=Aa zs):∃ x p ws,y=.Name x p/\FD r=Aa ws/\zs=x::ws:=by
 cases y with
 |Name x p=>
  have h':(FD r).map (x :: ·)=Aa zs:=h;cases e:FD r with
  |none=>rw[e]at h';cases h'
  |some ws=>rw[e]at h';cases h';exact⟨x,p,ws,rfl,rfl,rfl⟩
 |_=>cases h
theorem P8(x:Aj)(p:AL)(r:Ac An)(env:CI):CF (.Name x p::r) env=(Ad,assign (.Name x p) env)::CF r env:=rfl
theorem Pw:∀(ys:Ac An)(zs:Ac Aj),FD ys=Aa zs->(CF ys env).length=ys.length/\(CF ys env).findIdx? (·.1)=Af/\(CF ys env).map (·.2)=ys.map λy=>assign y env:=by
 intro ys
 induction ys with
 |nil=>intro _ _;exact⟨rfl,rfl,rfl⟩
 |cons y r ih=>
  intro zs h;obtain⟨x,p,ws,rfl,e,rfl⟩:=Px h;obtain⟨h1,h2,h3⟩:=ih ws e;rw[P8];refine⟨?_,?_,?_⟩
  .rw[BY,BY,h1]
  .rw[List.findIdx?_cons,h2];simp
  .rw[C3,C3,h3]
theorem nC(v:VX J CL k W T X):∀(ys:Ac An)(ts:Ac Ag)(zs:Ac Aj),FD ys=Aa zs->tgB T ts zs=Ab->PGs X ys (ts.foldr (λt u=>Iq (FF t) u) Iy)/\ts.length=ys.length:=by
 intro ys
 induction ys with
 |nil=>
  intro ts zs e h;cases e;cases ts with
  |nil=>exact⟨V9,rfl⟩
  |cons t ts=>cases h
 |cons y r ih=>
  intro ts zs e h;obtain⟨x,p,ws,rfl,e2,rfl⟩:=Px e;cases ts with
  |nil=>cases h
  |cons t ts=>
   have h':(T.N[t]? == Aa x&&T.sc.names.lookup x==Aa .local&&tgB T ts ws)=Ab:=h;simp only[Am,AZ]at h';obtain⟨h1,h2⟩:=ih ts ws e2 h'.2;exact⟨UK (MQ (by rw[v.N];exact v.nd) (by rw[v.N];exact h'.1.1) (by rw[v.sc];exact .inl h'.1.2) (.inr (by rw[v.sc];exact h'.1.2))) h1 (by rw[P8];rfl),congrArg (· + 1) h2⟩
theorem mZ(v:VX J CL k W T X)(hn:(FD ys).isSome=Ab)(h:tgB T ts (tgN ys)=Ab):PG X (.Tuple ys kk pos) (Mh X.K ts.length (ts.foldr (λt u=>Iq (FF t) u) Iy)):=by
 cases e:FD ys with
 |none=>rw[e]at hn;cases hn
 |some zs=>
  have e2:tgN ys=zs:=by unfold tgN;rw[e];rfl
  rw[e2]at h;obtain⟨h1,h2⟩:=nC v ys ts zs e h;obtain⟨h3,h4,_⟩:=Pw (env:=X.env) ys zs e;exact Rl v.calm h1 (by rw[h3,h2]) h4
end
noncomputable def Es.len:Es->Ag
 |.nil=>0
 |.cons _ es=>es.len+1
theorem KR(J:Gam)(Y:Rho):∀(es:Es)(ds:Ac D),evA J Y es=.ok ds->ds.length=es.len
 |.nil,ds,h=>by cases h;rfl
 |.cons e es,ds,h=>by
  obtain⟨x,h1,h2⟩:=KJ (Vu J Y e es ▸ h);obtain⟨xs,h3,h4⟩:=KJ h2;cases h4;exact congrArg (· + 1) (KR J Y es xs h3)
theorem ML(J:Gam)(Y:Rho):∀(es:Es)(ds:Ac D),evB J Y es=.ok ds->ds.length=es.len
 |.nil,ds,h=>by cases h;rfl
 |.cons e es,ds,h=>by
  obtain⟨x,h1,h2⟩:=KJ (Qw J Y e es ▸ h);obtain⟨xs,h3,h4⟩:=KJ h2;cases h4;exact congrArg (· + 1) (ML J Y es xs h3)
theorem W9(J:Gam)(Y:Rho)(e:E)(h:shE Y e=Ab):top Y e (evE J Y e)=evE J Y e:=by
 cases e with
 |var i=>
  show En Y i=Gf Y i;have h':shV Y i=Ab:=h;unfold shV at h';unfold En Gf;cases q:Y[i]? with
  |none=>rfl
  |some x=>
   cases x with
   |none=>rfl
   |some y=>
    obtain⟨d,o⟩:=y;cases o with
    |true=>rw[q]at h';cases h'
    |false=>rfl
 |_=>rfl
theorem MS(J:Gam)(Y:Rho):∀(es:Es),Ix Y es=Ab->evB J Y es=evA J Y es
 |.nil,_=>rfl
 |.cons e es,h=>by
  simp only[gQ,Am]at h;rw[Vu,Qw,W9 J Y e h.1,MS J Y es h.2]
theorem Q0(J:Gam)(c:E):Rf (λY=>evE J Y c) (λY=>top Y c (evE J Y c)):=λY=>by
 by_cases h:shE Y c=Ab
 .exact .inr (W9 J Y c h).symm
 .cases c with
  |var i=>
   refine .inl ?_;show Gf Y i=.bad;have h':¬ shV Y i=Ab:=h;unfold shV at h';unfold Gf;cases q:Y[i]? with
   |none=>rfl
   |some x=>
    cases x with
    |none=>rfl
    |some y=>
     obtain⟨d,o⟩:=y;cases o with
     |true=>rfl
     |false=>rw[q]at h';exact absurd rfl h'
  |_=>exact absurd rfl h
def Pcs(X:Cx)(CL:ClA)(W:XW)(e:An)(f:Rho->R D):Prop:=∃ tg iter elt ifs scope pos N' ts fi fc fe as g,e=.ListComp elt [⟨tg,iter,ifs,0⟩] scope pos/\BlockOk X scope N' ts/\SI X CL W tg iter fi/\GG X.K CL ts as g /\
 (∀ cl C s H fp,PG (cxC X scope cl C N' s H fp) tg g)/\(∀ cl C s H fp,STs (cxC X scope cl C N' s H fp) CL ifs fc)/\(∀ cl C s H fp,SE (cxC X scope cl C N' s H fp) CL W0 elt fe)/\(∀ x,Do iter X.env x=pure x) /\
 ∀ Y,f Y=(fi Y).bind λxs=>(noX (Ck (λx=>(as x Y).bind fc) (λx=>(as x Y).bind fe) xs)).bind λys=>.ok (.lst ys)
theorem Pcs.sc{e:An}{f:Rho->R D}(hc:X.calm=Ab)(h:Pcs X CL W e f):SC X CL W Ab e f:=by
 obtain⟨tg,iter,elt,ifs,scope,pos,N',ts,fi,fc,fe,as,g,rfl,B,hi,hGG,hg,ht,he,hs,ef⟩:=h;exact SC.congr (mJ hc B hi hGG hg ht he hs) ef
structure OkE (J:Gam) (CL:ClA) (W:XW) (X:Cx) (e:An) (c:E):Prop where
 se:SE X CL W e (λY=>evE J Y c)
 st:ST X CL W e (λY=>top Y c (evE J Y c))
 nw:C2 J c=Ab->SC X CL W Ab e (λY=>evE J Y c)
 cp:K0 e=Ad->Pcs X CL W e (λY=>evE J Y c)
section
variable{J:Gam}{CL:ClA}{W:XW}{X:Cx}{e:An}{c:E}
theorem Gc(h:SE X CL W e (λY=>evE J Y c))(ht:∀ Y r,top Y c r=r)(hn:C2 J c=Ad)(hc:K0 e=Ab):OkE J CL W X e c:=
 ⟨h,by simp only[ht];exact h.st,λz=>absurd z (by rw[hn];decide),λz=>absurd z (by rw[hc];decide)⟩
theorem Rn(h:SC X CL W Ab e (λY=>evE J Y c))(ht:∀ Y r,top Y c r=r)(hc:K0 e=Ab):OkE J CL W X e c:=
 ⟨h.se,by simp only[ht];exact h.se.st,λ_=>h,λz=>absurd z (by rw[hc];decide)⟩
theorem XF(hc:X.calm=Ab)(h:Pcs X CL W e (λY=>evE J Y c))(ht:∀ Y r,top Y c r=r):OkE J CL W X e c:=
 ⟨(h.sc hc).se,by simp only[ht];exact(h.sc hc).se.st,λ_=>h.sc hc,λ_=>h⟩
end
theorem cL{k:Ki}(h:RT k=Aa x):∃ T,tyK k=Aa T/\Dv x=Aa (.type T):=by
 cases k<;>simp only[RT]at h<;>cases h
 .exact⟨_,rfl,PyProof.Rows.boot_int⟩
 .exact⟨_,rfl,PyProof.Rows.boot_bool⟩
 .exact⟨_,rfl,PyProof.Rows.boot_str⟩
 .exact⟨_,rfl,Y_6⟩
 .exact⟨_,rfl,F6⟩
structure Snd (J:Gam) (CL:ClA) (k:Ag) (n:Ag):Prop where
 e:∀(W:XW)(T:Tc)(X:Cx)(x:An)(c:E),VX J CL k W T X->Bz n T x c=Ab->OkE J CL W X x c
 b:∀(W:XW)(T:Tc)(X:Cx)(x:An)(c:E),VX J CL k W T X->Jb n T x c=Ab->SB X CL W x (λY=>(top Y c (evE J Y c)).bind B5)
 bs:∀(W:XW)(T:Tc)(X:Cx)(xs:Ac An)(es:Es)(pos:AL),VX J CL k W T X->chkBs n T xs es=Ab->xs≠[]->SW X CL W (.BoolOp .And xs pos) (λY=>(evN J Y es).bind B5)/\SW X CL W (.BoolOp .Or xs pos) (λY=>(evO J Y es).bind B5)
 es:∀(W:XW)(T:Tc)(X:Cx)(xs:Ac An)(es:Es),VX J CL k W T X->chkEs n T xs es=Ab->SA X CL W xs (λY=>evA J Y es)/\SAT X CL W xs (λY=>evB J Y es)/\xs.length=es.len/\(∀ pos,xs≠[]->SE X CL W (.BoolOp .And xs pos) (λY=>evN J Y es)/\SE X CL W (.BoolOp .Or xs pos) (λY=>evO J Y es))/\(∀ pos,(Cj pos (Aw xs X.env)).any (·.1)=Ad)
 o:∀(W:XW)(T:Tc)(X:Cx)(x:Ao An)(c:E),VX J CL k W T X->chkO n T x c=Ab->SO X CL W x (λY=>(top Y c (evE J Y c)).bind (slE c))
 t:∀(T:Tc)(X:Cx)(xs:Ac An)(c:E),VX J CL k W0 T X->chkT n T xs c=Ab->STs X CL xs (λY=>(top Y c (evE J Y c)).bind B5)
 i:∀(W:XW)(T:Tc)(X:Cx)(tu:Ak)(tg x:An)(i:I),VX J CL k W T X->Tf tu tg=Ab->chkI n T tu x i=Ab->SI X CL W tg x (λY=>evI J Y i)
section
variable{J:Gam}{CL:ClA}{W:XW}{k n:Ag}{T:Tc}{X:Cx}
theorem iQ:Snd J CL k 0:=⟨λ_ _ _ _ _ _ h=>noF h,λ_ _ _ _ _ _ h=>noF h,λ_ _ _ _ _ _ _ h=>noF h,λ_ _ _ _ _ _ h=>noF h,λ_ _ _ _ _ _ h=>noF h,λ_ _ _ _ _ h=>noF h,λ_ _ _ _ _ _ _ _ _ h=>noF h⟩
theorem TH{x:An}(h:DZ x=Ab)(hx:(Cj pos (Aw xs env)).any (·.1)=Ad):(Cj pos (Aw (x::xs) env)).any (·.1)=Ad:=by
 rw[DA h];show (Ad||(Cj pos (Aw xs env)).any (·.1))=Ad;rw[hx];rfl
theorem uV(S:Snd J CL k n)(W:XW)(T:Tc)(X:Cx)(xs:Ac An)(es:Es)(v:VX J CL k W T X)(h:chkEs (n+1) T xs es=Ab):SA X CL W xs (λY=>evA J Y es)/\SAT X CL W xs (λY=>evB J Y es)/\xs.length=es.len/\(∀ pos,xs≠[]->SE X CL W (.BoolOp .And xs pos) (λY=>evN J Y es)/\SE X CL W (.BoolOp .Or xs pos) (λY=>evO J Y es))/\(∀ pos,(Cj pos (Aw xs X.env)).any (·.1)=Ad):=by
 cases xs with
 |nil=>
  cases es with
  |nil=>exact⟨QX,VM,rfl,λ_ z=>absurd rfl z,λ_=>rfl⟩
  |cons=>exact noF h
 |cons x xs=>
  cases es with
  |nil=>exact noF h
  |cons e es=>
   replace h:(DZ x&&Bz n T x e&&chkEs n T xs es)=Ab:=h;simp only[Am]at h;obtain⟨⟨h0,h1⟩,h2⟩:=h;have he:=S.e W T X x e v h1;obtain⟨a1,a2,a3,a4,a5⟩:=S.es W T X xs es v h2;refine⟨QD he.se a1 (DA h0),U0 he.st a2 (DA h0),congrArg (· + 1) a3,λpos _=>?_,λpos=>TH h0 (a5 pos)⟩
   cases xs with
   |nil=>
    cases es with
    |nil=>exact⟨Q3 he.se,Q3 he.se⟩
    |cons=>cases a3
   |cons y ys=>
    cases es with
    |nil=>cases a3
    |cons e' es'=>
     obtain⟨b1,b2⟩:=a4 pos (by simp)
     exact⟨WO he.se b1,fw he.se b2⟩
theorem bh(S:Snd J CL k n)(W:XW)(T:Tc)(X:Cx)(x:Ao An)(c:E)(v:VX J CL k W T X)(h:chkO (n+1) T x c=Ab):SO X CL W x (λY=>(top Y c (evE J Y c)).bind (slE c)):=by
 cases x with
 |none=>
  obtain rfl:=kK h;exact mD
 |some x=>
  replace h:(!(OE c)&&Bz n T x c)=Ab:=h;rw[Am]at h;have q:=mC (S.e W T X x c v h.2).st;have e:slE c=λd=>(Fm d).bind λi=>.ok (Aa i):=by
   funext d
   cases c<;>first|rfl|exact absurd (show Ad=Ab from h.1) AG
  rw[e];exact q
theorem bf(S:Snd J CL k n)(T:Tc)(X:Cx)(xs:Ac An)(c:E)(v:VX J CL k W0 T X)(h:chkT (n+1) T xs c=Ab):STs X CL xs (λY=>(top Y c (evE J Y c)).bind B5):=by
 cases xs with
 |nil=>
  replace h:=sF h;obtain⟨b,rfl,h⟩:=h;subst h;exact nI
 |cons x xs=>
  replace h:(xs.isEmpty&&Jb n T x c)=Ab:=h;rw[Am]at h;obtain rfl:=IU h.1;exact nG (S.b W0 T X x c v h.2)
theorem bj(S:Snd J CL k n)(W:XW)(T:Tc)(X:Cx)(tu:Ak)(tg x:An)(i:I)(v:VX J CL k W T X)(ht':Tf tu tg=Ab)(h:chkI (n+1) T tu x i=Ab):SI X CL W tg x (λY=>evI J Y i):=by
 have ht:tu=Ab->im tg=Ab:=λz=>by
  subst z;cases tg<;>first|rfl|cases ht'
 cases i with
 |e a=>
  exact dO (S.e W T X x a v h).se
 |rng a=>
  replace h:=J_9 h;obtain⟨g,pp,l,qq,rfl,h⟩:=h;replace h:=Ga h;obtain⟨y,rfl,h⟩:=h;simp only[Am,AZ]at h;obtain⟨⟨⟨rfl,h1⟩,h2⟩,h3⟩:=h;obtain⟨g1,g2,_,_⟩:=Im v h1;exact vH (S.e W T X _ a v h3).st g1 g2 (DA h2)
 |rng2 a b=>
  replace h:=J_9 h;obtain⟨g,pp,l,qq,rfl,h⟩:=h;replace h:=Lp h;obtain⟨y,z,rfl,h⟩:=h;simp only[Am,AZ]at h;obtain⟨⟨⟨⟨⟨rfl,h1⟩,h2⟩,h3⟩,h4⟩,h5⟩:=h;obtain⟨g1,g2,_,_⟩:=Im v h1;exact mG (S.e W T X _ a v h4).st (S.e W T X _ b v h5).st g1 g2 (by rw[DA h2,DA h3];rfl) (by rw[DA h3];rfl)
 |zip a b=>
  replace h:=J_9 h;obtain⟨g,pp,l,qq,rfl,h⟩:=h;replace h:=Lp h;obtain⟨y,z,rfl,h⟩:=h;simp only[Am,AZ]at h;obtain⟨⟨⟨⟨⟨⟨h0,rfl⟩,h1⟩,h2⟩,h3⟩,h4⟩,h5⟩:=h;obtain⟨g1,g2,_,_⟩:=Im v h1;have hg:=ht h0;cases tg with
  |Tuple es m tpos=>exact vG (S.e W T X _ a v h4).se (S.e W T X _ b v h5).se g1 g2 (by rw[DA h2,DA h3];rfl) (by rw[DA h3];rfl)
  |_=>cases hg
 |zip3 a b c=>exact absurd (show Ad=Ab from h) AG
 |enm a=>
  replace h:=J_9 h;obtain⟨g,pp,l,qq,rfl,h⟩:=h;replace h:=Ga h;obtain⟨y,rfl,h⟩:=h;simp only[Am,AZ]at h;obtain⟨⟨⟨⟨h0,rfl⟩,h1⟩,h2⟩,h3⟩:=h;obtain⟨g1,g2,_,_⟩:=Im v h1;have hg:=ht h0;cases tg with
  |Tuple es m tpos=>exact mH (S.e W T X _ a v h3).se g1 g2 (DA h2)
  |_=>cases hg
theorem Lv{c:Prop}[GF c]{b:Ak}:(if c then R.ok (D.bl b) else .bad)=.bad\/∃ b',(if c then R.ok (D.bl b) else .bad)=.ok (.bl b'):=by
 by_cases h:c
 .rw[Az h];exact .inr ⟨_,rfl⟩
 .rw[AK h];exact .inl rfl
theorem Vy(op:DM)(d d':D):Cn op d d'=.bad\/∃ b,Cn op d d'=.ok (.bl b):=by
 cases op with
 |Eq=>exact Lv
 |NotEq=>exact Lv
 |In=>
  cases d' with
  |lst ys=>exact Lv
  |tup ys=>exact Lv
  |dic kvs=>
   show (match Ko d with|some k=>R.ok (D.bl (kvs.any λp=>p.1==k))|none=>.bad)=.bad\/∃ b,(match Ko d with|some k=>R.ok (D.bl (kvs.any λp=>p.1==k))|none=>.bad)=.ok (.bl b)
   cases Ko d with
   |some k=>exact .inr ⟨_,rfl⟩
   |none=>exact .inl rfl
  |_=>exact .inl rfl
 |NotIn=>
  cases d' with
  |lst ys=>exact Lv
  |tup ys=>exact Lv
  |_=>exact .inl rfl
 |Is=>
  cases d' with
  |non=>cases d<;>first|exact .inr ⟨_,rfl⟩|exact .inl rfl
  |_=>cases d<;>first|exact .inl rfl|exact .inr ⟨_,rfl⟩
 |IsNot=>
  cases d' with
  |non=>cases d<;>first|exact .inr ⟨_,rfl⟩|exact .inl rfl
  |_=>cases d<;>first|exact .inl rfl|exact .inr ⟨_,rfl⟩
 |_=>
  cases d with
  |int i=>cases d'<;>first|exact .inr ⟨_,rfl⟩|exact .inl rfl
  |_=>exact .inl rfl
theorem VZ(op:DM)(d d':D):(Cn op d d').bind B5=.bad\/(Cn op d d').bind B5=(Cn op d d').bind D6:=by
 rcases Vy op d d' with h|⟨b,h⟩
 .rw[h];exact .inl rfl
 .rw[h];exact .inr rfl
theorem Xk(e e':E)(es:Es):Rf (λY=>(evN J Y (.cons e (.cons e' es))).bind B5) (λY=>((top Y e (evE J Y e)).bind B5).bind λc=>if c=Ab then (evN J Y (.cons e' es)).bind B5 else .ok Ad):=λY=>by
 have e0:evN J Y (.cons e (.cons e' es))=(evE J Y e).bind λx=>(D6 x).bind λc=>if c=Ab then evN J Y (.cons e' es) else .ok (.bl Ad):=rfl
 dsimp only;rw[e0];rcases Q0 J e Y with z|z<;>dsimp only at z
 .rw[z];exact .inl rfl
 .rw[<-z];cases evE J Y e with
  |bad=>exact .inl rfl
  |exn x=>exact .inr rfl
  |ok d=>
   cases d with
   |bl b=>cases b<;>exact .inr rfl
   |_=>exact .inl rfl
theorem Xj(e e':E)(es:Es):Rf (λY=>(evO J Y (.cons e (.cons e' es))).bind B5) (λY=>((top Y e (evE J Y e)).bind B5).bind λc=>if c=Ab then .ok Ab else (evO J Y (.cons e' es)).bind B5):=λY=>by
 have e0:evO J Y (.cons e (.cons e' es))=(evE J Y e).bind λx=>(D6 x).bind λc=>if c=Ab then .ok (.bl Ab) else evO J Y (.cons e' es):=rfl
 dsimp only;rw[e0];rcases Q0 J e Y with z|z<;>dsimp only at z
 .rw[z];exact .inl rfl
 .rw[<-z];cases evE J Y e with
  |bad=>exact .inl rfl
  |exn x=>exact .inr rfl
  |ok d=>
   cases d with
   |bl b=>cases b<;>exact .inr rfl
   |_=>exact .inl rfl
theorem Rf.tru(e:E):Rf (λY=>(evE J Y e).bind B5) (λY=>(top Y e (evE J Y e)).bind B5):=λY=>by
 rcases Q0 J e Y with z|z<;>dsimp only at z ⊢
 .rw[z];exact .inl rfl
 .rw[<-z];exact .inr rfl
theorem uW(S:Snd J CL k n)(W:XW)(T:Tc)(X:Cx)(xs:Ac An)(es:Es)(pos:AL)(v:VX J CL k W T X)(h:chkBs (n+1) T xs es=Ab)(hne:xs≠[]):SW X CL W (.BoolOp .And xs pos) (λY=>(evN J Y es).bind B5)/\SW X CL W (.BoolOp .Or xs pos) (λY=>(evO J Y es).bind B5):=by
 cases xs with
 |nil=>exact absurd rfl hne
 |cons x xs=>
  cases es with
  |nil=>exact noF h
  |cons e es=>
   replace h:(Jb n T x e&&chkBs n T xs es)=Ab:=h;simp only[Am]at h;obtain⟨h1,h2⟩:=h;have he:=S.b W T X x e v h1;cases xs with
   |nil=>
    cases es with
    |nil=>exact⟨SW.ref (VC he) (Rf.tru e),SW.ref (Xb he) (Rf.tru e)⟩
    |cons=>
     cases n with
     |zero=>exact absurd (show Ad=Ab from h2) AG
     |succ n=>exact absurd (show Ad=Ab from h2) AG
   |cons y ys=>
    cases es with
    |nil=>
     cases n with
     |zero=>exact absurd (show Ad=Ab from h2) AG
     |succ n=>exact absurd (show Ad=Ab from h2) AG
    |cons e' es'=>
     obtain⟨b1,b2⟩:=S.bs W T X (y::ys) (.cons e' es') pos v h2 (by simp)
     exact⟨SW.ref (Xc he b1) (Xk e e' es'),SW.ref (Xu he b2) (Xj e e' es')⟩
theorem mV(S:Snd J CL k n){x:An}{ops:Ac DM}{b:BI}(v:VX J CL k W T X)(h:Sk T (Bz n) x ops ys b as=Ab):SB X CL W (.Compare x ops ys pos) (λY=>(top Y (.bi b as) (evE J Y (.bi b as))).bind B5):=by
 exact absurd (show Ad=Ab from h) AG
theorem bo(S:Snd J CL k n)(W:XW)(T:Tc)(X:Cx)(x:An)(c:E)(v:VX J CL k W T X)(h:Jb (n+1) T x c=Ab):SB X CL W x (λY=>(top Y c (evE J Y c)).bind B5):=by
 have plain:∀ e,Jr e=Ab->Bz n T e c=Ab->SB X CL W e (λY=>(top Y c (evE J Y c)).bind B5):=λe h1 h2=>WP (S.e W T X e c v h2).st (VB h1)
 replace h:((JH x λo x=>decide (o=.Not)&&(Mf c λa=>Jb n T x a))||(IV x λo xs _=>(decide (o=.And)&&(Mb c λes=>chkBs n T xs es && !xs.isEmpty))||(decide (o=.Or)&&(Me c λes=>chkBs n T xs es && !xs.isEmpty)))||(Nd x λx os ys=>(Ou c λop a b=>Fl os λop'=>Fl ys λy=>decide (op'=op) && !behindInMarks op y&&Bz n T x a&&Bz n T y b)||(Ow c λop1 op2 a b c=>JB os λo1 o2=>JB ys λy z=>decide (o1=op1)&&decide (o2=op2) && !lastMarks [op1,op2] [y,z]&&Bz n T x a&&Bz n T y b&&Bz n T z c)||(Ox c λb as=>Sk T (Bz n) x os ys b as))||Jr x&&Bz n T x c)=Ab:=h
 replace h:=(orT h).imp_left λz=>(orT z).imp_left orT
 rcases h with ((h|h)|h)|h
 .replace h:=MR h;obtain⟨o,y,p,rfl,h⟩:=h;replace h:=CY h;obtain⟨h0,h⟩:=h;obtain rfl:=AV h0;replace h:=Wj h;obtain⟨a,rfl,h⟩:=h
  .skip
   refine SB.ref (WQ (S.b W T X _ a v h)) λY=>?_
   show ((top Y a (evE J Y a)).bind λx=>(D6 x).bind λb=>.ok (.bl (!b))).bind B5=.bad\/((top Y a (evE J Y a)).bind λx=>(D6 x).bind λb=>.ok (.bl (!b))).bind B5=_
   cases top Y a (evE J Y a) with
   |bad=>exact .inl rfl
   |exn x=>exact .inr rfl
   |ok d=>cases d<;>first|exact .inr rfl|exact .inl rfl
 .replace h:=Ls h;obtain⟨o,ys,p,rfl,h⟩:=h;replace h:=orT h;rcases h with h|h
  .replace h:=CY h;obtain⟨h0,h⟩:=h;obtain rfl:=AV h0;replace h:=Vj h;obtain⟨es,rfl,h⟩:=h;simp only[Am,BN,Da]at h;exact(S.bs W T X _ _ _ v h.1 h.2).1.sb
  .replace h:=CY h;obtain⟨h0,h⟩:=h;obtain rfl:=AV h0;replace h:=Wi h;obtain⟨es,rfl,h⟩:=h;simp only[Am,BN,Da]at h;exact(S.bs W T X _ _ _ v h.1 h.2).2.sb
 .replace h:=Ve h;obtain⟨w,os,ys,p,rfl,h⟩:=h;replace h:=(orT h).imp_left orT;rcases h with (h|h)|h
  .replace h:=lQ h;obtain⟨op,a,b,rfl,h⟩:=h;replace h:=Ga h;obtain⟨op',rfl,h⟩:=h;replace h:=Ga h;obtain⟨y,rfl,h⟩:=h
   .simp only[Am,BN,AO]at h;obtain⟨⟨⟨rfl,h1⟩,h2⟩,h3⟩:=h;refine SB.ref (uQ (N5 v.room.units _) (S.e W T X _ a v h2).st (S.e W T X _ b v h3).st h1) λY=>?_
    show ((top Y a (evE J Y a)).bind λx=>(top Y b (evE J Y b)).bind λy=>Cn op' x y).bind B5=.bad\/((top Y a (evE J Y a)).bind λx=>(top Y b (evE J Y b)).bind λy=>Cn op' x y).bind B5=_
    cases top Y a (evE J Y a) with
    |bad=>exact .inl rfl
    |exn x=>exact .inr rfl
    |ok d=>
     cases top Y b (evE J Y b) with
     |bad=>exact .inl rfl
     |exn x=>exact .inr rfl
     |ok d'=>
      dsimp only[R.bind];exact VZ _ d d'
  .replace h:=kB h;obtain⟨op1,op2,a,b,c,rfl,h⟩:=h;replace h:=Lp h;obtain⟨o1,o2,rfl,h⟩:=h;replace h:=Lp h;obtain⟨y,z,rfl,h⟩:=h
   .simp only[Am,BN,AO]at h;obtain⟨⟨⟨⟨⟨rfl,rfl⟩,h1⟩,h2⟩,h3⟩,h4⟩:=h;refine SB.ref (iU v.room.units (S.e W T X _ a v h2).st (S.e W T X _ b v h3).st (S.e W T X _ c v h4).st h1) λY=>?_
    show ((top Y a (evE J Y a)).bind λx=>(top Y b (evE J Y b)).bind λy=>(Cn o1 x y).bind λz=>(D6 z).bind λk=>if k=Ab then (top Y c (evE J Y c)).bind λu=>Cn o2 y u else .ok (.bl Ad)).bind B5=.bad\/((top Y a (evE J Y a)).bind λx=>(top Y b (evE J Y b)).bind λy=>(Cn o1 x y).bind λz=>(D6 z).bind λk=>if k=Ab then (top Y c (evE J Y c)).bind λu=>Cn o2 y u else .ok (.bl Ad)).bind B5=_
    cases top Y a (evE J Y a) with
    |bad=>exact .inl rfl
    |exn x=>exact .inr rfl
    |ok d=>
     cases top Y b (evE J Y b) with
     |bad=>exact .inl rfl
     |exn x=>exact .inr rfl
     |ok d'=>
      dsimp only[R.bind];cases Cn o1 d d' with
      |bad=>exact .inl rfl
      |exn x=>exact .inr rfl
      |ok d3=>
       cases d3 with
       |bl k=>
        cases k with
        |false=>exact .inr rfl
        |true=>
         dsimp only[R.bind,D6];rw[Az rfl,Az rfl];cases top Y c (evE J Y c) with
         |bad=>exact .inl rfl
         |exn x=>exact .inr rfl
         |ok d4=>exact VZ _ d' d4
       |_=>exact .inl rfl
  .replace h:=kC h;obtain⟨b,as,rfl,h⟩:=h;exact mV S v h
 .exact plain _ (CY h).1 (CY h).2
end
section
variable{J:Gam}{CL:ClA}{W:XW}{k n:Ag}{T:Tc}{X:Cx}
theorem cM{b:BI}{x:An}(v:VX J CL k W T X)(hb:RU b=Aa g)(hg:isB T g=Ab)(hs:SAT X CL W (x::xs) (λY=>evB J Y as))(h0:DZ x=Ab)(hpl:∀ pos,(Cj pos (Aw xs X.env)).any (·.1)=Ad):OkE J CL W X (.Call (.Name g p) (x::xs) [] pos) (.bi b as):=by
 obtain⟨g1,g2,g3,g4⟩:=Im v hg;cases b<;>simp only[RU]at hb<;>cases hb
 .exact Gc (WN al g1 g2 PySem.boot_len hs g3 g4 (DA h0) hpl) (λ_ _=>rfl) rfl rfl
 .exact Rn (vD qZ g1 g2 Y_6 hs g3 g4 (DA h0) hpl) (λ_ _=>rfl) rfl
 .exact Gc (uP lT g1 g2 F6 hs g3 g4 (DA h0) hpl) (λ_ _=>rfl) rfl rfl
 .exact Gc (WN (ak v.calm) g1 g2 PyProof.Rows.boot_sum hs g3 g4 (DA h0) hpl) (λ_ _=>rfl) rfl rfl
theorem M6{l:Ac (Aj×Ag)}(h:inX l g c=Ab):(g,c)∈l:=by
 unfold inX at h;simp only[Ff,Am,AZ]at h;obtain⟨p,hp,rfl,rfl⟩:=h;exact hp
theorem Ln{x:An}{es:Es}(h:chkEs n T (x::xs) es=Ab):DZ x=Ab/\∃ e es',es=.cons e es'/\∃ m,n=m+1/\chkEs m T xs es'=Ab:=by
 cases n with
 |zero=>exact noF h
 |succ m=>
  cases es with
  |nil=>exact noF h
  |cons e es=>
   replace h:(DZ x&&Bz m T x e&&chkEs m T xs es)=Ab:=h;simp only[Am]at h;exact⟨h.1.1,e,es,rfl,m,rfl,h.2⟩
theorem MC:∀(m:Ag)(xs:Ac An)(es:Es),chkEs m T xs es=Ab->∀ pos,(Cj pos (Aw xs X.env)).any (·.1)=Ad:=by
 intro m
 induction m with
 |zero=>intro xs es h;exact noF h
 |succ m ih=>
  intro xs es h pos;cases xs with
  |nil=>rfl
  |cons x xs=>
   obtain⟨h0,e,es',rfl,m',e1,h1⟩:=Ln h;cases e1;exact TH h0 (ih xs es' h1 pos)
theorem xI(S:Snd J CL k n){x:An}{b:BI}(v:VX J CL k W T X)(h:(match Pb as with|some a=>(match SN x with|some y=>decide (b=.rvs)&&Bz n T y a|none=>Ad)|none=>Ad)=Ab):OkE J CL W X x (.bi b as):=by
 simp[Pb]at h
theorem vZ(S:Snd J CL k n){x:An}{b:BI}(v:VX J CL k W T X)(h:(match RX as with|some (a,c)=>(match Tq x with|some (y,z,_)=>decide (b=.tlt) && !behindInMarks .Lt z&&Bz n T y a&&Bz n T z c|none=>Ad)|none=>Ad)=Ab):OkE J CL W X x (.bi b as):=by
 simp[RX]at h
theorem yI{x:An}{b:BI}(v:VX J CL k W T X)(h:Tl T x b as=Ab):OkE J CL W X x (.bi b as):=by
 exact absurd h AG
theorem uT(S:Snd J CL k n){x:An}{b:BI}(v:VX J CL k W T X)(h:(match RY as with|some (a,k)=>(match Th x with|some (y,j)=>decide (b=.stp)&&decide (j=k)&&decide (0<=k)&&Bz n T y a|none=>Ad)|none=>Ad)=Ab):OkE J CL W X x (.bi b as):=by
 simp[RY]at h
theorem zD(S:Snd J CL k n){x:An}{b:BI}(v:VX J CL k W T X)(h:(match R1 as with|some (a,c)=>(match S6 x with|some (g,h,y,z)=>decide (b=.list)&&g==("list" : Aj)&&h==("range" : Aj)&&isB T g&&isB T h&&DZ y&&DZ z&&Bz n T y a&&Bz n T z c|none=>Ad)|none=>Ad)=Ab):OkE J CL W X x (.bi b as):=by
 simp[R1]at h
theorem sK(S:Snd J CL k n){x:An}{b:BI}(v:VX J CL k W T X)(h:(match RZ as with|some a=>(match S5 x with|some (g,h,y)=>decide (b=.lset)&&g==("len" : Aj)&&h==("set" : Aj)&&isB T g&&isB T h&&DZ y&&Bz n T y a|none=>Ad)|none=>Ad)=Ab):OkE J CL W X x (.bi b as):=by
 simp[RZ]at h
theorem bn(S:Snd J CL k n)(W:XW)(T:Tc)(X:Cx)(x:An)(c:E)(v:VX J CL k W T X)(h:Bz (n+1) T x c=Ab):OkE J CL W X x c:=by
 cases c with
 |non=>
  replace h:=Lr h;obtain⟨c,u,p,rfl,h⟩:=h;obtain rfl:=AV h;exact Gc vJ (λ_ _=>rfl) rfl rfl
 |bl b=>
  replace h:=Lr h;obtain⟨c,u,p,rfl,h⟩:=h;obtain rfl:=AV h;exact Gc Xr (λ_ _=>rfl) rfl rfl
 |int i=>
  replace h:=Lr h;obtain⟨c,u,p,rfl,h⟩:=h;obtain rfl:=AV h;exact Gc uL (λ_ _=>rfl) rfl rfl
 |str i=>
  replace h:=Lr h;obtain⟨c,u,p,rfl,h⟩:=h;obtain rfl:=AV h;exact Gc WL (λ_ _=>rfl) rfl rfl
 |var i=>
  replace h:=FX h;obtain⟨y,p,rfl,h⟩:=h;exact⟨WJ (M4 v h),KY (M4 v h),λz=>(nomatch z),λz=>(nomatch z)⟩
 |glob g=>exact absurd (show Ad=Ab from h) AG
 |bin op a b=>
  replace h:=Vh h;obtain⟨y,op',z,p,rfl,h⟩:=h;simp only[Am,AO]at h;obtain⟨⟨rfl,h1⟩,h2⟩:=h;have ha:=(S.e W T X _ a v h1).st;have hb:=(S.e W T X _ b v h2).st;refine⟨Q4 (QG _) ha hb,(Q4 (QG _) ha hb).st,λz=>?_,λz=>nomatch z⟩
  cases op'<;>first|exact vE ha hb|cases z
 |un op a=>
  replace h:=MR h;obtain⟨o,y,p,rfl,h⟩:=h;replace h:=CY h;obtain⟨h0,h⟩:=h;obtain rfl:=AV h0;simp only[Am,AO]at h;obtain⟨rfl,h1⟩:=h;exact Gc (vK (S.e W T X _ a v h1).st) (λ_ _=>rfl) rfl rfl
 |no a=>
  replace h:=MR h;obtain⟨o,y,p,rfl,h⟩:=h;replace h:=CY h;obtain⟨h0,h⟩:=h;obtain rfl:=AV h0;exact Gc (WM (S.e W T X _ a v h).st) (λ_ _=>rfl) rfl rfl
 |and es=>
  replace h:=Ls h;obtain⟨o,ys,p,rfl,h⟩:=h;replace h:=CY h;obtain⟨h0,h⟩:=h;obtain rfl:=AV h0;simp only[Am,BN,Da]at h;exact Gc ((S.es W T X _ es v h.1).2.2.2.1 _ h.2).1 (λ_ _=>rfl) rfl rfl
 |or es=>
  replace h:=Ls h;obtain⟨o,ys,p,rfl,h⟩:=h;replace h:=CY h;obtain⟨h0,h⟩:=h;obtain rfl:=AV h0;simp only[Am,BN,Da]at h;exact Gc ((S.es W T X _ es v h.1).2.2.2.1 _ h.2).2 (λ_ _=>rfl) rfl rfl
 |cmp op a b=>
  replace h:=Ve h;obtain⟨y,os,ys,p,rfl,h⟩:=h;replace h:=Ga h;obtain⟨op',rfl,h⟩:=h;replace h:=Ga h;obtain⟨z,rfl,h⟩:=h;simp only[Am,BN,AO]at h;obtain⟨⟨⟨rfl,h1⟩,h2⟩,h3⟩:=h;exact Gc (uO (N5 v.room.units _) (S.e W T X _ a v h2).st (S.e W T X _ b v h3).st h1) (λ_ _=>rfl) rfl rfl
 |cmp2 op1 op2 a b c=>exact absurd (show Ad=Ab from h) AG
 |ite c a b=>exact absurd (show Ad=Ab from h) AG
 |call f as=>
  replace h:=NO h;obtain⟨g,pp,y,ys,qq,rfl,h⟩:=h;simp only[Am,Ff,AZ,AO]at h;obtain⟨⟨⟨⟨⟨p,hp,⟨rfl,rfl⟩,hl⟩,h900⟩,h1⟩,h2⟩,h3⟩:=h;obtain⟨fa,fd,ps,m1,m2,m3,m4,m5,_⟩:=v.fn p hp;have hlt:p.2.2<1000:=by omega
  rw[HX hlt]at m4 m5;have m5:=m5 hlt;obtain⟨n2,n3,n4⟩:=Ii h2;obtain⟨a1,a2,a3,a4,a5⟩:=S.es W T X _ as v h3;obtain⟨s0,e,es',rfl,m,rfl,s1⟩:=Ln h3;have q:SC X CL W (J.fr p.2.1) (.Call (.Name p.1 pp) (y::ys) [] qq) (λY=>evE J Y (.call p.2.1 (.cons e es'))):=pY (sh:=λY=>Ix Y (.cons e es')) m5 v.room (by unfold glB at h1;show X.env.scope.names.lookup p.1=_;rw[v.sc];exact eq_of_beq h1) m1 m2 m3 v.px a1 a2 (λY z=>MS J Y _ z) (λY ds z=>by rw[ML J Y _ _ z,<-a3,hl];rfl) n2 (DA s0) (MC m ys es' s1)
  exact⟨q.se,q.se.st,λz=>by
   have z':J.fr p.2.1=Ab:=z;rw[z']at q;exact q,λz=>nomatch z⟩
 |bi b as=>
  unfold Bz at h;dsimp only at h;simp only[CB]at h;rcases h with (((((h|h)|h)|h)|h)|h)|h
  .replace h:=NO h;obtain⟨g,pp,y,ys,qq,rfl,h⟩:=h;simp only[Am,AZ]at h;obtain⟨⟨h1,h2⟩,h3⟩:=h;obtain⟨s0,e,es',rfl,m,rfl,s1⟩:=Ln h3;exact cM v h1 h2 (S.es W T X _ _ v h3).2.1 s0 (MC m _ es' s1)
  .exact yI v h
  .exact zD S v h
  .exact uT S v h
  .exact sK S v h
  .exact vZ S v h
  .exact xI S v h
 |isi a ks=>
  replace h:=Ga h;obtain⟨k',rfl,h⟩:=h;replace h:=J_9 h;obtain⟨g,pp,l,qq,rfl,h⟩:=h;replace h:=Lp h;obtain⟨y,t,rfl,h⟩:=h;replace h:=FX h;obtain⟨t,pt,rfl,h⟩:=h;simp only[Am,AZ]at h;obtain⟨⟨⟨⟨⟨rfl,h1⟩,h2⟩,h3⟩,h4⟩,h5⟩:=h;obtain⟨g1,g2,_,_⟩:=Im v h1;obtain⟨b1,b2,b3,b4⟩:=Im v h3;obtain⟨ty,t1,t2⟩:=cL h2;exact Gc (uJ t1 g1 g2 b1 b2 t2 b3 b4 (S.e W T X _ a v h5).st (DA h4)) (λ_ _=>rfl) rfl rfl
 |idx a i=>
  replace h:=Qm h;obtain⟨y,z,p,rfl,h⟩:=h;simp only[Am]at h;obtain⟨⟨h1,h2⟩,h3⟩:=h;exact Gc (uM (iR h1) (S.e W T X _ a v h2).st (S.e W T X _ i v h3).st) (λ_ _=>rfl) rfl rfl
 |sl a lo hi=>
  replace h:=Qm h;obtain⟨y,s,p,rfl,h⟩:=h;replace h:=lL h;obtain⟨l,u,st,p',rfl,h⟩:=h;replace h:=CY h;obtain⟨h0,h⟩:=h;obtain rfl:=Y_5.mp h0;simp only[Am]at h;obtain⟨⟨h1,h2⟩,h3⟩:=h;refine Rn (SC.congr (bp (S.e W T X _ a v h1).st (S.o W T X _ lo v h2) (S.o W T X _ hi v h3)) λY=>?_) (λ_ _=>rfl) rfl
  show ((top Y a (evE J Y a)).bind λx=>(top Y lo (evE J Y lo)).bind λl=>(slE lo l).bind λl'=>(top Y hi (evE J Y hi)).bind λh=>(slE hi h).bind λh'=>slD x l' h')=_
  simp only[R.bind_assoc]
 |tup es=>
  replace h:=Lq h;obtain⟨ys,cc,p,rfl,h⟩:=h;simp only[Am,AO]at h;have q:=S.es W T X _ es v h.1;exact Gc (WK q.1 λY ds z=>by rw[KR J Y _ _ z,<-q.2.2.1];omega) (λ_ _=>rfl) rfl rfl
 |lst es=>
  replace h:=Qn h;obtain⟨ys,p,rfl,h⟩:=h;simp only[Am,AO]at h;have q:=S.es W T X _ es v h.1;exact Rn (Q2 q.1 λY ds z=>by rw[KR J Y _ _ z,<-q.2.2.1];omega) (λ_ _=>rfl) rfl
 |comp elt t it c=>
  replace h:=Wk (e:=x) (F:=_) (by unfold Bz at h;exact h)
  obtain⟨y,tg,it',ifs,scope,p,rfl,h⟩:=h;replace h:=FX h;obtain⟨w,pw,rfl,h⟩:=h;simp only[Am]at h;obtain⟨⟨⟨⟨⟨h1,h2⟩,h3⟩,h4⟩,h5⟩,h6⟩:=h;refine XF v.calm ⟨_,_,_,_,_,_,_,_,_,_,_,_,_,rfl,(Rt v h3).1,S.i W T X Ad _ _ it v rfl h1,rP t,λcl C s H fp=>mW (v.blk h3) (λz=>AZ.mpr z) h4,λcl C s H fp=>S.t _ _ _ c (v.blk h3) h5,λcl C s H fp=>(S.e W0 _ _ _ elt (v.blk h3) h6).se,Oh h2,λY=>rfl⟩ (λ_ _=>rfl)
 |compT elt ts it c=>
  replace h:=Wk (e:=x) (F:=_) (by unfold Bz at h;exact h)
  obtain⟨y,tg,it',ifs,scope,p,rfl,h⟩:=h;replace h:=Lq h;obtain⟨ys,cc,pw,rfl,h⟩:=h;simp only[Am]at h;obtain⟨⟨⟨⟨⟨⟨h0,h1⟩,h2⟩,h3⟩,h4⟩,h5⟩,h6⟩:=h;refine XF v.calm ⟨_,_,_,_,_,_,_,_,_,_,_,_,_,rfl,(Rt v h3).1,S.i W T X Ab _ _ it v rfl h1,yL ts,λcl C s H fp=>mZ (v.blk h3) h0 h4,λcl C s H fp=>S.t _ _ _ c (v.blk h3) h5,λcl C s H fp=>(S.e W0 _ _ _ elt (v.blk h3) h6).se,Oh h2,λY=>rfl⟩ (λ_ _=>rfl)
 |tupI it=>
  cases it with
  |zip3 a b c=>
   unfold Bz at h;dsimp only at h;cases q:O0 x with
   |none=>rw[q]at h;cases h
   |some t=>
    obtain⟨g,f,y1,y2,y3⟩:=t;rw[q]at h;simp only[Am,AZ]at h;obtain⟨⟨⟨⟨⟨⟨⟨⟨⟨rfl,rfl⟩,h1⟩,h2⟩,h3⟩,h4⟩,h5⟩,h6⟩,h7⟩,h8⟩:=h;obtain⟨p,p',pos,pos',rfl⟩:=qY q;obtain⟨g1,g2,_,_⟩:=Im v h1;obtain⟨g3,g4,_,_⟩:=Im v h2;exact Gc (uN (S.e W T X _ a v h6).se (S.e W T X _ b v h7).se (S.e W T X _ c v h8).se v.calm g1 g2 g3 g4 (by rw[DA h3,DA h4,DA h5];rfl) (by rw[DA h4,DA h5];rfl) (by rw[DA h5];rfl)) (λ_ _=>rfl) rfl rfl
  |_=>exact noF h
 |dnew=>exact noF h
 |fld o f=>exact noF h
theorem snd:∀ n,Snd J CL k n
 |0=>iQ
 |n+1=>⟨bn (snd n),bo (snd n),uW (snd n),uV (snd n),bh (snd n),bf (snd n),bj (snd n)⟩
end
section
variable{J:Gam}{CL:ClA}{W:XW}{k n:Ag}{T:Tc}{X:Cx}
theorem mY{t:Ag}(v:VX J CL k W T X)(hf:∀ x,X.fn x=Ab)(h:tgC T [t] [x]=Ab):PG X (.Name x pos) (FF t):=by
 unfold tgC at h;simp only[Am,AZ]at h;exact MQ (by rw[v.N];exact v.nd) (by rw[v.N];exact h.1.1) (by rw[v.sc];exact LJ h.1.2) (.inl (hf x))
theorem VA(v:VX J CL k W T X)(hf:∀ x,X.fn x=Ab):∀(ys:Ac An)(ts:Ac Ag)(zs:Ac Aj),FD ys=Aa zs->tgC T ts zs=Ab->PGs X ys (ts.foldr (λt u=>Iq (FF t) u) Iy)/\ts.length=ys.length:=by
 intro ys
 induction ys with
 |nil=>
  intro ts zs e h;cases e;cases ts with
  |nil=>exact⟨V9,rfl⟩
  |cons t ts=>cases h
 |cons y r ih=>
  intro ts zs e h;obtain⟨x,p,ws,rfl,e2,rfl⟩:=Px e;cases ts with
  |nil=>cases h
  |cons t ts=>
   have h':(T.N[t]? == Aa x&&JG T x&&tgC T ts ws)=Ab:=h;simp only[Am,AZ]at h';obtain⟨h1,h2⟩:=ih ts ws e2 h'.2;exact⟨UK (MQ (by rw[v.N];exact v.nd) (by rw[v.N];exact h'.1.1) (by rw[v.sc];exact LJ h'.1.2) (.inl (hf x))) h1 (by rw[P8];rfl),congrArg (· + 1) h2⟩
theorem mX(v:VX J CL k W T X)(hf:∀ x,X.fn x=Ab)(hn:(FD ys).isSome=Ab)(h:tgC T ts (tgN ys)=Ab):PG X (.Tuple ys kk pos) (Mh X.K ts.length (ts.foldr (λt u=>Iq (FF t) u) Iy)):=by
 cases e:FD ys with
 |none=>rw[e]at hn;cases hn
 |some zs=>
  have e2:tgN ys=zs:=by unfold tgN;rw[e];rfl
  rw[e2]at h;obtain⟨h1,h2⟩:=VA v hf ys ts zs e h;obtain⟨h3,h4,_⟩:=Pw (env:=X.env) ys zs e;exact Rl v.calm h1 (by rw[h3,h2]) h4
theorem uR(v:VX J CL k W T X)(hf:∀ x,X.fn x=Ab)(hn:(FD ys).isSome=Ab)(h:tgC T ts (tgN ys)=Ab):PG X (.Tuple ys kk pos) (gSq X.K ts.length (ts.foldr (λt u=>Iq (FF t) u) Iy)):=by
 cases e:FD ys with
 |none=>rw[e]at hn;cases hn
 |some zs=>
  have e2:tgN ys=zs:=by unfold tgN;rw[e];rfl
  rw[e2]at h;obtain⟨h1,h2⟩:=VA v hf ys ts zs e h;obtain⟨h3,h4,_⟩:=Pw (env:=X.env) ys zs e;exact cm v.calm h1 (by rw[h3,h2]) h4
theorem vX{e:An}(h:(XG e||Dr 4 ys.length)=Ab):Gv [.Tuple ys kk pos] e env=pure Af:=by
 cases e with
 |Tuple vs a b=>
  have h4:=E3 (show Dr 4 ys.length=Ab from h)
  have e2:(ys.length==2)=Ad:=by rw[DW];omega
  have e3:(ys.length==3)=Ad:=by rw[DW];omega
  unfold Gv;dsimp only;rw[e2,e3];rfl
 |_=>rfl
theorem T9(ts:Ac Ag):∀ d Y x,EH ts d Y≠.exn x:=λd Y x h=>by
 unfold EH at h;cases d with
 |tup xs=>
  dsimp only at h;cases e:Fa ts xs Y with
  |some r=>rw[e]at h;cases h
  |none=>rw[e]at h;cases h
 |_=>cases h
theorem jQ(ts:Ac Ag):∀ d Y x,JA ts d Y≠.exn x:=λd Y x h=>by
 unfold JA at h;split at h
 .split at h<;>cases h
 .exact T9 ts _ Y x h
theorem jO{elt:An}{gs:Ac JM}:∃ b,DH (.ListComp elt gs scope pos) (Aa (.Name x pos')) l env=pure b/\(b=Ab->env.scope.names.lookup x=Aa .local):=by
 refine⟨_,rfl,λh=>?_⟩
 simp only[Am,AZ]at h;exact h.1.1.2
theorem Q5{v0:An}{i:Ag}{e:E}(v:VX J CL k W T X)(hf:∀ x,X.fn x=Ab)(hi:T.N[i]?=Aa x)(hl:JG T x=Ab)(o:OkE J CL W X v0 e)(hfr:fr=Ab->C2 J e=Ab):SAs X CL W fr i (.Assign [.Name x p] v0 pos) (λY=>evE J Y e):=by
 have hN:X.N.Nodup:=by rw[v.N];exact v.nd
 have hi':X.N[i]?=Aa x:=by rw[v.N];exact hi
 have hx:Loc X.env.scope x:=by rw[v.sc];exact LJ hl
 have sc:SC X CL W fr v0 (λY=>evE J Y e):=by
  cases fr with
  |false=>exact o.se.sc
  |true=>exact o.nw (hfr rfl)
 cases hc:K0 v0 with
 |true=>exact SC.sas hN hi' hx sc (LN hc) (.inl (hf x))
 |false=>
  obtain⟨tg,iter,elt,ifs,scope,pos2,N',ts,fi,fc,fe,as,g,rfl,B,h2,hGG,hg,ht,he,hs,ef⟩:=o.cp hc;obtain⟨b,hb,hb'⟩:=jO (elt:=elt) (gs:=[⟨tg,iter,ifs,0⟩]) (scope:=scope) (pos:=pos2) (pos':=p) (x:=x) (l:=pos.line) (env:=X.env);cases b with
  |false=>exact SC.sas hN hi' hx sc hb (.inl (hf x))
  |true=>
   have q:=iV (pos2:=pos) v.calm B h2 hGG hg ht he hs hN hi' (hb' rfl) hb;have q':SAs X CL W Ab i (.Assign [.Name x p] (.ListComp elt [⟨tg,iter,ifs,0⟩] scope pos2) pos) (λY=>evE J Y e):=by
    have:(λY=>evE J Y e)=_:=funext ef
    rw[this];exact q
   cases fr with
   |true=>exact q'
   | false=>exact λA=>PS.weak (q' A) λD Z H ⟨hA,Y,gd,z⟩=>⟨hA,Y,gd,by
     dsimp only at z ⊢;cases e0:evE J Y e with
     |ok d=>
      rw[e0]at z;exact λv' H' s' r'=>z v' H' s' ⟨r'.1,λ_=>r'.2 rfl⟩
     |exn y=>rw[e0]at z;exact z
     | bad=>rw[e0]at z;exact z⟩
theorem VI{e t:An}(h:∀ x p,t≠.Name x p):HB [t] e l env=pure Ad:=by
 show DH e (Aa t) l env=pure Ad;cases e<;>first|rfl|(cases t<;>first|rfl|exact absurd rfl (h _ _))
theorem UH(Y:Rho)(e:E)(h:∀ i,e≠.var i):evS J Y (.ret e)=O.of Y (evE J Y e) λd=>.ret d (C2 J e):=by
 have k:∀ b:Ak,b=Ad->top Y e (evE J Y e)=evE J Y e->(O.of Y (top Y e (evE J Y e)) λd=>.ret d (C2 J e||b))=O.of Y (evE J Y e) λd=>.ret d (C2 J e):=λb hb ht=>by
  rw[hb,ht];simp only[EL]
 rw[rX];cases e with
 |var i=>exact absurd rfl (h i)
 |_=>exact k _ rfl rfl
structure DefX (X:Cx):Prop where
 fn:∀ x,X.fn x=Ab
 ex:X.ex=[]
 st:X.stack=X.env::X.outer
 fm:X.env.frame=Aa X.env.locals
structure SndS (J:Gam) (CL:ClA) (k:Ag) (n:Ag):Prop where
 s:∀(W:XW)(T:Tc)(X:Cx)(x:AW)(c:S),VX J CL k W T X->DefX X->No n T x c=Ab->SS X CL W x (λY=>evS J Y c)
 ss:∀(W:XW)(T:Tc)(X:Cx)(x:Ac AW)(c:Ss),VX J CL k W T X->DefX X->chkSs n T x c=Ab->SSs X CL W x (λY=>evSs J Y c)
theorem rL(x y:D)(e:Ex):BK x y≠.exn e:=by
 intro z;cases x with
 |lst xs=>cases y<;>first|exact NW z|cases z
 |tup xs=>cases y<;>first|exact NW z|cases z
 |dic kvs=>
  have z':(match (Ko y).bind (Rj kvs) with|some d=>R.ok d|none=>.bad)=.exn e:=z
  cases h:(Ko y).bind (Rj kvs) with
  |none=>rw[h]at z';cases z'
  |some k=>rw[h]at z';cases z'
 |_=>cases z
theorem VS{i:Ag}{y:Ex}:En Y i≠.exn y:=λz'=>by
 unfold En at z';split at z'<;>cases z'
theorem NR(J:Gam)(Y:Rho)(e:E)(h:OS e=Ab)(y:Ex):top Y e (evE J Y e)≠.exn y:=by
 cases e with
 |var i=>
  intro z;have z':En Y i=.exn y:=z;unfold En at z';split at z'<;>cases z'
 |idx a b=>
  cases a with
  |var i=>
   cases b with
   |int j=>
    intro z;have z':(En Y i).bind (λx=>BK x (.int j))=.exn y:=z
    cases e1:En Y i with
    |bad=>rw[e1]at z';cases z'
    |exn w=>exact VS e1
    |ok d=>rw[e1]at z';exact rL _ _ _ z'
   |_=>exact noF h
  |_=>exact noF h
 |bin op a b=>
  have h:(Tj op&&Se a b)=Ab:=h;rw[Am]at h;obtain⟨h0,h⟩:=h;cases op with
  |Sub=>
   cases a with
   |var i=>
    cases b with
    |int j=>
     intro z;have z':(En Y i).bind (λx=>DJ .Sub x (.int j))=.exn y:=z
     cases e1:En Y i with
     |bad=>rw[e1]at z';cases z'
     |exn w=>exact VS e1
     |ok d=>rw[e1]at z';cases d<;>cases z'
    |_=>exact noF h
   |_=>exact noF h
  |_=>exact absurd (show Ad=Ab from h0) AG
 |int i=>intro z;cases z
 |bl i=>intro z;cases z
 |str i=>intro z;cases z
 |non=>intro z;cases z
 |_=>cases h
theorem Qj(J:Gam)(Y:Rho):∀(es:Es),Kh es=Ab->∀ y,evB J Y es≠.exn y
 |.nil,_,y=>λz=>by cases z
 |.cons e es,h,y=>λz=>by
  unfold Kh at h;rw[Am]at h;rw[Qw]at z;cases e1:top Y e (evE J Y e) with
  |bad=>rw[e1]at z;cases z
  |exn w=>exact NR J Y e h.1 w e1
  |ok d=>
   rw[e1,R.bind_ok]at z;cases e2:evB J Y es with
   |bad=>rw[e2]at z;cases z
   |exn w=>exact Qj J Y es h.2 w e2
   |ok ds=>rw[e2]at z;cases z
theorem VX.pw(v:VX J CL k W T X)(own:FU (model X.prog X.w) X.A X.env Xw):VX J CL k W0 T (Cx.pw X pI Xw):=⟨v.sc,v.kd,v.N,v.nd,v.calm,v.room,v.bl,v.fn,own,Rm,Sq,v.xt,v.gl⟩
theorem Us(o:O):(o.seq λY'=>O.next Y')=o:=by cases o<;>rfl
theorem STB.congr{st:Ac AW}{f g:Rho->O}(h:STB X CL st f)(e:∀ Y,g Y=f Y):STB X CL st g:=by
 have:g=f:=funext e;rw[this];exact h
theorem Xa(Sn:Snd J CL k n)(v:VX J CL k W T X)(hf:DefX X){st:AW}{s:S}(h:Op n T st s=Ab):STB X CL [st] (λY=>evSs J Y (.cons s .nil))/\∀ Y y Y',evSs J Y (.cons s .nil)=.exn y Y'->Y'=Y:=by
 have seq:∀ Y,evSs J Y (.cons s .nil)=evS J Y s:=λY=>Us _
 have ofn:∀{r:R D}{f:D->Rho}{Y Y':Rho}{y:Ex},(O.of Y r λd=>O.next (f d))=.exn y Y'->Y'=Y:=λ{r f Y Y' y} z=>by
  cases r with
  |ok d=>cases z
  |exn w=>cases z;rfl
  |bad=>cases z
 have call:∀{e:An}{f:Ag}{as:Es},Bz n T e (.call f as)=Ab->Kh as=Ab->∃ g pp y ys qq,e=.Call (.Name g pp) (y::ys) [] qq/\∃ p∈T.fns,g=p.1/\f=p.2.1/\p.2.2=ys.length+1/\ys.length<900/\glB T g=Ab/\Hk g=Ab/\∃ m,n=m+1/\chkEs m T (y::ys) as=Ab:=λ{e f as} h _=>by
  cases n with
  |zero=>exact noF h
  |succ m=>
   replace h:=NO h;obtain⟨g,pp,y,ys,qq,rfl,h⟩:=h;simp only[Am,Ff,AZ,AO]at h;obtain⟨⟨⟨⟨⟨p,hp,⟨e1,e2⟩,hl⟩,h900⟩,h1⟩,h2⟩,h3⟩:=h;exact⟨g,pp,y,ys,qq,rfl,p,hp,e1.symm,e2.symm,hl,h900,h1,h2,m,rfl,h3⟩
 cases s with
 |expr e0=>
  replace h:(Ma e0 λf as=>L9 st λv=>Bz n T v (.call f as)&&Kh as)=Ab:=h
  replace h:=Vg h;obtain⟨f,as,rfl,h⟩:=h;replace h:=Qo h;obtain⟨v0,pos,rfl,h⟩:=h;rw[Am]at h;obtain⟨g,pp,y,ys,qq,rfl,p,hp,rfl,rfl,hl,h900,h1,h2,m,rfl,h3⟩:=call h.1 h.2;obtain⟨fa,fd,ps,m1,m2,m3,m4,m5,_⟩:=v.fn p hp;have hlt:p.2.2<1000:=by omega
  rw[HX hlt]at m4 m5;have m5:=m5 hlt;obtain⟨n2,n3,n4⟩:=Ii h2;obtain⟨s0,e,es',rfl,m',rfl,s1⟩:=Ln h3;have hlen:ys.length+1=(Es.cons e es').len:=(snd (J:=J) (CL:=CL) (k:=k) (m'+1)).es W T X _ _ v h3 |>.2.2.1;refine⟨STB.congr (jP (X:=X) (fs:=λY=>evA J Y (.cons e es')) (sh:=λY=>Ix Y (.cons e es')) hf.ex m5 v.room (by unfold glB at h1;show X.env.scope.names.lookup p.1=_;rw[v.sc];exact eq_of_beq h1) m1 m2 m3 (λY z=>MS J Y _ z) (λY ds z=>by rw[ML J Y _ _ z,<-hlen,hl]) (λY=>Qj J Y _ h.2) n2 (DA s0) (MC m' ys es' s1) (λpI Xw own=>by
   obtain⟨a1,a2,_⟩:=(snd (J:=J) (CL:=CL) (k:=k) (m'+1)).es W0 T (Cx.pw X pI Xw) _ _ (v.pw own) h3;exact⟨a1,a2⟩) (LN rfl)) λY=>seq Y,λY y Y' z=>?_⟩
  rw[seq]at z;exact ofn (f:=λ_=>Y) z
 |asg i b0 e0=>
  replace h:(!b0&&(Ma e0 λf as=>Nf st λy v=>T.N[i]? == Aa y&&JG T y&&Bz n T v (.call f as)&&Kh as))=Ab:=h
  replace h:=CY h;obtain⟨hb,h⟩:=h;cases b0 with
  |true=>exact absurd (show Ad=Ab from hb) AG
  |false=>
  replace h:=Vg h;obtain⟨f,as,rfl,h⟩:=h;replace h:=Qp h;obtain⟨y0,p0,v0,pos,rfl,h⟩:=h;simp only[Am,AZ]at h;obtain⟨⟨⟨i1,i2⟩,hc⟩,hsim⟩:=h;obtain⟨g,pp,y,ys,qq,rfl,p,hp,rfl,rfl,hl,h900,h1,h2,m,rfl,h3⟩:=call hc hsim;obtain⟨fa,fd,ps,m1,m2,m3,m4,m5,_⟩:=v.fn p hp;have hlt:p.2.2<1000:=by omega
  rw[HX hlt]at m4 m5;have m5:=m5 hlt;obtain⟨n2,n3,n4⟩:=Ii h2;obtain⟨s0,e,es',rfl,m',rfl,s1⟩:=Ln h3;have hlen:ys.length+1=(Es.cons e es').len:=(snd (J:=J) (CL:=CL) (k:=k) (m'+1)).es W T X _ _ v h3 |>.2.2.1;refine⟨STB.congr (nK (X:=X) (fs:=λY=>evA J Y (.cons e es')) (sh:=λY=>Ix Y (.cons e es')) (i:=i) hf.ex m5 v.room (by unfold glB at h1;show X.env.scope.names.lookup p.1=_;rw[v.sc];exact eq_of_beq h1) m1 m2 m3 (λY z=>MS J Y _ z) (λY ds z=>by rw[ML J Y _ _ z,<-hlen,hl]) (λY=>Qj J Y _ hsim) n2 (DA s0) (MC m' ys es' s1) (λpI Xw own=>by
   obtain⟨a1,a2,_⟩:=(snd (J:=J) (CL:=CL) (k:=k) (m'+1)).es W0 T (Cx.pw X pI Xw) _ _ (v.pw own) h3;exact⟨a1,a2⟩) (by rw[v.N];exact v.nd) (by rw[v.N];exact i1) (by rw[v.sc];exact LJ i2) (.inl (hf.fn _)) (LN rfl)) λY=>seq Y,λY y Y' z=>?_⟩
  rw[seq]at z;exact ofn (f:=λd=>Y.set i (Aa (d,Ad))) z
 |_=>exact noF h
theorem rA(op:DM)(x y:D)(e:Ex):Cn op x y≠.exn e:=λz=>by
 rcases Vy op x y with w|⟨b,w⟩<;>(rw[w]at z;cases z)
theorem mU(x:D)(e:Ex):B5 x≠.exn e:=by
 unfold B5;split<;>first|(intro z;cases z;done)|(split<;>intro z<;>cases z)
theorem UZ(J:Gam)(Y:Rho)(c:E)(h:Sd c=Ab)(y:Ex):(top Y c (evE J Y c)).bind B5≠.exn y:=by
 have key:∀ e,top Y c (evE J Y c)≠.exn e:=by
  cases c with
  |var i=>exact NR J Y (.var i) rfl
  |cmp op a b=>
   unfold Sd at h;rw[Am]at h;intro e z;have z':((top Y a (evE J Y a)).bind λx=>(top Y b (evE J Y b)).bind λy=>Cn op x y)=.exn e:=by
    have e0:evE J Y (.cmp op a b)=((top Y a (evE J Y a)).bind λx=>(top Y b (evE J Y b)).bind λy=>Cn op x y):=rZ J Y op a b
    rw[<-e0];exact z
   cases e1:top Y a (evE J Y a) with
   |bad=>rw[e1]at z';cases z'
   |exn w=>exact NR J Y a h.1 w e1
   |ok d=>
    rw[e1,R.bind_ok]at z';cases e2:top Y b (evE J Y b) with
    |bad=>rw[e2]at z';cases z'
    |exn w=>exact NR J Y b h.2 w e2
    |ok d2=>rw[e2,R.bind_ok]at z';exact rA _ _ _ _ z'
  |_=>cases h
 intro z;cases e1:top Y c (evE J Y c) with
 |bad=>rw[e1]at z;cases z
 |exn w=>exact key w e1
 |ok d=>rw[e1,R.bind_ok]at z;exact mU _ _ z
theorem av(Sn:Snd J CL k n)(v:VX J CL k W T X)(hf:DefX X):∀(m:Ag){st:AW}{s:S},OM m n T st s=Ab->STB X CL [st] (λY=>evSs J Y (.cons s .nil))/\∀ Y y Y',evSs J Y (.cons s .nil)=.exn y Y'->Y'=Y:=by
 intro m
 induction m with
 |zero=>intro st s h;exact Xa Sn v hf h
 |succ m ih=>
  intro st s h;replace h:=orT (a:=Op n T st s) (b:=Xg (OM m n T) n T st s) h;rcases h with h|h
  .exact Xa Sn v hf h
  .cases s with
   |ife c a b=>
    replace h:=UO h;obtain⟨a,rfl,h⟩:=h;replace h:=UO h;obtain⟨b,rfl,h⟩:=h;replace h:=QI h;obtain⟨t,xs,ys,pos,rfl,h⟩:=h;replace h:=Ga h;obtain⟨xs,rfl,h⟩:=h;replace h:=Ga h;obtain⟨ys,rfl,h⟩:=h;simp only[Am]at h;obtain⟨⟨⟨h1,h2⟩,h3⟩,h4⟩:=h;obtain⟨a1,a2⟩:=ih h3;obtain⟨b1,b2⟩:=ih h4;have ev:∀ Y,evSs J Y (.cons (.ife c (.cons a .nil) (.cons b .nil)) .nil)=O.of Y ((top Y c (evE J Y c)).bind B5) λk=>if k=Ab then evSs J Y (.cons a .nil) else evSs J Y (.cons b .nil):=λY=>Us _
    refine⟨STB.congr (nJ (λpI Xw own=>(Sn.b W0 T (Cx.pw X pI Xw) _ _ (v.pw own) h1)) (λY y=>UZ J Y c h2 y) a1 b1) λY=>ev Y,λY y Y' z=>?_⟩
    rw[ev]at z;cases e1:(top Y c (evE J Y c)).bind B5 with
    |bad=>rw[e1]at z;cases z
    |exn w=>exact absurd e1 (UZ J Y c h2 w)
    |ok k=>
     rw[e1,O.of_ok]at z;cases k with
     |true=>exact a2 Y y Y' z
     |false=>exact b2 Y y Y' z
   |_=>exact noF h
theorem Kc{i:Ag}{e:Al}(v:VX J CL k W T X)(h:isV T x i=Ab):PE (Cx.hot X e) (.Name x pos) (G4 i):=by
 unfold isV at h;simp only[Am,AZ]at h;obtain⟨h2,h3,_⟩:=Ii h.2;exact Od (by show X.N[i]?=_;rw[v.N];exact h.1.1) (by show Vis X.env.scope x;rw[v.sc];exact VQ h.1.2) h2 h3
theorem Rg{x:Ag}{t:An}{c:E}:∀{n:Ag},FG n T x t c=Ab->∀ Y r,top Y c r=r:=λ{n} h=>by
 cases n with
 |zero=>exact noF h
 |succ n=>
  cases c with
  |var i=>exact noF h
  |_=>exact λ_ _=>rfl
theorem lR(v:VX J CL k W T X)(e:Al):∀(ts:Ac An)(ks:Ac Ki),RH T ts ks=Ab->∃ cs:Ac (Ag×Al),ks=cs.map (λq=>Ki.cls q.1)/\cs.length=ts.length/\PA (Cx.hot X e) ts (Tg (cs.map λq:Ag×Al=>q.2))/\∀ q∈cs,MY X.K CL J.up q.1 q.2:=by
 intro ts
 induction ts with
 |nil=>
  intro ks h;obtain rfl:=IU h;exact⟨[],rfl,rfl,GZ,λq hq=>nomatch hq⟩
 |cons t ts ih=>
  intro ks h;replace h:=Ka h;obtain⟨kk,ks,rfl,h⟩:=h;replace h:=FX h;obtain⟨t,p,rfl,h⟩:=h;replace h:=CY h;obtain⟨h,h4⟩:=h;cases kk with
  |cls c=>
   replace h:(inX T.exs t c&&glB T t&&Hk t)=Ab:=h;simp only[Am]at h;obtain⟨⟨h1,h2⟩,h3⟩:=h;obtain⟨cs,e1,e2,e3,e4⟩:=ih ks h4;obtain⟨C,m1,m3,_⟩:=v.xt.ex _ (M6 h1);obtain⟨n2,_,_⟩:=Ii h3;refine⟨(c,C)::cs,by rw[e1];rfl,by rw[BY,BY,e2],?_,λq hq=>?_⟩
   .exact EA (Wa (X:=Cx.hot X e) (v:=.ref C) (by unfold glB at h2;show X.env.scope.names.lookup t=_;rw[v.sc];exact eq_of_beq h2) m1 rfl n2) e3 rfl
   .rcases Ax.mp hq with rfl|hq
    .exact m3
    .exact e4 q hq
  |_=>exact noF h
theorem OG{e:Al}{f:An->E->Ak}(ih:∀ t c,f t c=Ab->SE (Cx.hot X e) CL W0 t (λY=>evE J Y c)):∀(xs:Ac An)(es:Es),M9 f xs es=Ab->SA (Cx.hot X e) CL W0 xs (λY=>evA J Y es)/\xs.length=es.len
 |[],.nil,_=>⟨QX,rfl⟩
 |[],.cons _ _,h=>nomatch (show Ad=Ab from h)
 |_::_,.nil,h=>nomatch (show Ad=Ab from h)
 |x::xs,.cons c es,h=>by
  have h:(DZ x&&f x c&&M9 f xs es)=Ab:=h;simp only[Am]at h;obtain⟨⟨h1,h2⟩,h3⟩:=h;obtain⟨q,l⟩:=OG ih xs es h3;exact⟨QD (ih x c h2) q (DA h1),by rw[BY,l];rfl⟩
theorem Na(v:VX J CL k W T X)(e:Al)(x:Ag):∀(n:Ag)(t:An)(c:E),FG n T x t c=Ab->SE (Cx.hot X e) CL W0 t (λY=>evE J Y c):=by
 intro n
 induction n with
 |zero=>intro t c h;exact noF h
 |succ n ih=>
  intro t c h;cases c with
  |bl b=>
   replace h:=Lr h;obtain⟨k,u,p,rfl,h⟩:=h;obtain rfl:=AV h;exact Xr
  |no a=>
   replace h:=MR h;obtain⟨o,y,p,rfl,h⟩:=h;replace h:=CY h;obtain⟨h0,h⟩:=h;obtain rfl:=AV h0;have q:=(ih _ _ h).st;refine SE.congr (WM q) λY=>?_
   show ((top Y a (evE J Y a)).bind λx=>(D6 x).bind λb=>R.ok (D.bl (!b)))=_
   rw[Rg h]
  |and es=>
   cases es with
   |nil=>exact noF h
   |cons a as=>
    cases as with
    |nil=>
     replace h:=Ls h;obtain⟨o,l,p,rfl,h⟩:=h;replace h:=CY h;obtain⟨h0,h⟩:=h;obtain rfl:=AV h0;replace h:=Ga h;obtain⟨y,rfl,h⟩:=h;exact SE.congr (Q3 (ih _ _ h)) λY=>rfl
    |cons a' as=>
     replace h:=Ls h;obtain⟨o,l,p,rfl,h⟩:=h;replace h:=CY h;obtain⟨h0,h⟩:=h;obtain rfl:=AV h0;replace h:=Ka h;obtain⟨y,l,rfl,h⟩:=h;replace h:=Ka h;obtain⟨z,zs,rfl,h⟩:=h;exact SE.congr (WO (ih _ _ (CY h).1) (ih _ _ (CY h).2)) λY=>rfl
  |isi a ks=>
   replace h:=MJ h;obtain⟨i,rfl,h⟩:=h;replace h:=sE h;obtain⟨g,pp,w,pq,u,pr,rfl,h⟩:=h;simp only[Am,AZ]at h;obtain⟨⟨⟨⟨rfl,rfl⟩,h3⟩,h4⟩,h⟩:=h;obtain⟨g1,g2,_,_⟩:=Im v h3;replace h:=Ka h;obtain⟨kk,ks,rfl,h⟩:=h;cases kk with
   |verr=>
    replace h:=CY h;obtain⟨h0,h⟩:=h;obtain rfl:=IU h0;replace h:=FX h;obtain⟨t,pt,rfl,h⟩:=h;simp only[Am,AZ]at h;obtain⟨h5,h6⟩:=h;obtain⟨b1,b2,_,_⟩:=Im v h6;rw[h5]at b1 b2 ⊢;exact vL (X:=Cx.hot X e) v.xt.xc g1 g2 b1 b2 (KY (Kc v h4)) rfl
   |cls c=>
    cases ks with
    |nil=>
     replace h:=FX h;obtain⟨t,pt,rfl,h⟩:=h;simp only[Am]at h;obtain⟨⟨h5,h6⟩,h7⟩:=h;obtain⟨C,m1,m3,_⟩:=v.xt.ex _ (M6 h5);obtain⟨n2,_,_⟩:=Ii h7;exact uK (X:=Cx.hot X e) v.xt.xc g1 g2 (by unfold glB at h6;show X.env.scope.names.lookup _=_;rw[v.sc];exact eq_of_beq h6) m1 m3 n2 (KY (Kc v h4)) rfl
    |cons k2 ks=>
     replace h:=Lq h;obtain⟨ts,z1,z2,rfl,h⟩:=h;replace h:=CY h;obtain⟨h5,h6⟩:=h;obtain⟨cs,e1,e2,e3,e4⟩:=lR v e _ _ h5;have hne:cs≠[]:=by rintro rfl;cases e1
     rw[e1];exact uI (X:=Cx.hot X e) (W:=W0) (up:=J.up) v.xt.xc g1 g2 e3 hne (by rw[e2];exact AV h6) e4 (KY (Kc v h4)) rfl
   |_=>exact noF h
  |call f as=>
   cases as with
   |nil=>exact noF h
   |cons a as=>
    cases as with
    |cons=>exact noF h
    |nil=>
    replace h:=MJ h;obtain⟨i,rfl,h⟩:=h;replace h:=J_9 h;obtain⟨g,p0,l,p2,rfl,h⟩:=h;replace h:=Ga h;obtain⟨w,rfl,h⟩:=h;replace h:=FX h;obtain⟨w0,p1,rfl,h⟩:=h;replace h:=CY h;obtain⟨h1,h4⟩:=h;unfold SM at h1;simp only[Am,Ff,AZ]at h1;obtain⟨⟨⟨p,hp,⟨rfl,rfl⟩,hl⟩,g1⟩,g2⟩:=h1;obtain⟨fa,fd,ps,m1,m2,m3,m4,_,m5⟩:=v.fn p hp;have m5:=m5 (by omega)
    obtain⟨n2,_,_⟩:=Ii g2;have hv:=Kc (e:=e) (pos:=p1) v h4;have a1:SA (Cx.hot X e) CL W0 [.Name w0 p1] (λY=>evA J Y (.cons (.var i) .nil)):=QD (WJ hv) QX rfl
    have a2:SAT (Cx.hot X e) CL W0 [.Name w0 p1] (λY=>evB J Y (.cons (.var i) .nil)):=U0 (KY hv) VM rfl
    exact(iT (X:=X) (ev:=e) (sh:=λY=>Ix Y (.cons (.var i) .nil)) m5 v.room (by unfold glB at g1;show X.env.scope.names.lookup p.1=_;rw[v.sc];exact eq_of_beq g1) m1 m2 m3 a1 a2 (λY z=>MS J Y _ z) (λY ds z=>by rw[ML J Y _ _ z,hl];rfl) n2 rfl (λ_=>rfl)).se
  |str s=>
   replace h:=Lr h;obtain⟨k,u,p,rfl,h⟩:=h;obtain rfl:=AV h;exact WL
  |lst es=>
   replace h:=Qn h;obtain⟨xs,p,rfl,h⟩:=h;simp only[Am,AO]at h;obtain⟨q,ql⟩:=OG (ih) _ _ h.1;exact(Q2 q λY ds z=>by rw[KR J Y _ _ z,<-ql];omega).se
  |tup es=>
   replace h:=Lq h;obtain⟨xs,cc,p,rfl,h⟩:=h;simp only[Am,AO]at h;obtain⟨q,ql⟩:=OG (ih) _ _ h.1;exact WK q λY ds z=>by rw[KR J Y _ _ z,<-ql];omega
  |bin op a b=>
   replace h:=CY h;obtain⟨h0,h⟩:=h;obtain rfl:=AV h0;replace h:=MJ h;obtain⟨i,rfl,h⟩:=h;replace h:=Vh h;obtain⟨l,o,y,p,rfl,h⟩:=h;replace h:=CY h;obtain⟨h0,h⟩:=h;obtain rfl:=AV h0;replace h:=FX h;obtain⟨w,pw,rfl,h⟩:=h;replace h:=CY h;obtain⟨h1,h2⟩:=h;refine SE.congr (Q4 (QG .Add) (KY (Kc v h1)) (ih _ _ h2).st) λY=>?_
   show ((En Y i).bind λx=>(top Y b (evE J Y b)).bind λy=>DJ .Add x y)=_
   rw[Rg h2]
  |fld o f=>
   replace h:=MJ h;obtain⟨i,rfl,h⟩:=h;replace h:=Vi h;obtain⟨w,g,p,rfl,h⟩:=h;replace h:=FX h;obtain⟨w,pw,rfl,h⟩:=h;simp only[Am,AZ]at h;obtain⟨⟨⟨rfl,rfl⟩,h3⟩,h4⟩:=h;exact mI (X:=Cx.hot X e) v.xt.xc (λc C z=>v.xt.nf c C z _ h3) (KY (Kc v h4)) rfl
  |_=>exact noF h
theorem RI(v:VX J CL k W T X)(e:Al)(x n:Ag)(y:An)(c:E)(h:LZ n T x y c=Ab):SB (Cx.hot X e) CL W0 y (λY=>(top Y c (evE J Y c)).bind B5):=by
 have one:∀{y:An}{c:E},(Jr y&&FG n T x y c)=Ab->SB (Cx.hot X e) CL W0 y (λY=>(top Y c (evE J Y c)).bind B5):=λ{y c} h=>by
  rw[Am]at h;exact SB.congr (WP ((Na v e x n y c h.2).st) (VB h.1)) λY=>by rw[Rg h.2]
 replace h:((JH y λo z=>decide (o=.Not)&&(Mf c λa=>Jr z&&FG n T x z a))||(Jr y&&FG n T x y c))=Ab:=h
 replace h:=orT h;rcases h with h|h
 .replace h:=MR h;obtain⟨o,z,p,rfl,h⟩:=h;replace h:=CY h;obtain⟨h0,h⟩:=h;obtain rfl:=AV h0;replace h:=Wj h;obtain⟨a,rfl,h⟩:=h
  .skip
   refine SB.ref (WQ (one h)) λY=>?_
   show (((top Y a (evE J Y a)).bind λx=>(D6 x).bind λb=>R.ok (D.bl (!b))).bind B5)=.bad\/(((top Y a (evE J Y a)).bind λx=>(D6 x).bind λb=>R.ok (D.bl (!b))).bind B5)=((top Y a (evE J Y a)).bind B5).bind λb=>.ok (!b)
   cases top Y a (evE J Y a) with
   |ok d=>cases d<;>first|exact .inl rfl|exact .inr rfl
   |exn y=>exact .inr rfl
   |bad=>exact .inl rfl
 .exact one h
theorem zS(v:VX J CL k W T X)(e:Al)(x n:Ag)(pos:AL):∀(ys:Ac An)(es:Es),Jw n T x ys es=Ab->ys≠[]->SW (Cx.hot X e) CL W0 (.BoolOp .Or ys pos) (λY=>(evO J Y es).bind B5):=by
 intro ys
 induction ys with
 |nil=>intro es _ h;exact absurd rfl h
 |cons y ys ih=>
  intro es h _;cases es with
  |nil=>exact noF h
  |cons c es=>
   replace h:(LZ n T x y c&&Jw n T x ys es)=Ab:=h;simp only[Am]at h;obtain⟨h1,h3⟩:=h;have he:=RI v e x n y c h1;cases ys with
   |nil=>
    cases es with
    |nil=>exact SW.ref (Xb he) (Rf.tru c)
    |cons=>exact absurd (show Ad=Ab from h3) AG
   |cons z zs=>
    cases es with
    |nil=>exact absurd (show Ad=Ab from h3) AG
    |cons c' es'=>exact SW.ref (Xu he (ih (.cons c' es') h3 (by simp))) (Xj c c' es')
theorem zT(v:VX J CL k W T X)(e:Al)(x n:Ag)(pos:AL):∀(ys:Ac An)(es:Es),Jw n T x ys es=Ab->ys≠[]->SW (Cx.hot X e) CL W0 (.BoolOp .And ys pos) (λY=>(evN J Y es).bind B5):=by
 intro ys
 induction ys with
 |nil=>intro es _ h;exact absurd rfl h
 |cons y ys ih=>
  intro es h _;cases es with
  |nil=>exact noF h
  |cons c es=>
   replace h:(LZ n T x y c&&Jw n T x ys es)=Ab:=h;simp only[Am]at h;obtain⟨h1,h3⟩:=h;have he:=RI v e x n y c h1;cases ys with
   |nil=>
    cases es with
    |nil=>exact SW.ref (VC he) (Rf.tru c)
    |cons=>exact absurd (show Ad=Ab from h3) AG
   |cons z zs=>
    cases es with
    |nil=>exact absurd (show Ad=Ab from h3) AG
    |cons c' es'=>exact SW.ref (Xc he (ih (.cons c' es') h3 (by simp))) (Xk c c' es')
theorem j5(v:VX J CL k W T X)(e:Al)(x n:Ag)(t:An)(c:E)(h:Yo n T x t c=Ab):SB (Cx.hot X e) CL W0 t (λY=>(top Y c (evE J Y c)).bind B5):=by
 replace h:((IV t λo ys _=>(decide (o=.Or)&&(Me c λes=>Jw n T x ys es && !ys.isEmpty))||(decide (o=.And)&&(Mb c λes=>Jw n T x ys es && !ys.isEmpty)))||LZ n T x t c)=Ab:=h
 replace h:=orT h;rcases h with h|h
 .replace h:=Ls h;obtain⟨o,ys,p,rfl,h⟩:=h;replace h:=orT h;rcases h with h|h
  .replace h:=CY h;obtain⟨h0,h⟩:=h;obtain rfl:=AV h0;replace h:=Wi h;obtain⟨es,rfl,h⟩:=h;simp only[Am,BN,Da]at h;exact(zS v e x n _ _ _ h.1 h.2).sb
  .replace h:=CY h;obtain⟨h0,h⟩:=h;obtain rfl:=AV h0;replace h:=Vj h;obtain⟨es,rfl,h⟩:=h;simp only[Am,BN,Da]at h;exact(zT v e x n _ _ _ h.1 h.2).sb
 .exact RI v e x n _ c h
theorem Yi(v:VX J CL k W T X)(hf:DefX X)(e:Al)(x:Ag):∀(n:Ag)(sts:Ac AW)(ss:Ss),M8 n T x sts ss=Ab->SSs (Cx.hot X e) CL W0 sts (λY=>evSs J Y ss):=by
 intro n
 induction n with
 |zero=>intro t c h;exact noF h
 |succ n ih=>
  intro sts ss0 h;cases ss0 with
  |nil=>
   obtain rfl:=IU h;exact QC
  |cons s ss0=>
   replace h:=Ka h;obtain⟨st,r,rfl,h⟩:=h;replace h:=CY h;obtain⟨h,h5⟩:=h;cases s with
   |asg i b e0=>
    replace h:=Qp h;obtain⟨y,py,v0,pos,rfl,h⟩:=h;simp only[Am,AZ]at h;obtain⟨⟨⟨⟨h1,h2⟩,h3⟩,h4⟩,h6⟩:=h;cases b with
    |true=>
     cases e0 with
     |lst es=>
      have sc:SC (Cx.hot X e) CL W0 Ab v0 (λY=>evE J Y (.lst es)):=by
       cases n with
       |zero=>exact absurd (show Ad=Ab from h4) AG
       |succ n=>
        replace h4:=Qn h4;obtain⟨l,pl,rfl,h4⟩:=h4;obtain⟨q,ql⟩:=OG (Na v e x n) _ _ (CY h4).1;have hle:=AV (CY h4).2;exact Q2 q λY ds z=>by rw[KR J Y _ _ z,<-ql];omega
      have q:=KM (VG (SC.sas (X:=Cx.hot X e) (pos:=pos) (pos':=py) (by show X.N.Nodup;rw[v.N];exact v.nd) (by show X.N[i]?=_;rw[v.N];exact h1) (by show Loc X.env.scope _;rw[v.sc];exact LJ h2) sc (LN h3) (.inl (hf.fn _)))) (ih _ _ h5)
      have ef:(λY=>evSs J Y (.cons (.asg i Ab (.lst es)) ss0))=λY=>(O.of Y (evE J Y (.lst es)) λd=>setF Y i d).seq λY=>evSs J Y ss0:=by
       funext Y
       show (evS J Y (.asg i Ab (.lst es))).seq _=_;rw[iJ];rfl
      rw[ef];exact q
     |_=>exact absurd (show Ad=Ab from h6) AG
    |false=>
    exact KM (uY (X:=Cx.hot X e) (by show X.N.Nodup;rw[v.N];exact v.nd) (by show X.N[_]?=_;rw[v.N];exact h1) (by show Loc X.env.scope _;rw[v.sc];exact LJ h2) (Na v e x n _ _ h4) (LN h3) (.inl (hf.fn _))) (ih _ _ h5)
   |ife c a b=>
    cases b with
    |cons=>exact noF h
    |nil=>
    replace h:=QI h;obtain⟨t,xs,ys,pos,rfl,h⟩:=h;replace h:=CY h;obtain⟨h0,h⟩:=h;obtain rfl:=IU h0;replace h:=CY h;obtain⟨h1,h2⟩:=h;exact KM (Xv (X:=Cx.hot X e) (j5 v e x n _ _ h1) (ih _ _ h2) QC) (ih _ _ h5)
   |ret e0=>
    replace h:=UP h;obtain⟨o,pos,rfl,h⟩:=h;cases o with
    |none=>exact noF h
    |some v0=>
    replace h:((Kj e0 λi=>Fj v0 λy=>isV T y i)||(S8 e0&&FG n T x v0 e0))=Ab:=h
    replace h:=orT h;rcases h with h|h
    .replace h:=MJ h;obtain⟨i,rfl,h⟩:=h;replace h:=FX h;obtain⟨y,py,rfl,h⟩:=h;exact KM (VE (X:=Cx.hot X e) (pos:=pos) (Kc v h)) (ih _ _ h5)
    replace h:=CY h;obtain⟨h0,h1⟩:=h;have q:=KM (VF (X:=Cx.hot X e) (pos:=pos) (Na v e x n _ _ h1)) (ih _ _ h5);have ef:(λY=>evSs J Y (.cons (.ret e0) ss0))=λY=>(O.of Y (evE J Y e0) λd=>O.ret d Ad).seq λY=>evSs J Y ss0:=by
     funext Y
     cases e0<;>first|rfl|(cases h0;done)
    rw[ef];exact q
   |app i e0=>
    replace h:=Vc h;obtain⟨y,p,m,ap,l,cp,pos,rfl,hl,h⟩:=h;replace h:=Ga h;obtain⟨v0,rfl,h⟩:=h;simp only[Am,AZ]at h;obtain⟨⟨⟨rfl,h1⟩,h2⟩,h3⟩:=h;exact KM (WI (X:=Cx.hot X e) (Kc v h1) (Na v e x n _ _ h3) rfl (by rw[DA h2];rfl) (by rw[hl];exact Fp _) (DA h2) rfl) (ih _ _ h5)
   |_=>exact noF h
theorem zQ(v:VX J CL k W T X)(h:hdB T g c=Ab):Tv X CL J.up g c:=by
 unfold hdB at h;simp only[Am]at h;obtain⟨⟨⟨i1,i0⟩,i2⟩,i3⟩:=h;obtain⟨C,m1,m3,m4⟩:=v.xt.ex _ (M6 i1);obtain⟨C0,r1,r2⟩:=v.xt.rz _ (M6 i0);obtain⟨n2,_,_⟩:=Ii i3;refine⟨C,by unfold glB at i2;show X.env.scope.names.lookup g=_;rw[v.sc];exact eq_of_beq i2,m1,n2,?_,λc' D hD=>m4 c' D hD⟩
 have e0:=m1.symm.trans r2;cases e0;exact v.xt.xc _ _ r1
theorem bg(Z_:SndS J CL k n)(W:XW)(T:Tc)(X:Cx)(st:AW)(c:S)(v:VX J CL k W T X)(hf:DefX X)(h:No (n+1) T st c=Ab):SS X CL W st (λY=>evS J Y c):=by
  have E:=snd (J:=J) (CL:=CL) (k:=k) n;cases c with
  |pass=>exact absurd (show Ad=Ab from h) AG
  |brk=>exact absurd (show Ad=Ab from h) AG
  |cont=>exact absurd (show Ad=Ab from h) AG
  |asg i fresh e=>
    replace h:=Qp h;obtain⟨x,px,v0,pos,rfl,h⟩:=h;simp only[Am,AZ]at h;obtain⟨⟨h1,h2⟩,h3⟩:=h;have o:=E.e W T X _ e v h3;cases fresh with
    |false=>exact WH (Q5 (fr:=Ad) v hf.fn h1 h2 o (λz=>nomatch z))
    |true=>
      cases hn:C2 J e with
      |true=>
        refine SS.ref (VG (Q5 (fr:=Ab) v hf.fn h1 h2 o (λ_=>hn))) λY=>.inr ?_
        show O.of Y (evE J Y e) (λd=>if Ab=Ab then (if C2 J e=Ab then (match d with
          |.lst xs=>.next (Y.set i (Aa (.lst xs,Ab)))
          |.dic xs=>.next (Y.set i (Aa (.dic xs,Ab)))
          | _=>.bad) else .bad) else .next (Y.set i (Aa (d,Ad))))=_
        rw[hn];rfl
      |false=>
        refine SS.ref (WH (Q5 (fr:=Ad) v hf.fn h1 h2 o (λz=>nomatch z))) λY=>?_
        have e0:evS J Y (.asg i Ab e)=O.of Y (evE J Y e) (λd=>if Ab=Ab then (if C2 J e=Ab then (match d with
          |.lst xs=>.next (Y.set i (Aa (.lst xs,Ab)))
          |.dic xs=>.next (Y.set i (Aa (.dic xs,Ab)))
          | _=>.bad) else .bad) else .next (Y.set i (Aa (d,Ad)))):=rfl
        rw[e0,hn];cases evE J Y e with
        |ok d=>exact .inl rfl
        |exn y=>exact .inr rfl
        |bad=>exact .inl rfl
  |asgT ts e=>
    replace h:=Qq h;obtain⟨t,v0,pos,rfl,h⟩:=h;replace h:=Lq h;obtain⟨ys,cc,pw,rfl,h⟩:=h;simp only[Am]at h;obtain⟨⟨⟨h1,h2⟩,h3⟩,h5⟩:=h;exact mB (j6 ts) (uR v hf.fn h1 h2) (E.e W T X _ e v h5).se (VI (λ_ _ z=>by cases z)) (vX h3) rfl (jQ ts)
  |expr e=>
    replace h:=Qo h;obtain⟨v0,pos,rfl,h⟩:=h;simp only[Am]at h;exact nO (E.e W T X _ e v h.2).se (LN h.1)
  |ret e=>
    replace h:=UP h;obtain⟨o,pos,rfl,h⟩:=h;cases o with
    |none=>exact noF h
    |some v0=>
    replace h:Bz n T v0 e=Ab:=h;have o:=E.e W T X _ e v h;cases hv:C2 J e with
    |true=>
      refine SS.ref (nN (o.nw hv)) λY=>.inr ?_
      rw[UH Y e (λi z=>by subst z;cases hv),hv]
    |false=>
      cases e with
      |var i=>
        cases n with
        |zero=>exact noF h
        |succ n=>
          replace h:=FX h;obtain⟨y,py,rfl,h⟩:=h;exact VE (M4 v h)
      |_=>
        refine SS.ref (VF o.se) λY=>.inr ?_
        rw[UH Y _ (by intro i z;cases z),hv]
  |retN=>exact absurd (show Ad=Ab from h) AG
  |ife c a b=>
    replace h:=QI h;obtain⟨t,xs,ys,pos,rfl,h⟩:=h;simp only[Am]at h;exact Xv (E.b W T X _ c v h.1.1) (Z_.ss W T X _ a v hf h.1.2) (Z_.ss W T X _ b v hf h.2)
  |fors t it body=>
    replace h:=Vd h;obtain⟨tg,it',xs,ys,pos,rfl,h⟩:=h;replace h:=CY h;obtain⟨hn,h⟩:=h;obtain rfl:=IU hn;replace h:=FX h;obtain⟨y,py,rfl,h⟩:=h;simp only[Am]at h;obtain⟨⟨⟨h1,h2⟩,h3⟩,h4⟩:=h;exact Xe v.own v.calm (rO t) (mY v hf.fn h1) (E.i W T X Ad _ _ it v rfl h3) (Z_.ss W T X _ body v hf h4) (Oh h2) (λ_ _ _ z=>nomatch z)
  |forT ts it body=>
    replace h:=Vd h;obtain⟨tg,it',xs,zs,pos,rfl,h⟩:=h;replace h:=CY h;obtain⟨hn,h⟩:=h;obtain rfl:=IU hn;replace h:=Lq h;obtain⟨ys,cc,py,rfl,h⟩:=h;simp only[Am]at h;obtain⟨⟨⟨⟨h0,h1⟩,h2⟩,h3⟩,h4⟩:=h;exact Xe v.own v.calm (W1 ts) (mX v hf.fn h0 h1) (E.i W T X Ab _ _ it v rfl h3) (Z_.ss W T X _ body v hf h4) (Oh h2) (T9 ts)
  |whl c body=>exact absurd (show Ad=Ab from h) AG
  |rais c as=>
    replace h:(!(T.rzs.any λp=>p.2==c)||(OI st λa b=>b.isNone&&(match a with|some e=>M3 e λg x xs=>inX T.rzs g c&&glB T g&&Hk g&&decide (xs.length<=1000)&&chkEs n T (x::xs) as|none=>Ad)))=Ab:=h
    cases hc:T.rzs.any (λp=>p.2==c) with
    |false=>
      have hb:∀ ds,J.xn c ds=.bad:=v.xt.xb c λp hp z=>by
        have:T.rzs.any (λp=>p.2==c)=Ab:=List.any_eq_true.mpr ⟨p,hp,AZ.mpr z⟩
        rw[hc]at this;cases this
      intro Fz B pI s Z H D I ⟨Y,x,p⟩;have p':Cp X.K CL Fz B W (O.of Y (noX (evA J Y as)) λxs=>O.of Y (J.xn c xs) λx=>.exn x Y) D:=p
      cases e1:evA J Y as with
      |bad=>rw[e1]at p';exact p'.elim
      |exn y=>rw[e1]at p';exact p'.elim
      |ok ds=>
        rw[e1]at p';have p2:Cp X.K CL Fz B W (O.of Y (J.xn c ds) λx=>.exn x Y) D:=p'
        rw[hb ds]at p2;exact p2.elim
    |true=>
      rw[hc,Bool.not_true,Bool.false_or]at h;replace h:=lO h;obtain⟨ea,eb,pos,rfl,h⟩:=h;replace h:=CY h;obtain⟨h0,h⟩:=h;obtain rfl:=Y_5.mp h0;cases ea with
      |none=>exact noF h
      |some e0=>
        replace h:=NO h;obtain⟨g,np,x,xs,cpos,rfl,h⟩:=h;simp only[Am,AO]at h;obtain⟨⟨⟨⟨h1,h2⟩,h3⟩,h4⟩,h5⟩:=h;obtain⟨C,m1,m2⟩:=v.xt.rz _ (M6 h1);obtain⟨n2,_,_⟩:=Ii h3;obtain⟨s0,e,es',rfl,m,rfl,s1⟩:=Ln h5;have q:=E.es W T X _ _ v h5;exact gP v.calm hf.ex v.room v.rz (by unfold glB at h2;show X.env.scope.names.lookup g=_;rw[v.sc];exact eq_of_beq h2) m2 n2 m1 q.1 (λds=>v.xt.made c C ds m1) (DA s0) (MC m xs es' s1) (λY ds z=>by rw[KR J Y _ _ z,<-q.2.2.1,BY];omega)
  |app i e=>
    replace h:=Vc h;obtain⟨x,px,m,ap,l,cp,pos,rfl,h2,h⟩:=h;replace h:=Ga h;obtain⟨v0,rfl,h⟩:=h;simp only[Am,AZ]at h;obtain⟨⟨⟨rfl,h1⟩,h3⟩,h4⟩:=h;exact WI (M4 v h1) (E.e W T X _ e v h4).se rfl (by rw[DA h3];rfl) (by rw[h2];exact Fp _) (DA h3) rfl
  |ext i e=>exact absurd (show Ad=Ab from h) AG
  |rev i=>exact absurd (show Ad=Ab from h) AG
  |clr i=>exact absurd (show Ad=Ab from h) AG
  |put i k e=>
    replace h:=Qq h;obtain⟨t,v0,pos,rfl,h⟩:=h;replace h:=Qm h;obtain⟨o,y,sp,rfl,h⟩:=h;replace h:=FX h;obtain⟨x,p,rfl,h⟩:=h;simp only[Am]at h;obtain⟨⟨⟨h1,h2⟩,h4⟩,h5⟩:=h;exact uZ (M4 v h1) (E.e W T X _ k v h4).st (E.e W T X _ e v h5).se (λw=>by cases y<;>first|rfl|cases h2) (VI (λ_ _ z=>by cases z)) rfl rfl
  |tryx body c x hd=>
    cases body with
    |nil=>exact noF h
    |cons b bs=>
      cases bs with
      |cons=>exact noF h
      |nil=>
        unfold No at h;dsimp only at h;cases q:Sg st with
        |none=>rw[q]at h;cases h
        |some t=>
          obtain⟨bt,hl,es⟩:=t;rw[q]at h;obtain⟨pos,rfl⟩:=mK q;cases hl with
          |nil=>exact noF h
          |cons h1 hl=>
            cases hl with
            |cons=>exact noF h
            |nil=>
              cases es with
              |cons=>exact noF h
              |nil=>
                dsimp only at h;cases q1:xHd h1 with
                |none=>rw[q1]at h;cases h
                |some t1=>
                  obtain⟨g,m,h0,hs⟩:=t1;obtain⟨p1,hp,rfl⟩:=vR q1;rw[q1]at h;simp only[Am,AZ]at h;obtain⟨⟨⟨⟨i1,i4⟩,i5⟩,i6⟩,i7⟩:=h;obtain⟨t1,t2⟩:=av E v hf 6 i6;refine SS.ref (uX (up:=J.up) (c:=c) (i:=x) hf.ex hf.st hf.fm (by rw[v.N];exact v.nd) (by rw[v.N];exact i4) (by rw[v.sc];exact i5) (zQ v i1) t1 t2 (λe=>Yi v hf e x n _ _ i7)) λY=>.inr ?_
                  rw[jX];unfold Td;cases evSs J Y (.cons b .nil)<;>rfl
  |try2 body c x hd c' hd' els=>exact absurd (show Ad=Ab from h) AG
  |swp i k l=>exact absurd (show Ad=Ab from h) AG
  |apop j i e=>exact absurd (show Ad=Ab from h) AG
  |ins i k e=>exact absurd (show Ad=Ab from h) AG
  |dput=>exact noF h
  |dsd=>exact noF h
  |rel=>exact noF h
theorem lU{c:Ss}(h:OU c=Ab)(Y:Rho):evSs J Y c=.bad:=by
 cases c with
 |nil=>cases h
 |cons s ss=>
  cases s with
  |expr e=>
   cases e with
   |bi b as=>
    cases as with
    |nil=>
     cases b with
     |len=>rfl
     |_=>exact noF h
    |cons=>cases b<;>exact noF h
   |_=>exact noF h
  |_=>exact noF h
theorem uU(Z_:SndS J CL k n)(W:XW)(T:Tc)(X:Cx)(xs:Ac AW)(c:Ss)(v:VX J CL k W T X)(hf:DefX X)(h:chkSs (n+1) T xs c=Ab):SSs X CL W xs (λY=>evSs J Y c):=by
 by_cases hb:OU c=Ab
 .exact λFz B pI s Z H D I ⟨Y,x,p⟩=>by
   dsimp only at p;rw[lU hb]at p;exact p.elim
 have hb:OU c=Ad:=by simpa using hb
 cases c with
 |nil=>
  simp only[chkSs,hb,EL,HV]at h;subst h;exact QC
 |cons s ss=>
  by_cases hr:∃ i,s=.rel i
  .obtain⟨i,rfl⟩:=hr;simp only[chkSs,hb,EL]at h;exact nL i (Z_.ss W T X xs ss v hf h)
  .cases xs with
   |nil=>cases s<;>first|(simp[chkSs,hb]at h;done)|exact absurd ⟨_,rfl⟩ hr
   |cons st r=>
    have h':No n T st s=Ab/\chkSs n T r ss=Ab:=by
     cases s<;>first|(simp only[chkSs,hb,EL,Am]at h;exact h)|exact absurd ⟨_,rfl⟩ hr
    exact KM (Z_.s W T X st s v hf h'.1) (Z_.ss W T X r ss v hf h'.2)
theorem Sc:∀ n,SndS J CL k n
 |0=>⟨λ_ _ _ _ _ _ _ h=>noF h,λ_ _ _ _ _ _ _ h=>noF h⟩
 |n+1=>⟨bg (Sc n),uU (Sc n)⟩
end
theorem MB{n:Ag}{ds:Ac D}{i:Ag}{o:Ak}(h:(Br n ds)[i]?=Aa (Aa (d,o))):o=Ad/\ds[i]?=Aa d:=by
 unfold Br at h;by_cases hi:i<ds.length
 .rw[FL (by simpa using hi),DP]at h
  cases e:ds[i]? with
  |none=>rw[e]at h;cases h
  |some x=>rw[e]at h;cases h;exact⟨rfl,rfl⟩
 .rw[YL (by simpa using Nat.le_of_not_lt hi),YN]at h
  split at h<;>cases h
theorem gO{N:Ac Aj}{vs:Ac V}{i:Ag}{v:V}(h:vs[i]?=Aa v):(L2.start N vs)[i]?=Aa (Aa v):=by
 unfold L2.start;have hi:=(Bl.mp h).1;rw[FL (by simpa using hi),DP,h]
 rfl
theorem UX{N:Ac Aj}{n:Ag}{vs:Ac V}{ds:Ac D}(hn:N.length=n)(hA:AOk H A)(r:Reps K CL H A vs ds):Sx K CL (λb o=>H b=Aa o) A (Br n ds) (L2.start N vs) H:=by
 have own:∀ a,Cb A (Br n ds) (L2.start N vs) a->A a:=λa h=>by
  rcases h with h|⟨j,d,h,_⟩
  .exact h
  .exact absurd (MB h).1 (by decide)
 have hlen:(Br n ds).length=(L2.start N vs).length:=by
  unfold Br L2.start;simp only[DD,BO,YR,r.length,hn]
 refine⟨⟨λi d h=>?_,λi d h=>absurd (MB h).1 (by decide),hlen⟩,λa h=>hA a (own a h),λj d a h _=>absurd (MB h).1 (by decide),λi j d e a h _ _ _=>absurd (MB h).1 (by decide),λb o h=>h,hlen⟩
 obtain⟨v,h1,h2⟩:=r.get (MB h).2;exact⟨v,gO h1,Rep.sub own _ h2⟩
structure FunX (K:Fg) (x qual:Aj) (st:AW) (f:Al) (fd:B9):Prop where
 ex:∃(oc:Ai)(od:Ao Al)(dV kV doc pm:Ai)(an:Ao Al)(cdv ct:Ai)(osl:A9 (Ao Ai)),
  fd=CQ x qual (IR st) (FE st) (CV st) dV kV doc pm an cdv ct/\K.lookup f=Aa ⟨oc,od,.func fd,osl⟩/\Ep K cdv qual=Ab
 kp:Co K (.ref f)=Ab
theorem XU{st:AW}{f:Al}(F:Fun K x qual st f fd):FunX K x qual st f fd:=by
 obtain⟨oc,od,kV,doc,pm,an,cdv,ct,osl,e,lk,hcd⟩:=F.ex;exact⟨⟨oc,od,.none,kV,doc,pm,an,cdv,ct,osl,e,lk,hcd⟩,F.kp⟩
def Mk(K:Fg)(mg:Aj->Ao Ai)(fns:Ac (Aj×Ag×Ag))(bl:Ac Aj)(rzs exs gls:Ac (Aj×Ag))(Pg:Prg)(fuel:Ag)(p:Aj×Ag×Ag):Prop:=∃ f fd ps qual st N,mg p.1=Aa (.ref f)/\FunX K p.1 qual st f fd/\Ge K fd ps []/\ps.length=p.2.2%1000/\IA fuel (Dr 1000 p.2.2) fns bl rzs exs gls ps N st (Pg.defs p.2.1)=Ab
structure Tab (K:Fg) (mg:Aj->Ao Ai) (CL:ClA) (fns:Ac (Aj×Ag×Ag)) (bl:Ac Aj) (rzs exs gls:Ac (Aj×Ag)) (Pg:Prg) (fuel:Ag):Prop where
 xt:XT Pg.up Pg.xn CL rzs exs K mg
 bln:∀ x,x∈bl->mg x=Af
 gl:∀ p∈gls,OX K mg CL p.1 (Pg.G p.2)
 fn:∀ p∈fns,Mk K mg fns bl rzs exs gls Pg fuel p
theorem W5(Pg:Prg)(n i:Ag):(gam Pg n).fr i=(Pg.defs i).fr:=by cases n<;>rfl
theorem W3(Pg:Prg)(n:Ag):(gam Pg n).up=Pg.up:=by cases n<;>rfl
theorem XS(Pg:Prg)(n:Ag):(gam Pg n).G=Pg.G:=by cases n<;>rfl
theorem W2(Pg:Prg)(n:Ag):(gam Pg n).xn=Pg.xn:=by cases n<;>rfl
section
variable{P:AS}{w:AF}{K:Fg}{mg:Aj->Ao Ai}{base:AB}{CL:ClA}{fns:Ac (Aj×Ag×Ag)}{bl:Ac Aj}{rzs exs gls:Ac (Aj×Ag)}{Pg:Prg}{fuel:Ag}
def Lvl(P:AS)(w:AF)(K:Fg)(mg:Aj->Ao Ai)(base:AB)(CL:ClA)(Pg:Prg)(n:Ag)(p:Aj×Ag×Ag):Prop:=∃ f fd ps,mg p.1=Aa (.ref f)/\Co K (.ref f)=Ab/\Ge K fd ps []/\ps.length=p.2.2%1000/\(p.2.2<1000->FnOk P w K mg base (CXR P w) n f fd ps (spD K CL (p.2.2%1000) ((gam Pg n).fr p.2.1) ((gam Pg n).F p.2.1)))/\(1000<=p.2.2->HotOk P w K mg base n f fd ps (spH K CL (p.2.2%1000) ((gam Pg n).fr p.2.1) ((gam Pg n).F p.2.1)))
theorem WF(t:Tab K mg CL fns bl rzs exs gls Pg fuel){n:Ag}(hlv:∀ q∈fns,Lvl P w K mg base CL Pg n q){st:AW}{f:Al}{ps N:Ac Aj}{m id:Ag}(h2:FunX K x qual st f fd)(h4:ps.length=m)(h5:IA fuel Ad fns bl rzs exs gls ps N st (Pg.defs id)=Ab):FnOk P w K mg base (CXR P w) (n+1) f fd ps (spD K CL m ((gam Pg (n+1)).fr id) ((gam Pg (n+1)).F id)):=by
  unfold IA at h5;simp only[Am,AZ,BN,Ce,CB,HM,Mq]at h5;obtain⟨⟨⟨⟨⟨⟨⟨⟨c1,c2⟩,c3⟩,c4⟩,c5⟩,c6⟩,c7⟩,c8⟩,c9⟩:=h5;obtain⟨oc,od,dV,kV,doc,pm,an,cdv,ct,osl,rfl,lk,hcd⟩:=h2.ex;refine X5 (N:=N) lk hcd ⟨c1,c2,c3,KI c4,c5,c6,c7⟩ (λvs H Q E ⟨ds,A,z,_⟩=>z.trans h4.symm) λA outer s H vs Q E hr ⟨ds,B,hl,hA,hreps,hpost⟩=>?_
  have xt:XT (gam Pg n).up (gam Pg n).xn CL rzs exs K mg:=by rw[W3,W2];exact t.xt
  have gl:∀ p∈gls,OX K mg CL p.1 ((gam Pg n).G p.2):=by rw[XS];exact t.gl
  have key:∀ W:XW,(∀ x cls dx H',W x H'->GE K CL H' cls dx x->E cls dx H')->Cp K CL (λb o=>H b=Aa o) B W (evSs (gam Pg n) (Br (Pg.defs id).n ds) (Pg.defs id).body) {nx:=λ_ H'=>Q .non H',rt:=Q} ->
      ∃ t,PSs (Fd (CXR P w) P w K mg base N qual (CV st) f cdv A outer s H E) (FE st) t/\t {nx:=λ_ H'=>Q .non H',rt:=Q} (start N vs) H:=λW hW hp=>by
    have v:VX (gam Pg n) CL n W ⟨CV st,N,fns,bl,rzs,exs,gls⟩ (Fd (CXR P w) P w K mg base N qual (CV st) f cdv A outer s H E):=⟨rfl,c1,rfl,KI c4,rfl,hr,t.bln,hlv,ownR,jc hW,rzR hW,xt,gl⟩;exact⟨_,(Sc fuel).ss W _ _ _ (Pg.defs id).body v ⟨λ_=>rfl,rfl,rfl,rfl⟩ c9 (λb o=>H b=Aa o) B,_,UX c8 hA hreps,hp⟩
  have no:∀ x cls dx H',W0 x H'->GE K CL H' cls dx x->E cls dx H':=λ_ _ _ _ z=>z.elim
  have e:(gam Pg (n+1)).F id ds=Fo Pg.xs ((evSs (gam Pg n) (Br (Pg.defs id).n ds) (Pg.defs id).body).ans (Pg.defs id).fr):=rfl;rw[e,W5]at hpost;have cutO:∀ r:R D,(∀ x,r≠.exn x)->Fo Pg.xs r=r:=λr hr=>by
    cases Pg.xs<;>cases r<;>first|rfl|exact absurd rfl (hr _)
  cases eo:evSs (gam Pg n) (Br (Pg.defs id).n ds) (Pg.defs id).body with
  |next Y'=>
    refine key W0 no ?_;rw[eo]at hpost ⊢;cases ef:(Pg.defs id).fr with
    |true=>rw[ef]at hpost;rw[cutO _ (by intro x z;cases z)]at hpost;exact hpost.elim
    |false=>
      rw[ef]at hpost;rw[cutO _ (by intro x z;cases z)]at hpost
      exact λZ' H' x'=>hpost .non H' (λb o z=>x'.same b o z) ⟨rfl,λz=>nomatch z⟩
  |ret d b=>
    refine key W0 no ?_;rw[eo]at hpost ⊢;intro v H' sm rp fr;have hp2:(match Fo Pg.xs (if ((Pg.defs id).fr&&(!b&&isL d))=Ab then R.bad else R.ok d) with
      |.ok d=>∀ v H',AJ H H'->D4 K CL (Pg.defs id).fr H B H' v d->Q v H'
      |.exn x=>∀ cls dx H',AJ H H'->GE K CL H' cls dx x->E cls dx H'
      | .bad=>A3):=hpost
    cases ec:((Pg.defs id).fr&&(!b&&isL d)) with
    |true=>rw[ec,Az rfl,cutO _ (by intro x z;cases z)]at hp2;exact hp2.elim
    |false=>
      rw[ec,AK (by decide),cutO _ (by intro x z;cases z)]at hp2
      refine hp2 v H' sm ⟨rp,λefr es hd=>?_⟩
      subst hd;have eb:b=Ab:=by
        cases b with
        |true=>rfl
        |false=>rw[efr]at ec;cases ec
      obtain⟨a,xs,h1,h2,h3,h4⟩:=fr eb es rfl;refine⟨a,xs,h1,?_,h3,h4⟩;cases ha:H a with
      |none=>rfl
      |some o=>exact absurd ha (h2 o)
  |brk Y'=>rw[eo]at hpost;have hp2:(match Fo Pg.xs (R.bad:R D) with | .ok _=>_ | .exn _=>_ | .bad=>A3):=hpost;rw[cutO _ (by intro x z;cases z)]at hp2;exact hp2.elim
  |cont Y'=>rw[eo]at hpost;have hp2:(match Fo Pg.xs (R.bad:R D) with | .ok _=>_ | .exn _=>_ | .bad=>A3):=hpost;rw[cutO _ (by intro x z;cases z)]at hp2;exact hp2.elim
  |bad=>rw[eo]at hpost;have hp2:(match Fo Pg.xs (R.bad:R D) with | .ok _=>_ | .exn _=>_ | .bad=>A3):=hpost;rw[cutO _ (by intro x z;cases z)]at hp2;exact hp2.elim
  |exn x Y'=>
    rw[eo]at hpost;have hp2:(match Fo Pg.xs (R.exn x:R D) with
      |.ok d=>∀ v H',AJ H H'->D4 K CL (Pg.defs id).fr H B H' v d->Q v H'
      |.exn x=>∀ cls dx H',AJ H H'->GE K CL H' cls dx x->E cls dx H'
      | .bad=>A3):=hpost
    cases ex:Pg.xs with
    |false=>rw[ex]at hp2;exact hp2.elim
    |true=>
      rw[ex]at hp2;have hp3:∀ cls dx H',AJ H H'->GE K CL H' cls dx x->E cls dx H':=hp2;refine key (λy H'=>y=x/\AJ H H') (λy cls dx H' ⟨e1,sm⟩ xr=>?_) ?_
      · subst e1;exact hp3 cls dx H' sm xr
      · rw[eo];exact λH' sm=>⟨rfl,sm⟩
theorem zO(t:Tab K mg CL fns bl rzs exs gls Pg fuel){n:Ag}(hlv:∀ q∈fns,Lvl P w K mg base CL Pg n q){st:AW}{f:Al}{ps N:Ac Aj}{m id:Ag}(h2:FunX K x qual st f fd)(h4:ps.length=m)(h5:IA fuel Ab fns bl rzs exs gls ps N st (Pg.defs id)=Ab):HotOk P w K mg base (n+1) f fd ps (spH K CL m ((gam Pg (n+1)).fr id) ((gam Pg (n+1)).F id)):=by
  unfold IA at h5;simp only[Am,AZ,BN,Ce,CB,HM,Mq]at h5;obtain⟨⟨⟨⟨⟨⟨⟨⟨c1,c2⟩,c3⟩,c4⟩,c5⟩,c6⟩,c7⟩,c8⟩,c9⟩:=h5;obtain⟨oc,od,dV,kV,doc,pm,an,cdv,ct,osl,rfl,lk,hcd⟩:=h2.ex;refine zP (N:=N) lk hcd ⟨c1,c2,c3,KI c4,c5,c6,c7⟩ (λvs H Q E ⟨ds,A,z,_⟩=>z.trans h4.symm) λA ev outer s H vs Q E hr ⟨ds,B,hl,hA,hreps,hpost⟩=>?_
  have xt:XT (gam Pg n).up (gam Pg n).xn CL rzs exs K mg:=by rw[W3,W2];exact t.xt
  have gl:∀ p∈gls,OX K mg CL p.1 ((gam Pg n).G p.2):=by rw[XS];exact t.gl
  have key:Cp K CL (λb o=>H b=Aa o) B W0 (evSs (gam Pg n) (Br (Pg.defs id).n ds) (Pg.defs id).body) {nx:=λ_ H'=>Q .non H',rt:=Q} ->
      ∃ t,PSs (Cx.hot (Fd JK P w K mg base N qual (CV st) f cdv A outer s H E) ev) (FE st) t/\t {nx:=λ_ H'=>Q .non H',rt:=Q} (start N vs) H:=λhp=>by
    have v:VX (gam Pg n) CL n W0 ⟨CV st,N,fns,bl,rzs,exs,gls⟩ (Fd JK P w K mg base N qual (CV st) f cdv A outer s H E):=⟨rfl,c1,rfl,KI c4,rfl,hr,t.bln,hlv,Z_7,Rm,Sq,xt,gl⟩;exact⟨_,Yi v ⟨λ_=>rfl,rfl,rfl,rfl⟩ ev 0 fuel _ (Pg.defs id).body c9 (λb o=>H b=Aa o) B,_,UX c8 hA hreps,hp⟩
  have e:(gam Pg (n+1)).F id ds=Fo Pg.xs ((evSs (gam Pg n) (Br (Pg.defs id).n ds) (Pg.defs id).body).ans (Pg.defs id).fr):=rfl;rw[e,W5]at hpost;have cutO:∀ r:R D,(∀ x,r≠.exn x)->Fo Pg.xs r=r:=λr hr=>by
    cases Pg.xs<;>cases r<;>first|rfl|exact absurd rfl (hr _)
  refine key ?_;cases eo:evSs (gam Pg n) (Br (Pg.defs id).n ds) (Pg.defs id).body with
  |next Y'=>
    rw[eo]at hpost;cases ef:(Pg.defs id).fr with
    |true=>rw[ef]at hpost;rw[cutO _ (by intro x z;cases z)]at hpost;exact hpost.elim
    |false=>
      rw[ef]at hpost;rw[cutO _ (by intro x z;cases z)]at hpost
      exact λZ' H' x'=>hpost .non H' (λb o z=>x'.same b o z) ⟨rfl,λz=>nomatch z⟩
  |ret d b=>
    rw[eo]at hpost;intro v H' sm rp fr;have hp2:(match Fo Pg.xs (if ((Pg.defs id).fr&&(!b&&isL d))=Ab then R.bad else R.ok d) with
      |.ok d=>∀ v H',AJ H H'->D4 K CL (Pg.defs id).fr H B H' v d->Q v H'
      |.exn x=>A3
      | .bad=>A3):=hpost
    cases ec:((Pg.defs id).fr&&(!b&&isL d)) with
    |true=>rw[ec,Az rfl,cutO _ (by intro x z;cases z)]at hp2;exact hp2.elim
    |false=>
      rw[ec,AK (by decide),cutO _ (by intro x z;cases z)]at hp2
      refine hp2 v H' sm ⟨rp,λefr es hd=>?_⟩
      subst hd;have eb:b=Ab:=by
        cases b with
        |true=>rfl
        |false=>rw[efr]at ec;cases ec
      obtain⟨a,xs,h1,h2,h3,h4⟩:=fr eb es rfl;refine⟨a,xs,h1,?_,h3,h4⟩;cases ha:H a with
      |none=>rfl
      |some o=>exact absurd ha (h2 o)
  |brk Y'=>rw[eo]at hpost;have hp2:(match Fo Pg.xs (R.bad:R D) with | .ok _=>_ | .exn _=>_ | .bad=>A3):=hpost;rw[cutO _ (by intro x z;cases z)]at hp2;exact hp2.elim
  |cont Y'=>rw[eo]at hpost;have hp2:(match Fo Pg.xs (R.bad:R D) with | .ok _=>_ | .exn _=>_ | .bad=>A3):=hpost;rw[cutO _ (by intro x z;cases z)]at hp2;exact hp2.elim
  |bad=>rw[eo]at hpost;have hp2:(match Fo Pg.xs (R.bad:R D) with | .ok _=>_ | .exn _=>_ | .bad=>A3):=hpost;rw[cutO _ (by intro x z;cases z)]at hp2;exact hp2.elim
  |exn x Y'=>
    rw[eo]at hpost;have hp2:(match Fo Pg.xs (R.exn x:R D) with
      |.ok d=>∀ v H',AJ H H'->D4 K CL (Pg.defs id).fr H B H' v d->Q v H'
      |.exn x=>A3
      | .bad=>A3):=hpost
    exfalso
    cases ex:Pg.xs with
    |false=>rw[ex]at hp2;exact hp2
    |true=>
      rw[ex]at hp2;exact hp2
theorem Q1(t:Tab K mg CL fns bl rzs exs gls Pg fuel):∀ n,∀ p∈fns,Lvl P w K mg base CL Pg n p
 |0,p,hp=>by
  obtain⟨f,fd,ps,qual,st,N,h1,h2,h3,h4,h5⟩:=t.fn p hp;exact⟨f,fd,ps,h1,h2.kp,h3,h4,λ_=>⟨λvs H Q E ⟨ds,A,_,_,_,z⟩=>z.elim,λA outer s H args us vs Q E _ _ _ _ ⟨ds,A,_,_,_,z⟩=>z.elim⟩,λ_=>⟨λvs H Q E ⟨ds,A,_,_,_,z⟩=>z.elim,λA ev outer s H args us vs Q E _ _ _ _ ⟨ds,A,_,_,_,z⟩=>z.elim⟩⟩
 |n+1,p,hp=>by
  obtain⟨f,fd,ps,qual,st,N,h1,h2,h3,h4,h5⟩:=t.fn p hp;refine⟨f,fd,ps,h1,h2.kp,h3,h4,λhlt=>?_,λhge=>?_⟩
  .have eb:Dr 1000 p.2.2=Ad:=by
    cases e:Dr 1000 p.2.2 with
    |false=>rfl
    |true=>exact absurd (E3 e) (by omega)
   rw[eb]at h5;exact WF t (λq hq=>Q1 t n q hq) h2 h4 h5
  .rw[GI hge]at h5;exact zO t (λq hq=>Q1 t n q hq) h2 h4 h5
theorem yW{s s':Ar}{e:Ai}(h:CXR P w [] H s (λ_ _ _=>A3) e s'):A3:=by
 obtain⟨_,_,_,_,_,_,_,_,_,_,_,_,_,_,_,z⟩:=h;exact z
noncomputable def SG:AW->Ao (An×AL)
 |.Expr e p=>Aa (e,p)
 |_=>Af
theorem mO{e:AW}{t:An×AL}(h:SG e=Aa t):e=.Expr t.1 t.2:=by
 cases e with
 |Expr x p=>cases h;rfl
 |_=>exact nomatch (show Af=Aa t from h)
noncomputable def Ta:AW->Ao (An×An×AL)
  | .Assign ts v p=>(match ts with
    |[t]=>Aa (t,v,p)
    | _=>Af)
  |_=>Af
theorem mR{e:AW}{t:An×An×AL}(h:Ta e=Aa t):e=.Assign [t.1] t.2.1 t.2.2:=by
 cases e with
 |Assign ts v p=>
  cases ts with
  |nil=>exact nomatch (show Af=Aa t from h)
  |cons a ts=>
   cases ts with
   |nil=>cases h;rfl
   |cons=>exact nomatch (show Af=Aa t from h)
 |_=>exact nomatch (show Af=Aa t from h)
noncomputable def Sh:An->Ao (An×Aj×AL)
 |.Attribute e x p=>Aa (e,x,p)
 |_=>Af
theorem VN{e:An}{t:An×Aj×AL}(h:Sh e=Aa t):e=.Attribute t.1 t.2.1 t.2.2:=by
 cases e with
 |Attribute e x p=>cases h;rfl
 |_=>exact nomatch (show Af=Aa t from h)
noncomputable def Sz:An->Ao (Ac An×AL)
 |.JoinedStr l p=>Aa (l,p)
 |_=>Af
theorem mL{e:An}{t:Ac An×AL}(h:Sz e=Aa t):e=.JoinedStr t.1 t.2:=by
 cases e with
 |JoinedStr l p=>cases h;rfl
 |_=>exact nomatch (show Af=Aa t from h)
noncomputable def SD:An->Ao (An×Ae×AL)
  | .FormattedValue e n f p=>(match f with
    |none=>Aa (e,n,p)
    | _=>Af)
  |_=>Af
theorem mM{e:An}{t:An×Ae×AL}(h:SD e=Aa t):e=.FormattedValue t.1 t.2.1 Af t.2.2:=by
 cases e with
 |FormattedValue e n f p=>
  cases f with
  |none=>cases h;rfl
  |some=>exact nomatch (show Af=Aa t from h)
 |_=>exact nomatch (show Af=Aa t from h)
noncomputable def SH:An->Ao (Aj×Ag×AL)
  | .Constant c k p=>(match c with
    |.str z=>Aa (z,k,p)
    | _=>Af)
  |_=>Af
theorem mP{e:An}{t:Aj×Ag×AL}(h:SH e=Aa t):e=.Constant (.str t.1) t.2.1 t.2.2:=by
 cases e with
 |Constant c k p=>
  cases c with
  |str z=>cases h;rfl
  |_=>exact nomatch (show Af=Aa t from h)
 |_=>exact nomatch (show Af=Aa t from h)
noncomputable def SK(g par f:Aj)(b:Ac AW):Ao F9:=(OT b).bind λs=>(SG s.1).bind λc=>(S9 c.1).bind λcl=>(Sh cl.1).bind λat1=>(Kq at1.1).bind λg1=>(OT cl.2.1).bind λab=>(Kq ab.1).bind λs1=>(Sz ab.2).bind λj=>(OT j.1).bind λfk=>(SD fk.1).bind λfm=>(Kq fm.1).bind λq1=>(SH fk.2).bind λz=>(Ta s.2).bind λt=>(Sh t.1).bind λat2=>(Kq at2.1).bind λs2=>(Kq t.2.1).bind λq2=>
 if (g1.1==g&&(at1.2.1==("__init__" : Aj)&&(s1.1==("self" : Aj)&&(q1.1==par&&(decide (fm.2.1=-1)&&(s2.1==("self" : Aj)&&(at2.2.1==f&&(q2.1==par&&(at1.2.2.endLine==cl.2.2.line&&Dr z.1.length 1000)))))))))=Ab then Aa () else Af
noncomputable def SL(g par f:Aj)(b:Ac AW):Ak:=(SK g par f b).isSome
theorem rG{g par f:Aj}{b:Ac AW}(h:SL g par f b=Ab):∃ z k np apos p1 p2 p3 p4 p5 cpos p6 p7 p8 p9 p10,b=Sr g par f z k np apos p1 p2 p3 p4 p5 cpos p6 p7 p8 p9 p10/\(apos.endLine==cpos.line)=Ab/\z.length<=1000:=by
 obtain⟨_,h⟩:=Eu.mp (show (SK g par f b).isSome=Ab from h)
 obtain⟨s,e1,h⟩:=AQ.mp h;obtain⟨c,e2,h⟩:=AQ.mp h;obtain⟨cl,e3,h⟩:=AQ.mp h;obtain⟨at1,e4,h⟩:=AQ.mp h;obtain⟨g1,e5,h⟩:=AQ.mp h;obtain⟨ab,e6,h⟩:=AQ.mp h;obtain⟨s1,e7,h⟩:=AQ.mp h;obtain⟨j,e8,h⟩:=AQ.mp h;obtain⟨fk,e9,h⟩:=AQ.mp h;obtain⟨fm,f1,h⟩:=AQ.mp h;obtain⟨q1,f2,h⟩:=AQ.mp h;obtain⟨z,f3,h⟩:=AQ.mp h;obtain⟨t,f4,h⟩:=AQ.mp h;obtain⟨at2,f5,h⟩:=AQ.mp h;obtain⟨s2,f6,h⟩:=AQ.mp h;obtain⟨q2,f7,h⟩:=AQ.mp h;split at h
 .rename_i hc;simp only[Am,AZ,AO]at hc;obtain⟨c1,c2,c3,c4,c5,c6,c7,c8,h1,h2⟩:=hc;rw[QB e1,mO e2,mQ e3,VN e4,LH e5,QB e6,LH e7,mL e8,QB e9,mM f1,LH f2,mP f3,mR f4,VN f5,LH f6,LH f7,c1,c2,c3,c4,c5,c6,c7,c8];exact⟨_,_,_,_,_,_,_,_,_,_,_,_,_,_,_,rfl,by rw[AZ];exact h1,E3 h2⟩
 .cases h
noncomputable def Mg(g par f:Aj)(st:AW):Ak:=
 (CV st).kind==.function&&((CV st).isCoroutine==Ad&&((CV st).isGenerator==Ad&&(LQ ["self",par]&&((CV st).names.lookup ("self" : Aj)==Aa .local&&((CV st).names.lookup par==Aa .local&&(((CV st).names.all λy=>y.2 != .free) &&
  ((CV st).names.lookup g==Aa .globalImplicit&&(g != ("__debug__" : Aj)&&(par != ("__debug__" : Aj)&&(par != ("__classdict__" : Aj)&&SL g par f (FE st)))))))))))
noncomputable def LY(s:AW):AW:=match s with
  |.ClassDef _ _ _ (b::_) _ _ _ _ _ _ _=>b
  |s=>s
def InI(K:Fg)(f:Al)(qual:Aj)(st:AW):Prop:=∃ fd,Fun K "__init__" qual st f fd
theorem ini_mk{st:AW}{f:Al}{kV doc pm cdv ct:Ai}(l:K.lookup f=Aa ⟨oc,od,.func (CQ "__init__" qual (IR st) (FE st) (CV st) .none kV doc pm an cdv ct),osl⟩)(c:Ep K cdv qual=Ab)(k:Co K (.ref f)=Ab):InI K f qual st:=⟨_,Wy l c k⟩
theorem vN{fI:Al}{g par f qual:Aj}{st:AW}(a:InI K fI qual st)(hk:Mg g par f st=Ab)(hb:∀(u0 u1 kV doc pm:Ai)(an:Ao Al)(cdv ct:Ai),Jl (CQ "__init__" qual (IR st) (FE st) (CV st) .none kV doc pm an cdv ct) ⟨[u0,u1],[]⟩=pure ((["self",par]:Ac Aj).zip [u0,u1]))(xc:D5 K C (Aa (.ref fI))=Ab)(dc:G2 K C=Ab)(ty:DY K (.ref fI)=Aa (.type "function"))(mo:mg g=Aa (.ref OV))(s1:EZ K (.ref OV) "__getattribute__" = Aa (Aa (.builtin "type.__getattribute__")))(s2:FP K OV (.type "type")=Ab)(s3:FO K (.ref OV) (.type "type") "__init__" = Aa (.val (.builtin "ValueError.__init__")))(hf:AR K (.ref C) f=Aa Af)(hs:AR K (.ref C) "__setattr__" = Aa (Aa (.builtin "object.__setattr__"))):XIn K mg C f:=by
 obtain⟨fd,fn⟩:=a;unfold Mg at hk;simp only[Am,AZ,Ce,HM,Mq]at hk;obtain⟨c1,c2,c3,c4,c5,c6,c7,c8,c9,c10,c11,c12⟩:=hk;obtain⟨z,k,np,apos,p1,p2,p3,p4,p5,cpos,p6,p7,p8,p9,p10,eb,hl,hz⟩:=rG c12;exact .mk xc dc fn ty ⟨c1,c2,c3,KI c4,rfl,λx hx=>by
  rcases Ax.mp hx with rfl|hx
  .exact .inl c5
  .rw[BA.mp hx];exact .inl c6,c7⟩ c5 c6 (fn.binds λkV doc pm an cdv ct us hu=>match us,hu with | [u0,u1],_=>hb u0 u1 kV doc pm an cdv ct) eb c8 mo (by simpa using c9) (by simpa using c10) (by simpa using c11) s1 s2 s3 hl hz hf hs
theorem jp(h:∀ ds,xn c ds=.bad\/xn c ds=.ok ⟨c,[]⟩)(e:D5 K C Af=Ab)(ds:Ac D):xn c ds=.bad\/(xn c ds=.ok ⟨c,[]⟩/\D5 K C Af=Ab)\/∃ f,XIn K mg C f/\Nh xn c f ds:=(h ds).imp id λz=>.inl ⟨z,e⟩
theorem jn{f:Aj}(h:∀ ds,xn c ds=mkX c f ds)(x:XIn K mg C f)(ds:Ac D):xn c ds=.bad\/(xn c ds=.ok ⟨c,[]⟩/\D5 K C Af=Ab)\/∃ f,XIn K mg C f/\Nh xn c f ds:=by
  have e:=h ds
  match ds,e with
  |[],e=>exact .inl e
  |_::_::_,e=>exact .inl e
  |[d],e=>
    have e':xn c [d]=if (xfD 1 d||xfD 2 d)=Ab then .ok ⟨c,[(f,d)]⟩ else .bad:=e
    by_cases z:(xfD 1 d||xfD 2 d)=Ab
    · rw[Az z]at e';refine .inr (.inr ⟨f,x,d,?_⟩);rw[CB]at z;rcases z with z|z
      · exact⟨0,rfl,z,by decide,e'⟩
      · exact⟨1,rfl,z,by decide,e'⟩
    · rw[AK z]at e';exact .inl e'
theorem XI(dc:G2 K C=Ab)(h1:AR K (.ref C) "triple" = Aa Af)(h2:AR K (.ref C) "points" = Aa Af)(f:Aj)(h:(f==("triple" : Aj)||f==("points" : Aj))=Ab):G2 K C=Ab/\AR K (.ref C) f=Aa Af:=by
 rw[CB]at h;rcases h with h|h
 .rw[eq_of_beq h];exact⟨dc,h1⟩
 .rw[eq_of_beq h];exact⟨dc,h2⟩
structure XA (K:Fg) (c:Aj) (x:Al) (i:Ao Ai):Prop where
 n:BX K Bo c=Aa (Aa (.ref x))
 y:D5 K x i=Ab
 dc:G2 K x=Ab
 ft:AR K (.ref x) "triple" = Aa Af
 fp:AR K (.ref x) "points" = Aa Af
 ok:XcOk K x
theorem xcls_l{x:Al}(e:JO K x [.type "ValueError",.type "Exception",.type "BaseException",.type "object"] "ValueError.__new__" = Ab):D5 K x Af=Ab:=oA e
theorem xa_mk{c:Aj}{x:Al}{i:Ao Ai}(n:BX K Bo c=Aa (Aa (.ref x)))(e:D5 K x i=Ab)(dc:G2 K x=Ab)(ft:AR K (.ref x) "triple" = Aa Af)(fp:AR K (.ref x) "points" = Aa Af)(ga:AR K (.ref x) "__getattribute__" = Aa (Aa (.builtin "BaseException.__getattribute__")))(gt:AR K (.ref x) "__getattr__" = Aa Af)(cl:AR K (.ref x) "__class__" = Aa (Aa (.builtin "object.__class__")))(ob:Di K x (.type "object")=Aa Ab)(be:B6 K (.ref x) (.type "BaseException")=Aa Ab)(sv:B6 K (.ref x) (.type "ValueError")=Aa Ab):XA K c x i:=⟨n,e,dc,ft,fp,br e ga gt cl ob be sv⟩
structure XB (K:Fg) (c:Aj) (x i:Al) (q:Aj) (st:AW):Prop where
 fi:AR K (.ref x) "__init__" = Aa (Aa (.ref i))
 a:XA K c x (Aa (.ref i))
 ii:InI K i q st
 ti:DY K (.ref i)=Aa (.type "function")
 sn:AR K (.ref x) "__setattr__" = Aa (Aa (.builtin "object.__setattr__"))
structure XE (K:Fg) (c:Aj) (x:Al):Prop where
 n:BX K Bo c=Aa (Aa (.ref x))
 cs:Di K x (.type "object")=Aa Ab
 ty:DY K (.ref x)=Aa (.type "type")
structure XO (K:Fg) (x:Al):Prop where
 sa:EZ K (.ref x) "__getattribute__" = Aa (Aa (.builtin "type.__getattribute__"))
 sb:FP K x (.type "type")=Ab
 sc:FO K (.ref x) (.type "type") "__init__" = Aa (.val (.builtin "ValueError.__init__"))
def SuC(K:Fg)(C:Al)(l:Ac (Al×Ak)):Prop:=∀ q∈l,B6 K (.ref q.1) (.ref C)=Aa q.2
def KC(K:Fg)(C:Al):Prop:=∀ x i v,D5 K x i=Ab->B6 K (.ref x) (.ref C)=Aa v->Dl K (.ref x) (.ref C)=Aa v
theorem XA.kc{c:Aj}{x:Al}{i:Ao Ai}(a:XA K c x i):KC K x:=λ_ _ _ y s=>sM y a.y s
theorem XE.kc{c:Aj}{x:Al}(a:XE K c x):KC K x:=λ_ _ _ y s=>kJ y a.cs a.ty s
noncomputable def clL:Ac (Ag×Al)->Ag->Ao Al
 |[],_=>Af
 |p::r,c=>if Nat.beq c p.1=Ab then Aa p.2 else clL r c
theorem MU:∀{l:Ac (Ag×Al)},clL l c=Aa C->(c,C)∈l:=by
 intro l
 induction l with
 |nil=>intro q;cases q
 |cons p r ih=>
  intro q;obtain⟨n,x⟩:=p;by_cases e:Nat.beq c n=Ab
  .cases Nat.eq_of_beq_eq_true e;cases (show Aa x=Aa C from (Az e).symm.trans q)
   exact AX
  .exact AN _ (ih ((AK e).symm.trans q))
structure XR (K:Fg) (mg:Aj->Ao Ai) (xn:Ag->Ac D->R Ex) (p:Ag×Al):Prop where
 ok:XcOk K p.2
 nf:∀ f:Aj,(f==("triple" : Aj)||f==("points" : Aj))=Ab->G2 K p.2=Ab/\AR K (.ref p.2) f=Aa Af
 md:∀ ds,xn p.1 ds=.bad\/(xn p.1 ds=.ok ⟨p.1,[]⟩/\D5 K p.2 Af=Ab)\/∃ f,XIn K mg p.2 f/\Nh xn p.1 f ds
theorem XA.row{c:Aj}{x:Al}(a:XA K c x Af)(h:∀ ds,xn k ds=.bad\/xn k ds=.ok ⟨k,[]⟩):XR K mg xn (k,x):=⟨a.ok,XI a.dc a.ft a.fp,jp h a.y⟩
theorem XB.row{c q:Aj}{x i o:Al}{st:AW}{g par f:Aj}(X:K.In h)(G:h.Ns Bo mg)(b:XB K c x i q st)(w:XO K o)(no:BX K Bo g=Aa (Aa (.ref o)))(hf:f = "triple"\/f = "points")(hk:Mg g par f st=Ab)(hb:∀(u0 u1 kV doc pm:Ai)(an:Ao Al)(cdv ct:Ai),Jl (CQ "__init__" q (IR st) (FE st) (CV st) .none kV doc pm an cdv ct) ⟨[u0,u1],[]⟩=pure ((["self",par]:Ac Aj).zip [u0,u1]))(hx:∀ ds,xn k ds=mkX k f ds):XR K mg xn (k,x):=
 ⟨b.a.ok,XI b.a.dc b.a.ft b.a.fp,jn hx (vN b.ii hk hb b.a.y b.a.dc b.ti (BU X G no) w.sa w.sb w.sc (by rcases hf with rfl|rfl;exact b.a.ft;exact b.a.fp) b.sn)⟩
theorem bq{l:Ac (Ag×Al)}{rzs exs:Ac (Aj×Ag)}(r:∀ p∈l,XR K mg xn p)(rz:∀ p∈rzs,∃ C,clL l p.2=Aa C/\mg p.1=Aa (.ref C))(ex:∀ p∈exs,∃ C,mg p.1=Aa (.ref C)/\KC K C/\SuC K C (l.map λq=>(q.2,(up q.1).contains p.2)))(xb:∀ c,(∀ p∈rzs,p.2≠c)->∀ ds,xn c ds=.bad):XT up xn (clL l) rzs exs K mg:=by
 refine⟨λc C q=>(r _ (MU q)).ok,rz,λp hp=>?_,λc C ds q=>(r _ (MU q)).md ds,λc C q=>(r _ (MU q)).nf,xb⟩
 obtain⟨C,e,kc,su⟩:=ex p hp;have s:∀ c D,clL l c=Aa D->B6 K (.ref D) (.ref C)=Aa ((up c).contains p.2):=λc D q=>su _ (List.mem_map_of_mem (f:=λq:Ag×Al=>(q.2,(up q.1).contains p.2)) (MU q))
 exact⟨C,e,λc D q=>let ⟨_,y⟩:=(r _ (MU q)).ok.exc;kc _ _ _ y (s c D q),s⟩
def OD(K:Fg):Sp:=λvs H Q _=>∃(a:Al)(ns:Ac Ae),vs=[.ref a]/\ns.length<=63/\SqL K H a (ns.map V.int)/\∀ v H',v=V.bl Ab->Q v H'
theorem law_fn{f:Al}(G:FnOk P w K mg base CX k f fd ps (spD K CL 1 Ad F))(h:∀ ns:Ac Ae,F [.lst (ns.map .int)]=.ok (.bl Ab)):FnOk P w K mg base CX k f fd ps (OD K):=G.imp λvs H Q E ⟨a,ns,e,hl,hS,q⟩=>by
 subst e;have rs:∀ l:Ac Ae,Reps K CL H A0 (l.map V.int) (l.map D.int):=λl=>by
  induction l with
  |nil=>trivial
  |cons x l ih=>exact⟨rfl,ih⟩
 refine⟨[.lst (ns.map .int)],A0,rfl,λ_ z=>z.elim,⟨⟨a,_,rfl,.inl (λz=>z),hS,rs ns⟩,trivial⟩,?_⟩
 rw[h ns];exact λv H' _ r=>q v H' r.1
theorem all_nil{Q:α->Prop}:∀ x∈([]:Ac α),Q x:=λ_ h=>nomatch h
theorem all_cons{Q:α->Prop}{a:α}{l:Ac α}(h1:Q a)(h2:∀ x∈l,Q x):∀ x∈a::l,Q x:=List.forall_mem_cons.2 ⟨h1,h2⟩
def FnI(K:Fg)(f:Al)(n:Aj)(st:AW):Prop:=∃ fd,Fun K n n st f fd/\BX K Bo n=Aa (Aa (.ref f))
theorem fni{n:Aj}{st:AW}{f:Al}{kV doc pm cdv ct:Ai}(a:BX K Bo n=Aa (Aa (.ref f)))(l:K.lookup f=Aa ⟨oc,od,.func (CQ n n (IR st) (FE st) (CV st) .none kV doc pm an cdv ct),osl⟩)(c:Ep K cdv n=Ab)(k:Co K (.ref f)=Ab):FnI K f n st:=⟨_,Wy l c k,a⟩
def Bd(n:Aj)(st:AW)(ps:Ac Aj)(us:Ac Ai):Prop:=∀(kV doc pm:Ai)(an:Ao Al)(cdv ct:Ai),Jl (CQ n n (IR st) (FE st) (CV st) .none kV doc pm an cdv ct) ⟨us,[]⟩=pure (ps.zip us)
theorem Oj{n:Aj}{f:Al}{st:AW}{ps N:Ac Aj}(m id:Ag)(X:K.In h)(G:h.Ns Bo mg)(A:FnI K f n st)(hl:ps.length=m%1000)(hc:IA fuel (Dr 1000 m) fns bl rzs exs gls ps N st (Pg.defs id)=Ab)(hb:∀ us:Ac Ai,us.length=ps.length->Bd n st ps us):Mk K mg fns bl rzs exs gls Pg fuel (n,id,m):=by
 obtain⟨fd,F,a⟩:=A;exact⟨_,_,_,_,_,_,BU X G a,XU F,F.binds λkV doc pm an cdv ct us hu=>hb us hu kV doc pm an cdv ct,hl,hc⟩
theorem O4{l:Ac α}(h:l.length=0):l=[]:=List.eq_nil_of_length_eq_zero h
theorem IZ{l:Ac α}{n:Ag}(h:l.length=n+1):∃ a r,l=a::r/\r.length=n:=by
 cases l with
 |nil=>cases h
 |cons a r=>exact⟨a,r,rfl,HY h⟩
theorem Nk{n:Aj}{f:Al}{st:AW}{N:Ac Aj}(m id:Ag)(X:K.In h)(G:h.Ns Bo mg)(A:FnI K f n st)(hl:1=m%1000)(hc:IA fuel (Dr 1000 m) fns bl rzs exs gls [x0] N st (Pg.defs id)=Ab)(hb:∀ u0,Bd n st [x0] [u0]):Mk K mg fns bl rzs exs gls Pg fuel (n,id,m):=
 Oj (ps:=[x0]) m id X G A hl hc λus hu=>by obtain⟨u0,v0,rfl,h0⟩:=IZ hu;obtain rfl:=O4 h0;exact hb u0
theorem EJ{n:Aj}{f:Al}{st:AW}{N:Ac Aj}(m id:Ag)(X:K.In h)(G:h.Ns Bo mg)(A:FnI K f n st)(hl:2=m%1000)(hc:IA fuel (Dr 1000 m) fns bl rzs exs gls [x0,x1] N st (Pg.defs id)=Ab)(hb:∀ u0 u1,Bd n st [x0,x1] [u0,u1]):Mk K mg fns bl rzs exs gls Pg fuel (n,id,m):=
 Oj (ps:=[x0,x1]) m id X G A hl hc λus hu=>by obtain⟨u0,v0,rfl,h0⟩:=IZ hu;obtain⟨u1,v1,rfl,h1⟩:=IZ h0;obtain rfl:=O4 h1;exact hb u0 u1
theorem Gg{n:Aj}{f:Al}{st:AW}{N:Ac Aj}{x2:Aj}(m id:Ag)(X:K.In h)(G:h.Ns Bo mg)(A:FnI K f n st)(hl:3=m%1000)(hc:IA fuel (Dr 1000 m) fns bl rzs exs gls [x0,x1,x2] N st (Pg.defs id)=Ab)(hb:∀ u0 u1 u2,Bd n st [x0,x1,x2] [u0,u1,u2]):Mk K mg fns bl rzs exs gls Pg fuel (n,id,m):=
 Oj (ps:=[x0,x1,x2]) m id X G A hl hc λus hu=>by obtain⟨u0,v0,rfl,h0⟩:=IZ hu;obtain⟨u1,v1,rfl,h1⟩:=IZ h0;obtain⟨u2,v2,rfl,h2⟩:=IZ h1;obtain rfl:=O4 h2;exact hb u0 u1 u2
theorem O1{n:Aj}{f:Al}{st:AW}{N:Ac Aj}{x2 x3:Aj}(m id:Ag)(X:K.In h)(G:h.Ns Bo mg)(A:FnI K f n st)(hl:4=m%1000)(hc:IA fuel (Dr 1000 m) fns bl rzs exs gls [x0,x1,x2,x3] N st (Pg.defs id)=Ab)(hb:∀ u0 u1 u2 u3,Bd n st [x0,x1,x2,x3] [u0,u1,u2,u3]):Mk K mg fns bl rzs exs gls Pg fuel (n,id,m):=
 Oj (ps:=[x0,x1,x2,x3]) m id X G A hl hc λus hu=>by obtain⟨u0,v0,rfl,h0⟩:=IZ hu;obtain⟨u1,v1,rfl,h1⟩:=IZ h0;obtain⟨u2,v2,rfl,h2⟩:=IZ h1;obtain⟨u3,v3,rfl,h3⟩:=IZ h2;obtain rfl:=O4 h3;exact hb u0 u1 u2 u3
end
end Ov
namespace OvC
open PySem Ov
variable{p t k i j at_:Ae}{xs ns:Ac Ae}{m n w c:Ag}{J:Gam}{s3:Sl}{fs:Ac (Aj×D)}{e:Ex}
noncomputable def Qd:Df:=⟨4,Ad,(.cons (.ret (.call 1 (.cons (.var 0) (.cons (.bin .Add (.bin .Sub (.bin .Mult (.idx (.var 1) (.int 0)) (.bin .Sub (.bin .Mult (.idx (.var 2) (.int 1)) (.idx (.var 3) (.int 2))) (.bin .Mult (.idx (.var 2) (.int 2)) (.idx (.var 3) (.int 1))))) (.bin .Mult (.idx (.var 1) (.int 1)) (.bin .Sub (.bin .Mult (.idx (.var 2) (.int 0)) (.idx (.var 3) (.int 2))) (.bin .Mult (.idx (.var 2) (.int 2)) (.idx (.var 3) (.int 0)))))) (.bin .Mult (.idx (.var 1) (.int 2)) (.bin .Sub (.bin .Mult (.idx (.var 2) (.int 0)) (.idx (.var 3) (.int 1))) (.bin .Mult (.idx (.var 2) (.int 1)) (.idx (.var 3) (.int 0)))))) .nil)))) .nil)⟩
noncomputable abbrev tr(a b c:Ae):D:=.tup [.int a,.int b,.int c]
noncomputable def det(a0 a1 a2 b0 b1 b2 c0 c1 c2:Ae):Ae:=a0*(b1*c2-b2*c1)-a1*(b0*c2-b2*c0)+a2*(b0*c1-b1*c0)
def Sm(x:Ae):Prop:=0<=x/\x<11
theorem mo{x:Ae}(h:Sm x)(y:Ae):D0 x y=Ab:=G0 (by have:=h.1;omega) (by have:=h.2;omega)
theorem g30(x y z:D):Dg [x,y,z] 0=.ok x:=rfl
theorem g31(x y z:D):Dg [x,y,z] 1=.ok y:=rfl
theorem g32(x y z:D):Dg [x,y,z] 2=.ok z:=rfl
theorem bV{x y:Ae}(q:Ae)(h:x=y+p*q):x%p=y%p:=by rw[h,YB]
theorem Sm.of(h:P4 p)(x:Ae):Sm (x%p):=⟨AM _ (by have:=h.pos;omega),by have:=AI x h.pos;have:=h.hi;omega⟩
theorem T6{body:D->Rho->O}(I:Rho->Prop)(g:Ae->Ak):∀(L:Ac Ae),(∀ t∈L,∀ Y,I Y->(g t=Ab/\body (.int t) Y=.ret (.int t) Ad)\/(g t=Ad/\∃ Y',body (.int t) Y=.next Y'/\I Y'))->∀ Y,I Y->(∃ t∈L,g t=Ab/\CM body (L.map D.int) Y=.ret (.int t) Ad)\/((∀ t∈L,g t=Ad)/\∃ Y',CM body (L.map D.int) Y=.next Y'/\I Y')
 |[],_,Y,i=>.inr ⟨(λ_ h=>nomatch h),Y,rfl,i⟩
 |m::L,h,Y,i=>by
  rcases h m (AX ..) Y i with ⟨e1,e2⟩|⟨e1,Y',e2,i'⟩
  .refine .inl ⟨m,AX ..,e1,?_⟩;show (body (.int m) Y).turn _=_;rw[e2];rfl
  .rcases T6 I g L (λm' h'=>h m' (AN _ h')) Y' i' with ⟨t,ht,a,b⟩|⟨a,r,b,c⟩
   .refine .inl ⟨t,AN _ ht,a,?_⟩;show (body (.int m) Y).turn _=_;rw[e2];exact b
   .refine .inr ⟨λt ht=>?_,r,?_,c⟩
    .rcases Ax.mp ht with rfl|ht
     .exact e1
     .exact a t ht
    .show (body (.int m) Y).turn _=_;rw[e2];exact b
noncomputable def Lk:Ss:=(.cons (.ife (.cmp .Eq (.call 1 (.cons (.var 0) (.cons (.bin .Mult (.var 1) (.var 2)) .nil))) (.int 1)) (.cons (.ret (.var 2)) .nil) .nil) .nil)
noncomputable def Nw:Df:=⟨3,Ad,(.cons (.fors 2 (.rng2 (.int 1) (.var 0)) Lk) (.cons (.rais 2 (.cons (.str (By "a number with the rest 0 is not turned over")) .nil)) .nil))⟩
noncomputable def G3(p:Ae):Ac Ae:=(Cm (p-1).toNat).map fun(k:Ag)=>1+(k:Ae)
theorem Lu:t∈G3 p↔1<=t/\t<p:=by
 unfold G3;rw[List.mem_map];constructor
 .rintro⟨k,hk,rfl⟩;have:=DE.mp hk;omega
 .rintro⟨h1,h2⟩;exact⟨(t-1).toNat,DE.mpr (by omega),by omega⟩
theorem U4(h:P4 p):DI 1 p=.ok ((G3 p).map D.int):=by
 rcases h with rfl|rfl|rfl|rfl<;>rfl
theorem rD:∀ p:Fin 12,(p.val=3\/p.val=5\/p.val=7\/p.val=11)->∀ r:Fin 12,r.val<p.val->r.val≠0->∃ t:Fin 12,1<=t.val/\t.val<p.val/\r.val*t.val%p.val=1:=by decide+kernel
theorem Io{n:Ae}(h:P4 p)(hn:n%p≠0):∃ t,1<=t/\t<p/\n*t%p=1:=by
 have p0:0<p/\p<12:=by rcases h with rfl|rfl|rfl|rfl<;>decide
 obtain⟨q,rfl⟩:∃ q:Ag,p=q:=⟨p.toNat,by omega⟩
 have h0:=AM n (b:=(q:Ae)) (by omega)
 have h1:=AI n p0.1;obtain⟨r,hr⟩:∃ r:Ag,n%(q:Ae)=r:=⟨(n%(q:Ae)).toNat,by omega⟩
 obtain⟨t,t1,t2,t3⟩:=rD ⟨q,by omega⟩ (by rcases h with e|e|e|e<;>simp<;>omega) ⟨r,by omega⟩ (by show r<q;omega) (by show r≠0;omega)
 refine⟨(t.val:Ae),by omega,by show (t.val:Ae)<q;exact Int.ofNat_lt.mpr t2,?_⟩
 have e:((r*t.val%q:Ag):Ae)=1:=by rw[show r*t.val%q=1 from t3];rfl
 rw[<-e,Int.natCast_emod,Int.natCast_mul,<-hr];exact(Bj n _ _).trans (by rw[Bj (n%(q:Ae)) (t.val:Ae) (q:Ae),AY n (BH _)])
def EC(p n t:Ae):Prop:=1<=t/\t<p/\n*t%p=1
theorem UD{n u:Ae}(h1:EC p n t)(h2:EC p n u):t=u:=by
 have hp:1<p:=by have:=h1.1;have:=h1.2.1;omega
 have e:t%p=u%p:=by
  have a:t%p=t*(n*u)%p:=by rw[Bj,h2.2.2,ER,AY _ (BH p)]
  have b:u%p=(n*t)*u%p:=by rw[Bj (n*t) u p,h1.2.2,CH,AY _ (BH p)]
  rw[a,b]
  congr 1
  rw[<-Fs,BP t n]
 rw[AT (by have:=h1.1;omega) h1.2.1,AT (by have:=h2.1;omega) h2.2.1]at e
 exact e
theorem BL{c x:Ae}(hp:P4 p)(hc:c%p≠0)(hx:x%p≠0):c*x%p≠0:=λz=>by
 obtain⟨t,_,_,e⟩:=Io hp hc;refine hx ?_;have e1:x%p=(c*t)*x%p:=by rw[Bj (c*t) x p,e,CH,AY _ (BH p)]
 rw[e1,show c*t*x=t*(c*x) by rw[BP c t,Fs],Bj,z,DK,Bw]
noncomputable def Bb(p:Ae):Ac Ae->Ao Ae
 |[]=>Af
 |x::xs=>if x%p=0 then Bb p xs else Aa (x%p)
theorem LC{p:Ae}:∀{xs:Ac Ae},Bb p xs=Af↔∀ x∈xs,x%p=0
 |[]=>by simp[Bb]
 |x::xs=>by
  unfold Bb;by_cases h:x%p=0
  .rw[Az h,LC (xs:=xs)];simp[h]
  .rw[AK h];simp[h]
theorem Js{p l:Ae}(hp:0<p):∀{xs:Ac Ae},Bb p xs=Aa l->l%p≠0/\0<l/\l<p
 |[],h=>by cases h
 |x::xs,h=>by
  unfold Bb at h;by_cases hx:x%p=0
  .rw[Az hx]at h;exact Js hp h
  .rw[AK hx]at h;cases h;have h0:=AM x (b:=p) (by omega)
   have h1:=AI x hp;exact⟨by rw[AY _ (BH p)];exact hx,by omega,h1⟩
theorem KO{p c:Ae}(hp:P4 p)(hc:c%p≠0){f:Ae->Ae}(hf:∀ x,f x%p=c*x%p):∀ xs:Ac Ae,Bb p (xs.map f)=(Bb p xs).map λl=>c*l%p
 |[]=>rfl
 |x::xs=>by
  rw[C3];unfold Bb;rw[hf x];by_cases hx:x%p=0
  .rw[Az hx,Az (by rw[Bj,hx,DK,Bw]),KO hp hc hf xs]
  .rw[AK hx,AK (BL hp hc hx),FM]
   congr 1
   rw[Bj c (x%p),AY _ (BH p),<-Bj]
noncomputable def ds(xs:Ac Ae):Ac D:=xs.map D.int
noncomputable def DO(b:Ak)(xs:Ac Ae):D:=if b=Ab then .tup (ds xs) else .lst (ds xs)
theorem Ua(b xs):C5 (DO b xs)=.ok (ds xs):=by unfold DO;cases b<;>rfl
theorem LF{g:D->R Ak}{f:D->R D}{φ:Ae->Ae}:∀(xs:Ac Ae),(∀ x∈xs,g (.int x)=.ok Ab/\f (.int x)=.ok (.int (φ x)))->Ck g f (ds xs)=.ok (ds (xs.map φ))
 |[],_=>rfl
 |x::xs,h=>by
  obtain⟨h1,h2⟩:=h x (AX ..);show (g (.int x)).bind _=_;rw[h1,R.bind_ok,Az rfl,h2,R.bind_ok];show (Ck g f (ds xs)).bind _=_;rw[LF xs λy hy=>h y (AN _ hy)]
  rfl
noncomputable def CO:E:=(.bl Ab)
noncomputable def PF:E:=(.call 1 (.cons (.var 0) (.cons (.var 5) .nil)))
noncomputable def PD:E:=(.call 1 (.cons (.var 0) (.cons (.bin .Mult (.var 4) (.var 6)) .nil)))
noncomputable def Ig:Ss:=(.cons (.ife (.cmp .NotEq (.var 3) (.int 0)) (.cons (.asg 4 Ad (.call 9 (.cons (.var 0) (.cons (.var 3) .nil)))) (.cons (.ret (.bi .tuple (.cons (.comp PD 6 (.e (.var 2)) CO) .nil))) .nil)) .nil) .nil)
noncomputable def NK:Df:=⟨7,Ad,(.cons (.asg 2 Ad (.comp PF 5 (.e (.var 1)) CO)) (.cons (.fors 3 (.e (.var 2)) Ig) (.cons (.rais 3 (.cons (.str (By "all the numbers have the rest 0")) .nil)) .nil)))⟩
noncomputable def fmI(p t:Ae)(xs:Ac Ae):Ac Ae:=xs.map λx=>t*(x%p)%p
section
variable{J:Gam}{p:Ae}{xs:Ac Ae}{b:Ak}
end
theorem PY{g:D->R Ak}{f:D->R D}{q:Ae->Ak}:∀(xs:Ac Ae),(∀ x∈xs,g (.int x)=.ok (q x)/\f (.int x)=.ok (.int x))->Ck g f (ds xs)=.ok (ds (xs.filter q))
 |[],_=>rfl
 |x::xs,h=>by
  obtain⟨h1,h2⟩:=h x (AX ..);have ih:=PY xs λy hy=>h y (AN _ hy)
  show (g (.int x)).bind _=_;rw[h1,R.bind_ok];cases hq:q x with
  |true=>
   rw[Az rfl,h2,R.bind_ok,HU,hq,Az rfl];show (Ck g f (ds xs)).bind _=_;rw[ih];rfl
  |false=>
   rw[AK (by decide),HU,hq,AK (by decide)]
   exact ih
theorem TK{p:Ae}(hp:0<p):∀(xs:Ac Ae),((xs.map λx=>x%p).filter λr=>decide (0<r)).head?=Bb p xs
 |[]=>rfl
 |x::xs=>by
  have h0:=AM x (b:=p) (by omega)
  unfold Bb;rw[C3,HU];by_cases h:x%p=0
  .rw[Az h,AK (by simp[h]),TK hp xs]
  .rw[AK h,Az (by simp;omega)]
   rfl
theorem fN{p l t:Ae}(it:EC p l t):((G3 p).filter λk=>decide (k*l%p=1)).head?=Aa t:=by
 have hm:t∈(G3 p).filter λk=>decide (k*l%p=1):=Be.mpr ⟨Lu.mpr ⟨it.1,it.2.1⟩,by simp[BP t l,it.2.2]⟩
 cases e:(G3 p).filter λk=>decide (k*l%p=1) with
 |nil=>rw[e]at hm;cases hm
 |cons u us=>
  have hu:u∈(G3 p).filter λk=>decide (k*l%p=1):=by rw[e];exact AX ..
  obtain⟨h1,h2⟩:=Be.mp hu;obtain⟨a,b⟩:=Lu.mp h1;have h3:u*l%p=1:=by simpa using h2
  rw[UD it ⟨a,b,by rw[BP];exact h3⟩]
  rfl
theorem UF{l:Ae}(h:xs.head?=Aa l):Dg (ds xs) 0=.ok (.int l):=by
 cases xs with
 |nil=>cases h
 |cons x xs=>cases h;exact Qu (by omega) rfl
theorem WC:∀ xs:Ac Ae,eqDs (ds xs) (ds xs)=Ab
 |[]=>rfl
 |x::xs=>by
  show (eqD (.int x) (.int x)&&eqDs (ds xs) (ds xs))=Ab;rw[WC xs];simp
noncomputable abbrev own(xs:Ac Ae):Sl:=Aa (.lst (ds xs),Ab)
section
variable{J:Gam}{ns:Ac Ae}{a1 a2 a4 a6 a7 a8 a9 b0 b1 b2 b3 b4:Sl}{p:Ae}
end
theorem kF{p c l t:Ae}(hp:P4 p)(hc:c%p≠0)(hl:l%p≠0)(it:EC p l t){f:Ae->Ae}(hf:∀ x,f x%p=c*x%p)(xs:Ac Ae):∃ u,EC p (c*l%p) u/\fmI p u (xs.map f)=fmI p t xs:=by
 have h1:(c*l%p)%p≠0:=by rw[AY _ (BH p)];exact BL hp hc hl
 obtain⟨u,u1,u2,u3⟩:=Io hp h1;refine⟨u,⟨u1,u2,u3⟩,?_⟩;unfold fmI;rw[E2];refine G8 λx _=>?_
 show u*(f x%p)%p=t*(x%p)%p;have u4:c*l*u%p=1:=by rw[<-u3,Bj (c*l%p) u p,AY _ (BH p),<-Bj]
 have e1:u*(f x%p)%p=u*(c*x)%p:=by rw[hf,Bj u (c*x%p) p,AY _ (BH p),<-Bj]
 have e2:t*(x%p)%p=t*x%p:=by rw[Bj t (x%p) p,AY _ (BH p),<-Bj]
 have e3:u*(c*x)%p=(l*t)*(u*(c*x))%p:=by rw[Bj (l*t) _ p,it.2.2,CH,AY _ (BH p)]
 have e4:t*x%p=(c*l*u)*(t*x)%p:=by rw[Bj (c*l*u) _ p,u4,CH,AY _ (BH p)]
 rw[e1,e2,e3,e4]
 congr 1
 grind
section
variable{J:Gam}{ns:Ac Ae}{a1 a4 a6 a7 a8 a9 b2 b3 b4:Sl}{p m:Ae}{xs:Ac Ae}
end
def Cg(p x y:Ae):Prop:=x%p=y%p
section
variable{p a b c d:Ae}
theorem Cg.rfl:Cg p a a:=Eq.refl _
theorem Cg.of(h:a=b):Cg p a b:=by unfold Cg;rw[h]
theorem Cg.trans{a b c:Ae}(h:Cg p a b)(g:Cg p b c):Cg p a c:=Eq.trans h g
theorem Cg.symm(h:Cg p a b):Cg p b a:=Nq h
theorem Cg.add(h:Cg p a b)(g:Cg p c d):Cg p (a+c) (b+d):=by unfold Cg at *;rw[YA,h,g,<-YA]
theorem Cg.sub(h:Cg p a b)(g:Cg p c d):Cg p (a-c) (b-d):=by unfold Cg at *;rw[YF,h,g,<-YF]
theorem Cg.mul(h:Cg p a b)(g:Cg p c d):Cg p (a*c) (b*d):=by unfold Cg at *;rw[Bj,h,g,<-Bj]
theorem Cg.md(h:a=b%p):Cg p a b:=by unfold Cg;rw[h,AY _ (BH p)]
theorem Cg.far(q:Ae)(h:a=b+p*q):Cg p a b:=bV q h
end
theorem Jv{p a0 a1 a2 b0 b1 b2 c0 c1 c2 x0 x1 x2 y0 y1 y2 z0 z1 z2:Ae}(h0:Cg p a0 x0)(h1:Cg p a1 x1)(h2:Cg p a2 x2)(h3:Cg p b0 y0)(h4:Cg p b1 y1)(h5:Cg p b2 y2)(h6:Cg p c0 z0)(h7:Cg p c1 z1)(h8:Cg p c2 z2):Cg p (a0*(b1*c2-b2*c1)-a1*(b0*c2-b2*c0)+a2*(b0*c1-b1*c0)) (x0*(y1*z2-y2*z1)-x1*(y0*z2-y2*z0)+x2*(y0*z1-y1*z0)):=
 ((h0.mul ((h4.mul h8).sub (h5.mul h7))).sub (h1.mul ((h3.mul h8).sub (h5.mul h6)))).add (h2.mul ((h3.mul h7).sub (h4.mul h6)))
theorem P4.m1(h:P4 p):(-1:Ae)%p≠0:=by rcases h with rfl|rfl|rfl|rfl<;>decide
theorem P4.o1(h:P4 p):(1:Ae)%p≠0:=by rcases h with rfl|rfl|rfl|rfl<;>decide
abbrev R3:=Ae×Ae×Ae
variable{a y' x y x' r g u:R3}{L:Ac R3}
noncomputable def C8(a:R3):D:=.lst [.int a.1,.int a.2.1,.int a.2.2]
noncomputable def Ap(a b c:R3):Ae:=det a.1 a.2.1 a.2.2 b.1 b.2.1 b.2.2 c.1 c.2.1 c.2.2
def In3(p:Ae)(a:R3):Prop:=(0<=a.1/\a.1<p)/\(0<=a.2.1/\a.2.1<p)/\(0<=a.2.2/\a.2.2<p)
structure GoodR (p:Ae) (a b c:R3):Prop where
 p4:P4 p
 ia:In3 p a
 ib:In3 p b
 ic:In3 p c
 nz:Ap a b c%p≠0
theorem GoodR.of{a b c a' b' c':R3}(h:GoodR p a b c)(hk:k%p≠0)(e:Cg p (Ap a' b' c') (k*Ap a b c))(hin:In3 p a'/\In3 p b'/\In3 p c'):GoodR p a' b' c':=⟨h.p4,hin.1,hin.2.1,hin.2.2,by rw[show Ap a' b' c'%p=_ from e];exact BL h.p4 hk h.nz⟩
noncomputable def Sy(t:Ae)(a:R3):R3:=(a.1*t,a.2.1*t,a.2.2*t)
noncomputable def Hl(t:Ae)(a b:R3):R3:=(a.1+t*b.1,a.2.1+t*b.2.1,a.2.2+t*b.2.2)
noncomputable def mdR(p:Ae)(a:R3):R3:=(a.1%p,a.2.1%p,a.2.2%p)
noncomputable def scR(p t:Ae)(a:R3):R3:=mdR p (Sy t a)
noncomputable def adR(p t:Ae)(a b:R3):R3:=mdR p (Hl t a b)
theorem X8(h:0<p)(a:R3):In3 p (mdR p a):=⟨⟨AM _ (by omega),AI _ h⟩,⟨AM _ (by omega),AI _ h⟩,⟨AM _ (by omega),AI _ h⟩⟩
theorem fz(h:0<p)(t:Ae)(a:R3):In3 p (scR p t a):=X8 h _
theorem Md(h:0<p)(t:Ae)(a b:R3):In3 p (adR p t a b):=X8 h _
theorem dW(p t:Ae)(a b c:R3):Cg p (Ap (scR p t a) b c) (t*Ap a b c):=by
 refine Cg.trans (b:=Ap (Sy t a) b c) ?_ (Cg.of (by unfold Ap det Sy;grind))
 unfold Ap det;exact Jv (Cg.md (by rfl)) (Cg.md (by rfl)) (Cg.md (by rfl)) Cg.rfl Cg.rfl Cg.rfl Cg.rfl Cg.rfl Cg.rfl
theorem cH(p t:Ae)(a b c:R3):Cg p (Ap (adR p t a b) b c) (1*Ap a b c):=by
 refine Cg.trans (b:=Ap (Hl t a b) b c) ?_ (Cg.of (by unfold Ap det Hl;grind))
 unfold Ap det;exact Jv (Cg.md (by rfl)) (Cg.md (by rfl)) (Cg.md (by rfl)) Cg.rfl Cg.rfl Cg.rfl Cg.rfl Cg.rfl Cg.rfl
theorem cB(p t:Ae)(a b c:R3):Cg p (Ap (adR p t a c) b c) (1*Ap a b c):=by
 refine Cg.trans (b:=Ap (Hl t a c) b c) ?_ (Cg.of (by unfold Ap det Hl;grind))
 unfold Ap det;exact Jv (Cg.md (by rfl)) (Cg.md (by rfl)) (Cg.md (by rfl)) Cg.rfl Cg.rfl Cg.rfl Cg.rfl Cg.rfl Cg.rfl
theorem cA(p t:Ae)(a b c:R3):Cg p (Ap a (adR p t b a) c) (1*Ap a b c):=by
 refine Cg.trans (b:=Ap a (Hl t b a) c) ?_ (Cg.of (by unfold Ap det Hl;grind))
 unfold Ap det;exact Jv Cg.rfl Cg.rfl Cg.rfl (Cg.md (by rfl)) (Cg.md (by rfl)) (Cg.md (by rfl)) Cg.rfl Cg.rfl Cg.rfl
theorem bZ(p t:Ae)(a b c:R3):Cg p (Ap a (adR p t b c) c) (1*Ap a b c):=by
 refine Cg.trans (b:=Ap a (Hl t b c) c) ?_ (Cg.of (by unfold Ap det Hl;grind))
 unfold Ap det;exact Jv Cg.rfl Cg.rfl Cg.rfl (Cg.md (by rfl)) (Cg.md (by rfl)) (Cg.md (by rfl)) Cg.rfl Cg.rfl Cg.rfl
theorem bY(p t:Ae)(a b c:R3):Cg p (Ap a b (adR p t c a)) (1*Ap a b c):=by
 refine Cg.trans (b:=Ap a b (Hl t c a)) ?_ (Cg.of (by unfold Ap det Hl;grind))
 unfold Ap det;exact Jv Cg.rfl Cg.rfl Cg.rfl Cg.rfl Cg.rfl Cg.rfl (Cg.md (by rfl)) (Cg.md (by rfl)) (Cg.md (by rfl))
theorem bX(p t:Ae)(a b c:R3):Cg p (Ap a b (adR p t c b)) (1*Ap a b c):=by
 refine Cg.trans (b:=Ap a b (Hl t c b)) ?_ (Cg.of (by unfold Ap det Hl;grind))
 unfold Ap det;exact Jv Cg.rfl Cg.rfl Cg.rfl Cg.rfl Cg.rfl Cg.rfl (Cg.md (by rfl)) (Cg.md (by rfl)) (Cg.md (by rfl))/-! ### draws -/
theorem rQ(h0:0<=k)(h1:k<ns.length):Dg (ns.map D.int) k=.ok (.int (ns.getD k.toNat 0)):=Qu h0 (by
 have:k.toNat<ns.length:=by omega
 simp[this])
noncomputable abbrev ownR(a b c:R3):Sl:=Aa (.lst [C8 a,C8 b,C8 c],Ab)
section
variable{J:Gam}{ns:Ac Ae}{at_ many s5 s0 s1 s2:Sl}{p t m:Ae}{a b c:R3}
end
section
variable{J:Gam}{ns:Ac Ae}{many s5 s6 s7 s8 s9 s0 s1 s2:Sl}{p:Ae}{a b c:R3}
end
noncomputable def CU(a b c:R3):D:=.lst [C8 a,C8 b,C8 c]
noncomputable def Pq:E:=(.bin .Mod (.var 5) (.var 0))
noncomputable def Pk:E:=(.cmp .Gt (.var 6) (.int 0))
noncomputable def Pp:E:=(.var 6)
noncomputable def Pj:E:=(.cmp .Eq (.bin .Mod (.bin .Mult (.var 7) (.var 3)) (.var 0)) (.int 1))
noncomputable def Po:E:=(.var 7)
noncomputable def Pl:E:=(.bin .Mod (.bin .Mult (.var 8) (.var 4)) (.var 0))
noncomputable def PH:Df:=⟨9,Ad,(.cons (.asg 2 Ad (.comp Pq 5 (.e (.var 1)) CO)) (.cons (.asg 3 Ad (.idx (.comp Pp 6 (.e (.var 2)) Pk) (.int 0))) (.cons (.asg 4 Ad (.idx (.comp Po 7 (.rng2 (.int 1) (.var 0)) Pj) (.int 0))) (.cons (.ret (.bi .tuple (.cons (.comp Pl 8 (.e (.var 2)) CO) .nil))) .nil))))⟩
theorem qT(J:Gam){b:Ak}{l t:Ae}(hp:P4 p)(e:Bb p xs=Aa l)(it:EC p l t):PH.run J [.int p,DO b xs]=.ok (.tup (ds (fmI p t xs))):=by
 have p0:=hp.pos;have ph:=hp.hi;have c1:Ck (cG J [si p,sh (DO b xs),Af,Af,Af,Af,Af,Af,Af] 5 CO) (cF J [si p,sh (DO b xs),Af,Af,Af,Af,Af,Af,Af] 5 Pq) (ds xs)=.ok (ds (xs.map λx=>x%p)):=by
  refine LF xs λx _=>⟨rfl,?_⟩
  simp[cF,Pq,p0]
 generalize hR:(xs.map λx=>x%p)=rs at c1
 have c2:Ck (cG J [si p,sh (DO b xs),sh (.lst (ds rs)),Af,Af,Af,Af,Af,Af] 6 Pk) (cF J [si p,sh (DO b xs),sh (.lst (ds rs)),Af,Af,Af,Af,Af,Af] 6 Pp) (ds rs)=.ok (ds (rs.filter λr=>decide (0<r))):=by
  refine PY rs λx _=>⟨?_,?_⟩
  .simp[cG,Pk]
  .simp[cF,Pp]
 have hl:=TK p0 xs;rw[hR,e]at hl;generalize hL:(rs.filter λr=>decide (0<r))=ls at c2 hl
 have g0:=UF hl;obtain⟨_,l0,l1⟩:=Js p0 e;have c3:Ck (cG J [si p,sh (DO b xs),sh (.lst (ds rs)),si l,Af,Af,Af,Af,Af] 7 Pj) (cF J [si p,sh (DO b xs),sh (.lst (ds rs)),si l,Af,Af,Af,Af,Af] 7 Po) (ds (G3 p))=.ok (ds ((G3 p).filter λk=>decide (k*l%p=1))):=by
  refine PY (G3 p) λx hx=>⟨?_,?_⟩
  .obtain⟨x1,x2⟩:=Lu.mp hx;have m:D0 x l=Ab:=G0 (by omega) (by omega)
   simp[cG,Pj,m,p0];rw[D8];simp
  .simp[cF,Po]
 have g1:=UF (fN it);have c4:Ck (cG J [si p,sh (DO b xs),sh (.lst (ds rs)),si l,si t,Af,Af,Af,Af] 8 CO) (cF J [si p,sh (DO b xs),sh (.lst (ds rs)),si l,si t,Af,Af,Af,Af] 8 Pl) (ds rs)=.ok (ds (rs.map λr=>t*r%p)):=by
  refine LF rs λx _=>⟨rfl,?_⟩
  have m:D0 x t=Ab:=QK (by have:=it.1;omega) (by have:=it.2.1;omega)
  simp[cF,Pl,m,p0,BP]
 have ru:DI 1 p=.ok (ds (G3 p)):=U4 hp;have fe:fmI p t xs=rs.map λr=>t*r%p:=by rw[<-hR];simp[fmI,E2,HI]
 simp[PH,Df.run,Br,Ua,c1,c2,g0,ru,c3,g1,c4,fe]
noncomputable def nine(a b c:R3):Ac Ae:=[a.1,a.2.1,a.2.2,b.1,b.2.1,b.2.2,c.1,c.2.1,c.2.2]
noncomputable def trR(a:R3):D:=.tup [.int a.1,.int a.2.1,.int a.2.2]
noncomputable def Cq(a b c:R3):D:=.tup [trR a,trR b,trR c]
noncomputable def fmR(p t:Ae)(a:R3):R3:=(t*(a.1%p)%p,t*(a.2.1%p)%p,t*(a.2.2%p)%p)
theorem V7(p t:Ae)(a b c:R3):fmI p t (nine a b c)=nine (fmR p t a) (fmR p t b) (fmR p t c):=rfl
theorem NQ{a b c:R3}(h:Ap a b c%p≠0):∃ l,Bb p (nine a b c)=Aa l:=by
 cases e:Bb p (nine a b c) with
 |some l=>exact⟨l,rfl⟩
 |none=>
  refine absurd ?_ h;have z:=LC.mp e;have q:∀ x∈nine a b c,Cg p x 0:=λx hx=>by
   have:=z x hx;show x%p=0%p;rw[this];simp
  have:=Jv (p:=p) (q a.1 (by simp[nine])) (q a.2.1 (by simp[nine])) (q a.2.2 (by simp[nine])) (q b.1 (by simp[nine])) (q b.2.1 (by simp[nine])) (q b.2.2 (by simp[nine])) (q c.1 (by simp[nine])) (q c.2.1 (by simp[nine])) (q c.2.2 (by simp[nine]))
  have e2:Ap a b c%p=(0*(0*0-0*0)-0*(0*0-0*0)+0*(0*0-0*0))%p:=this;rw[e2];simp
theorem dX(a b c:R3):slD (.tup (ds (nine a b c))) Af (Aa 3)=.ok (trR a)/\slD (.tup (ds (nine a b c))) (Aa 3) (Aa 6)=.ok (trR b)/\slD (.tup (ds (nine a b c))) (Aa 6) Af=.ok (trR c):=⟨rfl,rfl,rfl⟩
theorem lW(a b c:R3):DJ .Add (C8 a) (C8 b)=.ok (.lst [.int a.1,.int a.2.1,.int a.2.2,.int b.1,.int b.2.1,.int b.2.2])/\DJ .Add (.lst [.int a.1,.int a.2.1,.int a.2.2,.int b.1,.int b.2.1,.int b.2.2]) (C8 c)=.ok (.lst (ds (nine a b c))):=⟨rfl,rfl⟩
def Bd(n:Ag)(x:Ae):Prop:=x.natAbs<2 ^ n
theorem Bd.mul{x y:Ae}(h:Bd m x)(g:Bd n y):Bd (m+n) (x*y):=by
 unfold Bd at *;rw[Int.natAbs_mul,Nat.pow_add];exact Nat.mul_lt_mul'' h g
theorem Bd.sub{x y:Ae}(h:Bd n x)(g:Bd n y):Bd (n+1) (x-y):=by
 unfold Bd at *;rw[Nat.pow_succ];omega
theorem Jx{x y:Ae}(h:Bd m x)(g:Bd n y)(hm:m<=2000)(hn:n<=2000):FH x y=Ab:=by
 unfold FH Bd at *;rw[Am,AO,AO];exact⟨AH h (Ej (by decide) hm),AH g (Ej (by decide) hn)⟩
def B3(a:R3):Prop:=Bd 300 a.1/\Bd 300 a.2.1/\Bd 300 a.2.2
noncomputable def Aq(q:Ak)(a:R3):D:=DO q [a.1,a.2.1,a.2.2]
theorem EG(q:Ak)(a:R3):BK (Aq q a) (.int 0)=.ok (.int a.1)/\BK (Aq q a) (.int 1)=.ok (.int a.2.1)/\BK (Aq q a) (.int 2)=.ok (.int a.2.2):=by cases q<;>exact⟨rfl,rfl,rfl⟩
def LG(J:Gam):Prop:=∀(p:Ae)(q:Ak)(a b c:R3),0<p->B3 a->B3 b->B3 c->J.F 61 [.int p,Aq q a,Aq q b,Aq q c]=.ok (.int (Ap a b c%p))
theorem qK(h:Ke J)(p:Ae)(q:Ak)(a b c:R3)(hp:0<p)(ha:B3 a)(hb:B3 b)(hc:B3 c):Qd.run J [.int p,Aq q a,Aq q b,Aq q c]=.ok (.int (Ap a b c%p)):=by
 obtain⟨a0,a1,a2⟩:=EG q a;obtain⟨b0,b1,b2⟩:=EG q b;obtain⟨c0,c1,c2⟩:=EG q c;have k:∀ {x y},Bd 300 x->Bd 300 y->FH x y=Ab:=λhx hy=>Jx hx hy (by decide) (by decide)
 have k2:∀ {x y z u v},Bd 300 x->Bd 300 y->Bd 300 z->Bd 300 u->Bd 300 v->FH x (y*z-u*v)=Ab:=λhx hy hz hu hv=>Jx hx ((hy.mul hz).sub (hu.mul hv)) (by decide) (by decide)
 simp[Qd,Df.run,Br,a0,a1,a2,b0,b1,b2,c0,c1,c2,k hb.2.1 hc.2.2,k hb.2.2 hc.2.1,k hb.1 hc.2.2,k hb.2.2 hc.1,k hb.1 hc.2.1,k hb.2.1 hc.1,k2 ha.1 hb.2.1 hc.2.2 hb.2.2 hc.2.1,k2 ha.2.1 hb.1 hc.2.2 hb.2.2 hc.1,k2 ha.2.2 hb.1 hc.2.1 hb.2.1 hc.1,h p _ hp];rfl
noncomputable def PU:Df:=⟨3,Ad,(.cons (.ife (.cmp .Eq (.call 61 (.cons (.var 0) (.cons (.idx (.var 1) (.int 0)) (.cons (.idx (.var 1) (.int 1)) (.cons (.idx (.var 1) (.int 2)) .nil))))) (.int 0)) (.cons (.rais 4 (.cons (.str (By "the measure of the rows is 0")) .nil)) .nil) .nil) (.cons (.asg 2 Ad (.call 17 (.cons (.var 0) (.cons (.bin .Add (.bin .Add (.bi .list (.cons (.idx (.var 1) (.int 0)) .nil)) (.bi .list (.cons (.idx (.var 1) (.int 1)) .nil))) (.bi .list (.cons (.idx (.var 1) (.int 2)) .nil))) .nil)))) (.cons (.ret (.tup (.cons (.sl (.var 2) .non (.int 3)) (.cons (.sl (.var 2) (.int 3) (.int 6)) (.cons (.sl (.var 2) (.int 6) .non) .nil))))) .nil)))⟩
theorem zC(q:Ak)(a:R3):biD .list [Aq q a]=.ok (C8 a):=by cases q<;>rfl
section
variable{J:Gam}{ns:Ac Ae}{p t:Ae}{a b c r:R3}{made s6 s7:Sl}
end
theorem NG{p:Ae}:∀{xs ys:Ac Ae},xs.map (λx=>x%p)=ys.map (λx=>x%p)->Bb p xs=Bb p ys
 |[],[],_=>rfl
 |x::xs,y::ys,h=>by
  rw[C3,C3,ID]at h;unfold Bb;rw[h.1,NG h.2]
 |[],_::_,h=>by simp at h
 |_::_,[],h=>by simp at h
theorem Vr{ys:Ac Ae}(h:xs.map (λx=>x%p)=ys.map (λx=>x%p)):fmI p t xs=fmI p t ys:=by
 have e:∀ zs:Ac Ae,fmI p t zs=(zs.map λx=>x%p).map λr=>t*r%p:=λzs=>by simp[fmI,E2,HI]
 rw[e,e,h]
theorem kE{a b c a' b' c':R3}(h:nine a b c=nine a' b' c'):a=a'/\b=b'/\c=c':=by
 unfold nine at h;simp only[ID,and_true]at h;obtain⟨h1,h2,h3,h4,h5,h6,h7,h8,h9⟩:=h;exact⟨BF h1 (BF h2 h3),BF h4 (BF h5 h6),BF h7 (BF h8 h9)⟩
theorem Hi(hp:0<p)(t:Ae)(a:R3):In3 p (fmR p t a):=⟨⟨AM _ (by omega),AI _ hp⟩,⟨AM _ (by omega),AI _ hp⟩,⟨AM _ (by omega),AI _ hp⟩⟩
section
variable{J:Gam}{ns:Ac Ae}{p m:Ae}{a b c:R3}{fa fb fc:R3}{q:Ak}{s9 s0 s1 s2:Sl}
end
def Qi(J:Gam):Prop:=∀ p n:Ae,P4 p->n%p≠0->∃ t,1<=t/\t<p/\n*t%p=1/\J.F 9 [.int p,.int n]=.ok (.int t)
def N1(J:Gam):Prop:=∀(p:Ae)(b:Ak)(xs:Ac Ae)(l t:Ae),P4 p->Bb p xs=Aa l->EC p l t->J.F 17 [.int p,DO b xs]=.ok (.tup (ds (fmI p t xs)))
theorem gG(hr:Ke J)(p n:Ae)(hp:P4 p)(z:n%p≠0):∃ t,1<=t/\t<p/\n*t%p=1/\Nw.run J [.int p,.int n]=.ok (.int t):=by
 have p0:=hp.pos;have ph:=hp.hi;have body:∀ t∈G3 p,∀ Y,(∃ s,Y=[si p,si n,s])->(decide (n*t%p=1)=Ab/\Cd J 2 Lk (.int t) Y=.ret (.int t) Ad)\/(decide (n*t%p=1)=Ad/\∃ Y',Cd J 2 Lk (.int t) Y=.next Y'/\∃ s,Y'=[si p,si n,s]):=by
  rintro t ht Y ⟨s,rfl⟩;obtain⟨t1,t2⟩:=Lu.mp ht;have m:D0 n t=Ab:=QK (by omega) (by omega)
  by_cases e:n*t%p=1
  .exact .inl ⟨by simp[e],by simp[Cd,Lk,hr p (n*t) p0,m,e,C2]⟩
  .exact .inr ⟨by simp[e],_,by simp[Cd,Lk,hr p (n*t) p0,m,e];rfl,_,rfl⟩
 have run:∀ o,CM (Cd J 2 Lk) ((G3 p).map D.int) [si p,si n,Af]=o->Nw.run J [.int p,.int n]=(Gh J (.cons (.rais 2 (.cons (.str (By "a number with the rest 0 is not turned over")) .nil)) .nil) o).ans Ad:=by
  rintro o rfl;simp[Nw,Df.run,Br,U4 hp]
 rcases T6 (λY=>∃ s,Y=[si p,si n,s]) (λt=>decide (n*t%p=1)) (G3 p) body [si p,si n,Af] ⟨_,rfl⟩ with ⟨t,ht,a,b⟩|⟨a,r,b,s,rfl⟩
 .obtain⟨t1,t2⟩:=Lu.mp ht;have a':n*t%p=1:=by simpa using a
  exact⟨t,t1,t2,a',by rw[run _ b];rfl⟩
 .obtain⟨t,t1,t2,e⟩:=Io hp z;have:=a t (Lu.mpr ⟨t1,t2⟩);simp[e]at this
section
variable{J:Gam}{p:Ae}{xs:Ac Ae}{b:Ak}
theorem Vk(hr:Ke J)(ht:Qi J)(hp:P4 p)(rs:Ac Ae):∀(ys:Ac Ae),(∀ y∈ys,0<=y/\y<p)->∀ s3,(Bb p ys=Af->∃ s3',CM (Cd J 3 Ig) (ds ys) [si p,sh (DO b xs),sh (.lst (ds rs)),s3,Af,Af,Af]=.next [si p,sh (DO b xs),sh (.lst (ds rs)),s3',Af,Af,Af])/\(∀ l t,Bb p ys=Aa l->EC p l t->CM (Cd J 3 Ig) (ds ys) [si p,sh (DO b xs),sh (.lst (ds rs)),s3,Af,Af,Af]=.ret (.tup (ds (rs.map λr=>t*r%p))) Ad)
 |[],_,s3=>⟨λ_=>⟨s3,rfl⟩,(λl t h=>nomatch h)⟩
 |y::ys,hy,s3=>by
  obtain⟨y0,y1⟩:=hy y (AX ..);have ym:y%p=y:=AT y0 y1;have ih:=Vk hr ht hp rs ys (λz hz=>hy z (AN _ hz)) (si y)
  have step:∀ o,Cd J 3 Ig (.int y) [si p,sh (DO b xs),sh (.lst (ds rs)),s3,Af,Af,Af]=o->CM (Cd J 3 Ig) (ds (y::ys)) [si p,sh (DO b xs),sh (.lst (ds rs)),s3,Af,Af,Af]=o.turn (CM (Cd J 3 Ig) (ds ys)):=by
   rintro o rfl;rfl
  unfold Bb;rw[ym];by_cases hz:y=0
  .have e:Cd J 3 Ig (.int y) [si p,sh (DO b xs),sh (.lst (ds rs)),s3,Af,Af,Af]=.next [si p,sh (DO b xs),sh (.lst (ds rs)),si y,Af,Af,Af]:=by
    simp[Cd,Ig,hz]
   rw[Az hz,step _ e];exact ih
  .rw[AK hz];refine⟨(λz=>nomatch z),λl t e it=>?_⟩
   cases e;obtain⟨u,u1,u2,u3,u4⟩:=ht p y hp (by rw[ym];exact hz)
   have:t=u:=UD it ⟨u1,u2,u3⟩;subst this;have p0:=hp.pos;have ph:=hp.hi;have cp:Ck (cG J [si p,sh (DO b xs),sh (.lst (ds rs)),si y,si t,Af,Af] 6 CO) (cF J [si p,sh (DO b xs),sh (.lst (ds rs)),si y,si t,Af,Af] 6 PD) (ds rs)=.ok (ds (rs.map λr=>t*r%p)):=by
    refine LF rs λr _=>⟨rfl,?_⟩
    have m:D0 t r=Ab:=G0 (by omega) (by omega)
    simp[cF,PD,m,hr p (t*r) p0]
   have e:Cd J 3 Ig (.int y) [si p,sh (DO b xs),sh (.lst (ds rs)),s3,Af,Af,Af]=.ret (.tup (ds (rs.map λr=>t*r%p))) Ad:=by
    simp[Cd,Ig,hz,u4,cp,C2]
   rw[step _ e];rfl
theorem qS(hr:Ke J)(ht:Qi J)(hp:P4 p){l t:Ae}(e:Bb p xs=Aa l)(it:EC p l t):NK.run J [.int p,DO b xs]=.ok (.tup (ds (fmI p t xs))):=by
 have p0:=hp.pos;have cp:Ck (cG J [si p,sh (DO b xs),Af,Af,Af,Af,Af] 5 CO) (cF J [si p,sh (DO b xs),Af,Af,Af,Af,Af] 5 PF) (ds xs)=.ok (ds (xs.map λx=>x%p)):=by
  refine LF xs λx _=>⟨rfl,?_⟩
  simp[cF,PF,hr p x p0]
 have run:∀ o,CM (Cd J 3 Ig) (ds (xs.map λx=>x%p)) [si p,sh (DO b xs),sh (.lst (ds (xs.map λx=>x%p))),Af,Af,Af,Af]=o->NK.run J [.int p,DO b xs]=(Gh J (.cons (.rais 3 (.cons (.str (By "all the numbers have the rest 0")) .nil)) .nil) o).ans Ad:=by
  rintro o rfl;simp[NK,Df.run,Br,Ua,cp]
 have le:Bb p (xs.map λx=>x%p)=Bb p xs:=by
  have:=KO (c:=1) hp (by rcases hp with rfl|rfl|rfl|rfl<;>decide) (f:=λx=>x%p) (λx=>by rw[CH,AY _ (BH p)]) xs
  rw[this];cases e:Bb p xs with
  |none=>rfl
  |some l=>
   obtain⟨_,l0,l1⟩:=Js p0 e;simp[AT (Int.le_of_lt l0) l1]
 obtain⟨a,c⟩:=Vk (b:=b) (xs:=xs) hr ht hp (xs.map λx=>x%p) (xs.map λx=>x%p) (λy hy=>by
  obtain⟨x,_,rfl⟩:=Dt.mp hy;exact⟨AM _ (by omega),AI _ p0⟩) Af
 rw[le]at a c;rw[run _ (c l t e it)];simp[fmI,E2,HI]
end
noncomputable def BM(t q:Ak)(a b c:R3):D:=if t=Ab then .tup [Aq q a,Aq q b,Aq q c] else .lst [Aq q a,Aq q b,Aq q c]
theorem O5(t q:Ak)(a b c:R3):BK (BM t q a b c) (.int 0)=.ok (Aq q a)/\BK (BM t q a b c) (.int 1)=.ok (Aq q b)/\BK (BM t q a b c) (.int 2)=.ok (Aq q c):=by cases t<;>exact⟨rfl,rfl,rfl⟩
theorem Og(q:Ak)(a:R3):C5 (Aq q a)=.ok [.int a.1,.int a.2.1,.int a.2.2]:=by cases q<;>rfl
theorem Sb(t q:Ak)(a b c:R3):C5 (BM t q a b c)=.ok [Aq q a,Aq q b,Aq q c]:=by cases t<;>rfl
noncomputable def Ba(a b c:R3):R3:=(a.1,b.1,c.1)
noncomputable def A8(a b c:R3):R3:=(a.2.1,b.2.1,c.2.1)
noncomputable def A7(a b c:R3):R3:=(a.2.2,b.2.2,c.2.2)
noncomputable def Qg:Df:=⟨1,Ad,(.cons (.ret (.tupI (.zip3 (.idx (.var 0) (.int 0)) (.idx (.var 0) (.int 1)) (.idx (.var 0) (.int 2))))) .nil)⟩
def Ol(J:Gam):Prop:=∀(t q:Ak)(a b c:R3),J.F 104 [BM t q a b c]=.ok (BM Ab Ab (Ba a b c) (A8 a b c) (A7 a b c))
theorem yA(J:Gam)(t q:Ak)(a b c:R3):Qg.run J [BM t q a b c]=.ok (BM Ab Ab (Ba a b c) (A8 a b c) (A7 a b c)):=by
 obtain⟨r0,r1,r2⟩:=O5 t q a b c;have z:L5 (Aq q a) (Aq q b) (Aq q c)=.ok [Aq Ab (Ba a b c),Aq Ab (A8 a b c),Aq Ab (A7 a b c)]:=by
  unfold L5;rw[Og,Og,Og];rfl
 simp[Qg,Df.run,Br,r0,r1,r2,z];rfl
noncomputable def Ay(a x:R3):Ae:=a.1*x.1+a.2.1*x.2.1+a.2.2*x.2.2
noncomputable def Nv:E:=(.call 1 (.cons (.var 0) (.cons (.bin .Add (.bin .Add (.bin .Mult (.idx (.var 3) (.int 0)) (.idx (.var 2) (.int 0))) (.bin .Mult (.idx (.var 3) (.int 1)) (.idx (.var 2) (.int 1)))) (.bin .Mult (.idx (.var 3) (.int 2)) (.idx (.var 2) (.int 2)))) .nil)))
noncomputable def Qc:Df:=⟨4,Ad,(.cons (.ret (.bi .tuple (.cons (.comp Nv 3 (.e (.var 1)) CO) .nil))) .nil)⟩
def Rw(J:Gam):Prop:=∀(p:Ae)(t q q':Ak)(a b c x:R3),0<p->B3 a->B3 b->B3 c->B3 x->J.F 91 [.int p,BM t q a b c,Aq q' x]=.ok (Aq Ab (Ay a x%p,Ay b x%p,Ay c x%p))
theorem xM(h:Ke J)(p:Ae)(t q q':Ak)(a b c x:R3)(hp:0<p)(ha:B3 a)(hb:B3 b)(hc:B3 c)(hx:B3 x):Qc.run J [.int p,BM t q a b c,Aq q' x]=.ok (Aq Ab (Ay a x%p,Ay b x%p,Ay c x%p)):=by
 obtain⟨x0,x1,x2⟩:=EG q' x;have k:∀ {u v},Bd 300 u->Bd 300 v->FH u v=Ab:=λhu hv=>Jx hu hv (by decide) (by decide)
 have key:∀ r:R3,B3 r->cF J [si p,sh (BM t q a b c),sh (Aq q' x),Af] 3 Nv (Aq q r)=.ok (.int (Ay r x%p)):=λr hr=>by
  obtain⟨y0,y1,y2⟩:=EG q r;simp[cF,Nv,x0,x1,x2,y0,y1,y2,k hr.1 hx.1,k hr.2.1 hx.2.1,k hr.2.2 hx.2.2,h p _ hp];rfl
 have g:∀ r,cG J [si p,sh (BM t q a b c),sh (Aq q' x),Af] 3 CO r=.ok Ab:=λ_=>rfl
 have cp:Ck (cG J [si p,sh (BM t q a b c),sh (Aq q' x),Af] 3 CO) (cF J [si p,sh (BM t q a b c),sh (Aq q' x),Af] 3 Nv) [Aq q a,Aq q b,Aq q c]=.ok [.int (Ay a x%p),.int (Ay b x%p),.int (Ay c x%p)]:=by
  simp[Ck,g,key a ha,key b hb,key c hc]
 simp[Qc,Df.run,Br,Sb,cp];rfl
noncomputable def crs(a b:R3):R3:=(a.2.1*b.2.2-a.2.2*b.2.1,a.2.2*b.1-a.1*b.2.2,a.1*b.2.1-a.2.1*b.1)
theorem V8:∀ xs ys:Ac Ae,eqDs (ds xs) (ds ys)=decide (xs=ys)
 |[],[]=>rfl
 |[],_::_=>rfl
 |_::_,[]=>rfl
 |x::xs,y::ys=>by
  show ((x==y)&&eqDs (ds xs) (ds ys))=_;rw[V8 xs ys,D8];simp
theorem WD(a b:R3):eqD (Aq Ab a) (Aq Ab b)=decide (a=b):=by
 show eqDs (ds [a.1,a.2.1,a.2.2]) (ds [b.1,b.2.1,b.2.2])=_;rw[V8,D8];simp only[ID,and_true,AO];exact⟨λ⟨h1,h2,h3⟩=>by obtain⟨a1,a2,a3⟩:=a;obtain⟨b1,b2,b3⟩:=b;simp at h1 h2 h3;rw[h1,h2,h3],λh=>by rw[h];exact⟨rfl,rfl,rfl⟩⟩
def Wv(J:Gam):Prop:=∀ a b:R3,B3 a->B3 b->a≠b->J.F 23 [Aq Ab a,Aq Ab b]=.ok (Aq Ab (crs a b))
noncomputable def Ph:Df:=⟨1,Ad,(.cons (.ret (.tup (.cons (.call 23 (.cons (.idx (.var 0) (.int 1)) (.cons (.idx (.var 0) (.int 2)) .nil))) (.cons (.call 23 (.cons (.idx (.var 0) (.int 2)) (.cons (.idx (.var 0) (.int 0)) .nil))) (.cons (.call 23 (.cons (.idx (.var 0) (.int 0)) (.cons (.idx (.var 0) (.int 1)) .nil))) .nil))))) .nil)⟩
def Wu(J:Gam):Prop:=∀ a b c:R3,B3 a->B3 b->B3 c->a≠b->b≠c->c≠a->J.F 98 [BM Ab Ab a b c]=.ok (BM Ab Ab (crs b c) (crs c a) (crs a b))
theorem oU(h:Wv J)(a b c:R3)(ha:B3 a)(hb:B3 b)(hc:B3 c)(n1:a≠b)(n2:b≠c)(n3:c≠a):Ph.run J [BM Ab Ab a b c]=.ok (BM Ab Ab (crs b c) (crs c a) (crs a b)):=by
 obtain⟨r0,r1,r2⟩:=O5 Ab Ab a b c;simp[Ph,Df.run,Br,r0,r1,r2,h b c hb hc n2,h c a hc ha n3,h a b ha hb n1];rfl
def MV(J:Gam):Prop:=∀(p:Ae)(t q:Ak)(a b c:R3),P4 p->B3 a->B3 b->B3 c->Ap a b c%p≠0->∀ l u,Bb p (nine a b c)=Aa l->EC p l u->J.F 78 [.int p,BM t q a b c]=.ok (Cq (fmR p u a) (fmR p u b) (fmR p u c))
theorem xL(hm:LG J)(hf:N1 J)(p:Ae)(t q:Ak)(a b c:R3)(hp:P4 p)(ha:B3 a)(hb:B3 b)(hc:B3 c)(z:Ap a b c%p≠0)(l u:Ae)(e:Bb p (nine a b c)=Aa l)(it:EC p l u):PU.run J [.int p,BM t q a b c]=.ok (Cq (fmR p u a) (fmR p u b) (fmR p u c)):=by
 obtain⟨r0,r1,r2⟩:=O5 t q a b c;have m:=hm p q a b c hp.pos ha hb hc;have f:=hf p Ad (nine a b c) l u hp e it;rw[V7]at f;have f':J.F 17 [.int p,.lst (ds (nine a b c))]=.ok (.tup (ds (nine (fmR p u a) (fmR p u b) (fmR p u c)))):=f;obtain⟨x1,x2⟩:=lW a b c;obtain⟨y1,y2,y3⟩:=dX (fmR p u a) (fmR p u b) (fmR p u c);simp[PU,Df.run,Br,r0,r1,r2,m,z,zC,x1,x2,f',y1,y2,y3,slE];rfl
noncomputable def Py:Df:=⟨2,Ad,(.cons (.ret (.call 78 (.cons (.var 0) (.cons (.call 104 (.cons (.call 98 (.cons (.var 1) .nil)) .nil)) .nil)))) .nil)⟩
noncomputable def bk0(a b c:R3):R3:=Ba (crs b c) (crs c a) (crs a b)
noncomputable def bk1(a b c:R3):R3:=A8 (crs b c) (crs c a) (crs a b)
noncomputable def bk2(a b c:R3):R3:=A7 (crs b c) (crs c a) (crs a b)
def Ry(J:Gam):Prop:=∀(p:Ae)(a b c:R3),P4 p->In3 p a->In3 p b->In3 p c->Ap a b c%p≠0->∀ l u,Bb p (nine (bk0 a b c) (bk1 a b c) (bk2 a b c))=Aa l->EC p l u->J.F 106 [.int p,Cq a b c]=.ok (Cq (fmR p u (bk0 a b c)) (fmR p u (bk1 a b c)) (fmR p u (bk2 a b c)))
theorem K3{x:Ae}(hp:P4 p)(h0:0<=x)(h1:x<p):Bd 10 x:=by
 unfold Bd;have:=hp.hi;omega
theorem Bd.mono{x:Ae}(h:Bd m x)(hm:m<=n):Bd n x:=AH h (Ej (by decide) hm)
def Bn(n:Ag)(a:R3):Prop:=Bd n a.1/\Bd n a.2.1/\Bd n a.2.2
theorem Bn.b3(h:Bn n a)(hn:n<=300):B3 a:=⟨h.1.mono hn,h.2.1.mono hn,h.2.2.mono hn⟩
theorem CW(hp:P4 p)(h:In3 p a):Bn 10 a:=⟨K3 hp h.1.1 h.1.2,K3 hp h.2.1.1 h.2.1.2,K3 hp h.2.2.1 h.2.2.2⟩
theorem RF{a b:R3}(ha:Bn n a)(hb:Bn n b):Bn (n+n+1) (crs a b):=
 ⟨(ha.2.1.mul hb.2.2).sub (ha.2.2.mul hb.2.1),(ha.2.2.mul hb.1).sub (ha.1.mul hb.2.2),(ha.1.mul hb.2.1).sub (ha.2.1.mul hb.1)⟩
theorem RG{a b c:R3}(ha:Bn n a)(hb:Bn n b)(hc:Bn n c):Bn n (Ba a b c)/\Bn n (A8 a b c)/\Bn n (A7 a b c):=⟨⟨ha.1,hb.1,hc.1⟩,⟨ha.2.1,hb.2.1,hc.2.1⟩,⟨ha.2.2,hb.2.2,hc.2.2⟩⟩
theorem yV{a b c:R3}(z:Ap a b c%p≠0):a≠b/\b≠c/\c≠a:=by
 refine⟨λe=>z ?_,λe=>z ?_,λe=>z ?_⟩
 .subst e;rw[show Ap a a c=0 by unfold Ap det;grind,Bw]
 .subst e;rw[show Ap a b b=0 by unfold Ap det;grind,Bw]
 .subst e;rw[show Ap c b c=0 by unfold Ap det;grind,Bw]
theorem Ip(a b c:R3):Ap (bk0 a b c) (bk1 a b c) (bk2 a b c)=Ap a b c*Ap a b c:=by
 unfold Ap det bk0 bk1 bk2 Ba A8 A7 crs;grind
theorem yC(h1:Wu J)(h2:Ol J)(h3:MV J)(p:Ae)(a b c:R3)(hp:P4 p)(ha:In3 p a)(hb:In3 p b)(hc:In3 p c)(z:Ap a b c%p≠0)(l u:Ae)(e:Bb p (nine (bk0 a b c) (bk1 a b c) (bk2 a b c))=Aa l)(it:EC p l u):Py.run J [.int p,Cq a b c]=.ok (Cq (fmR p u (bk0 a b c)) (fmR p u (bk1 a b c)) (fmR p u (bk2 a b c))):=by
 have ba:=CW hp ha;have bb:=CW hp hb;have bc:=CW hp hc;obtain⟨n1,n2,n3⟩:=yV z;have e1:J.F 98 [Cq a b c]=.ok (BM Ab Ab (crs b c) (crs c a) (crs a b)):=h1 a b c (ba.b3 (by decide)) (bb.b3 (by decide)) (bc.b3 (by decide)) n1 n2 n3
 have e2:=h2 Ab Ab (crs b c) (crs c a) (crs a b);obtain⟨c0,c1,c2⟩:=RG (RF bb bc) (RF bc ba) (RF ba bb);have z2:Ap (bk0 a b c) (bk1 a b c) (bk2 a b c)%p≠0:=by rw[Ip];exact BL hp z z
 have e3:J.F 78 [.int p,BM Ab Ab (Ba (crs b c) (crs c a) (crs a b)) (A8 (crs b c) (crs c a) (crs a b)) (A7 (crs b c) (crs c a) (crs a b))]=.ok (Cq (fmR p u (bk0 a b c)) (fmR p u (bk1 a b c)) (fmR p u (bk2 a b c))):=h3 p Ab Ab _ _ _ hp (c0.b3 (by decide)) (c1.b3 (by decide)) (c2.b3 (by decide)) z2 l u e it
 simp[Py,Df.run,Br,e1,e2,e3]
noncomputable def mlR(p:Ae)(x a b c:R3):R3:=(Ay (Ba a b c) x%p,Ay (A8 a b c) x%p,Ay (A7 a b c) x%p)
noncomputable def NM:E:=(.call 91 (.cons (.var 0) (.cons (.var 3) (.cons (.var 4) .nil))))
noncomputable def QR:Df:=⟨5,Ad,(.cons (.asg 3 Ad (.call 104 (.cons (.var 2) .nil))) (.cons (.ret (.call 78 (.cons (.var 0) (.cons (.comp NM 4 (.e (.var 1)) CO) .nil)))) .nil))⟩
def Wx(J:Gam):Prop:=∀(p:Ae)(x y z a b c:R3),P4 p->In3 p x->In3 p y->In3 p z->In3 p a->In3 p b->In3 p c->Ap (mlR p x a b c) (mlR p y a b c) (mlR p z a b c)%p≠0->∀ l u,Bb p (nine (mlR p x a b c) (mlR p y a b c) (mlR p z a b c))=Aa l->EC p l u ->
 J.F 105 [.int p,Cq x y z,Cq a b c]=.ok (Cq (fmR p u (mlR p x a b c)) (fmR p u (mlR p y a b c)) (fmR p u (mlR p z a b c)))
theorem Mc(hp:0<p)(x a b c:R3):In3 p (mlR p x a b c):=⟨⟨AM _ (by omega),AI _ hp⟩,⟨AM _ (by omega),AI _ hp⟩,⟨AM _ (by omega),AI _ hp⟩⟩
theorem oZ(h2:Ol J)(hs:Rw J)(h3:MV J)(p:Ae)(x y z a b c:R3)(hp:P4 p)(hx:In3 p x)(hy:In3 p y)(hz:In3 p z)(ha:In3 p a)(hb:In3 p b)(hc:In3 p c)(nz:Ap (mlR p x a b c) (mlR p y a b c) (mlR p z a b c)%p≠0)(l u:Ae)(e:Bb p (nine (mlR p x a b c) (mlR p y a b c) (mlR p z a b c))=Aa l)(it:EC p l u):QR.run J [.int p,Cq x y z,Cq a b c]=.ok (Cq (fmR p u (mlR p x a b c)) (fmR p u (mlR p y a b c)) (fmR p u (mlR p z a b c))):=by
 have p0:=hp.pos;have e1:J.F 104 [Cq a b c]=.ok (BM Ab Ab (Ba a b c) (A8 a b c) (A7 a b c)):=h2 Ab Ab a b c;obtain⟨c0,c1,c2⟩:=RG (CW hp ha) (CW hp hb) (CW hp hc);have es:∀ r:R3,In3 p r->J.F 91 [.int p,BM Ab Ab (Ba a b c) (A8 a b c) (A7 a b c),Aq Ab r]=.ok (Aq Ab (mlR p r a b c)):=λr hr=>hs p Ab Ab Ab _ _ _ r p0 (c0.b3 (by decide)) (c1.b3 (by decide)) (c2.b3 (by decide)) ((CW hp hr).b3 (by decide))
 have key:∀ r:R3,In3 p r->cF J [si p,sh (Cq x y z),sh (Cq a b c),sh (BM Ab Ab (Ba a b c) (A8 a b c) (A7 a b c)),Af] 4 NM (Aq Ab r)=.ok (Aq Ab (mlR p r a b c)):=λr hr=>by
  simp[cF,NM,es r hr]
 have g:∀ r,cG J [si p,sh (Cq x y z),sh (Cq a b c),sh (BM Ab Ab (Ba a b c) (A8 a b c) (A7 a b c)),Af] 4 CO r=.ok Ab:=λ_=>rfl
 have sq:C5 (Cq x y z)=.ok [Aq Ab x,Aq Ab y,Aq Ab z]:=rfl;have cp:Ck (cG J [si p,sh (Cq x y z),sh (Cq a b c),sh (BM Ab Ab (Ba a b c) (A8 a b c) (A7 a b c)),Af] 4 CO) (cF J [si p,sh (Cq x y z),sh (Cq a b c),sh (BM Ab Ab (Ba a b c) (A8 a b c) (A7 a b c)),Af] 4 NM) [Aq Ab x,Aq Ab y,Aq Ab z]=.ok [Aq Ab (mlR p x a b c),Aq Ab (mlR p y a b c),Aq Ab (mlR p z a b c)]:=by
  simp[Ck,g,key x hx,key y hy,key z hz]
 have e3:J.F 78 [.int p,.lst [Aq Ab (mlR p x a b c),Aq Ab (mlR p y a b c),Aq Ab (mlR p z a b c)]]=.ok (Cq (fmR p u (mlR p x a b c)) (fmR p u (mlR p y a b c)) (fmR p u (mlR p z a b c))):=
  h3 p Ad Ab _ _ _ hp ((CW hp (Mc p0 x a b c)).b3 (by decide)) ((CW hp (Mc p0 y a b c)).b3 (by decide)) ((CW hp (Mc p0 z a b c)).b3 (by decide)) nz l u e it
 simp[QR,Df.run,Br,e1,sq,cp,e3]
noncomputable def PZ:E:=(.bin .Mult (.var 0) (.var 2))
noncomputable def Qy:Df:=⟨3,Ad,(.cons (.ret (.comp PZ 2 (.e (.var 1)) CO)) .nil)⟩
def lX(J:Gam):Prop:=∀(k:Ae)(a:R3),0<=k->k<100->J.F 110 [.int k,Aq Ab a]=.ok (Aq Ad (k*a.1,k*a.2.1,k*a.2.2))
theorem kP(J:Gam)(k:Ae)(a:R3)(h0:0<=k)(h1:k<100):Qy.run J [.int k,Aq Ab a]=.ok (Aq Ad (k*a.1,k*a.2.1,k*a.2.2)):=by
 have m:∀ x,D0 k x=Ab:=λx=>G0 (by omega) (by omega)
 have key:∀ x:Ae,cF J [si k,sh (Aq Ab a),Af] 2 PZ (.int x)=.ok (.int (k*x)):=λx=>by
  simp[cF,PZ,m]
 have g:∀ x,cG J [si k,sh (Aq Ab a),Af] 2 CO x=.ok Ab:=λ_=>rfl
 simp[Qy,Df.run,Br,Og,Ck,g,key];rfl
noncomputable def D7(a b c d:R3):D:=.lst [Aq Ab a,Aq Ab b,Aq Ab c,Aq Ab d]
noncomputable def AC(k:Ae)(a:R3):R3:=(k*a.1,k*a.2.1,k*a.2.2)
theorem sO(a b c d:R3):BK (D7 a b c d) (.int 0)=.ok (Aq Ab a)/\BK (D7 a b c d) (.int 1)=.ok (Aq Ab b)/\BK (D7 a b c d) (.int 2)=.ok (Aq Ab c)/\BK (D7 a b c d) (.int 3)=.ok (Aq Ab d):=⟨rfl,rfl,rfl,rfl⟩
noncomputable def PK:Df:=⟨3,Ad,(.cons (.asg 2 Ad (.tup (.cons (.call 110 (.cons (.call 61 (.cons (.var 0) (.cons (.idx (.var 1) (.int 3)) (.cons (.idx (.var 1) (.int 1)) (.cons (.idx (.var 1) (.int 2)) .nil))))) (.cons (.idx (.var 1) (.int 0)) .nil))) (.cons (.call 110 (.cons (.call 61 (.cons (.var 0) (.cons (.idx (.var 1) (.int 0)) (.cons (.idx (.var 1) (.int 3)) (.cons (.idx (.var 1) (.int 2)) .nil))))) (.cons (.idx (.var 1) (.int 1)) .nil))) (.cons (.call 110 (.cons (.call 61 (.cons (.var 0) (.cons (.idx (.var 1) (.int 0)) (.cons (.idx (.var 1) (.int 1)) (.cons (.idx (.var 1) (.int 3)) .nil))))) (.cons (.idx (.var 1) (.int 2)) .nil))) .nil))))) (.cons (.ret (.call 78 (.cons (.var 0) (.cons (.call 104 (.cons (.var 2) .nil)) .nil)))) .nil))⟩
noncomputable def fk0(p:Ae)(a b c d:R3):Ae:=Ap d b c%p
noncomputable def fk1(p:Ae)(a b c d:R3):Ae:=Ap a d c%p
noncomputable def fk2(p:Ae)(a b c d:R3):Ae:=Ap a b d%p
noncomputable def fs0(p:Ae)(a b c d:R3):R3:=AC (fk0 p a b c d) a
noncomputable def fs1(p:Ae)(a b c d:R3):R3:=AC (fk1 p a b c d) b
noncomputable def fs2(p:Ae)(a b c d:R3):R3:=AC (fk2 p a b c d) c
noncomputable def fr0(p:Ae)(a b c d:R3):R3:=Ba (fs0 p a b c d) (fs1 p a b c d) (fs2 p a b c d)
noncomputable def fr1(p:Ae)(a b c d:R3):R3:=A8 (fs0 p a b c d) (fs1 p a b c d) (fs2 p a b c d)
noncomputable def fr2(p:Ae)(a b c d:R3):R3:=A7 (fs0 p a b c d) (fs1 p a b c d) (fs2 p a b c d)
def Ts(J:Gam):Prop:=∀(p:Ae)(a b c d:R3),P4 p->In3 p a->In3 p b->In3 p c->In3 p d->Ap (fr0 p a b c d) (fr1 p a b c d) (fr2 p a b c d)%p≠0->∀ l u,Bb p (nine (fr0 p a b c d) (fr1 p a b c d) (fr2 p a b c d))=Aa l->EC p l u ->
 J.F 111 [.int p,D7 a b c d]=.ok (Cq (fmR p u (fr0 p a b c d)) (fmR p u (fr1 p a b c d)) (fmR p u (fr2 p a b c d)))
theorem So(hk:Bd n k)(ha:Bn m a):Bn (n+m) (AC k a):=⟨hk.mul ha.1,hk.mul ha.2.1,hk.mul ha.2.2⟩
theorem dP(hm:LG J)(hs:lX J)(h2:Ol J)(h3:MV J)(p:Ae)(a b c d:R3)(hp:P4 p)(ha:In3 p a)(hb:In3 p b)(hc:In3 p c)(hd:In3 p d)(z:Ap (fr0 p a b c d) (fr1 p a b c d) (fr2 p a b c d)%p≠0)(l u:Ae)(e:Bb p (nine (fr0 p a b c d) (fr1 p a b c d) (fr2 p a b c d))=Aa l)(it:EC p l u):PK.run J [.int p,D7 a b c d]=.ok (Cq (fmR p u (fr0 p a b c d)) (fmR p u (fr1 p a b c d)) (fmR p u (fr2 p a b c d))):=by
 have p0:=hp.pos;have ph:=hp.hi;have ba:=(CW hp ha).b3 (by decide)
 have bb:=(CW hp hb).b3 (by decide)
 have bc:=(CW hp hc).b3 (by decide)
 have bd:=(CW hp hd).b3 (by decide)
 obtain⟨x0,x1,x2,x3⟩:=sO a b c d;have m0:=hm p Ab d b c p0 bd bb bc;have m1:=hm p Ab a d c p0 ba bd bc;have m2:=hm p Ab a b d p0 ba bb bd;have k0:0<=Ap d b c%p/\Ap d b c%p<p:=⟨AM _ (by omega),AI _ p0⟩
 have k1:0<=Ap a d c%p/\Ap a d c%p<p:=⟨AM _ (by omega),AI _ p0⟩
 have k2:0<=Ap a b d%p/\Ap a b d%p<p:=⟨AM _ (by omega),AI _ p0⟩
 have s0:J.F 110 [.int (Ap d b c%p),Aq Ab a]=.ok (Aq Ad (AC (Ap d b c%p) a)):=hs (Ap d b c%p) a k0.1 (by omega)
 have s1:J.F 110 [.int (Ap a d c%p),Aq Ab b]=.ok (Aq Ad (AC (Ap a d c%p) b)):=hs (Ap a d c%p) b k1.1 (by omega)
 have s2:J.F 110 [.int (Ap a b d%p),Aq Ab c]=.ok (Aq Ad (AC (Ap a b d%p) c)):=hs (Ap a b d%p) c k2.1 (by omega)
 have e2:J.F 104 [.tup [Aq Ad (AC (Ap d b c%p) a),Aq Ad (AC (Ap a d c%p) b),Aq Ad (AC (Ap a b d%p) c)]]=.ok (BM Ab Ab (fr0 p a b c d) (fr1 p a b c d) (fr2 p a b c d)):=h2 Ab Ad _ _ _;obtain⟨c0,c1,c2⟩:=RG (So (K3 hp k0.1 k0.2) (CW hp ha)) (So (K3 hp k1.1 k1.2) (CW hp hb)) (So (K3 hp k2.1 k2.2) (CW hp hc));have e3:=h3 p Ab Ab (fr0 p a b c d) (fr1 p a b c d) (fr2 p a b c d) hp (c0.b3 (by decide)) (c1.b3 (by decide)) (c2.b3 (by decide)) z l u e it
 simp[PK,Df.run,Br,x0,x1,x2,x3,m0,m1,m2,s0,s1,s2,e2,e3]
noncomputable def Tz:Ss:=(.cons (.ife (.cmp .Eq (.call 61 (.cons (.var 0) (.cons (.var 3) (.cons (.idx (.var 1) (.var 4)) (.cons (.idx (.var 1) (.var 5)) .nil))))) (.int 0)) (.cons (.ret (.tup (.cons (.var 3) (.cons (.idx (.var 1) (.var 4)) (.cons (.idx (.var 1) (.var 5)) .nil))))) .nil) .nil) .nil)
noncomputable def Tx:Ss:=(.cons (.fors 5 (.rng2 (.bin .Add (.var 4) (.int 1)) (.bi .len (.cons (.var 1) .nil))) Tz) .nil)
noncomputable def Tw:Ss:=(.cons (.fors 4 (.rng2 (.bin .Add (.var 2) (.int 1)) (.bi .len (.cons (.var 1) .nil))) Tx) .nil)
noncomputable def Mx:Df:=⟨6,Ad,(.cons (.forT [2,3] (.enm (.var 1)) Tw) (.cons (.ret .non) .nil))⟩
theorem kR(p:Ae)(a b c d:D){m0 m1 m2 m3:Ae}(h0:J.F 61 [.int p,a,b,c]=.ok (.int m0))(h1:J.F 61 [.int p,a,b,d]=.ok (.int m1))(h2:J.F 61 [.int p,a,c,d]=.ok (.int m2))(h3:J.F 61 [.int p,b,c,d]=.ok (.int m3))(n0:m0≠0)(n1:m1≠0)(n2:m2≠0)(n3:m3≠0):Mx.run J [.int p,.lst [a,b,c,d]]=.ok .non:=by
 have x0:Dg [a,b,c,d] 0=.ok a:=rfl;have x1:Dg [a,b,c,d] 1=.ok b:=rfl;have x2:Dg [a,b,c,d] 2=.ok c:=rfl;have x3:Dg [a,b,c,d] 3=.ok d:=rfl;have r14:DI 1 4=.ok [.int 1,.int 2,.int 3]:=rfl;have r24:DI 2 4=.ok [.int 2,.int 3]:=rfl;have r34:DI 3 4=.ok [.int 3]:=rfl;have r44:DI 4 4=.ok []:=rfl;simp[Mx,Df.run,Br,Fn,CM,Cd,IW,Tz,Tx,Tw,EH,x0,x1,x2,x3,r14,r24,r34,r44,h0,h1,h2,h3,n0,n1,n2,n3]
def HH(p:Ae)(a b c d:R3):Prop:=Ap a b c%p≠0/\Ap a b d%p≠0/\Ap a c d%p≠0/\Ap b c d%p≠0
def Yl(J:Gam):Prop:=∀(p:Ae)(a b c d:R3),P4 p->In3 p a->In3 p b->In3 p c->In3 p d->HH p a b c d->J.F 109 [.int p,D7 a b c d]=.ok .non
def lY(J:Gam):Prop:=∀(p:Ae)(a b c d:R3),P4 p->In3 p a->In3 p b->In3 p c->In3 p d->HH p a b c d->J.F 65 [.int p,D7 a b c d]=.ok .non
theorem qU(hm:LG J)(p:Ae)(a b c d:R3)(hp:P4 p)(ha:In3 p a)(hb:In3 p b)(hc:In3 p c)(hd:In3 p d)(h:HH p a b c d):Mx.run J [.int p,D7 a b c d]=.ok .non:=by
 have p0:=hp.pos;have ba:=(CW hp ha).b3 (by decide)
 have bb:=(CW hp hb).b3 (by decide)
 have bc:=(CW hp hc).b3 (by decide)
 have bd:=(CW hp hd).b3 (by decide)
 exact kR p _ _ _ _ (hm p Ab a b c p0 ba bb bc) (hm p Ab a b d p0 ba bb bd) (hm p Ab a c d p0 ba bc bd) (hm p Ab b c d p0 bb bc bd) h.1 h.2.1 h.2.2.1 h.2.2.2
noncomputable def Mz:Df:=⟨3,Ad,(.cons (.ife (.or (.cons (.cmp .NotEq (.bi .len (.cons (.var 1) .nil)) (.int 4)) (.cons (.cmp .NotEq (.bi .len (.cons (.var 2) .nil)) (.int 4)) .nil))) (.cons (.rais 13 (.cons (.str (By "a frame has four points")) .nil)) .nil) .nil) (.cons (.expr (.call 109 (.cons (.var 0) (.cons (.var 1) .nil)))) (.cons (.expr (.call 109 (.cons (.var 0) (.cons (.var 2) .nil)))) (.cons (.ret (.call 105 (.cons (.var 0) (.cons (.call 111 (.cons (.var 0) (.cons (.var 2) .nil))) (.cons (.call 106 (.cons (.var 0) (.cons (.call 111 (.cons (.var 0) (.cons (.var 1) .nil))) .nil))) .nil))))) .nil))))⟩
theorem xR{a b c d a' b' c' d':R3}{M N B R:D}(e1:J.F 109 [.int p,D7 a b c d]=.ok .non)(e2:J.F 109 [.int p,D7 a' b' c' d']=.ok .non)(e3:J.F 111 [.int p,D7 a' b' c' d']=.ok N)(e4:J.F 111 [.int p,D7 a b c d]=.ok M)(e5:J.F 106 [.int p,M]=.ok B)(e6:J.F 105 [.int p,N,B]=.ok R):Mz.run J [.int p,D7 a b c d,D7 a' b' c' d']=.ok R:=by
 have l1:biD .len [D7 a b c d]=.ok (.int 4):=rfl;have l2:biD .len [D7 a' b' c' d']=.ok (.int 4):=rfl;simp[Mz,Df.run,Br,l1,l2,e1,e2,e3,e4,e5,e6]
def CgR(p:Ae)(x y:R3):Prop:=Cg p x.1 y.1/\Cg p x.2.1 y.2.1/\Cg p x.2.2 y.2.2
section
variable{p:Ae}{a b c a' b' c' x y z x':R3}{k l m k':Ae}
theorem CgR.rfl:CgR p a a:=⟨Cg.rfl,Cg.rfl,Cg.rfl⟩
theorem CgR.of(h:a=b):CgR p a b:=by rw[h];exact CgR.rfl
theorem CgR.trans(h:CgR p a b)(g:CgR p b c):CgR p a c:=⟨h.1.trans g.1,h.2.1.trans g.2.1,h.2.2.trans g.2.2⟩
theorem CgR.symm(h:CgR p a b):CgR p b a:=⟨h.1.symm,h.2.1.symm,h.2.2.symm⟩
theorem CgR.sc(hk:Cg p k k')(h:CgR p a b):CgR p (AC k a) (AC k' b):=⟨hk.mul h.1,hk.mul h.2.1,hk.mul h.2.2⟩
theorem CgR.md(h:a=mdR p b):CgR p a b:=by rw[h];exact⟨Cg.md _root_.rfl,Cg.md _root_.rfl,Cg.md _root_.rfl⟩
theorem Ik(ha:CgR p a a')(hb:CgR p b b')(hc:CgR p c c'):Cg p (Ap a b c) (Ap a' b' c'):=by
 unfold Ap det;exact Jv ha.1 ha.2.1 ha.2.2 hb.1 hb.2.1 hb.2.2 hc.1 hc.2.1 hc.2.2
theorem Gd(ha:CgR p a a')(hb:CgR p b b'):Cg p (Ay a b) (Ay a' b'):=((ha.1.mul hb.1).add (ha.2.1.mul hb.2.1)).add (ha.2.2.mul hb.2.2)
theorem Oo(ha:CgR p a a')(hb:CgR p b b')(hc:CgR p c c'):CgR p (Ba a b c) (Ba a' b' c')/\CgR p (A8 a b c) (A8 a' b' c')/\CgR p (A7 a b c) (A7 a' b' c'):=⟨⟨ha.1,hb.1,hc.1⟩,⟨ha.2.1,hb.2.1,hc.2.1⟩,⟨ha.2.2,hb.2.2,hc.2.2⟩⟩
theorem On(ha:CgR p a a')(hb:CgR p b b'):CgR p (crs a b) (crs a' b'):=
 ⟨(ha.2.1.mul hb.2.2).sub (ha.2.2.mul hb.2.1),(ha.2.2.mul hb.1).sub (ha.1.mul hb.2.2),(ha.1.mul hb.2.1).sub (ha.2.1.mul hb.1)⟩
theorem Yq(ha:CgR p a a')(hb:CgR p b b')(hc:CgR p c c'):CgR p (bk0 a b c) (bk0 a' b' c')/\CgR p (bk1 a b c) (bk1 a' b' c')/\CgR p (bk2 a b c) (bk2 a' b' c'):=Oo (On hb hc) (On hc ha) (On ha hb)
theorem EB(p t:Ae)(a:R3):CgR p (fmR p t a) (AC t a):=by
 have key:∀ x:Ae,Cg p (t*(x%p)%p) (t*x):=λx=>(Cg.md _root_.rfl).trans (Cg.rfl.mul (Cg.md _root_.rfl))
 exact⟨key _,key _,key _⟩
noncomputable def rm(a x y z:R3):R3:=(Ay (Ba x y z) a,Ay (A8 x y z) a,Ay (A7 x y z) a)
theorem X7(p:Ae)(a x y z:R3):CgR p (mlR p a x y z) (rm a x y z):=⟨Cg.md _root_.rfl,Cg.md _root_.rfl,Cg.md _root_.rfl⟩
theorem ek{z':R3}(ha:CgR p a a')(hx:CgR p x x')(hy:CgR p y y')(hz:CgR p z z'):CgR p (rm a x y z) (rm a' x' y' z'):=by
 obtain⟨c0,c1,c2⟩:=Oo hx hy hz;exact⟨Gd c0 ha,Gd c1 ha,Gd c2 ha⟩
noncomputable def ap(a b c x:R3):R3:=(Ay a x,Ay b x,Ay c x)
theorem Rk(a b c x y z:R3):Ap (ap a b c x) (ap a b c y) (ap a b c z)=Ap a b c*Ap x y z:=by
 unfold Ap det ap Ay;grind
theorem KS(k l m:Ae)(x y z:R3):Ap (AC k x) (AC l y) (AC m z)=k*l*m*Ap x y z:=by
 unfold Ap det AC;grind
theorem Iu(k l:Ae)(x:R3):AC k (AC l x)=AC (k*l) x:=by
 unfold AC;simp only[Fs]
theorem Yj(a b c x:R3)(k:Ae):ap a b c (AC k x)=AC k (ap a b c x):=by
 unfold ap AC Ay;refine BF ?_ (BF ?_ ?_)<;>(simp only;grind)
theorem eh(k:Ae)(a x y z:R3):rm (AC k a) x y z=AC k (rm a x y z):=by
 unfold rm AC Ay Ba A8 A7;refine BF ?_ (BF ?_ ?_)<;>(simp only;grind)
theorem xK(k:Ae)(a x y z:R3):rm a (AC k x) (AC k y) (AC k z)=AC k (rm a x y z):=by
 unfold rm AC Ay Ba A8 A7;refine BF ?_ (BF ?_ ?_)<;>(simp only;grind)
theorem Yp(k:Ae)(x y z:R3):bk0 (AC k x) (AC k y) (AC k z)=AC (k*k) (bk0 x y z)/\bk1 (AC k x) (AC k y) (AC k z)=AC (k*k) (bk1 x y z)/\bk2 (AC k x) (AC k y) (AC k z)=AC (k*k) (bk2 x y z):=by
 unfold bk0 bk1 bk2 AC Ba A8 A7 crs;refine⟨?_,?_,?_⟩<;>refine BF ?_ (BF ?_ ?_)<;>(simp only;grind)
theorem et(a x y z:R3):rm (rm a x y z) (bk0 x y z) (bk1 x y z) (bk2 x y z)=AC (Ap x y z) a:=by
 unfold rm AC Ay bk0 bk1 bk2 Ba A8 A7 crs Ap det;refine BF ?_ (BF ?_ ?_)<;>(simp only;grind)
theorem QP(x y z:R3):Ap (Ba x y z) (A8 x y z) (A7 x y z)=Ap x y z:=by
 unfold Ap det Ba A8 A7;grind
end
theorem KP(a b:R3):Ay a b=Ay b a:=by unfold Ay;grind
theorem JD{x y:Ae}(h:Cg p x y)(hy:y%p≠0):x%p≠0:=λz=>hy ((show x%p=y%p from h).symm.trans z)
theorem nz3{x y z:Ae}(hp:P4 p)(hx:x%p≠0)(hy:y%p≠0)(hz:z%p≠0):x*y*z%p≠0:=BL hp (BL hp hx hy) hz
section
variable{p:Ae}{a b c f0 f1 f2 f3 g0 g1 g2 g3:R3}{d0 d1 d2 d3:Ae}
theorem LK(hx:CgR p g0 (AC d0 (ap a b c f0)))(hy:CgR p g1 (AC d1 (ap a b c f1)))(hz:CgR p g2 (AC d2 (ap a b c f2))):Cg p (Ap g0 g1 g2) (d0*d1*d2*(Ap a b c*Ap f0 f1 f2)):=
 (Ik hx hy hz).trans (Cg.of (by rw[KS,Rk]))
theorem Ri{z w z' w':R3}{k0 k1 k2 k3 K:Ae}(hx:CgR p x' (AC k0 (ap a b c x)))(hy:CgR p y' (AC k1 (ap a b c y)))(hz:CgR p z' (AC k2 (ap a b c z)))(hw:CgR p w' (AC k3 (ap a b c w)))(hK:K=k0*k1*k2*k3*Ap a b c):CgR p (AC (Ap x' y' z'%p) w') (AC K (ap a b c (AC (Ap x y z%p) w))):=by
 have e1:Cg p (Ap x' y' z'%p) (k0*k1*k2*(Ap a b c*(Ap x y z%p))):=((Cg.md rfl).trans (LK hx hy hz)).trans (Cg.rfl.mul (Cg.rfl.mul (Cg.md rfl).symm));refine(CgR.sc e1 hw).trans (CgR.of ?_);rw[Iu,Yj,Iu,hK]
 congr 1
 grind
theorem yM(h0:CgR p g0 (AC d0 (ap a b c f0)))(h1:CgR p g1 (AC d1 (ap a b c f1)))(h2:CgR p g2 (AC d2 (ap a b c f2)))(h3:CgR p g3 (AC d3 (ap a b c f3))):CgR p (fr0 p g0 g1 g2 g3) (AC (d0*d1*d2*d3*Ap a b c) (rm a (fr0 p f0 f1 f2 f3) (fr1 p f0 f1 f2 f3) (fr2 p f0 f1 f2 f3)))/\CgR p (fr1 p g0 g1 g2 g3) (AC (d0*d1*d2*d3*Ap a b c) (rm b (fr0 p f0 f1 f2 f3) (fr1 p f0 f1 f2 f3) (fr2 p f0 f1 f2 f3)))/\CgR p (fr2 p g0 g1 g2 g3) (AC (d0*d1*d2*d3*Ap a b c) (rm c (fr0 p f0 f1 f2 f3) (fr1 p f0 f1 f2 f3) (fr2 p f0 f1 f2 f3))):=by
 have s0:CgR p (fs0 p g0 g1 g2 g3) (AC (d0*d1*d2*d3*Ap a b c) (ap a b c (fs0 p f0 f1 f2 f3))):=Ri h3 h1 h2 h0 (by grind)
 have s1:CgR p (fs1 p g0 g1 g2 g3) (AC (d0*d1*d2*d3*Ap a b c) (ap a b c (fs1 p f0 f1 f2 f3))):=Ri h0 h3 h2 h1 (by grind)
 have s2:CgR p (fs2 p g0 g1 g2 g3) (AC (d0*d1*d2*d3*Ap a b c) (ap a b c (fs2 p f0 f1 f2 f3))):=Ri h0 h1 h3 h2 (by grind)
 obtain⟨c0,c1,c2⟩:=Oo s0 s1 s2;have key:∀ r:R3,rm r (fr0 p f0 f1 f2 f3) (fr1 p f0 f1 f2 f3) (fr2 p f0 f1 f2 f3)=(Ay r (fs0 p f0 f1 f2 f3),Ay r (fs1 p f0 f1 f2 f3),Ay r (fs2 p f0 f1 f2 f3)):=λr=>by
  rw[KP r,KP r,KP r];rfl
 rw[key a,key b,key c];exact⟨c0,c1,c2⟩
theorem yN(p:Ae)(f0 f1 f2 f3:R3):Ap (fr0 p f0 f1 f2 f3) (fr1 p f0 f1 f2 f3) (fr2 p f0 f1 f2 f3)=fk0 p f0 f1 f2 f3*fk1 p f0 f1 f2 f3*fk2 p f0 f1 f2 f3*Ap f0 f1 f2:=by
 unfold fr0 fr1 fr2;rw[QP];unfold fs0 fs1 fs2;rw[KS]
theorem RV{x:Ae}(h:x%p≠0):x%p%p≠0:=by rw[AY _ (BH p)];exact h
theorem XY(hp:P4 p)(h:HH p f0 f1 f2 f3):Ap (fr0 p f0 f1 f2 f3) (fr1 p f0 f1 f2 f3) (fr2 p f0 f1 f2 f3)%p≠0:=by
 rw[yN];obtain⟨h1,h2,h3,h4⟩:=h;have k0:Ap f3 f1 f2%p≠0:=by rw[show Ap f3 f1 f2=Ap f1 f2 f3 by unfold Ap det;grind];exact h4
 have k1:Ap f0 f3 f2%p≠0:=by rw[show Ap f0 f3 f2=-1*Ap f0 f2 f3 by unfold Ap det;grind];exact BL hp hp.m1 h3
 exact BL hp (nz3 hp (RV k0) (RV k1) (RV h2)) h1
theorem rS(hp:P4 p)(hD:Ap a b c%p≠0)(n0:d0%p≠0)(n1:d1%p≠0)(n2:d2%p≠0)(n3:d3%p≠0)(h0:CgR p g0 (AC d0 (ap a b c f0)))(h1:CgR p g1 (AC d1 (ap a b c f1)))(h2:CgR p g2 (AC d2 (ap a b c f2)))(h3:CgR p g3 (AC d3 (ap a b c f3)))(h:HH p f0 f1 f2 f3):HH p g0 g1 g2 g3:=
 ⟨JD (LK h0 h1 h2) (BL hp (nz3 hp n0 n1 n2) (BL hp hD h.1)),JD (LK h0 h1 h3) (BL hp (nz3 hp n0 n1 n3) (BL hp hD h.2.1)),JD (LK h0 h2 h3) (BL hp (nz3 hp n0 n2 n3) (BL hp hD h.2.2.1)),JD (LK h1 h2 h3) (BL hp (nz3 hp n1 n2 n3) (BL hp hD h.2.2.2))⟩
end
theorem rT{a b c x y z:R3}(hp:P4 p)(hk:k%p≠0)(ha:In3 p a)(hb:In3 p b)(hc:In3 p c)(l1:Bb p (nine a b c)=Aa 1)(hx:CgR p x (AC k a))(hy:CgR p y (AC k b))(hz:CgR p z (AC k c)):∃ l u,Bb p (nine x y z)=Aa l/\EC p l u/\fmR p u x=a/\fmR p u y=b/\fmR p u z=c:=by
 have p1:1<p:=by have:=hp.lo;omega
 have rs:(nine x y z).map (λx=>x%p)=((nine a b c).map λx=>k*x).map (λx=>x%p):=by
  simp only[nine,C3,HW];rw[show x.1%p=k*a.1%p from hx.1,show x.2.1%p=k*a.2.1%p from hx.2.1,show x.2.2%p=k*a.2.2%p from hx.2.2,show y.1%p=k*b.1%p from hy.1,show y.2.1%p=k*b.2.1%p from hy.2.1,show y.2.2%p=k*b.2.2%p from hy.2.2,show z.1%p=k*c.1%p from hz.1,show z.2.1%p=k*c.2.1%p from hz.2.1,show z.2.2%p=k*c.2.2%p from hz.2.2]
 have it:EC p 1 1:=⟨by decide,p1,by rw[CH,AT (by decide) p1]⟩
 have l0:(1:Ae)%p≠0:=hp.o1;obtain⟨u,iu,eu⟩:=kF hp hk l0 it (f:=λx=>k*x) (λ_=>rfl) (nine a b c)
 have el:=KO hp hk (f:=λx=>k*x) (λ_=>rfl) (nine a b c)
 rw[l1,<-NG rs]at el;rw[<-Vr rs]at eu;have one:∀ v:Ae,0<=v->v<p->1*(v%p)%p=v:=λv h0 h1=>by rw[CH,AY _ (BH p),AT h0 h1]
 have same:fmI p 1 (nine a b c)=nine a b c:=by
  unfold fmI nine;simp only[C3,HW];rw[one _ ha.1.1 ha.1.2,one _ ha.2.1.1 ha.2.1.2,one _ ha.2.2.1 ha.2.2.2,one _ hb.1.1 hb.1.2,one _ hb.2.1.1 hb.2.1.2,one _ hb.2.2.1 hb.2.2.2,one _ hc.1.1 hc.1.2,one _ hc.2.1.1 hc.2.1.2,one _ hc.2.2.1 hc.2.2.2]
 rw[same,V7]at eu;obtain⟨e1,e2,e3⟩:=kE eu;exact⟨_,u,el,iu,e1,e2,e3⟩
theorem qJ(hk:Yl J)(hf:Ts J)(hb:Ry J)(ha:Wx J){a b c f0 f1 f2 f3 g0 g1 g2 g3:R3}{d0 d1 d2 d3:Ae}(hp:P4 p)(ia:In3 p a)(ib:In3 p b)(ic:In3 p c)(hD:Ap a b c%p≠0)(l1:Bb p (nine a b c)=Aa 1)(i0:In3 p f0)(i1:In3 p f1)(i2:In3 p f2)(i3:In3 p f3)(hg:HH p f0 f1 f2 f3)(j0:In3 p g0)(j1:In3 p g1)(j2:In3 p g2)(j3:In3 p g3)(n0:d0%p≠0)(n1:d1%p≠0)(n2:d2%p≠0)(n3:d3%p≠0)(h0:CgR p g0 (AC d0 (ap a b c f0)))(h1:CgR p g1 (AC d1 (ap a b c f1)))(h2:CgR p g2 (AC d2 (ap a b c f2)))(h3:CgR p g3 (AC d3 (ap a b c f3))):Mz.run J [.int p,D7 f0 f1 f2 f3,D7 g0 g1 g2 g3]=.ok (Cq a b c):=by
 have p0:=hp.pos;have hg':=rS hp hD n0 n1 n2 n3 h0 h1 h2 h3 hg;have e1:=hk p f0 f1 f2 f3 hp i0 i1 i2 i3 hg;have e2:=hk p g0 g1 g2 g3 hp j0 j1 j2 j3 hg';have zM:=XY hp hg;have zN:=XY hp hg';obtain⟨r0,r1,r2⟩:=yM h0 h1 h2 h3
 -- the frames' tables
 obtain⟨lM,eM⟩:=NQ zM;obtain⟨v,v1,v2,v3⟩:=Io hp (Js p0 eM).1;have e4:=hf p f0 f1 f2 f3 hp i0 i1 i2 i3 zM lM v eM ⟨v1,v2,v3⟩;obtain⟨lN,eN⟩:=NQ zN;obtain⟨u,u1,u2,u3⟩:=Io hp (Js p0 eN).1;have e3:=hf p g0 g1 g2 g3 hp j0 j1 j2 j3 zN lN u eN ⟨u1,u2,u3⟩;have vz:v%p≠0:=by rw[AT (by omega) v2];omega
 have uz:u%p≠0:=by rw[AT (by omega) u2];omega
 generalize fr0 p f0 f1 f2 f3=x at *;generalize fr1 p f0 f1 f2 f3=y at *;generalize fr2 p f0 f1 f2 f3=z at *;generalize fr0 p g0 g1 g2 g3=x' at *;generalize fr1 p g0 g1 g2 g3=y' at *;generalize fr2 p g0 g1 g2 g3=z' at *;have mx:=EB p v x;have my:=EB p v y;have mz:=EB p v z;have kx:In3 p (fmR p v x):=Hi p0 v x;have ky:In3 p (fmR p v y):=Hi p0 v y;have kz:In3 p (fmR p v z):=Hi p0 v z;have zM':Ap (fmR p v x) (fmR p v y) (fmR p v z)%p≠0:=JD ((Ik mx my mz).trans (Cg.of (KS v v v x y z))) (BL hp (nz3 hp vz vz vz) zM);obtain⟨b0,b1,b2⟩:=Yq mx my mz;obtain⟨s0,s1,s2⟩:=Yp v x y z;rw[s0]at b0;rw[s1]at b1;rw[s2]at b2;have zB:Ap (bk0 (fmR p v x) (fmR p v y) (fmR p v z)) (bk1 (fmR p v x) (fmR p v y) (fmR p v z)) (bk2 (fmR p v x) (fmR p v y) (fmR p v z))%p≠0:=by rw[Ip];exact BL hp zM' zM'
 obtain⟨lB,eB⟩:=NQ zB;obtain⟨w,w1,w2,w3⟩:=Io hp (Js p0 eB).1;have wz:w%p≠0:=by rw[AT (by omega) w2];omega
 have e5:=hb p _ _ _ hp kx ky kz zM' lB w eB ⟨w1,w2,w3⟩;generalize bk0 (fmR p v x) (fmR p v y) (fmR p v z)=B0 at *;generalize bk1 (fmR p v x) (fmR p v y) (fmR p v z)=B1 at *;generalize bk2 (fmR p v x) (fmR p v y) (fmR p v z)=B2 at *;have c0:CgR p (fmR p w B0) (AC (w*(v*v)) (bk0 x y z)):=(EB p w B0).trans ((CgR.sc Cg.rfl b0).trans (CgR.of (Iu _ _ _)));have c1:CgR p (fmR p w B1) (AC (w*(v*v)) (bk1 x y z)):=(EB p w B1).trans ((CgR.sc Cg.rfl b1).trans (CgR.of (Iu _ _ _)));have c2:CgR p (fmR p w B2) (AC (w*(v*v)) (bk2 x y z)):=(EB p w B2).trans ((CgR.sc Cg.rfl b2).trans (CgR.of (Iu _ _ _)))
 -- the product
 have row:∀{r t:R3},CgR p t (AC (d0*d1*d2*d3*Ap a b c) (rm r x y z))->CgR p (mlR p (fmR p u t) (fmR p w B0) (fmR p w B1) (fmR p w B2)) (AC (w*(v*v)*(u*(d0*d1*d2*d3*Ap a b c))*Ap x y z) r):=λ{r t} ht=>by
  have q:CgR p (fmR p u t) (AC (u*(d0*d1*d2*d3*Ap a b c)) (rm r x y z)):=(EB p u t).trans ((CgR.sc Cg.rfl ht).trans (CgR.of (Iu _ _ _)));refine(X7 p _ _ _ _).trans ((ek q c0 c1 c2).trans (CgR.of ?_));rw[xK,eh,et,Iu,Iu]
 have q0:=row r0;have q1:=row r1;have q2:=row r2;have kz':w*(v*v)*(u*(d0*d1*d2*d3*Ap a b c))*Ap x y z%p≠0:=BL hp (BL hp (BL hp wz (BL hp vz vz)) (BL hp uz (BL hp (BL hp (nz3 hp n0 n1 n2) n3) hD))) zM;obtain⟨l,t,el,it,f0',f1',f2'⟩:=rT hp kz' ia ib ic l1 q0 q1 q2;have zR:Ap (mlR p (fmR p u x') (fmR p w B0) (fmR p w B1) (fmR p w B2)) (mlR p (fmR p u y') (fmR p w B0) (fmR p w B1) (fmR p w B2)) (mlR p (fmR p u z') (fmR p w B0) (fmR p w B1) (fmR p w B2))%p≠0:=JD ((Ik q0 q1 q2).trans (Cg.of (KS _ _ _ a b c))) (BL hp (nz3 hp kz' kz' kz') hD);have e6:=ha p _ _ _ _ _ _ hp (Hi p0 u x') (Hi p0 u y') (Hi p0 u z') (Hi p0 w B0) (Hi p0 w B1) (Hi p0 w B2) zR l t el it;rw[f0',f1',f2']at e6;exact xR e1 e2 e3 e4 e5 e6
section
variable{J:Gam}{ns:Ac Ae}
end
section
variable{J:Gam}{ns:Ac Ae}{many s5 s6 s7 s8 s9 s0 s1 s2:Sl}{p:Ae}{a b c:R3}
end
def InL(p:Ae)(xs:Ac Ae):Prop:=∀ x∈xs,0<=x/\x<p
theorem InL.set(h:InL p xs)(k:Ag){v:Ae}(h0:0<=v)(h1:v<p):InL p (xs.set k v):=λx hx=>by
 rcases YU hx with z|rfl
 .exact h x z
 .exact⟨h0,h1⟩
section
variable{J:Gam}{ns:Ac Ae}{p at_:Ae}
end
section
variable{J:Gam}{ns:Ac Ae}{p t:Ae}
end
structure C6 where
 c0:Ae
 c1:Ae
 c2:Ae
 c3:Ae
 c4:Ae
 c5:Ae
variable{C:C6}
noncomputable def C6.l(C:C6):Ac Ae:=[C.c0,C.c1,C.c2,C.c3,C.c4,C.c5]
noncomputable def Bt(C:C6):D:=.tup (ds C.l)
noncomputable def vI(C:C6)(x:R3):Ae:=C.c0*x.1*x.1+C.c1*x.2.1*x.2.1+C.c2*x.2.2*x.2.2+(C.c3*x.1*x.2.1+C.c4*x.1*x.2.2+C.c5*x.2.1*x.2.2)
noncomputable def tw0(C:C6):R3:=(2*C.c0,C.c3,C.c4)
noncomputable def tw1(C:C6):R3:=(C.c3,2*C.c1,C.c5)
noncomputable def tw2(C:C6):R3:=(C.c4,C.c5,2*C.c2)
noncomputable def bI(C:C6)(x y:R3):Ae:=Ay (ap (tw0 C) (tw1 C) (tw2 C) x) y
noncomputable def scC(k:Ae)(C:C6):C6:=⟨k*C.c0,k*C.c1,k*C.c2,k*C.c3,k*C.c4,k*C.c5⟩
def CgC(p:Ae)(C D:C6):Prop:=Cg p C.c0 D.c0/\Cg p C.c1 D.c1/\Cg p C.c2 D.c2/\Cg p C.c3 D.c3/\Cg p C.c4 D.c4/\Cg p C.c5 D.c5
noncomputable def pb(C:C6)(a b c:R3):C6:=⟨vI C (Ba a b c),vI C (A8 a b c),vI C (A7 a b c),bI C (Ba a b c) (A8 a b c),bI C (Ba a b c) (A7 a b c),bI C (A8 a b c) (A7 a b c)⟩
section
variable{p:Ae}{C D E:C6}{a b c a' b' c' x y x' y':R3}{k k':Ae}
theorem C6.ext'(h0:C.c0=D.c0)(h1:C.c1=D.c1)(h2:C.c2=D.c2)(h3:C.c3=D.c3)(h4:C.c4=D.c4)(h5:C.c5=D.c5):C=D:=by
 cases C;cases D;simp_all
theorem CgC.rfl:CgC p C C:=⟨Cg.rfl,Cg.rfl,Cg.rfl,Cg.rfl,Cg.rfl,Cg.rfl⟩
theorem CgC.of(h:C=D):CgC p C D:=by rw[h];exact CgC.rfl
theorem CgC.symm(h:CgC p C D):CgC p D C:=⟨h.1.symm,h.2.1.symm,h.2.2.1.symm,h.2.2.2.1.symm,h.2.2.2.2.1.symm,h.2.2.2.2.2.symm⟩
theorem CgC.trans(h:CgC p C D)(g:CgC p D E):CgC p C E:=⟨h.1.trans g.1,h.2.1.trans g.2.1,h.2.2.1.trans g.2.2.1,h.2.2.2.1.trans g.2.2.2.1,h.2.2.2.2.1.trans g.2.2.2.2.1,h.2.2.2.2.2.trans g.2.2.2.2.2⟩
theorem CgC.sc(hk:Cg p k k')(h:CgC p C D):CgC p (scC k C) (scC k' D):=⟨hk.mul h.1,hk.mul h.2.1,hk.mul h.2.2.1,hk.mul h.2.2.2.1,hk.mul h.2.2.2.2.1,hk.mul h.2.2.2.2.2⟩
theorem L6(h:CgC p C D)(hx:CgR p x x'):Cg p (vI C x) (vI D x'):=
 (((((h.1.mul hx.1).mul hx.1).add ((h.2.1.mul hx.2.1).mul hx.2.1)).add ((h.2.2.1.mul hx.2.2).mul hx.2.2))).add ((((h.2.2.2.1.mul hx.1).mul hx.2.1).add ((h.2.2.2.2.1.mul hx.1).mul hx.2.2)).add ((h.2.2.2.2.2.mul hx.2.1).mul hx.2.2))
theorem L7(h:CgC p C D):CgR p (tw0 C) (tw0 D)/\CgR p (tw1 C) (tw1 D)/\CgR p (tw2 C) (tw2 D):=
 ⟨⟨Cg.rfl.mul h.1,h.2.2.2.1,h.2.2.2.2.1⟩,⟨h.2.2.2.1,Cg.rfl.mul h.2.1,h.2.2.2.2.2⟩,⟨h.2.2.2.2.1,h.2.2.2.2.2,Cg.rfl.mul h.2.2.1⟩⟩
theorem zU(ha:CgR p a a')(hb:CgR p b b')(hc:CgR p c c')(hx:CgR p x x'):CgR p (ap a b c x) (ap a' b' c' x'):=⟨Gd ha hx,Gd hb hx,Gd hc hx⟩
theorem ON(h:CgC p C D)(hx:CgR p x x')(hy:CgR p y y'):Cg p (bI C x y) (bI D x' y'):=
 let ⟨t0,t1,t2⟩:=L7 h
 Gd (zU t0 t1 t2 hx) hy
theorem RC(h:CgC p C D)(ha:CgR p a a')(hb:CgR p b b')(hc:CgR p c c'):CgC p (pb C a b c) (pb D a' b' c'):=
 let ⟨s0,s1,s2⟩:=Oo ha hb hc
 ⟨L6 h s0,L6 h s1,L6 h s2,ON h s0 s1,ON h s0 s2,ON h s1 s2⟩
theorem Oi(k l:Ae)(C:C6):scC k (scC l C)=scC (k*l) C:=by
 unfold scC;simp only[Fs]
theorem MN(C:C6):scC 1 C=C:=by unfold scC;simp only[CH]
theorem ja(k:Ae)(C:C6)(a b c:R3):pb (scC k C) a b c=scC k (pb C a b c):=by
 unfold pb scC vI bI ap tw0 tw1 tw2 Ay;refine C6.ext' ?_ ?_ ?_ ?_ ?_ ?_<;>(simp only;grind)
theorem xA(k:Ae)(C:C6)(a b c:R3):pb C (AC k a) (AC k b) (AC k c)=scC (k*k) (pb C a b c):=by
 unfold pb scC vI bI ap tw0 tw1 tw2 Ay Ba A8 A7 AC;refine C6.ext' ?_ ?_ ?_ ?_ ?_ ?_<;>(simp only;grind)
theorem W7(C:C6)(x y z:R3)(k l m:Ae):vI C (k*x.1+l*y.1+m*z.1,k*x.2.1+l*y.2.1+m*z.2.1,k*x.2.2+l*y.2.2+m*z.2.2)=k*k*vI C x+l*l*vI C y+m*m*vI C z+(k*l*bI C x y+k*m*bI C x z+l*m*bI C y z):=by
 unfold vI bI ap tw0 tw1 tw2 Ay;simp only;grind
theorem Xl(C:C6)(x y z w:R3)(k l m:Ae):bI C (k*x.1+l*y.1+m*z.1,k*x.2.1+l*y.2.1+m*z.2.1,k*x.2.2+l*y.2.2+m*z.2.2) w=k*bI C x w+l*bI C y w+m*bI C z w:=by
 unfold bI ap tw0 tw1 tw2 Ay;simp only;grind
theorem Jt(C:C6)(x y:R3):bI C x y=bI C y x:=by
 unfold bI ap tw0 tw1 tw2 Ay;simp only;grind
theorem IS(C:C6)(x:R3):bI C x x=2*vI C x:=by
 unfold vI bI ap tw0 tw1 tw2 Ay;simp only;grind
theorem i9(v0 v1 v2 b0 b1 b2:Ae)(u w:R3):bI ⟨v0,v1,v2,b0,b1,b2⟩ u w=u.1*(w.1*(2*v0)+w.2.1*b0+w.2.2*b1)+u.2.1*(w.1*b0+w.2.1*(2*v1)+w.2.2*b2)+u.2.2*(w.1*b1+w.2.1*b2+w.2.2*(2*v2)):=by
 unfold bI ap tw0 tw1 tw2 Ay;simp only;grind
theorem eC(C:C6)(s0 s1 s2 u w:R3):bI C (u.1*s0.1+u.2.1*s1.1+u.2.2*s2.1,u.1*s0.2.1+u.2.1*s1.2.1+u.2.2*s2.2.1,u.1*s0.2.2+u.2.1*s1.2.2+u.2.2*s2.2.2) (w.1*s0.1+w.2.1*s1.1+w.2.2*s2.1,w.1*s0.2.1+w.2.1*s1.2.1+w.2.2*s2.2.1,w.1*s0.2.2+w.2.1*s1.2.2+w.2.2*s2.2.2)=bI ⟨vI C s0,vI C s1,vI C s2,bI C s0 s1,bI C s0 s2,bI C s1 s2⟩ u w:=by
 have e:∀ s:R3,bI C s (w.1*s0.1+w.2.1*s1.1+w.2.2*s2.1,w.1*s0.2.1+w.2.1*s1.2.1+w.2.2*s2.2.1,w.1*s0.2.2+w.2.1*s1.2.2+w.2.2*s2.2.2)=w.1*bI C s0 s+w.2.1*bI C s1 s+w.2.2*bI C s2 s:=λs=>(Jt C _ _).trans (Xl C s0 s1 s2 s w.1 w.2.1 w.2.2)
 refine Eq.trans ?_ (i9 _ _ _ _ _ _ u w).symm;rw[Xl,e,e,e,IS C s0,IS C s1,IS C s2,Jt C s1 s0,Jt C s2 s0,Jt C s2 s1]
theorem yU(C:C6)(a b c:R3):Ap (tw0 (pb C a b c)) (tw1 (pb C a b c)) (tw2 (pb C a b c))=Ap a b c*Ap a b c*Ap (tw0 C) (tw1 C) (tw2 C):=by
 have row:∀ s:R3,(bI C s (Ba a b c),bI C s (A8 a b c),bI C s (A7 a b c))=ap (Ba a b c) (A8 a b c) (A7 a b c) (ap (tw0 C) (tw1 C) (tw2 C) s):=λs=>by
  unfold bI;rw[KP,KP _ (A8 a b c),KP _ (A7 a b c)];rfl
 have e0:tw0 (pb C a b c)=(bI C (Ba a b c) (Ba a b c),bI C (Ba a b c) (A8 a b c),bI C (Ba a b c) (A7 a b c)):=by rw[IS];rfl
 have e1:tw1 (pb C a b c)=(bI C (A8 a b c) (Ba a b c),bI C (A8 a b c) (A8 a b c),bI C (A8 a b c) (A7 a b c)):=by rw[IS,Jt C (A8 a b c) (Ba a b c)];rfl
 have e2:tw2 (pb C a b c)=(bI C (A7 a b c) (Ba a b c),bI C (A7 a b c) (A8 a b c),bI C (A7 a b c) (A7 a b c)):=by rw[IS,Jt C (A7 a b c) (Ba a b c),Jt C (A7 a b c) (A8 a b c)];rfl
 rw[e0,e1,e2,row,row,row,Rk,Rk,QP];grind
theorem N9(k:Ae)(C:C6):Ap (tw0 (scC k C)) (tw1 (scC k C)) (tw2 (scC k C))=k*k*k*Ap (tw0 C) (tw1 C) (tw2 C):=by
 rw[<-KS];unfold tw0 tw1 tw2 scC AC;simp only[<-Fs,BP 2 k]
def PrC(p:Ae)(C D:C6):Prop:=∃ d,d%p≠0/\CgC p C (scC d D)
theorem PrC.rfl(hp:P4 p):PrC p C C:=⟨1,hp.o1,CgC.of (MN C).symm⟩
theorem PrC.trans(hp:P4 p)(i:PrC p C D)(j:PrC p D E):PrC p C E:=by
 obtain⟨d,dz,e⟩:=i;obtain⟨d',dz',e'⟩:=j;exact⟨d*d',BL hp dz dz',e.trans ((CgC.sc Cg.rfl e').trans (CgC.of (Oi _ _ _)))⟩
theorem Re(hp:P4 p)(dz:k%p≠0):∃ u,u%p≠0/\Cg p (u*k) 1:=by
 obtain⟨u,u1,u2,u3⟩:=Io hp dz;refine⟨u,by rw[AT (by omega) u2];omega,?_⟩
 show u*k%p=1%p;rw[BP,u3,AT (by decide) (by have:=hp.lo;omega)]
theorem PrC.symm(hp:P4 p)(i:PrC p C D):PrC p D C:=by
 obtain⟨d,dz,e⟩:=i;obtain⟨u,uz,o⟩:=Re hp dz;refine⟨u,uz,?_⟩;have q:=CgC.sc (k:=u) (k':=u) Cg.rfl e;rw[Oi]at q;exact(q.trans ((CgC.sc o CgC.rfl).trans (CgC.of (MN D)))).symm
theorem PrC.pb(i:PrC p C D):PrC p (OvC.pb C a b c) (OvC.pb D a b c):=by
 obtain⟨d,dz,e⟩:=i;exact⟨d,dz,(RC e CgR.rfl CgR.rfl CgR.rfl).trans (CgC.of (ja d D a b c))⟩
theorem PrC.tab(hp:P4 p)(kz:k%p≠0)(ha:CgR p a (AC k a'))(hb:CgR p b (AC k b'))(hc:CgR p c (AC k c')):PrC p (OvC.pb C a b c) (OvC.pb C a' b' c'):=
 ⟨k*k,BL hp kz kz,(RC CgC.rfl ha hb hc).trans (CgC.of (xA k C a' b' c'))⟩
def InC(p:Ae)(C:C6):Prop:=∀ x∈C.l,0<=x/\x<p
end
noncomputable def QQ:Df:=⟨5,Ad,(.cons (.asg 3 Ad (.bin .Add (.bin .Add (.bin .Mult (.bin .Mult (.idx (.var 1) (.int 0)) (.idx (.var 2) (.int 0))) (.idx (.var 2) (.int 0))) (.bin .Mult (.bin .Mult (.idx (.var 1) (.int 1)) (.idx (.var 2) (.int 1))) (.idx (.var 2) (.int 1)))) (.bin .Mult (.bin .Mult (.idx (.var 1) (.int 2)) (.idx (.var 2) (.int 2))) (.idx (.var 2) (.int 2))))) (.cons (.asg 4 Ad (.bin .Add (.bin .Add (.bin .Mult (.bin .Mult (.idx (.var 1) (.int 3)) (.idx (.var 2) (.int 0))) (.idx (.var 2) (.int 1))) (.bin .Mult (.bin .Mult (.idx (.var 1) (.int 4)) (.idx (.var 2) (.int 0))) (.idx (.var 2) (.int 2)))) (.bin .Mult (.bin .Mult (.idx (.var 1) (.int 5)) (.idx (.var 2) (.int 1))) (.idx (.var 2) (.int 2))))) (.cons (.ret (.call 1 (.cons (.var 0) (.cons (.bin .Add (.var 3) (.var 4)) .nil)))) .nil)))⟩
noncomputable def PB:Df:=⟨2,Ad,(.cons (.ret (.tup (.cons (.tup (.cons (.call 1 (.cons (.var 0) (.cons (.bin .Mult (.int 2) (.idx (.var 1) (.int 0))) .nil))) (.cons (.idx (.var 1) (.int 3)) (.cons (.idx (.var 1) (.int 4)) .nil)))) (.cons (.tup (.cons (.idx (.var 1) (.int 3)) (.cons (.call 1 (.cons (.var 0) (.cons (.bin .Mult (.int 2) (.idx (.var 1) (.int 1))) .nil))) (.cons (.idx (.var 1) (.int 5)) .nil)))) (.cons (.tup (.cons (.idx (.var 1) (.int 4)) (.cons (.idx (.var 1) (.int 5)) (.cons (.call 1 (.cons (.var 0) (.cons (.bin .Mult (.int 2) (.idx (.var 1) (.int 2))) .nil))) .nil)))) .nil))))) .nil)⟩
noncomputable def MD:Df:=⟨3,Ad,(.cons (.asg 2 Ad (.call 131 (.cons (.var 0) (.cons (.var 1) .nil)))) (.cons (.ret (.cmp .NotEq (.call 61 (.cons (.var 0) (.cons (.idx (.var 2) (.int 0)) (.cons (.idx (.var 2) (.int 1)) (.cons (.idx (.var 2) (.int 2)) .nil))))) (.int 0))) .nil))⟩
theorem ix6(C:C6):BK (Bt C) (.int 0)=.ok (.int C.c0)/\BK (Bt C) (.int 1)=.ok (.int C.c1)/\BK (Bt C) (.int 2)=.ok (.int C.c2)/\BK (Bt C) (.int 3)=.ok (.int C.c3)/\BK (Bt C) (.int 4)=.ok (.int C.c4)/\BK (Bt C) (.int 5)=.ok (.int C.c5):=⟨rfl,rfl,rfl,rfl,rfl,rfl⟩
structure BC (C:C6):Prop where
 b0:Bd 10 C.c0
 b1:Bd 10 C.c1
 b2:Bd 10 C.c2
 b3:Bd 10 C.c3
 b4:Bd 10 C.c4
 b5:Bd 10 C.c5
theorem InC.b(hp:P4 p)(h:InC p C):BC C:=by
 have k:∀ x∈C.l,Bd 10 x:=λx hx=>K3 hp (h x hx).1 (h x hx).2
 exact⟨k _ (by simp[C6.l]),k _ (by simp[C6.l]),k _ (by simp[C6.l]),k _ (by simp[C6.l]),k _ (by simp[C6.l]),k _ (by simp[C6.l])⟩
def QT(J:Gam):Prop:=∀(p:Ae)(C:C6)(x:R3),P4 p->InC p C->In3 p x->J.F 126 [.int p,Bt C,Aq Ab x]=.ok (.int (vI C x%p))
theorem qE(hr:Ke J)(p:Ae)(C:C6)(x:R3)(hp:P4 p)(iC:InC p C)(ix:In3 p x):QQ.run J [.int p,Bt C,Aq Ab x]=.ok (.int (vI C x%p)):=by
 obtain⟨i0,i1,i2,i3,i4,i5⟩:=ix6 C;obtain⟨x0,x1,x2⟩:=EG Ab x;have bC:=iC.b hp;have bx:=CW hp ix;have k:∀ {u v},Bd 10 u->Bd 10 v->FH u v=Ab:=λhu hv=>Jx hu hv (by decide) (by decide)
 have k2:∀ {u v w},Bd 10 u->Bd 10 v->Bd 10 w->FH (u*v) w=Ab:=λhu hv hw=>Jx (hu.mul hv) hw (by decide) (by decide)
 simp[QQ,Df.run,Br,i0,i1,i2,i3,i4,i5,x0,x1,x2,k bC.b0 bx.1,k bC.b1 bx.2.1,k bC.b2 bx.2.2,k bC.b3 bx.1,k bC.b4 bx.1,k bC.b5 bx.2.1,k2 bC.b0 bx.1 bx.1,k2 bC.b1 bx.2.1 bx.2.1,k2 bC.b2 bx.2.2 bx.2.2,k2 bC.b3 bx.1 bx.2.1,k2 bC.b4 bx.1 bx.2.2,k2 bC.b5 bx.2.1 bx.2.2,hr p _ hp.pos];rfl
noncomputable def t0(p:Ae)(C:C6):R3:=(2*C.c0%p,C.c3,C.c4)
noncomputable def t1(p:Ae)(C:C6):R3:=(C.c3,2*C.c1%p,C.c5)
noncomputable def t2(p:Ae)(C:C6):R3:=(C.c4,C.c5,2*C.c2%p)
theorem R9(hp:P4 p)(h:InC p C):In3 p (t0 p C)/\In3 p (t1 p C)/\In3 p (t2 p C):=by
 have p0:=hp.pos;have k:∀ x∈C.l,0<=x/\x<p:=h;have m:∀ x:Ae,0<=x%p/\x%p<p:=λx=>⟨AM _ (by omega),AI _ p0⟩
 exact⟨⟨m _,k _ (by simp[C6.l,t0]),k _ (by simp[C6.l,t0])⟩,⟨k _ (by simp[C6.l,t1]),m _,k _ (by simp[C6.l,t1])⟩,⟨k _ (by simp[C6.l,t2]),k _ (by simp[C6.l,t2]),m _⟩⟩
theorem Sa(p:Ae)(C:C6):CgR p (t0 p C) (tw0 C)/\CgR p (t1 p C) (tw1 C)/\CgR p (t2 p C) (tw2 C):=⟨⟨Cg.md rfl,Cg.rfl,Cg.rfl⟩,⟨Cg.rfl,Cg.md rfl,Cg.rfl⟩,⟨Cg.rfl,Cg.rfl,Cg.md rfl⟩⟩
def NZ(J:Gam):Prop:=∀(p:Ae)(C:C6),P4 p->J.F 131 [.int p,Bt C]=.ok (Cq (t0 p C) (t1 p C) (t2 p C))
theorem qF(hr:Ke J)(p:Ae)(C:C6)(hp:P4 p):PB.run J [.int p,Bt C]=.ok (Cq (t0 p C) (t1 p C) (t2 p C)):=by
 obtain⟨i0,i1,i2,i3,i4,i5⟩:=ix6 C;have m22:∀ y,D0 2 y=Ab:=λy=>G0 (by decide) (by decide)
 simp[PB,Df.run,Br,i0,i1,i2,i3,i4,i5,m22,hr p _ hp.pos];rfl
theorem XZ{E:C6}{l:Ae}(hp:P4 p)(el:Bb p E.l=Aa l):∃(t:Ae)(D:C6),EC p l t/\fmI p t E.l=D.l/\InC p D/\Bb p D.l=Aa 1/\PrC p D E:=by
 have p0:=hp.pos;obtain⟨lz,_,_⟩:=Js p0 el;obtain⟨t,t1,t2,t3⟩:=Io hp lz;have tz:t%p≠0:=by rw[AT (by omega) t2];omega
 have ff:∀ x,(t*(x%p)%p)%p=t*x%p:=λx=>by rw[AY _ (BH p),Bj t (x%p) p,AY _ (BH p),<-Bj]
 have lv:=KO hp tz (f:=λx=>t*(x%p)%p) ff E.l
 rw[el,FM,BP,t3]at lv;have key:∀ x:Ae,Cg p (t*(x%p)%p) (t*x):=λx=>(Cg.md rfl).trans (Cg.rfl.mul (Cg.md rfl))
 refine⟨t,⟨t*(E.c0%p)%p,t*(E.c1%p)%p,t*(E.c2%p)%p,t*(E.c3%p)%p,t*(E.c4%p)%p,t*(E.c5%p)%p⟩,⟨t1,t2,t3⟩,rfl,λx hx=>?_,lv,t,tz,key _,key _,key _,key _,key _,key _⟩
 obtain⟨y,_,rfl⟩:=Dt.mp (show x∈E.l.map λx=>t*(x%p)%p from hx)
 exact⟨AM _ (by omega),AI _ p0⟩
section
variable{J:Gam}{ns:Ac Ae}{p at_:Ae}{φ:Ae->Ae}
end
noncomputable def e0R:R3:=(1,0,0)
noncomputable def e1R:R3:=(0,1,0)
noncomputable def e2R:R3:=(0,0,1)
noncomputable def e3R:R3:=(1,1,1)
theorem dU(hp:P4 p):In3 p e0R/\In3 p e1R/\In3 p e2R/\In3 p e3R:=by
 have z:0<=(0:Ae)/\(0:Ae)<p:=⟨by decide,hp.pos⟩
 have o:0<=(1:Ae)/\(1:Ae)<p:=⟨by decide,by have:=hp.lo;omega⟩
 exact⟨⟨o,z,z⟩,⟨z,o,z⟩,⟨z,z,o⟩,⟨o,o,o⟩⟩
theorem bW(hp:P4 p):HH p e0R e1R e2R e3R:=by
 rcases hp with rfl|rfl|rfl|rfl<;>exact⟨by decide,by decide,by decide,by decide⟩
structure Frm (p:Ae) (f0 f1 f2 f3:R3):Prop where
 i0:In3 p f0
 i1:In3 p f1
 i2:In3 p f2
 i3:In3 p f3
 gen:HH p f0 f1 f2 f3
def Pr(p:Ae)(x y:R3):Prop:=∃ d,d%p≠0/\CgR p x (AC d y)
section
variable{p:Ae}{a b c x y z f g h:R3}{k:Ae}
theorem MZ(x:R3):AC 1 x=x:=by unfold AC;simp only[CH]
theorem Pr.rfl(hp:P4 p):Pr p x x:=⟨1,hp.o1,CgR.of (MZ x).symm⟩
theorem Pr.trans(hp:P4 p)(i:Pr p x y)(j:Pr p y z):Pr p x z:=by
 obtain⟨d,dz,e⟩:=i;obtain⟨d',dz',e'⟩:=j;exact⟨d*d',BL hp dz dz',e.trans ((CgR.sc Cg.rfl e').trans (CgR.of (Iu _ _ _)))⟩
theorem Pr.symm(hp:P4 p)(i:Pr p x y):Pr p y x:=by
 obtain⟨d,dz,e⟩:=i;obtain⟨u,u1,u2,u3⟩:=Io hp dz;have uz:u%p≠0:=by rw[AT (by omega) u2];omega
 have o:Cg p (u*d) 1:=by
  show u*d%p=1%p;rw[BP,u3,AT (by decide) (by have:=hp.lo;omega)]
 refine⟨u,uz,?_⟩;have q:=CgR.sc (k:=u) (k':=u) Cg.rfl e;rw[Iu]at q;exact(q.trans ((CgR.sc o CgR.rfl).trans (CgR.of (MZ y)))).symm
theorem Pr.cg(hp:P4 p)(e:CgR p x y):Pr p x y:=⟨1,hp.o1,e.trans (CgR.of (MZ y).symm)⟩
theorem OP{a' b' c':R3}(ha:CgR p a a')(hb:CgR p b b')(hc:CgR p c c')(hx:CgR p x x'):CgR p (ap a b c x) (ap a' b' c' x'):=⟨Gd ha hx,Gd hb hx,Gd hc hx⟩
theorem Pr.ap(i:Pr p x y):Pr p (OvC.ap a b c x) (OvC.ap a b c y):=by
 obtain⟨d,dz,e⟩:=i;exact⟨d,dz,(OP CgR.rfl CgR.rfl CgR.rfl e).trans (CgR.of (Yj a b c y d))⟩
theorem au(k:Ae)(a b c x:R3):ap (AC k a) (AC k b) (AC k c) x=AC k (ap a b c x):=by
 unfold ap AC Ay;refine BF ?_ (BF ?_ ?_)<;>(simp only;grind)
theorem Pr.tab{a' b' c':R3}(kz:k%p≠0)(ha:CgR p a (AC k a'))(hb:CgR p b (AC k b'))(hc:CgR p c (AC k c')):Pr p (OvC.ap a b c x) (OvC.ap a' b' c' x):=
 ⟨k,kz,(OP ha hb hc CgR.rfl).trans (CgR.of (au k a' b' c' x))⟩
theorem cQ(a b c x y z v:R3):ap (rm a x y z) (rm b x y z) (rm c x y z) v=ap a b c (ap x y z v):=by
 unfold ap rm Ay Ba A8 A7;refine BF ?_ (BF ?_ ?_)<;>(simp only;grind)
theorem OQ(a b c v:R3):ap (bk0 a b c) (bk1 a b c) (bk2 a b c) (ap a b c v)=AC (Ap a b c) v:=by
 unfold ap AC Ay bk0 bk1 bk2 Ba A8 A7 crs Ap det;refine BF ?_ (BF ?_ ?_)<;>(simp only;grind)
theorem yT(a b c x y z:R3):Ap (rm a x y z) (rm b x y z) (rm c x y z)=Ap a b c*Ap x y z:=by
 unfold Ap det rm Ay Ba A8 A7;grind
end
noncomputable def tri(g:R3):Ac Ae:=[g.1,g.2.1,g.2.2]
theorem Wh(hp:P4 p)(ix:In3 p x)(iy:In3 p y)(lx:Bb p (tri x)=Aa 1)(ly:Bb p (tri y)=Aa 1)(h:Pr p x y):x=y:=by
 obtain⟨d,dz,e⟩:=h;have p1:1<p:=by have:=hp.lo;omega
 have rs:(tri x).map (λx=>x%p)=((tri y).map λx=>d*x).map (λx=>x%p):=by
  simp only[tri,C3,HW];rw[show x.1%p=d*y.1%p from e.1,show x.2.1%p=d*y.2.1%p from e.2.1,show x.2.2%p=d*y.2.2%p from e.2.2]
 have el:=KO hp dz (f:=λx=>d*x) (λ_=>rfl) (tri y)
 rw[ly,<-NG rs,lx,FM,Cy,ER]at el;have o:Cg p d 1:=by
  show d%p=1%p;rw[<-el,AT (by decide) p1]
 have q:=e.trans ((CgR.sc o CgR.rfl).trans (CgR.of (MZ y)));have same:∀{u v:Ae},(0<=u/\u<p)->(0<=v/\v<p)->Cg p u v->u=v:=λhu hv huv=>by
  have:=show _%p=_%p from huv
  rwa [AT hu.1 hu.2,AT hv.1 hv.2]at this
 exact BF (same ix.1 iy.1 q.1) (BF (same ix.2.1 iy.2.1 q.2.1) (same ix.2.2 iy.2.2 q.2.2))
theorem NN{a b c:R3}(hp:P4 p)(nz:Ap a b c%p≠0):∃ l t,Bb p (nine a b c)=Aa l/\EC p l t/\t%p≠0/\GoodR p (fmR p t a) (fmR p t b) (fmR p t c)/\Bb p (nine (fmR p t a) (fmR p t b) (fmR p t c))=Aa 1:=by
 have p0:=hp.pos;obtain⟨l,el⟩:=NQ nz;obtain⟨lz,_,_⟩:=Js p0 el;obtain⟨t,t1,t2,t3⟩:=Io hp lz;have tz:t%p≠0:=by rw[AT (by omega) t2];omega
 have ff:∀ x,(t*(x%p)%p)%p=t*x%p:=λx=>by rw[AY _ (BH p),Bj t (x%p) p,AY _ (BH p),<-Bj]
 have lv:=KO hp tz (f:=λx=>t*(x%p)%p) ff (nine a b c)
 rw[el]at lv;refine⟨l,t,el,⟨t1,t2,t3⟩,tz,⟨hp,Hi p0 t a,Hi p0 t b,Hi p0 t c,JD ((Ik (EB p t a) (EB p t b) (EB p t c)).trans (Cg.of (KS t t t a b c))) (BL hp (nz3 hp tz tz tz) nz)⟩,?_⟩;have e:Bb p ((nine a b c).map λx=>t*(x%p)%p)=Aa 1:=by rw[lv,FM,BP,t3]
 exact e
structure Led (p:Ae) (a b c f0 f1 f2 f3 g0 g1 g2 g3:R3):Prop where
 h0:Pr p g0 (ap a b c f0)
 h1:Pr p g1 (ap a b c f1)
 h2:Pr p g2 (ap a b c f2)
 h3:Pr p g3 (ap a b c f3)
section
variable{p:Ae}{a b c a' b' c' f0 f1 f2 f3 g0 g1 g2 g3 h0 h1 h2 h3:R3}
theorem jm(hp:P4 p)(T:GoodR p a b c)(T':GoodR p a' b' c')(L:Led p a b c e0R e1R e2R e3R f0 f1 f2 f3)(L':Led p a' b' c' e0R e1R e2R e3R g0 g1 g2 g3):∃ x y z,GoodR p x y z/\Bb p (nine x y z)=Aa 1/\Led p x y z f0 f1 f2 f3 g0 g1 g2 g3:=by
 have zB:Ap (bk0 a b c) (bk1 a b c) (bk2 a b c)%p≠0:=by rw[Ip];exact BL hp T.nz T.nz
 have zR:Ap (rm a' (bk0 a b c) (bk1 a b c) (bk2 a b c)) (rm b' (bk0 a b c) (bk1 a b c) (bk2 a b c)) (rm c' (bk0 a b c) (bk1 a b c) (bk2 a b c))%p≠0:=by rw[yT];exact BL hp T'.nz zB
 obtain⟨l,t,_,_,tz,gd,l1⟩:=NN hp zR;refine⟨_,_,_,gd,l1,?_⟩;have key:∀{e f g:R3},Pr p f (ap a b c e)->Pr p g (ap a' b' c' e)->Pr p g (ap (fmR p t (rm a' (bk0 a b c) (bk1 a b c) (bk2 a b c))) (fmR p t (rm b' (bk0 a b c) (bk1 a b c) (bk2 a b c))) (fmR p t (rm c' (bk0 a b c) (bk1 a b c) (bk2 a b c))) f):=λ{e f g} hf hg=>by
  refine hg.trans hp (Pr.symm hp ?_);refine(Pr.tab tz (EB p t _) (EB p t _) (EB p t _)).trans hp ?_;rw[cQ];refine Pr.ap ((Pr.ap hf).trans hp ?_);rw[OQ];exact⟨_,T.nz,CgR.rfl⟩
 exact⟨key L.h0 L'.h0,key L.h1 L'.h1,key L.h2 L'.h2,key L.h3 L'.h3⟩
end
section
variable{J:Gam}{ns:Ac Ae}{p:Ae}
theorem rM(hp:P4 p):GoodR p e0R e1R e2R/\Bb p (nine e0R e1R e2R)=Aa 1:=by
 obtain⟨i0,i1,i2,i3⟩:=dU hp;refine⟨⟨hp,i0,i1,i2,(bW hp).1⟩,?_⟩;rcases hp with rfl|rfl|rfl|rfl<;>decide
end
noncomputable def L3(a b c:R3):Ac D:=[C8 a,C8 b,C8 c]
def Ij(i j:Ae):Prop:=(i=0/\j=1)\/(i=0/\j=2)\/(i=1/\j=0)\/(i=1/\j=2)\/(i=2/\j=0)\/(i=2/\j=1)
theorem io{m:Ae}(hi:m%3=i)(hj:(i+1+m/3%2)%3=j):Ij i j:=by
 have i3:i=0\/i=1\/i=2:=by omega
 have e2:m/3%2=0\/m/3%2=1:=by omega
 rcases i3 with z|z|z<;>rcases e2 with e|e<;>rw[z,e]at hj
 .exact .inl ⟨z,hj.symm⟩
 .exact .inr (.inl ⟨z,hj.symm⟩)
 .exact .inr (.inr (.inr (.inl ⟨z,hj.symm⟩)))
 .exact .inr (.inr (.inl ⟨z,hj.symm⟩))
 .exact .inr (.inr (.inr (.inr (.inl ⟨z,hj.symm⟩))))
 .exact .inr (.inr (.inr (.inr (.inr ⟨z,hj.symm⟩))))
def LV(J:Gam)(mid:Ag)(ns:Ac Ae):Prop:=∀ k:Ae,0<=k->∃ m,0<=m/\J.F mid [scr ns,.int k]=.ok (.int m)
section
variable{J:Gam}{ns:Ac Ae}{mid:Ag}{p:Ae}{a b c:R3}{s2 s4 s5 s6 s7 s8:Sl}
end
theorem Uu{lo hi:Ae}(h1:-1000<=lo)(h2:lo<=1000)(h3:-1000<=hi)(h4:hi<=1000):DI lo hi=.ok (Fc lo (hi-lo).toNat):=by
 unfold DI;rw[Az (by refine⟨⟨by omega,by omega⟩,⟨by omega,by omega⟩,?_⟩;omega)]
theorem WY(h:1<p):Bb p [0,0,1]=Aa 1:=by
 simp[Bb,AT (by decide:(0:Ae)<=1) h]
theorem ie(h:1<p)(z:Ae):Bb p [0,1,z]=Aa 1:=by
 simp[Bb,AT (by decide:(0:Ae)<=1) h]
theorem S7(h:1<p)(y z:Ae):Bb p [1,y,z]=Aa 1:=by
 simp[Bb,AT (by decide:(0:Ae)<=1) h]
noncomputable def prd(a b:R3):C6:=⟨a.1*b.1,a.2.1*b.2.1,a.2.2*b.2.2,a.1*b.2.1+a.2.1*b.1,a.1*b.2.2+a.2.2*b.1,a.2.1*b.2.2+a.2.2*b.2.1⟩
noncomputable def Ks(C D:C6):C6:=⟨C.c0-D.c0,C.c1-D.c1,C.c2-D.c2,C.c3-D.c3,C.c4-D.c4,C.c5-D.c5⟩
theorem fL(z:Ap (tw0 C) (tw1 C) (tw2 C)%p≠0):∃ l,Bb p C.l=Aa l:=by
 cases el:Bb p C.l with
 |some l=>exact⟨l,rfl⟩
 |none=>
  have hz:=LC.mp el;refine absurd ?_ z;have k:∀ x∈C.l,Cg p x (0*x):=λx hx=>by show x%p=0*x%p;rw[hz x hx,HS,Bw]
  have e0:CgC p C (scC 0 C):=⟨k _ (by simp[C6.l]),k _ (by simp[C6.l]),k _ (by simp[C6.l]),k _ (by simp[C6.l]),k _ (by simp[C6.l]),k _ (by simp[C6.l])⟩
  obtain⟨x0,x1,x2⟩:=L7 e0;rw[show Ap (tw0 C) (tw1 C) (tw2 C)%p=_ from Ik x0 x1 x2,N9,DK,HS,Bw]
theorem UU{C E:C6}(hp:P4 p)(h:PrC p C E)(z:Ap (tw0 E) (tw1 E) (tw2 E)%p≠0):Ap (tw0 C) (tw1 C) (tw2 C)%p≠0:=by
 obtain⟨d,dz,cg⟩:=h;obtain⟨x0,x1,x2⟩:=L7 cg;exact JD ((Ik x0 x1 x2).trans (Cg.of (N9 d E))) (BL hp (nz3 hp dz dz dz) z)
noncomputable def RW:Df:=⟨3,Ad,(.cons (.ret (.call 17 (.cons (.var 0) (.cons (.call 91 (.cons (.var 0) (.cons (.var 1) (.cons (.var 2) .nil)))) .nil)))) .nil)⟩
theorem NT{p l:Ae}(hp:P4 p)(el:Bb p (tri r)=Aa l):∃ u,EC p l u/\In3 p (fmR p u r)/\Bb p (tri (fmR p u r))=Aa 1/\Pr p (fmR p u r) r/\fmI p u (tri r)=tri (fmR p u r):=by
 have p0:=hp.pos;obtain⟨lz,_,_⟩:=Js p0 el;obtain⟨t,t1,t2,t3⟩:=Io hp lz;have tz:t%p≠0:=by rw[AT (by omega) t2];omega
 have ff:∀ x,(t*(x%p)%p)%p=t*x%p:=λx=>by rw[AY _ (BH p),Bj t (x%p) p,AY _ (BH p),<-Bj]
 have lv:=KO hp tz (f:=λx=>t*(x%p)%p) ff (tri r)
 rw[el,FM,BP,t3]at lv;exact⟨t,⟨t1,t2,t3⟩,Hi p0 t r,lv,⟨t,tz,EB p t r⟩,rfl⟩
theorem US(h:Bb p (tri g)=Af):CgR p g (0,0,0):=by
 have hz:=LC.mp h;have k:∀ x∈tri g,Cg p x 0:=λx hx=>by show x%p=0%p;rw[hz x hx,Bw]
 exact⟨k _ (by simp[tri]),k _ (by simp[tri]),k _ (by simp[tri])⟩
theorem U2(h:CgR p g (0,0,0)):Bb p (tri g)=Af:=by
 refine LC.mpr λx hx=>?_
 have k:∀{x:Ae},Cg p x 0->x%p=0:=λ{x} h=>by rw[show x%p=_ from h,Bw]
 simp only[tri,Ax,A1,Cc]at hx;rcases hx with rfl|rfl|rfl
 .exact k h.1
 .exact k h.2.1
 .exact k h.2.2
theorem MM{p l:Ae}{a b c f g:R3}(hp:P4 p)(z:Ap a b c%p≠0)(lf:Bb p (tri f)=Aa l)(h:CgR p g (ap a b c f)):∃ l,Bb p (tri g)=Aa l:=by
 cases el:Bb p (tri g) with
 |some l=>exact⟨l,rfl⟩
 |none=>
  have q0:CgR p (ap a b c f) (0,0,0):=h.symm.trans (US el);have q1:CgR p (AC (Ap a b c) f) (0,0,0):=by
   have:=OP (CgR.rfl (a:=bk0 a b c)) (CgR.rfl (a:=bk1 a b c)) (CgR.rfl (a:=bk2 a b c)) q0;rw[OQ]at this;refine this.trans (CgR.of ?_);unfold ap Ay;simp
  obtain⟨u,uz,o⟩:=Re hp z;have q2:CgR p f (0,0,0):=by
   have w:=CgR.sc (k:=u) (k':=u) Cg.rfl q1;rw[Iu]at w;refine((CgR.of (MZ f).symm).trans (CgR.sc o.symm CgR.rfl)).trans (w.trans (CgR.of ?_));unfold AC;simp
  rw[U2 q2]at lf;cases lf
def Xq(J:Gam):Prop:=∀(p:Ae)(a b c f:R3),GoodR p a b c->In3 p f->Bb p (tri f)=Aa 1->∃ g,In3 p g/\Bb p (tri g)=Aa 1/\Pr p g (ap a b c f)/\J.F 92 [.int p,Cq a b c,Aq Ab f]=.ok (Aq Ab g)
theorem xT(hs:Rw J)(hf:N1 J)(p:Ae)(a b c f:R3)(g:GoodR p a b c)(i0:In3 p f)(lf:Bb p (tri f)=Aa 1):∃ g,In3 p g/\Bb p (tri g)=Aa 1/\Pr p g (ap a b c f)/\RW.run J [.int p,Cq a b c,Aq Ab f]=.ok (Aq Ab g):=by
 have hp:=g.p4;have e1:J.F 91 [.int p,Cq a b c,Aq Ab f]=_:=hs p Ab Ab Ab a b c f hp.pos ((CW hp g.ia).b3 (by decide)) ((CW hp g.ib).b3 (by decide)) ((CW hp g.ic).b3 (by decide)) ((CW hp i0).b3 (by decide))
 have cg:CgR p (Ay a f%p,Ay b f%p,Ay c f%p) (ap a b c f):=⟨Cg.md rfl,Cg.md rfl,Cg.md rfl⟩;obtain⟨l,el⟩:=MM hp g.nz lf cg;obtain⟨u,iu,j,l1,pr,ef⟩:=NT hp el;have e2:=hf p Ab _ l u hp el iu;rw[ef]at e2;generalize (Ay a f%p,Ay b f%p,Ay c f%p)=w at *;have e2':J.F 17 [.int p,Aq Ab w]=.ok (Aq Ab (fmR p u w)):=e2;refine⟨fmR p u w,j,l1,pr.trans hp (Pr.cg hp cg),?_⟩;simp[RW,Df.run,Br,e1,e2']
def U9(J:Gam):Prop:=∀(p:Ae)(C:C6),P4 p->InC p C->Ap (tw0 C) (tw1 C) (tw2 C)%p≠0->J.F 136 [.int p,Bt C]=.ok (.bl Ab)
theorem iW(ht:NZ J)(hm:LG J)(p:Ae)(C:C6)(hp:P4 p)(iC:InC p C)(z:Ap (tw0 C) (tw1 C) (tw2 C)%p≠0):MD.run J [.int p,Bt C]=.ok (.bl Ab):=by
 obtain⟨h0,h1,h2⟩:=R9 hp iC;have e1:=ht p C hp;have e2:=hm p Ab (t0 p C) (t1 p C) (t2 p C) hp.pos ((CW hp h0).b3 (by decide)) ((CW hp h1).b3 (by decide)) ((CW hp h2).b3 (by decide))
 have td:Ap (t0 p C) (t1 p C) (t2 p C)%p=Ap (tw0 C) (tw1 C) (tw2 C)%p:=let ⟨h0,h1,h2⟩:=Sa p C;Ik h0 h1 h2
 rw[td]at e2;have k0:BK (Cq (t0 p C) (t1 p C) (t2 p C)) (.int 0)=.ok (Aq Ab (t0 p C)):=rfl;have k1:BK (Cq (t0 p C) (t1 p C) (t2 p C)) (.int 1)=.ok (Aq Ab (t1 p C)):=rfl;have k2:BK (Cq (t0 p C) (t1 p C) (t2 p C)) (.int 2)=.ok (Aq Ab (t2 p C)):=rfl;generalize Ap (tw0 C) (tw1 C) (tw2 C)%p=d at *;simp[MD,Df.run,Br,e1,e2,k0,k1,k2,z]
noncomputable def Lo:Df:=⟨2,Ad,(.cons (.ife (.no (.call 136 (.cons (.var 0) (.cons (.var 1) .nil)))) (.cons (.rais 14 (.cons (.str (By "the curve is not whole")) .nil)) .nil) .nil) .nil)⟩
noncomputable def PC:Df:=⟨2,Ad,(.cons (.expr (.call 147 (.cons (.var 0) (.cons (.var 1) .nil)))) (.cons (.ret (.call 78 (.cons (.var 0) (.cons (.call 131 (.cons (.var 0) (.cons (.var 1) .nil))) .nil)))) .nil))⟩
noncomputable def Rr:Df:=⟨3,Ad,(.cons (.ret (.call 92 (.cons (.var 0) (.cons (.call 106 (.cons (.var 0) (.cons (.call 148 (.cons (.var 0) (.cons (.var 1) .nil))) .nil))) (.cons (.var 2) .nil))))) .nil)⟩
def KW(J:Gam):Prop:=∀(p:Ae)(C:C6),P4 p->InC p C->Ap (tw0 C) (tw1 C) (tw2 C)%p≠0->J.F 147 [.int p,Bt C]=.ok .non
theorem yD(h:U9 J)(p:Ae)(C:C6)(hp:P4 p)(iC:InC p C)(z:Ap (tw0 C) (tw1 C) (tw2 C)%p≠0):Lo.run J [.int p,Bt C]=.ok .non:=by
 have e:=h p C hp iC z;simp[Lo,Df.run,Br,e]
def Tt(p:Ae)(C:C6)(a b c:R3):Prop:=GoodR p a b c/\∃ k,k%p≠0/\CgR p a (AC k (tw0 C))/\CgR p b (AC k (tw1 C))/\CgR p c (AC k (tw2 C))
def Xp(J:Gam):Prop:=∀(p:Ae)(C:C6),P4 p->InC p C->Ap (tw0 C) (tw1 C) (tw2 C)%p≠0->∃ a b c,Tt p C a b c/\J.F 148 [.int p,Bt C]=.ok (Cq a b c)
theorem xO(hw:KW J)(ht:NZ J)(hf:MV J)(p:Ae)(C:C6)(hp:P4 p)(iC:InC p C)(z:Ap (tw0 C) (tw1 C) (tw2 C)%p≠0):∃ a b c,Tt p C a b c/\PC.run J [.int p,Bt C]=.ok (Cq a b c):=by
 obtain⟨i0,i1,i2⟩:=R9 hp iC;obtain⟨h0,h1,h2⟩:=Sa p C;have zt:Ap (t0 p C) (t1 p C) (t2 p C)%p≠0:=JD (Ik h0 h1 h2) z;obtain⟨l,t,el,it,tz,gd,_⟩:=NN hp zt;have e1:=hw p C hp iC z;have e2:=ht p C hp;have e3:J.F 78 [.int p,Cq (t0 p C) (t1 p C) (t2 p C)]=_:=hf p Ab Ab _ _ _ hp ((CW hp i0).b3 (by decide)) ((CW hp i1).b3 (by decide)) ((CW hp i2).b3 (by decide)) zt l t el it
 refine⟨_,_,_,⟨gd,t,tz,(EB p t _).trans (CgR.sc Cg.rfl h0),(EB p t _).trans (CgR.sc Cg.rfl h1),(EB p t _).trans (CgR.sc Cg.rfl h2)⟩,?_⟩;generalize Cq (fmR p t (t0 p C)) (fmR p t (t1 p C)) (fmR p t (t2 p C))=T at *;simp[PC,Df.run,Br,e1,e2,e3]
def zW(J:Gam):Prop:=∀(p:Ae)(C:C6)(x:R3),P4 p->InC p C->Ap (tw0 C) (tw1 C) (tw2 C)%p≠0->In3 p x->Bb p (tri x)=Aa 1->∃ y,In3 p y/\Bb p (tri y)=Aa 1/\Pr p y (ap (bk0 (tw0 C) (tw1 C) (tw2 C)) (bk1 (tw0 C) (tw1 C) (tw2 C)) (bk2 (tw0 C) (tw1 C) (tw2 C)) x)/\J.F 149 [.int p,Bt C,Aq Ab x]=.ok (Aq Ab y)
theorem xP(hq:Xp J)(hb:Ry J)(hl:Xq J)(p:Ae)(C:C6)(x:R3)(hp:P4 p)(iC:InC p C)(z:Ap (tw0 C) (tw1 C) (tw2 C)%p≠0)(ix:In3 p x)(lx:Bb p (tri x)=Aa 1):∃ y,In3 p y/\Bb p (tri y)=Aa 1/\Pr p y (ap (bk0 (tw0 C) (tw1 C) (tw2 C)) (bk1 (tw0 C) (tw1 C) (tw2 C)) (bk2 (tw0 C) (tw1 C) (tw2 C)) x)/\Rr.run J [.int p,Bt C,Aq Ab x]=.ok (Aq Ab y):=by
 obtain⟨a,b,c,⟨gd,k,kz,h0,h1,h2⟩,e1⟩:=hq p C hp iC z;have zB:Ap (bk0 a b c) (bk1 a b c) (bk2 a b c)%p≠0:=by rw[Ip];exact BL hp gd.nz gd.nz
 obtain⟨l,t,el,it,tz,gB,_⟩:=NN hp zB;have e2:=hb p a b c hp gd.ia gd.ib gd.ic gd.nz l t el it;obtain⟨y,j,l1,pr,e3⟩:=hl p _ _ _ x gB ix lx;obtain⟨b0,b1,b2⟩:=Yq h0 h1 h2;obtain⟨s0,s1,s2⟩:=Yp k (tw0 C) (tw1 C) (tw2 C);rw[s0]at b0;rw[s1]at b1;rw[s2]at b2;refine⟨y,j,l1,(pr.trans hp (Pr.tab tz (EB p t _) (EB p t _) (EB p t _))).trans hp (Pr.tab (BL hp kz kz) b0 b1 b2),?_⟩;generalize Cq (fmR p t (bk0 a b c)) (fmR p t (bk1 a b c)) (fmR p t (bk2 a b c))=TB at *;simp[Rr,Df.run,Br,e1,e2,e3]
theorem zV(a b c v:R3):ap a b c (ap (bk0 a b c) (bk1 a b c) (bk2 a b c) v)=AC (Ap a b c) v:=by
 unfold ap AC Ay bk0 bk1 bk2 Ba A8 A7 crs Ap det;refine BF ?_ (BF ?_ ?_)<;>(simp only;grind)
theorem Wz(x:R3):flD 5 (Aq Ab x)=Ab/\eqD (Aq Ab x) (Aq Ab x)=Ab:=by
 refine⟨rfl,?_⟩;show eqDs (ds [x.1,x.2.1,x.2.2]) (ds [x.1,x.2.1,x.2.2])=Ab;rw[WC]
section
variable{J:Gam}{ns:Ac Ae}{p:Ae}{C:C6}{s3 s4 s5 s6 s7 s8:Sl}
end
section
variable{J:Gam}{ns:Ac Ae}
end
noncomputable def Rs:Df:=⟨3,Ad,(.cons (.ret (.call 17 (.cons (.var 0) (.cons (.call 23 (.cons (.var 1) (.cons (.var 2) .nil))) .nil)))) .nil)⟩
theorem Vw{a b:R3}(hp:P4 p)(h:CgR p (crs a b) (0,0,0))(la:Bb p (tri a)=Aa 1)(lb:Bb p (tri b)=Aa 1):Pr p b a:=by
 obtain⟨h0,h1,h2⟩:=h;have p1:1<p:=by have:=hp.lo;omega
 have sw:∀{x y:Ae},Cg p (x-y) 0->Cg p x y:=λ{x y} h=>by
  have:=h.add (Cg.rfl (a:=y))
  rwa [YE,Er]at this
 have e0:Cg p (a.2.1*b.2.2) (a.2.2*b.2.1):=sw h0;have e1:Cg p (a.2.2*b.1) (a.1*b.2.2):=sw h1;have e2:Cg p (a.1*b.2.1) (a.2.1*b.1):=sw h2;have one:∀{x:Ae},x%p=1->Cg p x 1:=λ{x} h=>by show x%p=1%p;rw[h,AT (by decide) p1]
 have fin:∀ k,CgR p b (AC k a)->Pr p b a:=λk hk=>by
  refine⟨k,λz=>?_,hk⟩
  have:CgR p b (0,0,0):=by
   have kz:Cg p k 0:=by show k%p=0%p;rw[z,Bw]
   refine hk.trans ((CgR.sc kz CgR.rfl).trans (CgR.of ?_));unfold AC;simp
  rw[U2 this]at lb;cases lb
 unfold tri Bb at la;by_cases z0:a.1%p=0
 .rw[Az z0]at la;have c0:Cg p a.1 0:=by show a.1%p=0%p;rw[z0,Bw]
  unfold Bb at la;by_cases z1:a.2.1%p=0
  .rw[Az z1]at la;have c1:Cg p a.2.1 0:=by show a.2.1%p=0%p;rw[z1,Bw]
   unfold Bb at la;by_cases z2:a.2.2%p=0
   .rw[Az z2]at la;cases la
   .rw[AK z2,Cy]at la;have c2:=one la;refine fin b.2.2 ⟨?_,?_,?_⟩
    .have:=(c2.symm.mul (Cg.rfl (a:=b.1))).trans e1;rw[CH]at this;exact this.trans (Cg.of (BP _ _))
    .have:=(c2.symm.mul (Cg.rfl (a:=b.2.1))).trans e0.symm;rw[CH]at this;exact this.trans (Cg.of (BP _ _))
    .have:=(Cg.rfl (a:=b.2.2)).mul c2;rw[ER]at this;exact this.symm
  .rw[AK z1,Cy]at la;have c1:=one la;refine fin b.2.1 ⟨?_,?_,?_⟩
   .have:=(c1.symm.mul (Cg.rfl (a:=b.1))).trans e2.symm;rw[CH]at this;exact this.trans (Cg.of (BP _ _))
   .have:=(Cg.rfl (a:=b.2.1)).mul c1;rw[ER]at this;exact this.symm
   .have:=(c1.symm.mul (Cg.rfl (a:=b.2.2))).trans e0;rw[CH]at this;exact this.trans (Cg.of (BP _ _))
 .rw[AK z0,Cy]at la;have c0:=one la;refine fin b.1 ⟨?_,?_,?_⟩
  .have:=(Cg.rfl (a:=b.1)).mul c0;rw[ER]at this;exact this.symm
  .have:=(c0.symm.mul (Cg.rfl (a:=b.2.1))).trans e2;rw[CH]at this;exact this.trans (Cg.of (BP _ _))
  .have:=(c0.symm.mul (Cg.rfl (a:=b.2.2))).trans e1.symm;rw[CH]at this;exact this.trans (Cg.of (BP _ _))
def MW(J:Gam):Prop:=∀(p:Ae)(a b:R3),P4 p->In3 p a->In3 p b->Bb p (tri a)=Aa 1->Bb p (tri b)=Aa 1->a≠b->∃ y,In3 p y/\Bb p (tri y)=Aa 1/\Pr p y (crs a b)/\J.F 57 [.int p,Aq Ab a,Aq Ab b]=.ok (Aq Ab y)
theorem xX(hc:Wv J)(hf:N1 J)(p:Ae)(a b:R3)(hp:P4 p)(ia:In3 p a)(ib:In3 p b)(la:Bb p (tri a)=Aa 1)(lb:Bb p (tri b)=Aa 1)(ne:a≠b):∃ y,In3 p y/\Bb p (tri y)=Aa 1/\Pr p y (crs a b)/\Rs.run J [.int p,Aq Ab a,Aq Ab b]=.ok (Aq Ab y):=by
 have e1:=hc a b ((CW hp ia).b3 (by decide)) ((CW hp ib).b3 (by decide)) ne
 cases el:Bb p (tri (crs a b)) with
 |none=>exact absurd (Wh hp ib ia lb la (Vw hp (US el) la lb)).symm ne
 |some l=>
  obtain⟨u,iu,j,l1,pr,ef⟩:=NT hp el;have e2:=hf p Ab _ l u hp el iu;rw[ef]at e2;have e2':J.F 17 [.int p,Aq Ab (crs a b)]=.ok (Aq Ab (fmR p u (crs a b))):=e2;refine⟨_,j,l1,pr,?_⟩;generalize Aq Ab (fmR p u (crs a b))=Y_ at *;simp[Rs,Df.run,Br,e1,e2']
theorem Il{x:Ae}(hp:P4 p)(kz:k%p≠0):k*x%p=0↔x%p=0:=by
 constructor
 .intro z;exact FJ λn=>BL hp kz n z
 .intro z;rw[Bj,z,DK,Bw]
theorem XM(hp:P4 p)(hx:Pr p x x')(hy:Pr p y y'):(Ay x y%p=0)↔(Ay x' y'%p=0):=by
 obtain⟨d,dz,e⟩:=hx;obtain⟨d',dz',e'⟩:=hy;have q:Cg p (Ay x y) (d*d'*Ay x' y'):=(Gd e e').trans (Cg.of (by unfold Ay AC;simp only;grind))
 rw[show Ay x y%p=_ from q]
 exact Il hp (BL hp dz dz')
section
variable{J:Gam}{ns:Ac Ae}{p:Ae}{C:C6}{s3 s4 s5 s6 s7 s8:Sl}
end
def NF(p:Ae)(x:R3):Prop:=In3 p x/\Bb p (tri x)=Aa 1
noncomputable def ptI(p n:Ae):R3:=if n=0 then (0,0,1) else if n<=p then (0,1,n-1) else (1,(n-p-1)/p,(n-p-1)%p)
noncomputable def IB(p:Ae):Ac R3:=(Cm (p*p+p+1).toNat).map fun(n:Ag)=>ptI p n
theorem RB{n:Ae}(hp:P4 p)(h0:0<=n)(h1:n<p*p+p+1):NF p (ptI p n):=by
 have p1:1<p:=by have:=hp.lo;omega
 have p0:=hp.pos;unfold ptI;by_cases z:n=0
 .rw[Az z];exact⟨⟨⟨by decide,p0⟩,⟨by decide,p0⟩,⟨by decide,p1⟩⟩,WY p1⟩
 .rw[AK z];by_cases z1:n<=p
  .rw[Az z1];exact⟨⟨⟨IL 0,p0⟩,⟨(by decide:(0:Ae)<=1),p1⟩,⟨by show 0<=n-1;omega,by show n-1<p;omega⟩⟩,ie p1 _⟩
  .rw[AK z1];have d0:0<=(n-p-1)/p:=Int.ediv_nonneg (by omega) (by omega)
   have d1:(n-p-1)/p<p:=by rw[Int.ediv_lt_iff_lt_mul p0];omega
   exact⟨⟨⟨(by decide:(0:Ae)<=1),p1⟩,⟨d0,d1⟩,⟨AM _ (by omega),AI _ p0⟩⟩,S7 p1 _ _⟩
theorem XH(hp:P4 p)(h:NF p x):∃ n:Ae,0<=n/\n<p*p+p+1/\x=ptI p n:=by
 obtain⟨⟨i0,i1,i2⟩,l⟩:=h;have p1:1<p:=by have:=hp.lo;omega
 have p0:=hp.pos;have pp:=Ky p0 p0;obtain⟨x0,x1,x2⟩:=x;simp only at i0 i1 i2;unfold tri Bb at l;simp only at l;rw[AT i0.1 i0.2]at l;by_cases z0:x0=0
 .rw[Az z0]at l;unfold Bb at l;rw[AT i1.1 i1.2]at l;by_cases z1:x1=0
  .rw[Az z1]at l;unfold Bb at l;rw[AT i2.1 i2.2]at l;by_cases z2:x2=0
   .rw[Az z2]at l;cases l
   .rw[AK z2,Cy]at l;exact⟨0,IL 0,by omega,by rw[z0,z1,l];rfl⟩
  .rw[AK z1,Cy]at l;refine⟨x2+1,by omega,by omega,?_⟩
   unfold ptI;rw[AK (by omega),Az (by omega),z0,l,Int.add_sub_cancel]
 .rw[AK z0,Cy]at l;have m1:p*x1<=p*(p-1):=Int.mul_le_mul_of_nonneg_left (by omega) (by omega)
  have m0:0<=p*x1:=YC (by omega) i1.1
  rw[YD,ER]at m1;refine⟨p+1+p*x1+x2,by omega,by omega,?_⟩
  unfold ptI;have e:p+1+p*x1+x2-p-1=x2+p*x1:=by omega
  rw[AK (by omega),AK (by omega),e,Int.add_mul_ediv_left _ _ (by omega),Int.ediv_eq_zero_of_lt i2.1 i2.2,YB,AT i2.1 i2.2,Er,l]
theorem G1(hp:P4 p):x∈IB p↔NF p x:=by
 have p0:=hp.pos;have pp:=Ky p0 p0;constructor
 .intro h;obtain⟨n,hn,rfl⟩:=Dt.mp h;have:=DE.mp hn;exact RB hp (by omega) (by omega)
 .intro h;obtain⟨n,n0,n1,rfl⟩:=XH hp h;refine Dt.mpr ⟨n.toNat,DE.mpr (by omega),?_⟩
  rw[Int.toNat_of_nonneg n0]
theorem iN(hp:P4 p):(IB p).Nodup:=by
 rcases hp with rfl|rfl|rfl|rfl<;>decide+kernel
noncomputable def nrm(p:Ae)(r:R3):R3:=open Classical in if h:∃ y,NF p y/\Pr p y r then Yz h else r
theorem NV{p l:Ae}(hp:P4 p)(el:Bb p (tri r)=Aa l):NF p (nrm p r)/\Pr p (nrm p r) r:=by
 have h:∃ y,NF p y/\Pr p y r:=by
  obtain⟨u,iu,j,l1,pr,_⟩:=NT hp el;exact⟨_,⟨j,l1⟩,pr⟩
 unfold nrm;rw[dif_pos h];exact E1 h
theorem He{a b c x:R3}(hp:P4 p)(z:Ap a b c%p≠0)(hx:NF p x):NF p (nrm p (ap a b c x))/\Pr p (nrm p (ap a b c x)) (ap a b c x):=by
 obtain⟨l,el⟩:=MM hp z hx.2 CgR.rfl;exact NV hp el
theorem K1(hp:P4 p)(hx:NF p x)(hy:NF p y)(h:Pr p x y):x=y:=Wh hp hx.1 hy.1 hx.2 hy.2 h
theorem NP{a b c x:R3}(hp:P4 p)(z:Ap a b c%p≠0)(hx:NF p x):nrm p (ap (bk0 a b c) (bk1 a b c) (bk2 a b c) (nrm p (ap a b c x)))=x:=by
 obtain⟨h1,h2⟩:=He hp z hx;have zB:Ap (bk0 a b c) (bk1 a b c) (bk2 a b c)%p≠0:=by rw[Ip];exact BL hp z z
 obtain⟨h3,h4⟩:=He hp zB h1;refine K1 hp h3 hx (h4.trans hp ((Pr.ap h2).trans hp ?_));rw[OQ];exact⟨_,z,CgR.rfl⟩
theorem UB{a b c x:R3}(hp:P4 p)(z:Ap a b c%p≠0)(hx:NF p x):nrm p (ap a b c (nrm p (ap (bk0 a b c) (bk1 a b c) (bk2 a b c) x)))=x:=by
 have zB:Ap (bk0 a b c) (bk1 a b c) (bk2 a b c)%p≠0:=by rw[Ip];exact BL hp z z
 obtain⟨h1,h2⟩:=He hp zB hx;obtain⟨h3,h4⟩:=He hp z h1;refine K1 hp h3 hx (h4.trans hp ((Pr.ap h2).trans hp ?_));rw[zV];exact⟨_,z,CgR.rfl⟩
noncomputable def Iz(p:Ae):Ae:=if p=7 then 3 else 2
noncomputable def q4(w:Ag)(k:Ae)(y:R3):Ae:=match w with
  |0=>y.1*y.2.2-y.2.1*y.2.1
  |1=>y.1*y.1
  |2=>y.1*y.2.1
  |_=>y.1*y.1-k*(y.2.1*y.2.1)
noncomputable def E4(w:Ag)(k:Ae)(a b c:R3):C6:=match w with
  |0=>Ks (prd a c) (prd b b)
  |1=>prd a a
  |2=>prd a b
  |_=>Ks (prd a a) (scC k (prd b b))
def W4(w:Ag):Prop:=w=0\/w=1\/w=2\/w=3
theorem LP(u v x:R3):vI (prd u v) x=Ay u x*Ay v x:=by
 unfold vI prd Ay;simp only;grind
theorem W8(A B:C6)(x:R3):vI (Ks A B) x=vI A x-vI B x:=by
 unfold vI Ks;simp only;grind
theorem Q9(k:Ae)(A:C6)(x:R3):vI (scC k A) x=k*vI A x:=by
 unfold vI scC;simp only;grind
theorem dQ(hw:W4 w)(k:Ae)(a b c x:R3):vI (E4 w k a b c) x=q4 w k (ap a b c x):=by
 rcases hw with rfl|rfl|rfl|rfl
 .show vI (Ks _ _) x=Ay a x*Ay c x-Ay b x*Ay b x;rw[W8,LP,LP]
 .show vI (prd _ _) x=Ay a x*Ay a x;rw[LP]
 .show vI (prd _ _) x=Ay a x*Ay b x;rw[LP]
 .show vI (Ks _ _) x=Ay a x*Ay a x-k*(Ay b x*Ay b x);rw[W8,Q9,LP,LP]
theorem bw(hw:W4 w)(k d:Ae)(y:R3):q4 w k (AC d y)=d*d*q4 w k y:=by
 rcases hw with rfl|rfl|rfl|rfl<;>(unfold q4 AC;simp only;grind)
theorem cb(hw:W4 w)(h:CgR p y y'):Cg p (q4 w k y) (q4 w k y'):=by
 rcases hw with rfl|rfl|rfl|rfl
 .exact(h.1.mul h.2.2).sub (h.2.1.mul h.2.1)
 .exact h.1.mul h.1
 .exact h.1.mul h.2.1
 .exact(h.1.mul h.1).sub (Cg.rfl.mul (h.2.1.mul h.2.1))
theorem bz(hw:W4 w)(hp:P4 p)(h:Pr p y y'):(q4 w k y%p=0)↔(q4 w k y'%p=0):=by
 obtain⟨d,dz,e⟩:=h;have q:=(cb (k:=k) hw e).trans (Cg.of (bw hw k d y'));rw[show q4 w k y%p=_ from q]
 exact Il hp (BL hp dz dz)
theorem XC(hw:W4 w){a b c x:R3}(hp:P4 p)(z:Ap a b c%p≠0)(h:PrC p C (E4 w k a b c))(hx:NF p x):(vI C x%p=0)↔(q4 w k (nrm p (ap a b c x))%p=0):=by
 rw[bz hw hp (He hp z hx).2,<-dQ hw];obtain⟨d,dz,e⟩:=h;have q:=(L6 e CgR.rfl (x:=x)).trans (Cg.of (Q9 d _ x));rw[show vI C x%p=_ from q]
 exact Il hp dz
noncomputable def FI(p:Ae)(C:C6):Ac R3:=(IB p).filter λx=>decide (vI C x%p=0)
noncomputable def no3(p:Ae)(l:Ac R3):Ak:=l.all λx=>l.all λy=>l.all λu=>decide (x=y)||decide (x=u)||decide (y=u)||decide (Ap x y u%p≠0)
theorem yG(hp:P4 p):no3 p ((IB p).filter λy=>decide (q4 0 (Iz p) y%p=0))=Ab:=by
 rcases hp with rfl|rfl|rfl|rfl<;>decide+kernel
theorem pJ{a b c:R3}(hp:P4 p)(z:Ap a b c%p≠0)(h:PrC p C (E4 0 (Iz p) a b c))(hx:x∈FI p C)(hy:y∈FI p C)(hu:u∈FI p C)(n1:x≠y)(n2:x≠u)(n3:y≠u):Ap x y u%p≠0:=by
 have hw:W4 0:=.inl rfl;have led:∀{x:R3},x∈FI p C->NF p x/\nrm p (ap a b c x)∈((IB p).filter λy=>decide (q4 0 (Iz p) y%p=0))/\Pr p (nrm p (ap a b c x)) (ap a b c x):=λ{x} hx=>by
  obtain⟨h1,h2⟩:=Be.mp hx;have nx:=(G1 hp).mp h1;obtain⟨s1,s2⟩:=He hp z nx;refine⟨nx,Be.mpr ⟨(G1 hp).mpr s1,?_⟩,s2⟩;rw[AO]at h2 ⊢;exact(XC hw hp z h nx).mp h2
 obtain⟨nx,mx,px⟩:=led hx;obtain⟨ny,my,py⟩:=led hy;obtain⟨nu,mu,pu⟩:=led hu;have inj:∀{x y:R3},NF p x->NF p y->x≠y->nrm p (ap a b c x)≠nrm p (ap a b c y):=λ{x y} hx hy ne e=>ne (by rw[<-NP hp z hx,<-NP hp z hy,e])
 have all:=yG hp;unfold no3 at all;rw[Ce]at all;have a1:=all _ mx;rw[Ce]at a1;have a2:=a1 _ my;rw[Ce]at a2;have a3:=a2 _ mu;simp only[CB,AO]at a3;rcases a3 with ((e|e)|e)|e
 .exact absurd e (inj nx ny n1)
 .exact absurd e (inj nx nu n2)
 .exact absurd e (inj ny nu n3)
 .intro z0;obtain⟨d1,_,g1⟩:=px;obtain⟨d2,_,g2⟩:=py;obtain⟨d3,_,g3⟩:=pu;have q:=LK g1 g2 g3;refine e ?_;rw[show Ap _ _ _%p=_ from q,Bj,Bj (Ap a b c),z0,DK,Bw,DK,Bw]
noncomputable def At(pts:Ac R3):D:=.lst (pts.map (Aq Ab))
def Yk(J:Gam):Prop:=∀(p:Ae)(C:C6),P4 p->InC p C->J.F 136 [.int p,Bt C]=.ok (.bl (decide (Ap (tw0 C) (tw1 C) (tw2 C)%p≠0)))
theorem fg(ht:NZ J)(hm:LG J)(p:Ae)(C:C6)(hp:P4 p)(iC:InC p C):MD.run J [.int p,Bt C]=.ok (.bl (decide (Ap (tw0 C) (tw1 C) (tw2 C)%p≠0))):=by
 obtain⟨h0,h1,h2⟩:=R9 hp iC;have e1:=ht p C hp;have e2:=hm p Ab (t0 p C) (t1 p C) (t2 p C) hp.pos ((CW hp h0).b3 (by decide)) ((CW hp h1).b3 (by decide)) ((CW hp h2).b3 (by decide))
 have td:Ap (t0 p C) (t1 p C) (t2 p C)%p=Ap (tw0 C) (tw1 C) (tw2 C)%p:=let ⟨h0,h1,h2⟩:=Sa p C;Ik h0 h1 h2
 rw[td]at e2;have k0:BK (Cq (t0 p C) (t1 p C) (t2 p C)) (.int 0)=.ok (Aq Ab (t0 p C)):=rfl;have k1:BK (Cq (t0 p C) (t1 p C) (t2 p C)) (.int 1)=.ok (Aq Ab (t1 p C)):=rfl;have k2:BK (Cq (t0 p C) (t1 p C) (t2 p C)) (.int 2)=.ok (Aq Ab (t2 p C)):=rfl;generalize Ap (tw0 C) (tw1 C) (tw2 C)%p=d at *;simp[MD,Df.run,Br,e1,e2,k0,k1,k2];rw[D8];simp
theorem VY(a b c:R3):Ay (crs a b) c=Ap a b c:=by
 unfold Ay crs Ap det;grind
section
variable{J:Gam}{p i j k d N:Ae}{PP x y u:D}{RL:Ac D}{s t s' t' v:Sl}
end
section
variable{J:Gam}{p:Ae}{pts:Ac R3}
end
theorem fD{α:Type}[DecidableEq α]{l:Ac α}{q:α->Ak}{y:α}(nd:l.Nodup)(hy:y∈l)(h:∀ x∈l,q x=Ab↔x=y):l.filter q=[y]:=by
 have hm:∀ x,x∈l.filter q↔x∈[y]:=λx=>by
  rw[Be,List.mem_singleton];constructor
  .rintro⟨h1,h2⟩;exact(h x h1).mp h2
  .rintro rfl;exact⟨hy,(h x hy).mpr rfl⟩
 exact List.perm_singleton.mp (gE (nd.filter _) (by simp) hm)
theorem yF(k l:Ae)(a b:R3):crs (AC k a) (AC l b)=AC (k*l) (crs a b):=by
 unfold crs AC;simp only;refine BF ?_ (BF ?_ ?_)<;>(simp only;grind)
theorem Pr.crs{a b a' b':R3}(hp:P4 p)(h:Pr p a a')(g:Pr p b b'):Pr p (OvC.crs a b) (OvC.crs a' b'):=by
 obtain⟨d,dz,e⟩:=h;obtain⟨d',dz',e'⟩:=g;exact⟨d*d',BL hp dz dz',(On e e').trans (CgR.of (yF ..))⟩
theorem Ue(a b:R3):Ay a b=Ay b a:=by
 unfold Ay;grind
noncomputable def ptL(p:Ae)(l:R3):Ac R3:=(IB p).filter λx=>decide (Ay x l%p=0)
theorem V3(h:MW J){a b:R3}(hp:P4 p)(ha:NF p a)(hb:NF p b)(ne:a≠b):∃ y,NF p y/\Pr p y (crs a b)/\J.F 57 [.int p,Aq Ab a,Aq Ab b]=.ok (Aq Ab y):=by
 obtain⟨y,h1,h2,h3,e⟩:=h p a b hp ha.1 hb.1 ha.2 hb.2 ne;exact⟨y,⟨h1,h2⟩,h3,e⟩
theorem QH{a b x l:R3}(hp:P4 p)(pl:Pr p l (crs a b)):Ay x l%p=0↔Ap a b x%p=0:=by
 rw[Ue,XM hp pl (Pr.rfl hp (x:=x)),VY]
theorem VV(a b:R3):Ap a b a=0/\Ap a b b=0:=by
 unfold Ap det;constructor<;>grind
noncomputable def pol(p:Ae)(C:C6)(x:R3):R3:=nrm p (ap (tw0 C) (tw1 C) (tw2 C) x)
noncomputable abbrev Whl(p:Ae)(C:C6):Prop:=Ap (tw0 C) (tw1 C) (tw2 C)%p≠0
theorem kZ(hp:P4 p)(z:Whl p C)(hx:NF p x):NF p (pol p C x)/\Pr p (pol p C x) (ap (tw0 C) (tw1 C) (tw2 C) x):=He hp z hx
theorem Jy(hp:P4 p)(z:Whl p C)(hx:NF p x):Ay y (pol p C x)%p=0↔bI C x y%p=0:=by
 rw[Ue,XM hp (kZ hp z hx).2 (Pr.rfl hp (x:=y))];exact Iff.rfl
noncomputable def b4(u v:R3):Ae:=u.1*v.2.2+u.2.2*v.1-2*(u.2.1*v.2.1)
theorem cN(k:Ae)(a b c x y:R3):bI (E4 0 k a b c) x y=b4 (ap a b c x) (ap a b c y):=by
 unfold bI E4 b4 ap Ay tw0 tw1 tw2 Ks prd;simp only;grind
theorem ao(d:Ae)(C:C6)(x y:R3):bI (scC d C) x y=d*bI C x y:=by
 unfold bI ap Ay tw0 tw1 tw2 scC;simp only;grind
theorem ar{C E:C6}(hp:P4 p)(h:PrC p C E)(x y:R3):bI C x y%p=0↔bI E x y%p=0:=by
 obtain⟨d,dz,e⟩:=h;obtain⟨x0,x1,x2⟩:=L7 e;have q:Cg p (bI C x y) (bI (scC d E) x y):=Gd ⟨Gd x0 CgR.rfl,Gd x1 CgR.rfl,Gd x2 CgR.rfl⟩ CgR.rfl;rw[show bI C x y%p=_ from q,ao]
 exact Il hp dz
theorem cO{v u' v':R3}(hp:P4 p)(h:Pr p u u')(g:Pr p v v'):b4 u v%p=0↔b4 u' v'%p=0:=by
 obtain⟨d,dz,e⟩:=h;obtain⟨d',dz',e'⟩:=g;have q:Cg p (b4 u v) (b4 (AC d u') (AC d' v')):=((e.1.mul e'.2.2).add (e.2.2.mul e'.1)).sub (Cg.rfl.mul (e.2.1.mul e'.2.1));have q2:b4 (AC d u') (AC d' v')=d*d'*b4 u' v':=by
  unfold b4 AC;simp only;grind
 rw[show b4 u v%p=_ from q,q2]
 exact Il hp (BL hp dz dz')
theorem yH(hp:P4 p):(((IB p).filter λy=>decide (q4 0 (Iz p) y%p=0)).all λu=>((IB p).filter λy=>decide (q4 0 (Iz p) y%p=0)).all λv=>decide (b4 u v%p=0)==decide (u=v))=Ab:=by
 rcases hp with rfl|rfl|rfl|rfl<;>decide+kernel
theorem XD{a b c:R3}(hp:P4 p)(z:Ap a b c%p≠0)(h:PrC p C (E4 0 (Iz p) a b c))(hx:x∈FI p C)(hy:y∈FI p C):bI C x y%p=0↔x=y:=by
 have hw:W4 0:=.inl rfl;have led:∀{x:R3},x∈FI p C->NF p x/\nrm p (ap a b c x)∈((IB p).filter λy=>decide (q4 0 (Iz p) y%p=0))/\Pr p (nrm p (ap a b c x)) (ap a b c x):=λ{x} hx=>by
  obtain⟨h1,h2⟩:=Be.mp hx;have nx:=(G1 hp).mp h1;obtain⟨s1,s2⟩:=He hp z nx;refine⟨nx,Be.mpr ⟨(G1 hp).mpr s1,?_⟩,s2⟩;rw[AO]at h2 ⊢;exact(XC hw hp z h nx).mp h2
 obtain⟨nx,mx,px⟩:=led hx;obtain⟨ny,my,py⟩:=led hy;have all:=yH hp;rw[Ce]at all;have a1:=all _ mx;rw[Ce]at a1;have a2:=a1 _ my;rw[AZ,decide_eq_decide]at a2;rw[ar hp h,cN,<-cO hp px py,a2];constructor
 .intro e;rw[<-NP hp z nx,<-NP hp z ny,e]
 .intro e;rw[e]
noncomputable def K7(p:Ae)(C:C6)(l:R3):Ac R3:=(ptL p l).filter λx=>decide (vI C x%p=0)
section
variable{p:Ae}{a b c:R3}{C:C6}
theorem QM(hp:P4 p)(z:Ap a b c%p≠0)(w:Whl p C)(h:PrC p C (E4 0 (Iz p) a b c))(hx:x∈FI p C):K7 p C (pol p C x)=[x]:=by
 obtain⟨h1,h2⟩:=Be.mp hx;have nx:=(G1 hp).mp h1;have xl:x∈ptL p (pol p C x):=Be.mpr ⟨h1,CS ((Jy hp w nx).mpr ((XD hp z h hx hx).mpr rfl))⟩;refine fD ((iN hp).filter _) xl λy hy=>?_
 obtain⟨g1,g2⟩:=Be.mp hy;rw[AO]at g2;constructor
 .intro v;exact((XD hp z h hx (Be.mpr ⟨g1,v⟩)).mp ((Jy hp w nx).mp g2)).symm
 .intro e;rw[e];exact h2
end
noncomputable def sides:D:=.tup [.str (By "inner"),.str (By "on"),.str (By "outer")]
noncomputable def Ll:Df:=⟨2,Ad,(.cons (.asg 1 Ad (.bin .Mod (.var 1) (.bin .Add (.bin .Add (.bin .Mult (.var 0) (.var 0)) (.var 0)) (.int 1)))) (.cons (.ife (.cmp .Eq (.var 1) (.int 0)) (.cons (.ret (.tup (.cons (.int 0) (.cons (.int 0) (.cons (.int 1) .nil))))) .nil) .nil) (.cons (.ife (.cmp .LtE (.var 1) (.var 0)) (.cons (.ret (.tup (.cons (.int 0) (.cons (.int 1) (.cons (.bin .Sub (.var 1) (.int 1)) .nil))))) .nil) .nil) (.cons (.ret (.tup (.cons (.int 1) (.cons (.bin .FloorDiv (.bin .Sub (.bin .Sub (.var 1) (.var 0)) (.int 1)) (.var 0)) (.cons (.bin .Mod (.bin .Sub (.bin .Sub (.var 1) (.var 0)) (.int 1)) (.var 0)) .nil))))) .nil))))⟩
theorem pN{n:Ae}(hp:P4 p):0<p*p+p+1/\0<=n%(p*p+p+1)/\n%(p*p+p+1)<p*p+p+1:=by
 have p0:=hp.pos;have N0:0<p*p+p+1:=by have:=Ky p0 p0;omega
 exact⟨N0,AM n (Int.ne_of_gt N0),AI n N0⟩
theorem WR(J:Gam)(p n:Ae)(hp:P4 p):Ll.run J [.int p,.int n]=.ok (Aq Ab (ptI p (n%(p*p+p+1)))):=by
 have pp:D0 p p=Ab:=G0 (by have:=hp.lo;omega) (by have:=hp.hi;omega)
 have p0:=hp.pos;have ph:=hp.hi;obtain⟨N0,h0,h1⟩:=pN (n:=n) hp;have pb:p<1073741824:=by omega
 generalize hr:n%(p*p+p+1)=r at *;unfold ptI;by_cases z0:r=0
 .rw[Az z0];simp[Ll,Df.run,Br,pp,N0,hr,z0];rfl
 .rw[AK z0];by_cases z1:r<=p
  .rw[Az z1];simp[Ll,Df.run,Br,pp,N0,hr,z0,z1];rfl
  .rw[AK z1];simp[Ll,Df.run,Br,pp,N0,hr,z0,z1,p0,pb];rfl
theorem Ot(C:C6)(a b c x:R3):vI (pb C a b c) x=vI C (ap a b c x):=by
 have e:ap a b c x=(x.1*(Ba a b c).1+x.2.1*(A8 a b c).1+x.2.2*(A7 a b c).1,x.1*(Ba a b c).2.1+x.2.1*(A8 a b c).2.1+x.2.2*(A7 a b c).2.1,x.1*(Ba a b c).2.2+x.2.1*(A8 a b c).2.2+x.2.2*(A7 a b c).2.2):=by
  unfold ap Ay Ba A8 A7;simp only;refine BF ?_ (BF ?_ ?_)<;>(simp only;grind)
 rw[e,W7];have e2:∀(u0 u1 u2 u3 u4 u5:Ae),vI ⟨u0,u1,u2,u3,u4,u5⟩ x=x.1*x.1*u0+x.2.1*x.2.1*u1+x.2.2*x.2.2*u2+(x.1*x.2.1*u3+x.1*x.2.2*u4+x.2.1*x.2.2*u5):=λu0 u1 u2 u3 u4 u5=>by
  unfold vI;simp only;grind
 exact e2 ..
theorem Q8(C:C6)(k:Ae)(x:R3):vI C (AC k x)=k*k*vI C x:=by
 unfold vI AC;simp only;grind
theorem wG{C E:C6}{a b c:R3}(hp:P4 p)(z:Ap a b c%p≠0)(h:PrC p E (pb C (bk0 a b c) (bk1 a b c) (bk2 a b c))):∃ k,k%p≠0/\∀ x,Cg p (vI E (ap a b c x)) (k*vI C x):=by
 obtain⟨d,dz,e⟩:=h;refine⟨d*(Ap a b c*Ap a b c),BL hp dz (BL hp z z),λx=>?_⟩
 refine(L6 e CgR.rfl).trans (Cg.of ?_);rw[Q9,Ot,OQ,Q8];simp only[Fs]
theorem Os(hp:P4 p)(h:Pr p x y):vI C x%p=0↔vI C y%p=0:=by
 obtain⟨d,dz,e⟩:=h;have q:=(L6 (D:=C) ⟨Cg.rfl,Cg.rfl,Cg.rfl,Cg.rfl,Cg.rfl,Cg.rfl⟩ e).trans (Cg.of (Q8 C d y));rw[show vI C x%p=_ from q]
 exact Il hp (BL hp dz dz)
theorem WV{C E:C6}{a b c x:R3}(hp:P4 p)(z:Ap a b c%p≠0)(h:PrC p E (pb C (bk0 a b c) (bk1 a b c) (bk2 a b c)))(hx:NF p x):vI E (nrm p (ap a b c x))%p=0↔vI C x%p=0:=by
 obtain⟨k,kz,e⟩:=wG hp z h;rw[Os hp (He hp z hx).2,show vI E (ap a b c x)%p=_ from e x]
 exact Il hp kz
section
variable{p:Ae}{a b c:R3}{C:C6}
theorem N6{l x:R3}(hp:P4 p):x∈K7 p C l↔x∈FI p C/\Ay x l%p=0:=by
 unfold K7 ptL FI;rw[Be,Be,Be,AO,AO];exact⟨λh=>⟨⟨h.1.1,h.2⟩,h.1.2⟩,λh=>⟨⟨h.1.1,h.2⟩,h.1.2⟩⟩
end
theorem Vm(l:Ac R3):biD .len [At l]=.ok (.int (l.length:Ae)):=by
 show R.ok (D.int ((l.map (Aq Ab)).length:Ag))=_;rw[BO]
noncomputable def pole(p:Ae)(C:C6)(l:R3):R3:=nrm p (ap (bk0 (tw0 C) (tw1 C) (tw2 C)) (bk1 (tw0 C) (tw1 C) (tw2 C)) (bk2 (tw0 C) (tw1 C) (tw2 C)) l)
def QV(J:Gam):Prop:=∀(p:Ae)(C:C6)(x:R3),P4 p->InC p C->Whl p C->NF p x->J.F 149 [.int p,Bt C,Aq Ab x]=.ok (Aq Ab (pole p C x))
theorem pQ(hp:P4 p)(z:Whl p C)(hx:NF p x):NF p (pole p C x)/\pol p C (pole p C x)=x:=by
 have zB:Ap (bk0 (tw0 C) (tw1 C) (tw2 C)) (bk1 (tw0 C) (tw1 C) (tw2 C)) (bk2 (tw0 C) (tw1 C) (tw2 C))%p≠0:=by rw[Ip];exact BL hp z z
 exact⟨(He hp zB hx).1,UB hp z hx⟩
theorem ck(h:zW J):QV J:=λp C x hp iC z nx=>by
 obtain⟨y,i,l,pr,e⟩:=h p C x hp iC z nx.1 nx.2;have zB:Ap (bk0 (tw0 C) (tw1 C) (tw2 C)) (bk1 (tw0 C) (tw1 C) (tw2 C)) (bk2 (tw0 C) (tw1 C) (tw2 C))%p≠0:=by rw[Ip];exact BL hp z z
 obtain⟨h1,h2⟩:=He hp zB nx;have q:y=pole p C x:=K1 hp ⟨i,l⟩ h1 (pr.trans hp (h2.symm hp));rw[<-q];exact e
structure FOn (p:Ae) (C:C6) (A B P U:R3):Prop where
 vA:vI C A%p=0
 vB:vI C B%p=0
 vU:vI C U%p=0
 bA:bI C A P%p=0
 bB:bI C B P%p=0
theorem Xf(A B P x:R3):AC (Ap A B P) x=(Ap x B P*A.1+Ap A x P*B.1+Ap A B x*P.1,Ap x B P*A.2.1+Ap A x P*B.2.1+Ap A B x*P.2.1,Ap x B P*A.2.2+Ap A x P*B.2.2+Ap A B x*P.2.2):=by
 unfold AC Ap det;refine BF ?_ (BF ?_ ?_)<;>(simp only;grind)
section
variable{p:Ae}{C R:C6}{A B P U x:R3}
theorem cg0{k x:Ae}(h:x%p=0):Cg p (k*x) 0:=by
 show k*x%p=0%p;rw[Bj,h,DK]
theorem VT(h:FOn p C A B P U)(x:R3):Cg p (Ap A B P*Ap A B P*vI C x) (Ap A B x*Ap A B x*vI C P+Ap x B P*Ap A x P*bI C A B):=by
 have e:=W7 C A B P (Ap x B P) (Ap A x P) (Ap A B x);rw[<-Xf,Q8]at e;rw[e];generalize Ap x B P=α;generalize Ap A x P=β;generalize Ap A B x=γ;have k1:Cg p (α*α*vI C A) 0:=cg0 h.vA;have k2:Cg p (β*β*vI C B) 0:=cg0 h.vB;have k3:Cg p (α*γ*bI C A P) 0:=cg0 h.bA;have k4:Cg p (β*γ*bI C B P) 0:=cg0 h.bB;refine(((k1.add k2).add Cg.rfl).add ((Cg.rfl.add k3).add k4)).trans (Cg.of ?_);grind
theorem Rz(h:FOn p C A B P U)(x:R3):Cg p (Ap A B U*Ap A B U*(Ap A B P*Ap A B P*vI C x)) (bI C A B*(Ap A B U*Ap A B U*(Ap x B P*Ap A x P)-Ap A B x*Ap A B x*(Ap U B P*Ap A U P))):=by
 have e1:=VT h x;have e2:=VT h U;have e0:Cg p (Ap A B P*Ap A B P*vI C U) 0:=cg0 h.vU;have e3:Cg p (Ap A B U*Ap A B U*vI C P+Ap U B P*Ap A U P*bI C A B) 0:=e2.symm.trans e0;generalize Ap A B P=D at *;generalize Ap x B P=α at *;generalize Ap A x P=β at *;generalize Ap A B x=γ at *;generalize Ap U B P=α0 at *;generalize Ap A U P=β0 at *;generalize Ap A B U=γ0 at *;generalize bI C A B=b at *;generalize vI C P=v at *;generalize vI C x=vx at *;have e4:Cg p (γ0*γ0*(D*D*vx)) (γ0*γ0*(γ*γ*v+α*β*b)):=Cg.rfl.mul e1;have e5:Cg p (γ*γ*(γ0*γ0*v+α0*β0*b)) (γ*γ*0):=Cg.rfl.mul e3;refine e4.trans ?_;have e6:γ0*γ0*(γ*γ*v+α*β*b)=γ*γ*(γ0*γ0*v+α0*β0*b)+b*(γ0*γ0*(α*β)-γ*γ*(α0*β0)):=by grind
 rw[e6];refine(e5.add Cg.rfl).trans (Cg.of ?_);grind
theorem Xh{k x y:Ae}(hp:P4 p)(kz:k%p≠0)(h:Cg p (k*x) (k*y)):Cg p x y:=by
 have e:k*(x-y)%p=0:=by
  have q:=h.sub (Cg.rfl (p:=p) (a:=k*y));have q2:(k*x-k*y)%p=(k*y-k*y)%p:=q;rw[Int.sub_self,Bw,<-YD]at q2;exact q2
 have z:=(Il hp kz).mp e;have q3:=Cg.add (p:=p) (a:=x-y) (b:=0) (c:=y) (d:=y) (by show (x-y)%p=0%p;rw[z,Bw]) Cg.rfl
 have q4:Cg p (x-y+y) (0+y):=q3;rw[YE,Er]at q4;exact q4
theorem vS(hp:P4 p)(d1:Ap A B P%p≠0)(d2:Ap A B U%p≠0)(hC:FOn p C A B P U)(hR:FOn p R A B P U)(x:R3):Cg p (bI C A B*vI R x) (bI R A B*vI C x):=by
 have e1:=Rz hC x;have e2:=Rz hR x;generalize (Ap A B U*Ap A B U*(Ap x B P*Ap A x P)-Ap A B x*Ap A B x*(Ap U B P*Ap A U P))=F at *;refine Xh hp (k:=Ap A B U*Ap A B U*(Ap A B P*Ap A B P)) (BL hp (BL hp d2 d2) (BL hp d1 d1)) ?_;generalize Ap A B U=γ at *;generalize Ap A B P=D at *;generalize bI C A B=b at *;generalize bI R A B=r at *;have f1:Cg p (b*(γ*γ*(D*D*vI R x))) (b*(r*F)):=Cg.rfl.mul e2;have f2:Cg p (r*(γ*γ*(D*D*vI C x))) (r*(b*F)):=Cg.rfl.mul e1;refine(Cg.of (by grind)).trans (f1.trans ((Cg.of (by grind:b*(r*F)=r*(b*F))).trans (f2.symm.trans (Cg.of (by grind)))))
theorem Xi{k l:Ae}(h:∀ x,Cg p (k*vI R x) (l*vI C x)):CgC p (scC k R) (scC l C):=by
 have a0:=h (1,0,0);have a1:=h (0,1,0);have a2:=h (0,0,1);have b0:=h (1,1,0);have b1:=h (1,0,1);have b2:=h (0,1,1);have v0:∀ E:C6,vI E (1,0,0)=E.c0:=λE=>by unfold vI;simp
 have v1:∀ E:C6,vI E (0,1,0)=E.c1:=λE=>by unfold vI;simp
 have v2:∀ E:C6,vI E (0,0,1)=E.c2:=λE=>by unfold vI;simp
 have w0:∀ E:C6,vI E (1,1,0)=E.c0+E.c1+E.c3:=λE=>by unfold vI;simp
 have w1:∀ E:C6,vI E (1,0,1)=E.c0+E.c2+E.c4:=λE=>by unfold vI;simp
 have w2:∀ E:C6,vI E (0,1,1)=E.c1+E.c2+E.c5:=λE=>by unfold vI;simp
 rw[v0,v0]at a0;rw[v1,v1]at a1;rw[v2,v2]at a2;rw[w0,w0]at b0;rw[w1,w1]at b1;rw[w2,w2]at b2;refine⟨a0,a1,a2,?_,?_,?_⟩
 .have:=(b0.sub a0).sub a1;refine(Cg.of ?_).trans (this.trans (Cg.of ?_))<;>(unfold scC;simp only;grind)
 .have:=(b1.sub a0).sub a2;refine(Cg.of ?_).trans (this.trans (Cg.of ?_))<;>(unfold scC;simp only;grind)
 .have:=(b2.sub a1).sub a2;refine(Cg.of ?_).trans (this.trans (Cg.of ?_))<;>(unfold scC;simp only;grind)
theorem To(hp:P4 p)(w:Whl p C)(d1:Ap A B P%p≠0)(d2:Ap A B U%p≠0)(hC:FOn p C A B P U):bI C A B%p≠0:=λz=>by
 refine w ?_;have v0:∀ x,Cg p (1*vI C x) (0*vI C x):=λx=>by
  rw[CH,HS];refine Xh hp (k:=Ap A B U*Ap A B U*(Ap A B P*Ap A B P)) (BL hp (BL hp d2 d2) (BL hp d1 d1)) ?_;have e1:=Rz hC x;refine(Cg.of (by grind)).trans (e1.trans ?_)
  rw[DK];show _%p=0%p;rw[Bj,z,HS]
 have c:=Xi v0;rw[MN]at c;obtain⟨t0,t1,t2⟩:=L7 c;have e:=Ik t0 t1 t2;rw[N9]at e;show Ap (tw0 C) (tw1 C) (tw2 C)%p=0;rw[show Ap (tw0 C) (tw1 C) (tw2 C)%p=_ from e]
 simp
theorem kY(hp:P4 p)(wC:Whl p C)(wR:Whl p R)(d1:Ap A B P%p≠0)(d2:Ap A B U%p≠0)(hC:FOn p C A B P U)(hR:FOn p R A B P U):PrC p R C:=by
 have b1:=To hp wC d1 d2 hC;have b2:=To hp wR d1 d2 hR;obtain⟨u,uz,ue⟩:=Re hp b1;refine⟨u*bI R A B,BL hp uz b2,?_⟩;have c:=Xi (vS hp d1 d2 hC hR);have e1:CgC p (scC u (scC (bI C A B) R)) (scC u (scC (bI R A B) C)):=CgC.sc Cg.rfl c;rw[Oi,Oi]at e1;have e2:CgC p (scC (u*bI C A B) R) (scC 1 R):=CgC.sc ue CgC.rfl;rw[MN]at e2;exact e2.symm.trans e1
end
section
variable{p:Ae}{C E:C6}{a b c A B P U A' B' P' U' x y:R3}
theorem Ys(C:C6)(a b c x y:R3):bI (pb C a b c) x y=bI C (ap a b c x) (ap a b c y):=by
 have e:∀ u:R3,ap a b c u=(u.1*(Ba a b c).1+u.2.1*(A8 a b c).1+u.2.2*(A7 a b c).1,u.1*(Ba a b c).2.1+u.2.1*(A8 a b c).2.1+u.2.2*(A7 a b c).2.1,u.1*(Ba a b c).2.2+u.2.1*(A8 a b c).2.2+u.2.2*(A7 a b c).2.2):=λu=>by
  unfold ap Ay Ba A8 A7;simp only;refine BF ?_ (BF ?_ ?_)<;>(simp only;grind)
 rw[e x,e y,eC];rfl
theorem aq(C:C6)(k l:Ae)(x y:R3):bI C (AC k x) (AC l y)=k*l*bI C x y:=by
 unfold bI ap Ay AC;simp only;grind
theorem Yr(hp:P4 p)(h:Pr p x x')(g:Pr p y y'):bI C x y%p=0↔bI C x' y'%p=0:=by
 obtain⟨d,dz,e⟩:=h;obtain⟨d',dz',e'⟩:=g;have q:=(ON (CgC.rfl (C:=C)) e e').trans (Cg.of (aq C d d' x' y'));rw[show bI C x y%p=_ from q]
 exact Il hp (BL hp dz dz')
theorem yO(hp:P4 p)(h:FOn p E A' B' P' U')(hA:Pr p A' (ap a b c A))(hB:Pr p B' (ap a b c B))(hP:Pr p P' (ap a b c P))(hU:Pr p U' (ap a b c U)):FOn p (pb E a b c) A B P U:=
 ⟨by rw[Ot];exact(Os hp hA).mp h.vA,by rw[Ot];exact(Os hp hB).mp h.vB,by rw[Ot];exact(Os hp hU).mp h.vU,by rw[Ys];exact(Yr hp hA hP).mp h.bA,by rw[Ys];exact(Yr hp hB hP).mp h.bB⟩
theorem W6(hp:P4 p)(z:Ap a b c%p≠0)(w:Whl p E):Whl p (pb E a b c):=by
 show Ap _ _ _%p≠0;rw[yU];exact BL hp (BL hp z z) w
theorem hZ(hp:P4 p)(z:Ap a b c%p≠0)(wC:Whl p C)(wE:Whl p E)(d1:Ap A B P%p≠0)(d2:Ap A B U%p≠0)(hC:FOn p C A B P U)(hE:FOn p E A' B' P' U')(hA:Pr p A' (ap a b c A))(hB:Pr p B' (ap a b c B))(hP:Pr p P' (ap a b c P))(hU:Pr p U' (ap a b c U)):PrC p (pb E a b c) C:=
 kY hp wC (W6 hp z wE) d1 d2 hC (yO hp hE hA hB hP hU)
end
noncomputable def ND:Df:=⟨3,Ad,(.cons (.asg 2 Ad (.int 0)) (.cons (.ife (.cmp .Gt (.bi .len (.cons (.var 0) .nil)) (.int 0)) (.cons (.asg 2 Ad (.idx (.var 0) (.bin .Mod (.var 1) (.bi .len (.cons (.var 0) .nil))))) .nil) .nil) (.cons (.ret (.bin .Mod (.bin .Mult (.bin .Add (.bin .Add (.bin .Mod (.var 2) (.int 1000003)) (.bin .Mult (.int 7919) (.var 1))) (.int 11)) (.int 48271)) (.int 1000033))) .nil)))⟩
theorem xS(J:Gam)(ns:Ac Ae)(k:Ae)(h0:0<=k):∃ m,0<=m/\ND.run J [scr ns,.int k]=.ok (.int m):=by
 have m1:D0 7919 k=Ab:=G0 (by decide) (by decide)
 have m2:∀ x,D0 x 48271=Ab:=λx=>QK (by decide) (by decide)
 have ln:biD .len [scr ns]=.ok (.int ns.length):=by simp[scr]
 by_cases h1:0<(ns.length:Ae)
 .have q0:=AM k (b:=(ns.length:Ae)) (by omega)
  have q1:=AI k h1;have g:BK (scr ns) (.int (k%(ns.length:Ae)))=.ok (.int (ns.getD (k%(ns.length:Ae)).toNat 0)):=rQ (ns:=ns) q0 q1;generalize ns.getD (k%(ns.length:Ae)).toNat 0=x at g;refine⟨(x%1000003+7919*k+11)*48271%1000033,AM _ (by decide),?_⟩
  generalize scr ns=S at *;generalize (ns.length:Ae)=N at *;simp[ND,Df.run,Br,ln,h1,g,m1,m2]
 .refine⟨(0%1000003+7919*k+11)*48271%1000033,AM _ (by decide),?_⟩
  generalize scr ns=S at *;generalize (ns.length:Ae)=N at *;simp[ND,Df.run,Br,ln,h1,m1,m2]
noncomputable def Pd:Df:=⟨1,Ad,(.cons (.ret (.idx (.lst (.cons (.int 3) (.cons (.int 5) (.cons (.int 7) (.cons (.int 5) (.cons (.int 7) (.cons (.int 11) .nil))))))) (.bin .Mod (.call 228 (.cons (.var 0) (.cons (.int 0) .nil))) (.int 6)))) .nil)⟩
theorem qH(h:LV J 228 ns):∃ p,P4 p/\Pd.run J [scr ns]=.ok (.int p):=by
 obtain⟨m,m0,e⟩:=h 0 (by decide)
 have q:m%6=0\/m%6=1\/m%6=2\/m%6=3\/m%6=4\/m%6=5:=by omega
 have g:∃ p,P4 p/\Dg [.int 3,.int 5,.int 7,.int 5,.int 7,.int 11] (m%6)=.ok (.int p):=by
  rcases q with z|z|z|z|z|z<;>rw[z]
  .exact⟨3,.inl rfl,rfl⟩
  .exact⟨5,.inr (.inl rfl),rfl⟩
  .exact⟨7,.inr (.inr (.inl rfl)),rfl⟩
  .exact⟨5,.inr (.inl rfl),rfl⟩
  .exact⟨7,.inr (.inr (.inl rfl)),rfl⟩
  .exact⟨11,.inr (.inr (.inr rfl)),rfl⟩
 obtain⟨p,hp,g⟩:=g;refine⟨p,hp,?_⟩;simp[Pd,Df.run,Br,e,g]
def N2(J:Gam):Prop:=∀(p:Ae)(b:Ak)(xs:Ac Ae)(l t:Ae),P4 p->Bb p xs=Aa l->EC p l t->J.F 288 [.int p,DO b xs]=.ok (.tup (ds (fmI p t xs)))
noncomputable def Pf:Df:=⟨6,Ad,(.cons (.asg 3 Ad (.bin .Sub (.bin .Mult (.idx (.var 1) (.int 1)) (.idx (.var 2) (.int 2))) (.bin .Mult (.idx (.var 1) (.int 2)) (.idx (.var 2) (.int 1))))) (.cons (.asg 4 Ad (.bin .Sub (.bin .Mult (.idx (.var 1) (.int 2)) (.idx (.var 2) (.int 0))) (.bin .Mult (.idx (.var 1) (.int 0)) (.idx (.var 2) (.int 2))))) (.cons (.asg 5 Ad (.bin .Sub (.bin .Mult (.idx (.var 1) (.int 0)) (.idx (.var 2) (.int 1))) (.bin .Mult (.idx (.var 1) (.int 1)) (.idx (.var 2) (.int 0))))) (.cons (.ret (.tup (.cons (.bin .Mod (.var 3) (.var 0)) (.cons (.bin .Mod (.var 4) (.var 0)) (.cons (.bin .Mod (.var 5) (.var 0)) .nil))))) .nil))))⟩
def lZ(J:Gam):Prop:=∀(p:Ae)(q q':Ak)(a x:R3),0<p->B3 a->B3 x->J.F 232 [.int p,Aq q a,Aq q' x]=.ok (Aq Ab (mdR p (crs a x)))
theorem kT(J:Gam)(p:Ae)(q q':Ak)(a x:R3)(p0:0<p)(ha:B3 a)(hx:B3 x):Pf.run J [.int p,Aq q a,Aq q' x]=.ok (Aq Ab (mdR p (crs a x))):=by
 obtain⟨x0,x1,x2⟩:=EG q a;obtain⟨y0,y1,y2⟩:=EG q' x;have k:∀ {u v},Bd 300 u->Bd 300 v->FH u v=Ab:=λhu hv=>Jx hu hv (by decide) (by decide)
 simp[Pf,Df.run,Br,x0,x1,x2,y0,y1,y2,k ha.1 hx.1,k ha.1 hx.2.1,k ha.1 hx.2.2,k ha.2.1 hx.1,k ha.2.1 hx.2.1,k ha.2.1 hx.2.2,k ha.2.2 hx.1,k ha.2.2 hx.2.1,k ha.2.2 hx.2.2,p0];rfl
noncomputable def Qe:Df:=⟨3,Ad,(.cons (.ret (.bin .Mod (.bin .Add (.bin .Add (.bin .Mult (.idx (.var 1) (.int 0)) (.idx (.var 2) (.int 0))) (.bin .Mult (.idx (.var 1) (.int 1)) (.idx (.var 2) (.int 1)))) (.bin .Mult (.idx (.var 1) (.int 2)) (.idx (.var 2) (.int 2)))) (.var 0))) .nil)⟩
def Va(J:Gam):Prop:=∀(p:Ae)(q q':Ak)(a x:R3),0<p->B3 a->B3 x->J.F 233 [.int p,Aq q a,Aq q' x]=.ok (.int (Ay a x%p))
theorem iX(J:Gam)(p:Ae)(q q':Ak)(a x:R3)(p0:0<p)(ha:B3 a)(hx:B3 x):Qe.run J [.int p,Aq q a,Aq q' x]=.ok (.int (Ay a x%p)):=by
 obtain⟨x0,x1,x2⟩:=EG q a;obtain⟨y0,y1,y2⟩:=EG q' x;have k:∀ {u v},Bd 300 u->Bd 300 v->FH u v=Ab:=λhu hv=>Jx hu hv (by decide) (by decide)
 simp[Qe,Df.run,Br,x0,x1,x2,y0,y1,y2,k ha.1 hx.1,k ha.2.1 hx.2.1,k ha.2.2 hx.2.2,p0];rfl
noncomputable def NA:E:=(.call 233 (.cons (.var 0) (.cons (.var 3) (.cons (.var 2) .nil))))
noncomputable def Pz:Df:=⟨4,Ad,(.cons (.ret (.call 288 (.cons (.var 0) (.cons (.comp NA 3 (.e (.var 1)) CO) .nil)))) .nil)⟩
def Vb(J:Gam):Prop:=∀(p:Ae)(t q q':Ak)(a b c x:R3),GoodR p a b c->B3 x->(∃ l,Bb p (tri x)=Aa l)->J.F 289 [.int p,BM t q a b c,Aq q' x]=.ok (Aq Ab (nrm p (ap a b c x)))
theorem kQ(hs:Va J)(hf:N2 J)(p:Ae)(t q q':Ak)(a b c x:R3)(G:GoodR p a b c)(hx:B3 x)(lx:∃ l,Bb p (tri x)=Aa l):Pz.run J [.int p,BM t q a b c,Aq q' x]=.ok (Aq Ab (nrm p (ap a b c x))):=by
 have hp:=G.p4;have p0:=hp.pos;obtain⟨l0,lx⟩:=lx;obtain⟨l,el⟩:=MM hp G.nz lx CgR.rfl;obtain⟨u,iu,j,l1,pr,ef⟩:=NT hp el;obtain⟨n1,n2⟩:=NV hp el;have e0:fmR p u (ap a b c x)=nrm p (ap a b c x):=K1 hp ⟨j,l1⟩ n1 (pr.trans hp (n2.symm hp));have md:(tri (mdR p (ap a b c x))).map (λx=>x%p)=(tri (ap a b c x)).map (λx=>x%p):=by
  show [_%p%p,_%p%p,_%p%p]=[_%p,_%p,_%p];simp only[AY _ (BH p)]
 have e:=hf p Ad (tri (mdR p (ap a b c x))) l u hp (by rw[NG md];exact el) iu
 rw[Vr md,ef,e0]at e;have e':J.F 288 [.int p,.lst [.int (Ay a x%p),.int (Ay b x%p),.int (Ay c x%p)]]=.ok (Aq Ab (nrm p (ap a b c x))):=e;have b3:∀ {r},In3 p r->B3 r:=λh=>(CW hp h).b3 (by decide)
 have k:∀ r,In3 p r->cF J [si p,sh (BM t q a b c),sh (Aq q' x),Af] 3 NA (Aq q r)=.ok (.int (Ay r x%p)):=λr hr=>by
  have e1:=hs p q q' r x p0 (b3 hr) hx;generalize Aq q r=rr at *;generalize Aq q' x=xx at *;simp[cF,NA,e1]
 have g:∀ d,cG J [si p,sh (BM t q a b c),sh (Aq q' x),Af] 3 CO d=.ok Ab:=λ_=>rfl
 have cp:Ck (cG J [si p,sh (BM t q a b c),sh (Aq q' x),Af] 3 CO) (cF J [si p,sh (BM t q a b c),sh (Aq q' x),Af] 3 NA) [Aq q a,Aq q b,Aq q c]=.ok [.int (Ay a x%p),.int (Ay b x%p),.int (Ay c x%p)]:=by
  simp[Ck,g,k a G.ia,k b G.ib,k c G.ic]
 have sq:=Sb t q a b c;generalize Aq Ab (nrm p (ap a b c x))=Y_ at *;generalize Aq q' x=xx at *;generalize BM t q a b c=TT at *;generalize [Aq q a,Aq q b,Aq q c]=LL at *;simp[Pz,Df.run,Br,sq,cp,e']
noncomputable def Mv:Ss:=(.cons (.app 2 (.call 289 (.cons (.var 0) (.cons (.var 1) (.cons (.tup (.cons (.int 1) (.cons (.var 3) (.cons (.bin .Mult (.var 3) (.var 3)) .nil)))) .nil))))) .nil)
noncomputable def Nx:Df:=⟨4,Ad,(.cons (.asg 2 Ab (.lst (.cons (.call 289 (.cons (.var 0) (.cons (.var 1) (.cons (.tup (.cons (.int 0) (.cons (.int 0) (.cons (.int 1) .nil)))) .nil)))) .nil))) (.cons (.fors 3 (.rng (.var 0)) Mv) (.cons (.ret (.var 2)) .nil)))⟩
noncomputable def GC(p:Ae):Ac R3:=(0,0,1)::(Cm p.toNat).map fun(t:Ag)=>((1:Ae),(t:Ae),(t:Ae)*(t:Ae))
theorem QF(hp:P4 p)(hx:x∈GC p):B3 x/\∃ l,Bb p (tri x)=Aa l:=by
 have p1:1<p:=by have:=hp.lo;omega
 have ph:=hp.hi;rcases Ax.mp hx with rfl|hx
 .exact⟨(CW hp (a:=(0,0,1)) ⟨⟨IL 0,hp.pos⟩,⟨IL 0,hp.pos⟩,⟨(by decide:(0:Ae)<=1),p1⟩⟩).b3 (by decide),1,WY p1⟩
 .obtain⟨t,ht,rfl⟩:=Dt.mp hx;have ht:=DE.mp ht;have t0:(t:Ae)<11:=by omega
  have tt:(t:Ae)*(t:Ae)<=11*11:=Int.mul_le_mul (by omega) (by omega) (by omega) (by decide)
  have t2:0<=(t:Ae)*(t:Ae):=YC (by omega) (by omega)
  have pw:(2:Ag) ^ 10<=2 ^ 300:=Ej (by decide) (by decide)
  refine⟨⟨?_,?_,?_⟩,1,S7 p1 _ _⟩
  .exact AH (by decide:(1:Ae).natAbs<2 ^ 10) pw
  .exact AH (by show ((t:Ae)).natAbs<2 ^ 10;omega) pw
  .exact AH (by show ((t:Ae)*(t:Ae)).natAbs<2 ^ 10;omega) pw
theorem oF{m:Ae}{RR Y_:D}{acc:Ac D}(mm:D0 m m=Ab)(en:J.F 289 [.int p,RR,.tup [.int 1,.int m,.int (m*m)]]=.ok Y_)(sz:DC (acc.length+1)=Ab):Cd J 3 Mv (.int m) [si p,sh RR,Aa (.lst acc,Ab),s3]=.next [si p,sh RR,Aa (.lst (acc++[Y_]),Ab),si m]:=by
 simp[Cd,Mv,mm,en,Dm,sz]
def zX(J:Gam):Prop:=∀(p:Ae)(a b c:R3),GoodR p a b c->J.F 290 [.int p,CU a b c]=.ok (At ((GC p).map λx=>nrm p (ap a b c x)))
theorem xQ(hl:Vb J)(p:Ae)(a b c:R3)(G:GoodR p a b c):Nx.run J [.int p,CU a b c]=.ok (At ((GC p).map λx=>nrm p (ap a b c x))):=by
 have hp:=G.p4;have ph:=hp.hi;have pl:=hp.lo;have L:∀ x∈GC p,J.F 289 [.int p,CU a b c,Aq Ab x]=.ok (Aq Ab (nrm p (ap a b c x))):=λx hx=>hl p Ad Ad Ab a b c x G (QF hp hx).1 (QF hp hx).2
 have e0:J.F 289 [.int p,CU a b c,.tup [.int 0,.int 0,.int 1]]=.ok (Aq Ab (nrm p (ap a b c (0,0,1)))):=L (0,0,1) (AX ..);have rg:DI 0 p=.ok (Fc 0 (p-0).toNat):=Uu (by decide) (by decide) (by omega) (by omega)
 rw[JQ]at rg;have lp:=PN (body:=Cd J 3 Mv) (λn Y=>∃ s3,Y=[si p,sh (CU a b c),Aa (.lst (((0,0,1)::(Cm n).map fun(t:Ag)=>((1:Ae),(t:Ae),(t:Ae)*(t:Ae))).map λx=>Aq Ab (nrm p (ap a b c x))),Ab),s3]) (Fc 0 p.toNat) 0 [si p,sh (CU a b c),Aa (.lst [Aq Ab (nrm p (ap a b c (0,0,1)))],Ab),Af] ⟨Af,rfl⟩ (by
  rintro n x hx Y ⟨s3,rfl⟩;obtain⟨hn,rfl⟩:=Qt hx;rw[Er,GP];have hm:((1:Ae),(n:Ae),(n:Ae)*(n:Ae))∈GC p:=AN _ (Dt.mpr ⟨n,DE.mpr (by omega),rfl⟩)
  have en:J.F 289 [.int p,CU a b c,.tup [.int 1,.int (n:Ae),.int ((n:Ae)*(n:Ae))]]=.ok (Aq Ab (nrm p (ap a b c (1,(n:Ae),(n:Ae)*(n:Ae))))):=L _ hm;have lr:(Cm (n+1)).map (fun(t:Ag)=>((1:Ae),(t:Ae),(t:Ae)*(t:Ae)))=(Cm n).map (fun(t:Ag)=>((1:Ae),(t:Ae),(t:Ae)*(t:Ae)))++[((1:Ae),(n:Ae),(n:Ae)*(n:Ae))]:=by
   rw[List.range_succ,IE];rfl
  rw[lr,<-List.cons_append,IE];have len:((((0:Ae),(0:Ae),(1:Ae))::(Cm n).map fun(t:Ag)=>((1:Ae),(t:Ae),(t:Ae)*(t:Ae))).map λx=>Aq Ab (nrm p (ap a b c x))).length=n+1:=by simp
  generalize ((((0:Ae),(0:Ae),(1:Ae))::(Cm n).map fun(t:Ag)=>((1:Ae),(t:Ae),(t:Ae)*(t:Ae))).map λx=>Aq Ab (nrm p (ap a b c x)))=acc at *
  have sz:DC (acc.length+1)=Ab:=GI (by omega)
  have mm:D0 (n:Ae) (n:Ae)=Ab:=G0 (by omega) (by omega)
  refine⟨_,?_,si (n:Ae),rfl⟩;show Cd J 3 Mv (.int (n:Ae)) [si p,sh (CU a b c),Aa (.lst acc,Ab),s3]=.next [si p,sh (CU a b c),Aa (.lst (acc++[Aq Ab (nrm p (ap a b c (1,(n:Ae),(n:Ae)*(n:Ae))))]),Ab),si (n:Ae)];exact oF mm en sz)
 obtain⟨Y',e,s3,rfl⟩:=lp;rw[GP,Mw]at e;have fin:D.lst (((0,0,1)::(Cm p.toNat).map fun(t:Ag)=>((1:Ae),(t:Ae),(t:Ae)*(t:Ae))).map λx=>Aq Ab (nrm p (ap a b c x)))=At ((GC p).map λx=>nrm p (ap a b c x)):=by
  unfold At GC;rw[E2];rfl
 rw[<-fin]
 clear fin L
 generalize (((0,0,1)::(Cm p.toNat).map fun(t:Ag)=>((1:Ae),(t:Ae),(t:Ae)*(t:Ae))).map λx=>Aq Ab (nrm p (ap a b c x)))=OUT at *
 generalize Fc 0 p.toNat=RL at *;generalize Aq Ab (nrm p (ap a b c (0,0,1)))=Y_ at *;generalize CU a b c=RR at *;simp[Nx,Df.run,Br,e0,C2,rg,e]
noncomputable def Ps:E:=(.bin .Mult (.idx (.var 4) (.var 6)) (.idx (.idx (.var 2) (.var 6)) (.var 5)))
noncomputable def Nu:E:=(.bin .Mod (.bi .sum (.cons (.comp Ps 6 (.rng (.int 3)) CO) .nil)) (.var 0))
noncomputable def KG:Ss:=(.cons (.app 3 (.comp Nu 5 (.rng (.int 3)) CO)) .nil)
noncomputable def Pi:Df:=⟨7,Ad,(.cons (.asg 3 Ab (.lst .nil)) (.cons (.fors 4 (.e (.var 1)) KG) (.cons (.ret (.var 3)) .nil)))⟩
def Uq(J:Gam):Prop:=∀(p:Ae)(t q t' q':Ak)(a b c x y z:R3),0<p->B3 a->B3 b->B3 c->B3 x->B3 y->B3 z->J.F 279 [.int p,BM t q a b c,BM t' q' x y z]=.ok (CU (mlR p a x y z) (mlR p b x y z) (mlR p c x y z))
theorem gH(J:Gam)(p:Ae)(t q t' q':Ak)(a b c x y z:R3)(p0:0<p)(ha:B3 a)(hb:B3 b)(hc:B3 c)(hx:B3 x)(hy:B3 y)(hz:B3 z):Pi.run J [.int p,BM t q a b c,BM t' q' x y z]=.ok (CU (mlR p a x y z) (mlR p b x y z) (mlR p c x y z)):=by
 have k:∀ {u v},Bd 300 u->Bd 300 v->FH u v=Ab:=λhu hv=>Jx hu hv (by decide) (by decide)
 have rg:DI 0 3=.ok [.int 0,.int 1,.int 2]:=by rfl
 have row:∀(r:R3)(s3 s4:Sl),B3 r->evE J [si p,sh (BM t q a b c),sh (BM t' q' x y z),s3,sh (Aq q r),Af,Af] (.comp Nu 5 (.rng (.int 3)) CO)=.ok (C8 (mlR p r x y z)):=λr s3 s4 hr=>by
  obtain⟨r0,r1,r2⟩:=EG q r;obtain⟨X0,X1,X2⟩:=O5 t' q' x y z;obtain⟨x0,x1,x2⟩:=EG q' x;obtain⟨y0,y1,y2⟩:=EG q' y;obtain⟨z0,z1,z2⟩:=EG q' z;have inner:∀(j:Ae)(u v w:Ae),BK (Aq q' x) (.int j)=.ok (.int u)->BK (Aq q' y) (.int j)=.ok (.int v)->BK (Aq q' z) (.int j)=.ok (.int w)->FH r.1 u=Ab->FH r.2.1 v=Ab->FH r.2.2 w=Ab->cF J [si p,sh (BM t q a b c),sh (BM t' q' x y z),s3,sh (Aq q r),Af,Af] 5 Nu (.int j)=.ok (.int ((r.1*u+r.2.1*v+r.2.2*w)%p)):=λj u v w hu hv hw b0 b1 b2=>by
   have ci:Ck (cG J [si p,sh (BM t q a b c),sh (BM t' q' x y z),s3,sh (Aq q r),si j,Af] 6 CO) (cF J [si p,sh (BM t q a b c),sh (BM t' q' x y z),s3,sh (Aq q r),si j,Af] 6 Ps) [.int 0,.int 1,.int 2]=.ok [.int (r.1*u),.int (r.2.1*v),.int (r.2.2*w)]:=by
    generalize Aq q r=rr at *;generalize Aq q' x=xx at *;generalize Aq q' y=yy at *;generalize Aq q' z=zz at *;generalize BM t' q' x y z=XX at *;simp[Ck,cG,cF,CO,Ps,r0,r1,r2,X0,X1,X2,hu,hv,hw,b0,b1,b2]
   have sm:biD .sum [.lst [.int (r.1*u),.int (r.2.1*v),.int (r.2.2*w)]]=.ok (.int (r.1*u+r.2.1*v+r.2.2*w)):=by
    show (Iw 0 [.int (r.1*u),.int (r.2.1*v),.int (r.2.2*w)]).bind (λi=>R.ok (D.int i))=_
    simp[Iw]
   generalize r.1*u+r.2.1*v+r.2.2*w=S at *;simp[cF,Nu,rg,ci,sm,p0]
  have i0:=inner 0 _ _ _ x0 y0 z0 (k hr.1 hx.1) (k hr.2.1 hy.1) (k hr.2.2 hz.1);have i1:=inner 1 _ _ _ x1 y1 z1 (k hr.1 hx.2.1) (k hr.2.1 hy.2.1) (k hr.2.2 hz.2.1);have i2:=inner 2 _ _ _ x2 y2 z2 (k hr.1 hx.2.2) (k hr.2.1 hy.2.2) (k hr.2.2 hz.2.2);have g:∀ d,cG J [si p,sh (BM t q a b c),sh (BM t' q' x y z),s3,sh (Aq q r),Af,Af] 5 CO d=.ok Ab:=λ_=>rfl
  have eq:C8 (mlR p r x y z)=.lst [.int ((r.1*x.1+r.2.1*y.1+r.2.2*z.1)%p),.int ((r.1*x.2.1+r.2.1*y.2.1+r.2.2*z.2.1)%p),.int ((r.1*x.2.2+r.2.1*y.2.2+r.2.2*z.2.2)%p)]:=by
   unfold C8 mlR Ay Ba A8 A7;simp only[BP]
  rw[eq];simp[rg,Ck,g,i0,i1,i2]
 have step:∀(r:R3)(acc:Ac D)(s4:Sl),B3 r->DC (acc.length+1)=Ab->Cd J 4 KG (Aq q r) [si p,sh (BM t q a b c),sh (BM t' q' x y z),Aa (.lst acc,Ab),s4,Af,Af]=.next [si p,sh (BM t q a b c),sh (BM t' q' x y z),Aa (.lst (acc++[C8 (mlR p r x y z)]),Ab),sh (Aq q r),Af,Af]:=λr acc s4 hr sz=>by
  have e:=row r (Aa (.lst acc,Ab)) s4 hr;show evSs J [si p,sh (BM t q a b c),sh (BM t' q' x y z),Aa (.lst acc,Ab),sh (Aq q r),Af,Af] KG=_;unfold KG;generalize C8 (mlR p r x y z)=Y_ at *;generalize Aq q r=rr at *;generalize BM t q a b c=AA at *;generalize BM t' q' x y z=XX at *;show (evS J _ (.app 3 _)).seq _=_;have o:Dm [si p,sh AA,sh XX,Aa (.lst acc,Ab),sh rr,Af,Af] 3=.ok acc:=rfl;rw[rY,o,O.of_ok,e,O.of_ok,Az sz];rfl
 have sq:=Sb t q a b c;have s1:=step a [] Af ha rfl;have s2:=step b [C8 (mlR p a x y z)] (sh (Aq q a)) hb rfl;have s3:=step c [C8 (mlR p a x y z),C8 (mlR p b x y z)] (sh (Aq q b)) hc rfl
 clear row step
 unfold CU;generalize C8 (mlR p a x y z)=Ya at *;generalize C8 (mlR p b x y z)=Yb at *;generalize C8 (mlR p c x y z)=Yc at *;generalize BM t q a b c=AA at *;generalize BM t' q' x y z=XX at *;generalize Aq q a=ra at *;generalize Aq q b=rb at *;generalize Aq q c=rc at *;have s1':Cd J 4 KG ra [si p,sh AA,sh XX,Aa (.lst [],Ab),Af,Af,Af]=.next [si p,sh AA,sh XX,Aa (.lst [Ya],Ab),sh ra,Af,Af]:=s1;have s2':Cd J 4 KG rb [si p,sh AA,sh XX,Aa (.lst [Ya],Ab),sh ra,Af,Af]=.next [si p,sh AA,sh XX,Aa (.lst [Ya,Yb],Ab),sh rb,Af,Af]:=s2;have s3':Cd J 4 KG rc [si p,sh AA,sh XX,Aa (.lst [Ya,Yb],Ab),sh rb,Af,Af]=.next [si p,sh AA,sh XX,Aa (.lst [Ya,Yb,Yc],Ab),sh rc,Af,Af]:=s3;simp[Pi,Df.run,Br,C2,sq,CM,s1',s2',s3']
noncomputable def PJ:E:=(.idx (.var 7) (.var 6))
noncomputable def Ny:E:=(.comp PJ 7 (.e (.var 5)) CO)
noncomputable def PV:Df:=⟨8,Ad,(.cons (.asgT [2,3,4] (.var 1)) (.cons (.asg 5 Ad (.lst (.cons (.call 232 (.cons (.var 0) (.cons (.var 3) (.cons (.var 4) .nil)))) (.cons (.call 232 (.cons (.var 0) (.cons (.var 4) (.cons (.var 2) .nil)))) (.cons (.call 232 (.cons (.var 0) (.cons (.var 2) (.cons (.var 3) .nil)))) .nil))))) (.cons (.ret (.comp Ny 6 (.rng (.int 3)) CO)) .nil)))⟩
def Ur(J:Gam):Prop:=∀(p:Ae)(t q:Ak)(a b c:R3),0<p->B3 a->B3 b->B3 c->J.F 280 [.int p,BM t q a b c]=.ok (CU (mdR p (bk0 a b c)) (mdR p (bk1 a b c)) (mdR p (bk2 a b c)))
theorem gJ(hc:lZ J)(p:Ae)(t q:Ak)(a b c:R3)(p0:0<p)(ha:B3 a)(hb:B3 b)(hcc:B3 c):PV.run J [.int p,BM t q a b c]=.ok (CU (mdR p (bk0 a b c)) (mdR p (bk1 a b c)) (mdR p (bk2 a b c))):=by
 have e1:=hc p q q b c p0 hb hcc;have e2:=hc p q q c a p0 hcc ha;have e3:=hc p q q a b p0 ha hb;have as:∀ Y:Rho,JA [2,3,4] (BM t q a b c) Y=.ok (((Y.set 2 (sh (Aq q a))).set 3 (sh (Aq q b))).set 4 (sh (Aq q c))):=λY=>by cases t<;>rfl
 have rg:DI 0 3=.ok [.int 0,.int 1,.int 2]:=by rfl
 obtain⟨x0,x1,x2⟩:=EG Ab (mdR p (crs b c));obtain⟨y0,y1,y2⟩:=EG Ab (mdR p (crs c a));obtain⟨z0,z1,z2⟩:=EG Ab (mdR p (crs a b));have out:CU (mdR p (bk0 a b c)) (mdR p (bk1 a b c)) (mdR p (bk2 a b c))=.lst [.lst [.int (mdR p (crs b c)).1,.int (mdR p (crs c a)).1,.int (mdR p (crs a b)).1],.lst [.int (mdR p (crs b c)).2.1,.int (mdR p (crs c a)).2.1,.int (mdR p (crs a b)).2.1],.lst [.int (mdR p (crs b c)).2.2,.int (mdR p (crs c a)).2.2,.int (mdR p (crs a b)).2.2]]:=rfl;rw[out]
 clear out
 generalize (mdR p (crs b c)).1=u0 at *;generalize (mdR p (crs b c)).2.1=u1 at *;generalize (mdR p (crs b c)).2.2=u2 at *;generalize (mdR p (crs c a)).1=v0 at *;generalize (mdR p (crs c a)).2.1=v1 at *;generalize (mdR p (crs c a)).2.2=v2 at *;generalize (mdR p (crs a b)).1=w0 at *;generalize (mdR p (crs a b)).2.1=w1 at *;generalize (mdR p (crs a b)).2.2=w2 at *;generalize Aq Ab (mdR p (crs b c))=X at *;generalize Aq Ab (mdR p (crs c a))=Y_ at *;generalize Aq Ab (mdR p (crs a b))=Z_ at *;generalize Aq q a=ra at *;generalize Aq q b=rb at *;generalize Aq q c=rc at *;generalize BM t q a b c=RR at *;have inner:∀(j u v w:Ae),BK X (.int j)=.ok (.int u)->BK Y_ (.int j)=.ok (.int v)->BK Z_ (.int j)=.ok (.int w)->cF J [si p,sh RR,sh ra,sh rb,sh rc,sh (.lst [X,Y_,Z_]),Af,Af] 6 Ny (.int j)=.ok (.lst [.int u,.int v,.int w]):=λj u v w hu hv hw=>by
  have ci:Ck (cG J [si p,sh RR,sh ra,sh rb,sh rc,sh (.lst [X,Y_,Z_]),si j,Af] 7 CO) (cF J [si p,sh RR,sh ra,sh rb,sh rc,sh (.lst [X,Y_,Z_]),si j,Af] 7 PJ) [X,Y_,Z_]=.ok [.int u,.int v,.int w]:=by
   simp[Ck,cG,cF,CO,PJ,hu,hv,hw]
  simp[cF,Ny,ci]
 have g:∀ d,cG J [si p,sh RR,sh ra,sh rb,sh rc,sh (.lst [X,Y_,Z_]),Af,Af] 6 CO d=.ok Ab:=λ_=>rfl
 have cp:Ck (cG J [si p,sh RR,sh ra,sh rb,sh rc,sh (.lst [X,Y_,Z_]),Af,Af] 6 CO) (cF J [si p,sh RR,sh ra,sh rb,sh rc,sh (.lst [X,Y_,Z_]),Af,Af] 6 Ny) [.int 0,.int 1,.int 2]=.ok [.lst [.int u0,.int v0,.int w0],.lst [.int u1,.int v1,.int w1],.lst [.int u2,.int v2,.int w2]]:=by
  simp[Ck,g,inner 0 _ _ _ x0 y0 z0,inner 1 _ _ _ x1 y1 z1,inner 2 _ _ _ x2 y2 z2]
 simp[PV,Df.run,Br,as,e1,e2,e3,rg,cp]
noncomputable def Pv:E:=(.idx (.idx (.var 2) (.var 7)) (.var 6))
noncomputable def Nr:E:=(.comp Pv 7 (.rng (.int 3)) CO)
noncomputable def Pe:Df:=⟨8,Ad,(.cons (.asg 2 Ad (.call 280 (.cons (.var 0) (.cons (.var 1) .nil)))) (.cons (.asg 3 Ad (.comp Nr 6 (.rng (.int 3)) CO)) (.cons (.asg 4 Ad (.call 279 (.cons (.var 0) (.cons (.call 279 (.cons (.var 0) (.cons (.var 3) (.cons (.lst (.cons (.lst (.cons (.int 0) (.cons (.int 0) (.cons (.un .USub (.int 1)) .nil)))) (.cons (.lst (.cons (.int 0) (.cons (.int 2) (.cons (.int 0) .nil)))) (.cons (.lst (.cons (.un .USub (.int 1)) (.cons (.int 0) (.cons (.int 0) .nil)))) .nil)))) .nil)))) (.cons (.var 2) .nil))))) (.cons (.asg 5 Ad (.bin .FloorDiv (.bin .Add (.var 0) (.int 1)) (.int 2))) (.cons (.ret (.call 288 (.cons (.var 0) (.cons (.lst (.cons (.bin .Mult (.idx (.idx (.var 4) (.int 0)) (.int 0)) (.var 5)) (.cons (.bin .Mult (.idx (.idx (.var 4) (.int 1)) (.int 1)) (.var 5)) (.cons (.bin .Mult (.idx (.idx (.var 4) (.int 2)) (.int 2)) (.var 5)) (.cons (.idx (.idx (.var 4) (.int 0)) (.int 1)) (.cons (.idx (.idx (.var 4) (.int 0)) (.int 2)) (.cons (.idx (.idx (.var 4) (.int 1)) (.int 2)) .nil))))))) .nil)))) .nil)))))⟩
noncomputable def C0p:C6:=⟨0,1,0,0,-1,0⟩
def tH(J:Gam):Prop:=∀(p:Ae)(a b c:R3),GoodR p a b c->∃ C:C6,InC p C/\Bb p C.l=Aa 1/\PrC p C (pb C0p (bk0 a b c) (bk1 a b c) (bk2 a b c))/\Whl p C/\J.F 292 [.int p,CU a b c]=.ok (Bt C)
theorem Rc(p0:0<p)(a:R3):In3 p (mdR p a):=⟨⟨AM _ (by omega),AI _ p0⟩,⟨AM _ (by omega),AI _ p0⟩,⟨AM _ (by omega),AI _ p0⟩⟩
noncomputable abbrev mj(p:Ae)(s:R3):R3:=mlR p s (0,0,-1) (0,2,0) (-1,0,0)
theorem oS(hb:Ur J)(hm:Uq J)(hf:N2 J)(p:Ae)(a b c:R3)(G:GoodR p a b c):∃ C:C6,InC p C/\Bb p C.l=Aa 1/\PrC p C (pb C0p (bk0 a b c) (bk1 a b c) (bk2 a b c))/\Whl p C/\Pe.run J [.int p,CU a b c]=.ok (Bt C):=by
 have hp:=G.p4;have p0:=hp.pos;have b3:∀ {r},In3 p r->B3 r:=λh=>(CW hp h).b3 (by decide)
 have e1:J.F 280 [.int p,CU a b c]=.ok (CU (mdR p (bk0 a b c)) (mdR p (bk1 a b c)) (mdR p (bk2 a b c))):=hb p Ad Ad a b c p0 (b3 G.ia) (b3 G.ib) (b3 G.ic);have i0   := Rc p0 (bk0 a b c);have i1   := Rc p0 (bk1 a b c);have i2   := Rc p0 (bk2 a b c);have g0:CgR p (mdR p (bk0 a b c)) (bk0 a b c):=CgR.md rfl;have g1:CgR p (mdR p (bk1 a b c)) (bk1 a b c):=CgR.md rfl;have g2:CgR p (mdR p (bk2 a b c)) (bk2 a b c):=CgR.md rfl;have cgB:CgC p (pb C0p (mdR p (bk0 a b c)) (mdR p (bk1 a b c)) (mdR p (bk2 a b c))) (pb C0p (bk0 a b c) (bk1 a b c) (bk2 a b c)):=RC CgC.rfl g0 g1 g2;have zB:Ap (bk0 a b c) (bk1 a b c) (bk2 a b c)%p≠0:=by rw[Ip];exact BL hp G.nz G.nz
 have w0:Whl p C0p:=by
  show Ap (tw0 C0p) (tw1 C0p) (tw2 C0p)%p≠0;have:Ap (tw0 C0p) (tw1 C0p) (tw2 C0p)=-2:=by decide
  rw[this];rcases hp with rfl|rfl|rfl|rfl<;>decide
 have wP:Whl p (pb C0p (bk0 a b c) (bk1 a b c) (bk2 a b c)):=W6 hp zB w0;generalize mdR p (bk0 a b c)=x at *;generalize mdR p (bk1 a b c)=y at *;generalize mdR p (bk2 a b c)=z at *;have k0:In3 p (Ba x y z):=⟨i0.1,i1.1,i2.1⟩;have k1:In3 p (A8 x y z):=⟨i0.2.1,i1.2.1,i2.2.1⟩;have k2:In3 p (A7 x y z):=⟨i0.2.2,i1.2.2,i2.2.2⟩;have sm:∀ v:Ae,-3<=v->v<=3->Bd 300 v:=λv h1 h2=>AH (by omega:v.natAbs<2 ^ 10) (Ej (by decide) (by decide))
 have M0:B3 (0,0,-1):=⟨sm _ (by decide) (by decide),sm _ (by decide) (by decide),sm _ (by decide) (by decide)⟩
 have M1:B3 (0,2,0):=⟨sm _ (by decide) (by decide),sm _ (by decide) (by decide),sm _ (by decide) (by decide)⟩
 have M2:B3 (-1,0,0):=⟨sm _ (by decide) (by decide),sm _ (by decide) (by decide),sm _ (by decide) (by decide)⟩
 have e2:J.F 279 [.int p,CU (Ba x y z) (A8 x y z) (A7 x y z),.lst [.lst [.int 0,.int 0,.int (-1)],.lst [.int 0,.int 2,.int 0],.lst [.int (-1),.int 0,.int 0]]]=.ok (CU (mj p (Ba x y z)) (mj p (A8 x y z)) (mj p (A7 x y z))):=hm p Ad Ad Ad Ad _ _ _ _ _ _ p0 (b3 k0) (b3 k1) (b3 k2) M0 M1 M2;have u0:=Mc p0 (Ba x y z) (0,0,-1) (0,2,0) (-1,0,0);have u1:=Mc p0 (A8 x y z) (0,0,-1) (0,2,0) (-1,0,0);have u2:=Mc p0 (A7 x y z) (0,0,-1) (0,2,0) (-1,0,0);have e3:J.F 279 [.int p,CU (mj p (Ba x y z)) (mj p (A8 x y z)) (mj p (A7 x y z)),CU x y z]=.ok (CU (mlR p (mj p (Ba x y z)) x y z) (mlR p (mj p (A8 x y z)) x y z) (mlR p (mj p (A7 x y z)) x y z)):=hm p Ad Ad Ad Ad _ _ _ _ _ _ p0 (b3 u0) (b3 u1) (b3 u2) (b3 i0) (b3 i1) (b3 i2);have rj:∀ s c':R3,Cg p (Ay c' (mj p s)%p) (bI C0p s c'):=λs c'=>by
  refine(Cg.md rfl).trans ((Gd CgR.rfl (X7 p s (0,0,-1) (0,2,0) (-1,0,0))).trans (Cg.of ?_));unfold rm Ba A8 A7 bI C0p ap tw0 tw1 tw2 Ay;simp only;grind
 have h2:2*((p+1)/2)=p+1:=by rcases hp with rfl|rfl|rfl|rfl<;>decide
 have hb1:0<=(p+1)/2/\(p+1)/2<=6:=by rcases hp with rfl|rfl|rfl|rfl<;>decide
 generalize hh:(p+1)/2=h at h2 hb1;have vv:∀ s:R3,Cg p (Ay s (mj p s)%p*h) (vI C0p s):=λs=>by
  refine((rj s s).mul Cg.rfl).trans ?_;rw[IS];have:2*vI C0p s*h=vI C0p s+p*vI C0p s:=by
   have e:2*vI C0p s*h=vI C0p s*(2*h):=by grind
   rw[e,h2];grind
  rw[this];exact Cg.far (vI C0p s) rfl
 have cg6:CgC p ⟨Ay (Ba x y z) (mj p (Ba x y z))%p*h,Ay (A8 x y z) (mj p (A8 x y z))%p*h,Ay (A7 x y z) (mj p (A7 x y z))%p*h,Ay (A8 x y z) (mj p (Ba x y z))%p,Ay (A7 x y z) (mj p (Ba x y z))%p,Ay (A7 x y z) (mj p (A8 x y z))%p⟩ (pb C0p (bk0 a b c) (bk1 a b c) (bk2 a b c)):=
  CgC.trans (D:=pb C0p x y z) ⟨vv _,vv _,vv _,rj _ _,rj _ _,rj _ _⟩ cgB
 have pr6:PrC p ⟨Ay (Ba x y z) (mj p (Ba x y z))%p*h,Ay (A8 x y z) (mj p (A8 x y z))%p*h,Ay (A7 x y z) (mj p (A7 x y z))%p*h,Ay (A8 x y z) (mj p (Ba x y z))%p,Ay (A7 x y z) (mj p (Ba x y z))%p,Ay (A7 x y z) (mj p (A8 x y z))%p⟩ (pb C0p (bk0 a b c) (bk1 a b c) (bk2 a b c)):=⟨1,hp.o1,cg6.trans (CgC.of (MN _).symm)⟩;obtain⟨l,el⟩:=fL (UU hp pr6 wP);obtain⟨t,C,it,eD,iC,lC,pC⟩:=XZ hp el;have e4:=hf p Ad _ l t hp el it;rw[eD]at e4;refine⟨C,iC,lC,pC.trans hp pr6,UU hp (pC.trans hp pr6) wP,?_⟩;have r00:0<=Ay (Ba x y z) (mj p (Ba x y z))%p/\Ay (Ba x y z) (mj p (Ba x y z))%p<p:=⟨AM _ (by omega),AI _ p0⟩
 have r11:0<=Ay (A8 x y z) (mj p (A8 x y z))%p/\Ay (A8 x y z) (mj p (A8 x y z))%p<p:=⟨AM _ (by omega),AI _ p0⟩
 have r22:0<=Ay (A7 x y z) (mj p (A7 x y z))%p/\Ay (A7 x y z) (mj p (A7 x y z))%p<p:=⟨AM _ (by omega),AI _ p0⟩
 have ph:=hp.hi;have q00:BK (CU (mlR p (mj p (Ba x y z)) x y z) (mlR p (mj p (A8 x y z)) x y z) (mlR p (mj p (A7 x y z)) x y z)) (.int 0)=.ok (.lst [.int (Ay (Ba x y z) (mj p (Ba x y z))%p),.int (Ay (A8 x y z) (mj p (Ba x y z))%p),.int (Ay (A7 x y z) (mj p (Ba x y z))%p)]):=rfl;have q11:BK (CU (mlR p (mj p (Ba x y z)) x y z) (mlR p (mj p (A8 x y z)) x y z) (mlR p (mj p (A7 x y z)) x y z)) (.int 1)=.ok (.lst [.int (Ay (Ba x y z) (mj p (A8 x y z))%p),.int (Ay (A8 x y z) (mj p (A8 x y z))%p),.int (Ay (A7 x y z) (mj p (A8 x y z))%p)]):=rfl;have q22:BK (CU (mlR p (mj p (Ba x y z)) x y z) (mlR p (mj p (A8 x y z)) x y z) (mlR p (mj p (A7 x y z)) x y z)) (.int 2)=.ok (.lst [.int (Ay (Ba x y z) (mj p (A7 x y z))%p),.int (Ay (A8 x y z) (mj p (A7 x y z))%p),.int (Ay (A7 x y z) (mj p (A7 x y z))%p)]):=rfl;have e4':J.F 288 [.int p,.lst [.int (Ay (Ba x y z) (mj p (Ba x y z))%p*h),.int (Ay (A8 x y z) (mj p (A8 x y z))%p*h),.int (Ay (A7 x y z) (mj p (A7 x y z))%p*h),.int (Ay (A8 x y z) (mj p (Ba x y z))%p),.int (Ay (A7 x y z) (mj p (Ba x y z))%p),.int (Ay (A7 x y z) (mj p (A8 x y z))%p)]]=.ok (Bt C):=e4;have t0:D.lst [.lst [.int x.1,.int y.1,.int z.1],.lst [.int x.2.1,.int y.2.1,.int z.2.1],.lst [.int x.2.2,.int y.2.2,.int z.2.2]]=CU (Ba x y z) (A8 x y z) (A7 x y z):=rfl;have b0:BK (CU x y z) (.int 0)=.ok (Aq Ad x):=rfl;have b1:BK (CU x y z) (.int 1)=.ok (Aq Ad y):=rfl;have b2:BK (CU x y z) (.int 2)=.ok (Aq Ad z):=rfl;obtain⟨x0,x1,x2⟩:=EG Ad x;obtain⟨y0,y1,y2⟩:=EG Ad y;obtain⟨z0,z1,z2⟩:=EG Ad z
 clear cg6 pr6 pC el eD e4 it cgB rj vv wP w0 zB
 generalize CU (mlR p (mj p (Ba x y z)) x y z) (mlR p (mj p (A8 x y z)) x y z) (mlR p (mj p (A7 x y z)) x y z)=MADE at *;generalize CU (mj p (Ba x y z)) (mj p (A8 x y z)) (mj p (A7 x y z))=MID at *;generalize Ay (Ba x y z) (mj p (Ba x y z))%p=n00 at *;generalize Ay (A8 x y z) (mj p (Ba x y z))%p=n01 at *;generalize Ay (A7 x y z) (mj p (Ba x y z))%p=n02 at *;generalize Ay (Ba x y z) (mj p (A8 x y z))%p=n10 at *;generalize Ay (A8 x y z) (mj p (A8 x y z))%p=n11 at *;generalize Ay (A7 x y z) (mj p (A8 x y z))%p=n12 at *;generalize Ay (Ba x y z) (mj p (A7 x y z))%p=n20 at *;generalize Ay (A8 x y z) (mj p (A7 x y z))%p=n21 at *;generalize Ay (A7 x y z) (mj p (A7 x y z))%p=n22 at *;have k00:D0 n00 h=Ab:=G0 (by omega) (by omega)
 have k11:D0 n11 h=Ab:=G0 (by omega) (by omega)
 have k22:D0 n22 h=Ab:=G0 (by omega) (by omega)
 rw[<-t0]at e2
 clear t0
 generalize CU x y z=BB at *;generalize Aq Ad x=xx at *;generalize Aq Ad y=yy at *;generalize Aq Ad z=zz at *;generalize x.1=x00 at *;generalize x.2.1=x01 at *;generalize x.2.2=x02 at *;generalize y.1=y00 at *;generalize y.2.1=y01 at *;generalize y.2.2=y02 at *;generalize z.1=z00 at *;generalize z.2.1=z01 at *;generalize z.2.2=z02 at *;generalize CU a b c=RR at *;generalize Bt C=cC at *;have rg:DI 0 3=.ok [.int 0,.int 1,.int 2]:=by rfl
 have inner:∀(j u v w:Ae),BK xx (.int j)=.ok (.int u)->BK yy (.int j)=.ok (.int v)->BK zz (.int j)=.ok (.int w)->cF J [si p,sh RR,sh BB,Af,Af,Af,Af,Af] 6 Nr (.int j)=.ok (.lst [.int u,.int v,.int w]):=λj u v w hu hv hw=>by
  have ci:Ck (cG J [si p,sh RR,sh BB,Af,Af,Af,si j,Af] 7 CO) (cF J [si p,sh RR,sh BB,Af,Af,Af,si j,Af] 7 Pv) [.int 0,.int 1,.int 2]=.ok [.int u,.int v,.int w]:=by
   simp[Ck,cG,cF,CO,Pv,b0,b1,b2,hu,hv,hw]
  simp[cF,Nr,rg,ci]
 have g:∀ d,cG J [si p,sh RR,sh BB,Af,Af,Af,Af,Af] 6 CO d=.ok Ab:=λ_=>rfl
 have cp:Ck (cG J [si p,sh RR,sh BB,Af,Af,Af,Af,Af] 6 CO) (cF J [si p,sh RR,sh BB,Af,Af,Af,Af,Af] 6 Nr) [.int 0,.int 1,.int 2]=.ok [.lst [.int x00,.int y00,.int z00],.lst [.int x01,.int y01,.int z01],.lst [.int x02,.int y02,.int z02]]:=by
  simp[Ck,g,inner 0 _ _ _ x0 y0 z0,inner 1 _ _ _ x1 y1 z1,inner 2 _ _ _ x2 y2 z2]
 simp[Pe,Df.run,Br,e1,rg,cp,e2,e3,hh,q00,q11,q22,g30,g31,g32,k00,k11,k22,e4']
noncomputable def Pu:E:=(.bin .Mod (.bin .Add (.var 9) (.bin .Mult (.var 8) (.var 10))) (.var 0))
noncomputable def Ie:Ss:=(.cons (.asg 5 Ad (.call 228 (.cons (.var 1) (.cons (.bin .Add (.var 2) (.var 4)) .nil)))) (.cons (.asg 6 Ad (.bin .Mod (.var 5) (.int 3))) (.cons (.asg 7 Ad (.bin .Mod (.bin .Add (.bin .Add (.var 6) (.int 1)) (.bin .Mod (.bin .FloorDiv (.var 5) (.int 3)) (.int 2))) (.int 3))) (.cons (.asg 8 Ad (.bin .Mod (.bin .FloorDiv (.var 5) (.int 6)) (.var 0))) (.cons (.put 3 (.var 6) (.compT Pu [9,10] (.zip (.idx (.var 3) (.var 6)) (.idx (.var 3) (.var 7))) CO)) (.cons (.ife (.cmp .Eq (.bin .Mod (.bin .FloorDiv (.var 5) (.int 100)) (.int 3)) (.int 1)) (.cons (.asg 3 Ab (.lst (.cons (.idx (.var 3) (.var 7)) (.cons (.idx (.var 3) (.var 6)) (.cons (.idx (.var 3) (.bin .Sub (.bin .Sub (.int 3) (.var 6)) (.var 7))) .nil))))) .nil) .nil) .nil))))))
noncomputable def Pt:E:=(.bin .Mod (.bin .Mult (.var 8) (.var 11)) (.var 0))
noncomputable def Pc:Df:=⟨12,Ad,(.cons (.asg 3 Ab (.lst (.cons (.lst (.cons (.int 1) (.cons (.int 0) (.cons (.int 0) .nil)))) (.cons (.lst (.cons (.int 0) (.cons (.int 1) (.cons (.int 0) .nil)))) (.cons (.lst (.cons (.int 0) (.cons (.int 0) (.cons (.int 1) .nil)))) .nil))))) (.cons (.fors 4 (.rng (.int 6)) Ie) (.cons (.asg 8 Ad (.bin .Add (.int 1) (.bin .Mod (.call 228 (.cons (.var 1) (.cons (.bin .Add (.var 2) (.int 6)) .nil))) (.bin .Sub (.var 0) (.int 1))))) (.cons (.put 3 (.int 0) (.comp Pt 11 (.e (.idx (.var 3) (.int 0))) CO)) (.cons (.ret (.var 3)) .nil)))))⟩
theorem qD{a b c:R3}(h:GoodR p a b c)(ij:Ij i j):∃(i':Ag)(x y a' b' c':R3),Dg (L3 a b c) i=.ok (C8 x)/\Dg (L3 a b c) j=.ok (C8 y)/\plD 3 i=Aa i'/\GoodR p a' b' c'/\(L3 a b c).set i' (C8 (adR p t x y))=L3 a' b' c':=by
 have p0:=h.p4.pos;rcases ij with ⟨rfl,rfl⟩|⟨rfl,rfl⟩|⟨rfl,rfl⟩|⟨rfl,rfl⟩|⟨rfl,rfl⟩|⟨rfl,rfl⟩
 .exact⟨0,a,b,_,_,_,rfl,rfl,rfl,h.of (k:=1) h.p4.o1 (cH p t a b c) ⟨Md p0 _ _ _,h.ib,h.ic⟩,rfl⟩
 .exact⟨0,a,c,_,_,_,rfl,rfl,rfl,h.of (k:=1) h.p4.o1 (cB p t a b c) ⟨Md p0 _ _ _,h.ib,h.ic⟩,rfl⟩
 .exact⟨1,b,a,_,_,_,rfl,rfl,rfl,h.of (k:=1) h.p4.o1 (cA p t a b c) ⟨h.ia,Md p0 _ _ _,h.ic⟩,rfl⟩
 .exact⟨1,b,c,_,_,_,rfl,rfl,rfl,h.of (k:=1) h.p4.o1 (bZ p t a b c) ⟨h.ia,Md p0 _ _ _,h.ic⟩,rfl⟩
 .exact⟨2,c,a,_,_,_,rfl,rfl,rfl,h.of (k:=1) h.p4.o1 (bY p t a b c) ⟨h.ia,h.ib,Md p0 _ _ _⟩,rfl⟩
 .exact⟨2,c,b,_,_,_,rfl,rfl,rfl,h.of (k:=1) h.p4.o1 (bX p t a b c) ⟨h.ia,h.ib,Md p0 _ _ _⟩,rfl⟩
theorem qC{a b c:R3}(h:GoodR p a b c)(ij:Ij i j):∃(x y z:R3),Dg (L3 a b c) j=.ok (C8 x)/\Dg (L3 a b c) i=.ok (C8 y)/\Dg (L3 a b c) (3-i-j)=.ok (C8 z)/\GoodR p x y z:=by
 rcases ij with ⟨rfl,rfl⟩|⟨rfl,rfl⟩|⟨rfl,rfl⟩|⟨rfl,rfl⟩|⟨rfl,rfl⟩|⟨rfl,rfl⟩
 .exact⟨b,a,c,rfl,rfl,rfl,h.of (k:=-1) h.p4.m1 (Cg.of (by unfold Ap det;grind)) ⟨h.ib,h.ia,h.ic⟩⟩
 .exact⟨c,a,b,rfl,rfl,rfl,h.of (k:=1) h.p4.o1 (Cg.of (by unfold Ap det;grind)) ⟨h.ic,h.ia,h.ib⟩⟩
 .exact⟨a,b,c,rfl,rfl,rfl,h⟩
 .exact⟨c,b,a,rfl,rfl,rfl,h.of (k:=-1) h.p4.m1 (Cg.of (by unfold Ap det;grind)) ⟨h.ic,h.ib,h.ia⟩⟩
 .exact⟨a,c,b,rfl,rfl,rfl,h.of (k:=-1) h.p4.m1 (Cg.of (by unfold Ap det;grind)) ⟨h.ia,h.ic,h.ib⟩⟩
 .exact⟨b,c,a,rfl,rfl,rfl,h.of (k:=1) h.p4.o1 (Cg.of (by unfold Ap det;grind)) ⟨h.ib,h.ic,h.ia⟩⟩
section
variable{J:Gam}{ns:Ac Ae}{p:Ae}{a b c:R3}{s2 s4 s5 s6 s7 s8:Sl}
theorem mT(hm:LV J 228 ns)(h:GoodR p a b c)(ha:0<=at_)(hk:0<=k):∃ a' b' c' v5 v6 v7 v8,GoodR p a' b' c'/\Cd J 4 Ie (.int k) [si p,sh (scr ns),si at_,Aa (.lst (L3 a b c),Ab),s4,s5,s6,s7,s8,Af,Af,Af]=.next [si p,sh (scr ns),si at_,Aa (.lst (L3 a' b' c'),Ab),si k,v5,v6,v7,v8,Af,Af,Af]:=by
 have p0:=h.p4.pos;have ph:=h.p4.hi;obtain⟨m,m0,e0⟩:=hm (at_+k) (by omega)
 generalize hi:m%3=i;generalize hj:(i+1+m/3%2)%3=j;have ij:=io hi hj;have t0:=AM (m/6) (b:=p) (by omega)
 have t1:=AI (m/6) p0;generalize ht:m/6%p=t at t0 t1;have mt:∀ x,D0 t x=Ab:=λx=>G0 (by omega) (by omega)
 obtain⟨i',x,y,a',b',c',gi,gj,pi,g',es⟩:=qD (t:=t) h ij;obtain⟨x2,y2,z2,f1,f2,f3,g2⟩:=qC g' ij;have pi':plD (L3 a b c).length i=Aa i':=pi;have e1:evSs J [si p,sh (scr ns),si at_,Aa (.lst (L3 a b c),Ab),si k,s5,s6,s7,s8,Af,Af,Af] (Ie.take 4)=.next [si p,sh (scr ns),si at_,Aa (.lst (L3 a b c),Ab),si k,si m,si i,si j,si t,Af,Af,Af]:=by
  simp[Ie,Ss.take,e0,hi,hj,ht,p0]
 have cp:Ck (cGT J [si p,sh (scr ns),si at_,Aa (.lst (L3 a b c),Ab),si k,si m,si i,si j,si t,Af,Af,Af] [9,10] CO) (cFT J [si p,sh (scr ns),si at_,Aa (.lst (L3 a b c),Ab),si k,si m,si i,si j,si t,Af,Af,Af] [9,10] Pu) (Gj [.int x.1,.int x.2.1,.int x.2.2] [.int y.1,.int y.2.1,.int y.2.2])=.ok [.int ((x.1+t*y.1)%p),.int ((x.2.1+t*y.2.1)%p),.int ((x.2.2+t*y.2.2)%p)]:=by
  generalize x.1=x0;generalize x.2.1=x1;generalize x.2.2=x2;generalize y.1=y0;generalize y.2.1=y1;generalize y.2.2=y2;simp[Ck,cGT,cFT,Gj,Pu,CO,p0,mt]
 have gi':Dg (L3 a b c) i=.ok (.lst [.int x.1,.int x.2.1,.int x.2.2]):=gi;have gj':Dg (L3 a b c) j=.ok (.lst [.int y.1,.int y.2.1,.int y.2.2]):=gj;have rd:D.lst [.int ((x.1+t*y.1)%p),.int ((x.2.1+t*y.2.1)%p),.int ((x.2.2+t*y.2.2)%p)]=C8 (adR p t x y):=rfl;have fin:∀ {o},evSs J [si p,sh (scr ns),si at_,Aa (.lst (L3 a b c),Ab),si k,si m,si i,si j,si t,Af,Af,Af] (Ie.drop 4)=o->Cd J 4 Ie (.int k) [si p,sh (scr ns),si at_,Aa (.lst (L3 a b c),Ab),s4,s5,s6,s7,s8,Af,Af,Af]=o:=λ{o} h=>by
  show evSs J [si p,sh (scr ns),si at_,Aa (.lst (L3 a b c),Ab),si k,s5,s6,s7,s8,Af,Af,Af] Ie=o;rw[Vt J 4,e1];exact h
 have sL:L3 x2 y2 z2=[C8 x2,C8 y2,C8 z2]:=rfl;by_cases q:m/100%3=1
 .refine⟨x2,y2,z2,si m,si i,si j,si t,g2,fin ?_⟩;rw[sL]
  clear e1 fin sL
  generalize L3 a b c=LL at *;generalize L3 a' b' c'=LM at *;generalize C8 x2=rx at *;generalize C8 y2=ry at *;generalize C8 z2=rz at *;generalize scr ns=S at *;simp[Ie,Ss.drop,MK,Dm,gi',gj',pi',cp,rd,es,q,f1,f2,f3,C2]
 .refine⟨a',b',c',si m,si i,si j,si t,g',fin ?_⟩
  clear e1 fin sL
  generalize L3 a b c=LL at *;generalize L3 a' b' c'=LM at *;generalize scr ns=S at *;simp[Ie,Ss.drop,MK,Dm,gi',gj',pi',cp,rd,es,q]
end
def tF(J:Gam)(ns:Ac Ae):Prop:=∀(p at_:Ae),P4 p->0<=at_->∃ a b c,GoodR p a b c/\J.F 250 [.int p,scr ns,.int at_]=.ok (CU a b c)
theorem qG(hm:LV J 228 ns)(p at_:Ae)(hp:P4 p)(ha:0<=at_):∃ a b c,GoodR p a b c/\Pc.run J [.int p,scr ns,.int at_]=.ok (CU a b c):=by
 have p0:=hp.pos;have g0:GoodR p e0R e1R e2R:=(rM hp).1;have rg:DI 0 6=.ok (Fc 0 6):=rfl;obtain⟨Y',e,a,b,c,s4,s5,s6,s7,s8,g,rfl⟩:=Vp (body:=Cd J 4 Ie) (λY=>∃ a b c s4 s5 s6 s7 s8,GoodR p a b c/\Y=[si p,sh (scr ns),si at_,Aa (.lst (L3 a b c),Ab),s4,s5,s6,s7,s8,Af,Af,Af]) (Fc 0 6) [si p,sh (scr ns),si at_,Aa (.lst (L3 e0R e1R e2R),Ab),Af,Af,Af,Af,Af,Af,Af,Af] ⟨_,_,_,_,_,_,_,_,g0,rfl⟩ (by
  rintro x hx Y ⟨a,b,c,s4,s5,s6,s7,s8,g,rfl⟩;obtain⟨k,_,rfl⟩:=kG hx;obtain⟨a',b',c',v5,v6,v7,v8,g',e⟩:=mT (s4:=s4) (s5:=s5) (s6:=s6) (s7:=s7) (s8:=s8) hm g ha (k:=0+(k:Ae)) (by omega)
  exact⟨_,e,a',b',c',_,_,_,_,_,g',rfl⟩)
 obtain⟨m,m0,e2⟩:=hm (at_+6) (by omega)
 have q1:0<p-1:=by have:=hp.lo;omega
 have q2:1<p:=by have:=hp.lo;omega
 have t0:0<1+m%(p-1):=by have:=AM m (b:=p-1) (by omega);omega
 have t1:1+m%(p-1)<p:=by have:=AI m q1;omega
 generalize ht:1+m%(p-1)=t at t0 t1;have tz:t%p≠0:=by rw[AT (by omega) t1];omega
 have mt:∀ x,D0 t x=Ab:=λx=>G0 (by omega) (by have:=hp.hi;omega)
 refine⟨scR p t a,b,c,g.of (k:=t) tz (dW p t a b c) ⟨fz p0 _ _,g.ib,g.ic⟩,?_⟩;have cp:Ck (cG J [si p,sh (scr ns),si at_,Aa (.lst (L3 a b c),Ab),s4,s5,s6,s7,si t,Af,Af,Af] 11 CO) (cF J [si p,sh (scr ns),si at_,Aa (.lst (L3 a b c),Ab),s4,s5,s6,s7,si t,Af,Af,Af] 11 Pt) [.int a.1,.int a.2.1,.int a.2.2]=.ok [.int (a.1*t%p),.int (a.2.1*t%p),.int (a.2.2*t%p)]:=by
  refine LF (φ:=λx=>x*t%p) [a.1,a.2.1,a.2.2] λx _=>⟨rfl,?_⟩
  simp[cF,Pt,mt,p0,BP]
 have e':CM (Cd J 4 Ie) (Fc 0 6) [si p,sh (scr ns),si at_,Aa (.lst [.lst [.int 1,.int 0,.int 0],.lst [.int 0,.int 1,.int 0],.lst [.int 0,.int 0,.int 1]],Ab),Af,Af,Af,Af,Af,Af,Af,Af]=_:=e;have g0':Dg (L3 a b c) 0=.ok (.lst [.int a.1,.int a.2.1,.int a.2.2]):=rfl;have pl:plD (L3 a b c).length 0=Aa 0:=rfl;have out:D.lst ((L3 a b c).set 0 (.lst [.int (a.1*t%p),.int (a.2.1*t%p),.int (a.2.2*t%p)]))=CU (scR p t a) b c:=rfl
 clear e
 rw[<-out]
 clear out
 generalize L3 a b c=LL at *;generalize Fc 0 6=RL at *;generalize scr ns=S at *;simp[Pc,Df.run,Br,C2,rg,e',e2,q1,q2,ht,MK,Dm,g0',pl,cp]
section
variable{p:Ae}{C:C6}{a b c A B P U l m:R3}
theorem swp(h:Ay U m%p=0):Ay m U%p=0:=by rw[KP];exact h
theorem U3(hp:P4 p)(d:Ap A B P%p≠0)(h1:Ay A m%p=0)(h2:Ay P m%p=0)(h3:Ap A P U%p=0):Ay U m%p=0:=by
 have e:Ap A B P*Ay U m=Ay A m*Ap U B P-Ay P m*Ap U B A-Ay B m*Ap A P U:=by
  unfold Ap det Ay;grind
 have q:Cg p (Ap A B P*Ay U m) 0:=by
  rw[e];have k1:Cg p (Ay A m*Ap U B P) 0:=by rw[BP];exact cg0 h1
  have k2:Cg p (Ay P m*Ap U B A) 0:=by rw[BP];exact cg0 h2
  have k3:Cg p (Ay B m*Ap A P U) 0:=cg0 h3;exact(k1.sub k2).sub k3
 have q':Ap A B P*Ay U m%p=0:=by rw[show _%p=0%p from q,Bw]
 exact(Il hp d).mp q'
theorem jV(hp:P4 p)(z:Ap a b c%p≠0)(w:Whl p C)(h:PrC p C (E4 0 (Iz p) a b c))(hA:A∈FI p C)(hB:B∈FI p C)(hU:U∈FI p C)(nAB:A≠B)(nAU:A≠U)(nBU:B≠U)(nl:NF p l)(pl:Pr p l (crs A B)):FOn p C A B (pole p C l) U/\NF p (pole p C l)/\HH p A B (pole p C l) U:=by
 obtain⟨nP,eP⟩:=pQ hp w nl;have nA:=(G1 hp).mp (Be.mp hA).1;have nB:=(G1 hp).mp (Be.mp hB).1;have vA:=AV (Be.mp hA).2;have vB:=AV (Be.mp hB).2;have vU:=AV (Be.mp hU).2;have lA:Ay A l%p=0:=(QH hp pl).mpr (by rw[(VV A B).1];exact Bw _)
 have lB:Ay B l%p=0:=(QH hp pl).mpr (by rw[(VV A B).2];exact Bw _)
 generalize pole p C l=P at *;have bA:bI C A P%p=0:=by rw[Jt];exact(Jy hp w nP).mp (by rw[eP];exact lA)
 have bB:bI C B P%p=0:=by rw[Jt];exact(Jy hp w nP).mp (by rw[eP];exact lB)
 have d1:Ap A B P%p≠0:=λe=>by
  have e1:Ay P l%p=0:=(QH hp pl).mpr e;have e2:bI C P P%p=0:=(Jy hp w nP).mp (by rw[eP];exact e1)
  rw[IS]at e2;have z2:(2:Ae)%p≠0:=by rcases hp with rfl|rfl|rfl|rfl<;>decide
  have vP:vI C P%p=0:=(Il hp z2).mp e2;have hP:P∈FI p C:=Be.mpr ⟨(G1 hp).mpr nP,CS vP⟩;have m1:=QM hp z w h hP;rw[eP]at m1;have a1:A∈K7 p C l:=(N6 hp).mpr ⟨hA,lA⟩;have b1:B∈K7 p C l:=(N6 hp).mpr ⟨hB,lB⟩;rw[m1]at a1 b1;exact nAB ((BA.mp a1).trans (BA.mp b1).symm)
 have d2:=pJ hp z h hA hB hU nAB nAU nBU;have tA:Ay A (pol p C A)%p=0:=(Jy hp w nA).mpr (by rw[IS,Bj,vA];simp)
 have tB:Ay B (pol p C B)%p=0:=(Jy hp w nB).mpr (by rw[IS,Bj,vB];simp)
 have pA:Ay P (pol p C A)%p=0:=(Jy hp w nA).mpr bA;have pB:Ay P (pol p C B)%p=0:=(Jy hp w nB).mpr bB;have d3:Ap A P U%p≠0:=λe=>by
  have e1:=U3 hp d1 tA pA e;have u1:U∈K7 p C (pol p C A):=(N6 hp).mpr ⟨hU,e1⟩;rw[QM hp z w h hA]at u1;exact nAU (BA.mp u1).symm
 have d1':Ap B A P%p≠0:=by
  have:Ap B A P=(-1)*Ap A B P:=by unfold Ap det;grind
  rw[this];exact BL hp hp.m1 d1
 have d4:Ap B P U%p≠0:=λe=>by
  have e1:=U3 hp d1' tB pB e;have u1:U∈K7 p C (pol p C B):=(N6 hp).mpr ⟨hU,e1⟩;rw[QM hp z w h hB]at u1;exact nBU (BA.mp u1).symm
 exact⟨⟨vA,vB,vU,bA,bB⟩,nP,d1,d2,d3,d4⟩
end
theorem UG{f0 f1 f2 f3:R3}(hp:P4 p)(g:HH p f0 f1 f2 f3):∃ a b c,GoodR p a b c/\Led p a b c e0R e1R e2R e3R f0 f1 f2 f3:=by
 obtain⟨g0,g1,g2,g3⟩:=g;have k0:Ap f3 f1 f2%p≠0:=by
  have:Ap f3 f1 f2=1*Ap f1 f2 f3:=by unfold Ap det;grind
  rw[this];exact BL hp hp.o1 g3
 have k1:Ap f0 f3 f2%p≠0:=by
  have:Ap f0 f3 f2=(-1)*Ap f0 f2 f3:=by unfold Ap det;grind
  rw[this];exact BL hp hp.m1 g2
 have k2:=g1;have cr:=Xf f0 f1 f2 f3;generalize Ap f3 f1 f2=x0 at *;generalize Ap f0 f3 f2=x1 at *;generalize Ap f0 f1 f3=x2 at *;have zz:Ap (Ba (AC x0 f0) (AC x1 f1) (AC x2 f2)) (A8 (AC x0 f0) (AC x1 f1) (AC x2 f2)) (A7 (AC x0 f0) (AC x1 f1) (AC x2 f2))%p≠0:=by
  rw[QP,KS];exact BL hp (BL hp (BL hp k0 k1) k2) g0
 obtain⟨l,t,_,_,tz,gd,_⟩:=NN hp zz;have key:∀(e f:R3)(k:Ae),k%p≠0->ap (Ba (AC x0 f0) (AC x1 f1) (AC x2 f2)) (A8 (AC x0 f0) (AC x1 f1) (AC x2 f2)) (A7 (AC x0 f0) (AC x1 f1) (AC x2 f2)) e=AC k f->Pr p f (ap (fmR p t (Ba (AC x0 f0) (AC x1 f1) (AC x2 f2))) (fmR p t (A8 (AC x0 f0) (AC x1 f1) (AC x2 f2))) (fmR p t (A7 (AC x0 f0) (AC x1 f1) (AC x2 f2))) e):=λe f k kz q=>by
  refine Pr.symm hp ((Pr.tab tz (EB p t _) (EB p t _) (EB p t _)).trans hp ?_);rw[q];exact⟨k,kz,CgR.rfl⟩
 refine⟨_,_,_,gd,key _ _ x0 k0 ?_,key _ _ x1 k1 ?_,key _ _ x2 k2 ?_,key _ _ (Ap f0 f1 f2) g0 ?_⟩
 .unfold ap Ay Ba A8 A7 AC e0R;simp
 .unfold ap Ay Ba A8 A7 AC e1R;simp
 .unfold ap Ay Ba A8 A7 AC e2R;simp
 .rw[cr];unfold ap Ay Ba A8 A7 AC e3R;simp
theorem jb(k:Ae)(a b c:R3):pb C0p a b c=scC (-1) (E4 0 k a b c):=by
 unfold pb C0p E4 Ks prd scC vI bI tw0 tw1 tw2 ap Ay Ba A8 A7;simp only[C6.mk.injEq];refine⟨?_,?_,?_,?_,?_,?_⟩<;>grind
theorem Yn{a b c:R3}(hp:P4 p)(h:PrC p C (pb C0p a b c)):PrC p C (E4 0 (Iz p) a b c):=by
 refine h.trans hp ⟨-1,hp.m1,CgC.of (jb _ a b c)⟩
noncomputable def Nb(p:Ae):Ac R3:=(GC p).map (mdR p)
theorem We(hp:P4 p):∀ x∈Nb p,x∈IB p/\vI C0p x%p=0:=by
 rcases hp with rfl|rfl|rfl|rfl<;>decide+kernel
theorem pX(hp:P4 p):∀ x∈IB p,vI C0p x%p=0->x∈Nb p:=by
 rcases hp with rfl|rfl|rfl|rfl<;>decide+kernel
theorem Uz(hp:P4 p)(x:R3):x∈Nb p↔NF p x/\vI C0p x%p=0:=
 ⟨λh=>⟨(G1 hp).mp (We hp x h).1,(We hp x h).2⟩,λh=>pX hp x ((G1 hp).mpr h.1) h.2⟩
theorem sH{p l l':Ae}{s:R3}(hp:P4 p)(er:Bb p (tri r)=Aa l)(es:Bb p (tri s)=Aa l')(h:CgR p r s):nrm p r=nrm p s:=by
 obtain⟨h1,h2⟩:=NV hp er;obtain⟨h3,h4⟩:=NV hp es;exact K1 hp h1 h3 ((h2.trans hp (Pr.cg hp h)).trans hp (h4.symm hp))
theorem lH{a b c:R3}(hp:P4 p)(z:Ap a b c%p≠0):((GC p).map λx=>nrm p (ap a b c x))=(Nb p).map λx=>nrm p (ap a b c x):=by
 unfold Nb;rw[E2];refine G8 λx hx=>?_
 obtain⟨l,el⟩:=(QF hp hx).2;have g:CgR p (mdR p x) x:=CgR.md rfl;have g':CgR p (ap a b c x) (ap a b c (mdR p x)):=OP CgR.rfl CgR.rfl CgR.rfl g.symm;obtain⟨l1,e1⟩:=MM hp z el (CgR.rfl (a:=ap a b c x));obtain⟨l2,e2⟩:=MM hp z el g'.symm;exact sH hp e1 e2 g'
noncomputable def NL:Df:=⟨3,Ad,(.cons (.ret (.lst (.cons (.idx (.var 2) (.int 0)) (.cons (.idx (.var 2) (.int 1)) (.cons (.call 149 (.cons (.var 0) (.cons (.var 1) (.cons (.call 57 (.cons (.var 0) (.cons (.idx (.var 2) (.int 0)) (.cons (.idx (.var 2) (.int 1)) .nil)))) .nil)))) (.cons (.idx (.var 2) (.int 2)) .nil)))))) .nil)⟩
def Wr(J:Gam):Prop:=∀{p:Ae}{a b c f0 f1 f2 f3 g0 g1 g2 g3:R3},GoodR p a b c->Bb p (nine a b c)=Aa 1->Frm p f0 f1 f2 f3->Frm p g0 g1 g2 g3->Led p a b c f0 f1 f2 f3 g0 g1 g2 g3->J.F 112 [.int p,D7 f0 f1 f2 f3,D7 g0 g1 g2 g3]=.ok (Cq a b c)
theorem lV(x:R3)(l:Ac R3):(l.map (Aq Ab)).any (λy=>eqD y (Aq Ab x))=decide (x∈l):=by
 induction l with
 |nil=>simp
 |cons y l ih=>
  rw[C3,JL,ih,WD,D8,CB,AO,AO,AO,Ax];exact or_congr ⟨Nq,Nq⟩ Iff.rfl
theorem IT(x:R3)(l:Ac R3):Cn .In (Aq Ab x) (At l)=.ok (.bl (decide (x∈l))):=by
 have k1:(l.map (Aq Ab)).all (flD 5)=Ab:=by
  rw[Ce];intro y hy;obtain⟨z,_,rfl⟩:=Dt.mp hy;exact(Wz z).1
 show (if (flD 5 (Aq Ab x)&&(l.map (Aq Ab)).all (flD 5))=Ab then R.ok (D.bl ((l.map (Aq Ab)).any λy=>eqD y (Aq Ab x))) else R.bad)=_
 rw[k1,(Wz x).1,Az (show (Ab&&Ab)=Ab from rfl),lV]
structure Fb (p:Ae) (C:C6) (A B P U:R3):Prop where
 nA:NF p A
 nB:NF p B
 nP:NF p P
 nU:NF p U
 ne:A≠B
 ne2:A≠U
 ne3:B≠U
 on:FOn p C A B P U
 gen:HH p A B P U
 ln:∃ l,NF p l/\Pr p l (crs A B)/\P=pole p C l
theorem X6(hj:MW J){a b c A B U:R3}(hp:P4 p)(z:Ap a b c%p≠0)(w:Whl p C)(h:PrC p C (E4 0 (Iz p) a b c))(hA:A∈FI p C)(hB:B∈FI p C)(hU:U∈FI p C)(n1:A≠B)(n2:A≠U)(n3:B≠U):∃ P,Fb p C A B P U:=by
 have nA:=(G1 hp).mp (Be.mp hA).1;have nB:=(G1 hp).mp (Be.mp hB).1;have nU:=(G1 hp).mp (Be.mp hU).1;obtain⟨l,nl,pl,_⟩:=V3 hj hp nA nB n1;obtain⟨f,nP,g⟩:=jV hp z w h hA hB hU n1 n2 n3 nl pl;exact⟨_,nA,nB,nP,nU,n1,n2,n3,f,g,l,nl,pl,rfl⟩
def Wt(J:Gam):Prop:=∀(p:Ae)(C:C6)(A B P U:R3),P4 p->InC p C->Whl p C->Fb p C A B P U->J.F 150 [.int p,Bt C,At [A,B,U]]=.ok (D7 A B P U)
theorem qV(hj:MW J)(hl:QV J)(p:Ae)(C:C6)(A B P U:R3)(hp:P4 p)(iC:InC p C)(w:Whl p C)(h:Fb p C A B P U):NL.run J [.int p,Bt C,At [A,B,U]]=.ok (D7 A B P U):=by
 obtain⟨l,nl,pl,rfl⟩:=h.ln;obtain⟨y,ny,py,e1⟩:=V3 hj hp h.nA h.nB h.ne;have q:y=l:=K1 hp ny nl (py.trans hp (pl.symm hp));rw[q]at e1;have e2:=hl p C l hp iC w nl;have i0:BK (At [A,B,U]) (.int 0)=.ok (Aq Ab A):=rfl;have i1:BK (At [A,B,U]) (.int 1)=.ok (Aq Ab B):=rfl;have i2:BK (At [A,B,U]) (.int 2)=.ok (Aq Ab U):=rfl;unfold D7;generalize At [A,B,U]=T at *;generalize Aq Ab A=ta at *;generalize Aq Ab B=tb at *;generalize Aq Ab U=tu at *;generalize Aq Ab l=tl at *;generalize Aq Ab (pole p C l)=tp at *;generalize Bt C=cC at *;simp[NL,Df.run,Br,i0,i1,i2,e1,e2]
noncomputable def J_8:Ss:=(.cons (.ife (.cmp .NotEq (.call 126 (.cons (.var 0) (.cons (.var 1) (.cons (.var 4) .nil)))) (.int 0)) (.cons (.rais 108 (.cons (.var 4) .nil)) .nil) .nil) (.cons (.ife (.cmp .In (.var 4) (.sl (.var 2) .non (.var 3))) (.cons (.rais 107 (.cons (.var 4) .nil)) .nil) .nil) .nil))
noncomputable def Ih:Df:=⟨5,Ad,(.cons (.forT [3,4] (.enm (.var 2)) J_8) .nil)⟩
noncomputable def Hf:Df:=⟨4,Ad,(.cons (.expr (.call 147 (.cons (.var 0) (.cons (.var 1) .nil)))) (.cons (.ife (.or (.cons (.cmp .NotEq (.bi .len (.cons (.var 2) .nil)) (.int 3)) (.cons (.cmp .NotEq (.bi .len (.cons (.var 3) .nil)) (.int 3)) .nil))) (.cons (.rais 13 (.cons (.str (By "three points are led to three")) .nil)) .nil) .nil) (.cons (.expr (.call 286 (.cons (.var 0) (.cons (.var 1) (.cons (.var 2) .nil))))) (.cons (.expr (.call 286 (.cons (.var 0) (.cons (.var 1) (.cons (.var 3) .nil))))) (.cons (.ret (.call 112 (.cons (.var 0) (.cons (.call 150 (.cons (.var 0) (.cons (.var 1) (.cons (.var 2) .nil)))) (.cons (.call 150 (.cons (.var 0) (.cons (.var 1) (.cons (.var 3) .nil)))) .nil))))) .nil)))))⟩
noncomputable def Lj:Ss:=(.cons (.asg 5 Ad (.bin .Mod (.call 228 (.cons (.var 0) (.cons (.bin .Add (.var 1) (.var 4)) .nil))) (.bin .Add (.bi .len (.cons (.var 3) .nil)) (.int 1)))) (.cons (.asg 3 Ad (.bin .Add (.bin .Add (.sl (.var 3) .non (.var 5)) (.lst (.cons (.idx (.var 2) (.var 4)) .nil))) (.sl (.var 3) (.var 5) .non))) .nil))
noncomputable def KD:Df:=⟨6,Ad,(.cons (.asg 3 Ad (.lst .nil)) (.cons (.fors 4 (.rng (.bi .len (.cons (.var 2) .nil))) Lj) (.cons (.ret (.var 3)) .nil)))⟩
def Ww(J:Gam):Prop:=∀(p:Ae)(C:C6)(A B P U:R3),P4 p->InC p C->Fb p C A B P U->J.F 286 [.int p,Bt C,At [A,B,U]]=.ok .non
theorem oY(hv:QT J)(p:Ae)(C:C6)(A B P U:R3)(hp:P4 p)(iC:InC p C)(h:Fb p C A B P U):Ih.run J [.int p,Bt C,At [A,B,U]]=.ok .non:=by
 have v0:=hv p C A hp iC h.nA.1;have v1:=hv p C B hp iC h.nB.1;have v2:=hv p C U hp iC h.nU.1;rw[h.on.vA]at v0;rw[h.on.vB]at v1;rw[h.on.vU]at v2;have s0:slD (At [A,B,U]) Af (Aa 0)=.ok (At []):=rfl;have s1:slD (At [A,B,U]) Af (Aa 1)=.ok (At [A]):=rfl;have s2:slD (At [A,B,U]) Af (Aa 2)=.ok (At [A,B]):=rfl;have c0:=IT A [];have c1:=IT B [A];have c2:=IT U [A,B];rw[BD (by simp)]at c0
 rw[BD (by simpa using h.ne.symm)]at c1
 rw[BD (by simpa using ⟨h.ne2.symm,h.ne3.symm⟩)]at c2
 have sq:C5 (At [A,B,U])=.ok [Aq Ab A,Aq Ab B,Aq Ab U]:=rfl;generalize At [A,B,U]=T at *;generalize At [A,B]=T2 at *;generalize At [A]=T1 at *;generalize At []=T0 at *;generalize Aq Ab A=ta at *;generalize Aq Ab B=tb at *;generalize Aq Ab U=tu at *;generalize Bt C=cC at *;simp[Ih,Df.run,Br,Fn,CM,Cd,IW,J_8,EH,sq,v0,v1,v2,s0,s1,s2,c0,c1,c2]
def Ws(J:Gam):Prop:=∀(p:Ae)(C:C6)(a b c A B P U A' B' P' U':R3),GoodR p a b c->Bb p (nine a b c)=Aa 1->InC p C->Whl p C->Fb p C A B P U->Fb p C A' B' P' U'->Led p a b c A B P U A' B' P' U'->J.F 287 [.int p,Bt C,At [A,B,U],At [A',B',U']]=.ok (Cq a b c)
theorem qN(hw:KW J)(ha:Ww J)(hf:Wt J)(hm:Wr J)(p:Ae)(C:C6)(a b c A B P U A' B' P' U':R3)(T:GoodR p a b c)(l1:Bb p (nine a b c)=Aa 1)(iC:InC p C)(wC:Whl p C)(fC:Fb p C A B P U)(fE:Fb p C A' B' P' U')(L:Led p a b c A B P U A' B' P' U'):Hf.run J [.int p,Bt C,At [A,B,U],At [A',B',U']]=.ok (Cq a b c):=by
 have hp:=T.p4;have e1:=hw p C hp iC wC;have e2:=ha p C A B P U hp iC fC;have e3:=ha p C A' B' P' U' hp iC fE;have e5:=hf p C A B P U hp iC wC fC;have e6:=hf p C A' B' P' U' hp iC wC fE;have e7:=hm T l1 ⟨fC.nA.1,fC.nB.1,fC.nP.1,fC.nU.1,fC.gen⟩ ⟨fE.nA.1,fE.nB.1,fE.nP.1,fE.nU.1,fE.gen⟩ L;have n1:biD .len [At [A,B,U]]=.ok (.int 3):=rfl;have n2:biD .len [At [A',B',U']]=.ok (.int 3):=rfl;generalize At [A,B,U]=R3 at *;generalize At [A',B',U']=R4 at *;generalize D7 A B P U=R5 at *;generalize D7 A' B' P' U'=R6 at *;generalize Cq a b c=R7 at *;generalize Bt C=cC at *;simp[Hf,Df.run,Br,e1,e2,e3,n1,n2,e5,e6,e7]
theorem kept{a b c A B P U A' B' P' U':R3}(T:GoodR p a b c)(w:Whl p C)(f:Fb p C A B P U)(f':Fb p C A' B' P' U')(L:Led p a b c A B P U A' B' P' U'):PrC p (pb C a b c) C:=hZ T.p4 T.nz w w f.gen.1 f.gen.2.1 f.on f'.on L.h0 L.h1 L.h2 L.h3
theorem U1{d:Ag}(h0:0<=i):Hj n d (Aa i)=min i.toNat n:=by
 show (if i<0 then _ else _)=_
 rw[AK (by omega)]
theorem Xy(M:Ac R3)(h0:0<=i):slD (At M) Af (Aa i)=.ok (At (M.take i.toNat)):=by
 show R.ok (D.lst (((M.map (Aq Ab)).drop 0).take (Hj (M.map (Aq Ab)).length (M.map (Aq Ab)).length (Aa i)-0)))=_;rw[U1 h0,YJ,Nat.sub_zero,BO];unfold At;rw[List.map_take]
 congr 2
 by_cases h:i.toNat<=M.length
 .rw[Y_0 h]
 .rw[Nat.min_eq_right (by omega),ES (by simp),ES (by simp;omega)]
theorem mF(M:Ac R3)(h0:0<=i)(h1:i.toNat<=M.length):slD (At M) (Aa i) Af=.ok (At (M.drop i.toNat)):=by
 show R.ok (D.lst (((M.map (Aq Ab)).drop (Hj (M.map (Aq Ab)).length 0 (Aa i))).take ((M.map (Aq Ab)).length-Hj (M.map (Aq Ab)).length 0 (Aa i))))=_;rw[U1 h0];unfold At;rw[List.map_drop,BO,Y_0 h1]
 congr 2
 exact ES (by simp)
theorem Up(X Y_:Ac R3)(h:X.length+Y_.length<=1000):DJ .Add (At X) (At Y_)=.ok (At (X++Y_)):=by
 show (if DC ((X.map (Aq Ab)).length+(Y_.map (Aq Ab)).length)=Ab then R.ok (D.lst (X.map (Aq Ab)++Y_.map (Aq Ab))) else R.bad)=_
 have z:DC ((X.map (Aq Ab)).length+(Y_.map (Aq Ab)).length)=Ab:=GI (by rw[BO,BO];omega)
 rw[Az z,<-IE];rfl
theorem jU(h:L[n]?=Aa x):BK (At L) (.int (n:Ae))=.ok (Aq Ab x):=by
 show Dg (L.map (Aq Ab)) (n:Ae)=_;exact Qu (by omega) (by rw[EY,DP,h];rfl)
def Wq(J:Gam)(ns:Ac Ae):Prop:=∀(at_:Ae)(L:Ac R3),0<=at_->L.length<=60->∃ M:Ac R3,M.Perm L/\J.F 251 [scr ns,.int at_,At L]=.ok (At M)
theorem oH(hm:LV J 228 ns){M:Ac R3}(ha:0<=at_)(hx:L[n]?=Aa x)(h5:M.length<=60){s4 s5:Sl}:∃(M':Ac R3)(v5:Sl),M'.Perm (M++[x])/\Cd J 4 Lj (.int (n:Ae)) [sh (scr ns),si at_,sh (At L),sh (At M),s4,s5]=.next [sh (scr ns),si at_,sh (At L),sh (At M'),si (n:Ae),v5]:=by
 obtain⟨m,m0,e⟩:=hm (at_+(n:Ae)) (by omega)
 have q0:=AM m (b:=(M.length:Ae)+1) (by omega)
 have q1:=AI m (b:=(M.length:Ae)+1) (by omega)
 have ln:biD .len [At M]=.ok (.int (M.length:Ae)):=Vm M;have lp:(0:Ae)<(M.length:Ae)+1:=by omega
 generalize hi:m%((M.length:Ae)+1)=i at *;have s1:=Xy M q0;have s2:=mF M q0 (by omega)
 have g:=jU hx;have a1:=Up (M.take i.toNat) [x] (by simp;omega)
 have a2:=Up (M.take i.toNat++[x]) (M.drop i.toNat) (by simp;omega)
 refine⟨(M.take i.toNat++[x])++M.drop i.toNat,si i,?_,?_⟩
 .have p1:((M.take i.toNat++[x])++M.drop i.toNat).Perm (x::(M.take i.toNat++M.drop i.toNat)):=by
   rw[List.append_assoc];exact List.perm_middle
  rw[GH]at p1;exact p1.trans (List.perm_append_singleton x M).symm
 .have rx:D.lst [Aq Ab x]=At [x]:=rfl;generalize (M.length:Ae)=N at *;generalize At L=TL at *;generalize At M=TM at *;generalize At (M.take i.toNat)=T1 at *;generalize At (M.drop i.toNat)=T2 at *;generalize At (M.take i.toNat++[x])=T3 at *;generalize At ((M.take i.toNat++[x])++M.drop i.toNat)=T4 at *;rw[<-rx]at a1;generalize Aq Ab x=tx at *;generalize scr ns=S at *;simp[Cd,Lj,e,ln,lp,hi,s1,s2,g,a1,a2]
theorem oG{S TL TM:D}{N:Ae}{RL:Ac D}{s4 s5:Sl}(ln:biD .len [TL]=.ok (.int N))(rg:DI 0 N=.ok RL)(e:CM (Cd J 4 Lj) RL [sh S,si at_,sh TL,sh (.lst []),Af,Af]=.next [sh S,si at_,sh TL,sh TM,s4,s5]):KD.run J [S,.int at_,TL]=.ok TM:=by
 have e1:evSs J [sh S,si at_,sh TL,Af,Af,Af] KD.body=Gh J (.cons (.ret (.var 3)) .nil) (CM (Cd J 4 Lj) RL [sh S,si at_,sh TL,sh (.lst []),Af,Af]):=by
  simp[KD,ln,rg]
 show O.ans Ad (evSs J [sh S,si at_,sh TL,Af,Af,Af] KD.body)=_;rw[e1,e];simp
theorem qI(hm:LV J 228 ns)(at_:Ae)(L:Ac R3)(ha:0<=at_)(hL:L.length<=60):∃ M:Ac R3,M.Perm L/\KD.run J [scr ns,.int at_,At L]=.ok (At M):=by
 have lp:=PN (body:=Cd J 4 Lj) (λn Y=>∃(M:Ac R3)(s4 s5:Sl),M.Perm (L.take n)/\Y=[sh (scr ns),si at_,sh (At L),sh (At M),s4,s5]) (Fc 0 L.length) 0 [sh (scr ns),si at_,sh (At L),sh (At []),Af,Af] ⟨[],Af,Af,by simp,rfl⟩ (by
  rintro n y hy Y ⟨M,s4,s5,pm,rfl⟩;obtain⟨hn,rfl⟩:=Qt hy;rw[GP]at pm;rw[Er,GP];have hx:L[n]?=Aa L[n]:=B8 hn;obtain⟨M',v5,pm',e⟩:=oH (s4:=s4) (s5:=s5) hm ha hx (M:=M) (by rw[pm.length_eq];simp;omega)
  refine⟨_,e,M',_,_,?_,rfl⟩;rw[List.take_succ,hx];exact pm'.trans (pm.append_right _))
 obtain⟨Y',e,M,s4,s5,pm,rfl⟩:=lp;rw[GP,Mw,List.take_length]at pm;refine⟨M,pm,?_⟩;have ln:biD .len [At L]=.ok (.int (L.length:Ae)):=Vm L;have rg:DI 0 (L.length:Ae)=.ok (Fc 0 ((L.length:Ae)-0).toNat):=Uu (by decide) (by decide) (by omega) (by omega)
 rw[JQ,EY]at rg;have e0:At []=.lst []:=rfl;rw[e0]at e;generalize (L.length:Ae)=N at *;generalize Fc 0 L.length=RL at *;generalize At L=TL at *;generalize At M=TM at *;generalize scr ns=S at *;exact oG ln rg e
theorem lI{a b c:R3}(hp:P4 p)(z:Ap a b c%p≠0)(h:PrC p C (pb C0p (bk0 a b c) (bk1 a b c) (bk2 a b c)))(y:R3):y∈((GC p).map λx=>nrm p (ap a b c x))↔NF p y/\vI C y%p=0:=by
 rw[lH hp z];constructor
 .intro hy;obtain⟨x,hx,rfl⟩:=Dt.mp hy;obtain⟨nx,vx⟩:=(Uz hp x).mp hx;exact⟨(He hp z nx).1,(WV hp z h nx).mpr vx⟩
 .rintro⟨ny,vy⟩;have zB:Ap (bk0 a b c) (bk1 a b c) (bk2 a b c)%p≠0:=by rw[Ip];exact BL hp z z
  have hb:=UB hp z ny;have nx:=(He hp zB ny).1;refine Dt.mpr ⟨nrm p (ap (bk0 a b c) (bk1 a b c) (bk2 a b c) y),(Uz hp _).mpr ⟨nx,?_⟩,hb⟩;rw[<-WV hp z h nx,hb];exact vy
theorem lJ(hp:P4 p):4<=(GC p).length/\(GC p).length<=60:=by
 rcases hp with rfl|rfl|rfl|rfl<;>decide+kernel
section
variable{J:Gam}{ns:Ac Ae}{p:Ae}
end
noncomputable def P0:Df:=⟨2,Ad,(.cons (.ife (.cmp .Eq (.var 0) (.var 1)) (.cons (.rais 107 (.cons (.var 0) .nil)) .nil) .nil) (.cons (.ret (.tup (.cons (.bin .Sub (.bin .Mult (.idx (.var 0) (.int 1)) (.idx (.var 1) (.int 2))) (.bin .Mult (.idx (.var 0) (.int 2)) (.idx (.var 1) (.int 1)))) (.cons (.bin .Sub (.bin .Mult (.idx (.var 0) (.int 2)) (.idx (.var 1) (.int 0))) (.bin .Mult (.idx (.var 0) (.int 0)) (.idx (.var 1) (.int 2)))) (.cons (.bin .Sub (.bin .Mult (.idx (.var 0) (.int 0)) (.idx (.var 1) (.int 1))) (.bin .Mult (.idx (.var 0) (.int 1)) (.idx (.var 1) (.int 0)))) .nil))))) .nil))⟩
theorem Uw(J:Gam)(a b:R3)(ha:B3 a)(hb:B3 b)(ne:a≠b):P0.run J [Aq Ab a,Aq Ab b]=.ok (Aq Ab (crs a b)):=by
 obtain⟨x0,x1,x2⟩:=EG Ab a;obtain⟨y0,y1,y2⟩:=EG Ab b;have k:∀ {u v},Bd 300 u->Bd 300 v->FH u v=Ab:=λhu hv=>Jx hu hv (by decide) (by decide)
 have f:∀ r:R3,flD 5 (Aq Ab r)=Ab:=λ_=>rfl
 have e:eqD (Aq Ab a) (Aq Ab b)=Ad:=by rw[WD];exact BD ne
 simp[P0,Df.run,Br,f,e,x0,x1,x2,y0,y1,y2,k ha.2.1 hb.2.2,k ha.2.2 hb.2.1,k ha.2.2 hb.1,k ha.1 hb.2.2,k ha.1 hb.2.1,k ha.2.1 hb.1];rfl
noncomputable def alk(a:R3):Ex:=⟨107,[(By "triple",Aq Ab a)]⟩
theorem zA(hp:P4 p)(h:In3 p a):mkX 107 "triple" [Aq Ab a]=.ok (alk a):=by
 have ph:=hp.hi;obtain⟨⟨x0,x1⟩,⟨y0,y1⟩,z0,z1⟩:=h;have e:xfD 1 (Aq Ab a)=Ab:=by
  show (Dr 3 8&&([D.int a.1,.int a.2.1,.int a.2.2].all (xfD 0)))=Ab;simp[xfD];omega
 show (if (xfD 1 (Aq Ab a)||xfD 2 (Aq Ab a))=Ab then R.ok (alk a) else .bad)=_
 rw[e];rfl
section
variable{J:Gam}{ns:Ac Ae}
theorem in1(b:Ak):biD .int [.bl b]=.ok (.int (if b=Ab then 1 else 0)):=by cases b<;>rfl
end
noncomputable def Nz:Df:=⟨4,Ab,(.cons (.expr (.call 147 (.cons (.var 0) (.cons (.var 1) .nil)))) (.cons (.expr (.bi .len .nil)) .nil))⟩
noncomputable def Lh:Df:=⟨3,Ad,(.cons (.expr (.call 147 (.cons (.var 0) (.cons (.var 1) .nil)))) (.cons (.expr (.call 147 (.cons (.var 0) (.cons (.var 2) .nil)))) (.cons (.expr (.bi .len .nil)) .nil)))⟩
noncomputable def NC:Df:=⟨2,Ad,(.cons (.asg 1 Ad (.bin .Mod (.var 1) (.bin .Add (.bin .Add (.bin .Mult (.var 0) (.var 0)) (.var 0)) (.int 1)))) (.cons (.ife (.cmp .Eq (.var 1) (.int 0)) (.cons (.ret (.tup (.cons (.int 0) (.cons (.int 0) (.cons (.int 1) .nil))))) .nil) .nil) (.cons (.ife (.cmp .LtE (.var 1) (.var 0)) (.cons (.ret (.tup (.cons (.int 0) (.cons (.int 1) (.cons (.bin .Sub (.var 1) (.int 1)) .nil))))) .nil) .nil) (.cons (.ret (.tup (.cons (.int 1) (.cons (.bin .FloorDiv (.bin .Sub (.bin .Sub (.var 1) (.var 0)) (.int 1)) (.var 0)) (.cons (.bin .Mod (.bin .Sub (.bin .Sub (.var 1) (.var 0)) (.int 1)) (.var 0)) .nil))))) .nil))))⟩
noncomputable def IQ:Df:=⟨2,Ad,(.cons (.asg 1 Ab (.lst (.cons (.isi (.var 0) [.verr]) .nil))) (.cons (.ife (.isi (.var 0) [.cls 14]) (.cons (.app 1 (.str (By "whole"))) .nil) .nil) (.cons (.ife (.isi (.var 0) [.cls 13]) (.cons (.app 1 (.str (By "count"))) .nil) .nil) (.cons (.ife (.isi (.var 0) [.cls 108]) (.cons (.app 1 (.tup (.cons (.str (By "on")) (.cons (.fld (.var 0) (By "triple")) .nil)))) .nil) .nil) (.cons (.ife (.isi (.var 0) [.cls 107]) (.cons (.app 1 (.tup (.cons (.str (By "alike")) (.cons (.fld (.var 0) (By "triple")) .nil)))) .nil) .nil) (.cons (.ret (.var 1)) .nil))))))⟩
noncomputable def HC:Df:=⟨6,Ad,(.cons (.asg 4 Ad (.lst .nil)) (.cons (.tryx (.cons (.ife (.cmp .Eq (.var 3) (.int 0)) (.cons (.expr (.call 287 (.cons (.var 0) (.cons (.var 1) (.cons (.idx (.var 2) (.int 0)) (.cons (.idx (.var 2) (.int 1)) .nil)))))) .nil) (.cons (.ife (.cmp .Eq (.var 3) (.int 1)) (.cons (.expr (.call 297 (.cons (.var 0) (.cons (.var 1) .nil)))) .nil) (.cons (.expr (.call 151 (.cons (.var 0) (.cons (.idx (.var 2) (.int 0)) (.cons (.idx (.var 2) (.int 1)) .nil))))) .nil)) .nil)) .nil) 0 5 (.cons (.asg 4 Ad (.call 299 (.cons (.var 5) .nil))) .nil)) (.cons (.ret (.var 4)) .nil)))⟩
noncomputable def Li:Df:=⟨7,Ad,(.cons (.asg 4 Ab (.sl (.call 251 (.cons (.var 1) (.cons (.bin .Add (.var 2) (.int 5)) (.cons (.var 3) .nil)))) .non (.idx (.lst (.cons (.int 3) (.cons (.int 3) (.cons (.int 3) (.cons (.int 3) (.cons (.int 2) (.cons (.int 4) .nil))))))) (.bin .Mod (.call 228 (.cons (.var 1) (.cons (.var 2) .nil))) (.int 6))))) (.cons (.asg 5 Ad (.bin .Mod (.call 228 (.cons (.var 1) (.cons (.bin .Add (.var 2) (.int 1)) .nil))) (.int 4))) (.cons (.asg 6 Ad (.bin .Mod (.call 228 (.cons (.var 1) (.cons (.bin .Add (.var 2) (.int 2)) .nil))) (.bi .len (.cons (.var 4) .nil)))) (.cons (.ife (.cmp .Eq (.var 5) (.int 1)) (.cons (.put 4 (.var 6) (.call 231 (.cons (.var 0) (.cons (.call 228 (.cons (.var 1) (.cons (.bin .Add (.var 2) (.int 3)) .nil))) .nil)))) .nil) .nil) (.cons (.ife (.cmp .Eq (.var 5) (.int 2)) (.cons (.put 4 (.var 6) (.idx (.var 4) (.bin .Mod (.call 228 (.cons (.var 1) (.cons (.bin .Add (.var 2) (.int 3)) .nil))) (.bi .len (.cons (.var 4) .nil))))) .nil) .nil) (.cons (.ret (.var 4)) .nil))))))⟩
noncomputable def J_7:Ss:=(.cons (.ife (.cmp .NotIn (.idx (.var 2) (.var 3)) (.var 0)) (.cons (.ret (.lst (.cons (.bl Ab) (.cons (.tup (.cons (.str (By "on")) (.cons (.idx (.var 2) (.var 3)) .nil))) .nil)))) .nil) .nil) (.cons (.ife (.cmp .In (.idx (.var 2) (.var 3)) (.sl (.var 2) .non (.var 3))) (.cons (.ret (.lst (.cons (.bl Ab) (.cons (.tup (.cons (.str (By "alike")) (.cons (.idx (.var 2) (.var 3)) .nil))) .nil)))) .nil) .nil) .nil))
noncomputable def NB:Ss:=(.cons (.fors 3 (.rng (.int 3)) J_7) .nil)
noncomputable def IP:Df:=⟨4,Ad,(.cons (.ife (.or (.cons (.cmp .NotEq (.bi .len (.cons (.idx (.var 1) (.int 0)) .nil)) (.int 3)) (.cons (.cmp .NotEq (.bi .len (.cons (.idx (.var 1) (.int 1)) .nil)) (.int 3)) .nil))) (.cons (.ret (.lst (.cons (.bl Ab) (.cons (.str (By "count")) .nil)))) .nil) .nil) (.cons (.fors 2 (.e (.var 1)) NB) (.cons (.ret (.lst .nil)) .nil)))⟩
noncomputable def Qf:Df:=⟨13,Ad,(.cons (.asg 1 Ad (.call 229 (.cons (.var 0) .nil))) (.cons (.asg 2 Ad (.call 250 (.cons (.var 1) (.cons (.var 0) (.cons (.int 1) .nil))))) (.cons (.asg 3 Ad (.call 292 (.cons (.var 1) (.cons (.var 2) .nil)))) (.cons (.asg 4 Ad (.call 290 (.cons (.var 1) (.cons (.var 2) .nil)))) (.cons (.asg 5 Ad (.lst (.cons (.call 301 (.cons (.var 1) (.cons (.var 0) (.cons (.int 10) (.cons (.var 4) .nil))))) (.cons (.call 301 (.cons (.var 1) (.cons (.var 0) (.cons (.int 40) (.cons (.var 4) .nil))))) .nil)))) (.cons (.asg 6 Ad (.lst (.cons (.bi .list (.cons (.idx (.var 5) (.int 0)) .nil)) (.cons (.bi .list (.cons (.idx (.var 5) (.int 1)) .nil)) .nil)))) (.cons (.ife (.or (.cons (.cmp .NotEq (.call 300 (.cons (.var 1) (.cons (.var 3) (.cons (.var 6) (.cons (.int 0) .nil))))) (.call 302 (.cons (.var 4) (.cons (.var 5) .nil)))) (.cons (.cmp .NotEq (.var 6) (.var 5)) .nil))) (.cons (.ret (.bl Ad)) .nil) .nil) (.cons (.asg 7 Ad (.call 231 (.cons (.var 1) (.cons (.call 228 (.cons (.var 0) (.cons (.int 8) .nil))) .nil)))) (.cons (.asgT [8,9,10] (.var 7)) (.cons (.asg 11 Ad (.call 288 (.cons (.var 1) (.cons (.lst (.cons (.bin .Mult (.var 8) (.var 8)) (.cons (.bin .Mult (.var 9) (.var 9)) (.cons (.bin .Mult (.var 10) (.var 10)) (.cons (.bin .Mult (.bin .Mult (.int 2) (.var 8)) (.var 9)) (.cons (.bin .Mult (.bin .Mult (.int 2) (.var 8)) (.var 10)) (.cons (.bin .Mult (.bin .Mult (.int 2) (.var 9)) (.var 10)) .nil))))))) .nil)))) (.cons (.asg 12 Ad (.lst (.cons (.bl Ab) (.cons (.str (By "whole")) .nil)))) (.cons (.ife (.or (.cons (.cmp .NotEq (.call 300 (.cons (.var 1) (.cons (.var 11) (.cons (.var 6) (.cons (.int 0) .nil))))) (.var 12)) (.cons (.cmp .NotEq (.call 300 (.cons (.var 1) (.cons (.var 11) (.cons (.lst .nil) (.cons (.int 1) .nil))))) (.var 12)) .nil))) (.cons (.ret (.bl Ad)) .nil) .nil) (.cons (.ret (.and (.cons (.cmp .Eq (.call 300 (.cons (.var 1) (.cons (.int 0) (.cons (.lst (.cons (.var 3) (.cons (.var 11) .nil))) (.cons (.int 2) .nil))))) (.var 12)) (.cons (.cmp .Eq (.call 300 (.cons (.var 1) (.cons (.int 0) (.cons (.lst (.cons (.var 11) (.cons (.var 3) .nil))) (.cons (.int 2) .nil))))) (.var 12)) .nil)))) .nil)))))))))))))⟩
section
variable{J:Gam}{ns:Ac Ae}{p:Ae}
noncomputable def dOn(x:D):D:=.lst [.bl Ab,.tup [.str "on",x]]
noncomputable def dAl(x:D):D:=.lst [.bl Ab,.tup [.str "alike",x]]
noncomputable def dCo:D:=.lst [.bl Ab,.str "count"]
noncomputable def dWh:D:=.lst [.bl Ab,.str "whole"]
def U83(J:Gam):Prop:=J.up 107=[107,0]/\J.up 108=[108,0]/\J.up 13=[13,0]/\J.up 14=[14,0]
theorem qP(u:U83 J)(X:D):IQ.run J [.exc 108 [("triple",X)]]=.ok (dOn X):=by
 obtain⟨u1,u2,u3,u4⟩:=u;simp[IQ,Df.run,Br,C2,kiD,Ef,Kn,u1,u2,u3,u4,Dm,DC,dOn]
theorem qR(u:U83 J)(X:D):IQ.run J [.exc 107 [("triple",X)]]=.ok (dAl X):=by
 obtain⟨u1,u2,u3,u4⟩:=u;simp[IQ,Df.run,Br,C2,kiD,Ef,Kn,u1,u2,u3,u4,Dm,DC,dAl]
theorem qQ(u:U83 J):IQ.run J [.exc 13 []]=.ok dCo:=by
 obtain⟨u1,u2,u3,u4⟩:=u;simp[IQ,Df.run,Br,C2,kiD,Ef,Kn,u1,u2,u3,u4,Dm,DC,dCo]
theorem qO(u:U83 J):IQ.run J [.exc 14 []]=.ok dWh:=by
 obtain⟨u1,u2,u3,u4⟩:=u;simp[IQ,Df.run,Br,C2,kiD,Ef,Kn,u1,u2,u3,u4,Dm,DC,dWh]
theorem oX{C L A B d:D}(i0:BK L (.int 0)=.ok A)(i1:BK L (.int 1)=.ok B)(h:J.F 287 [.int p,C,A,B]=.ok d):HC.run J [.int p,C,L,.int 0]=.ok (.lst []):=by
 simp[HC,Df.run,Br,i0,i1,h]
theorem N3{C L A B K:D}(hc:J.up c=[c,0])(i0:BK L (.int 0)=.ok A)(i1:BK L (.int 1)=.ok B)(h:J.F 287 [.int p,C,A,B]=.exn ⟨c,fs⟩)(k:J.F 299 [.exc c fs]=.ok K):HC.run J [.int p,C,L,.int 0]=.ok K:=by
 simp[HC,Df.run,Br,i0,i1,h,hc,k]
theorem kU{C L K:D}(hc:J.up c=[c,0])(h:J.F 297 [.int p,C]=.exn ⟨c,fs⟩)(k:J.F 299 [.exc c fs]=.ok K):HC.run J [.int p,C,L,.int 1]=.ok K:=by
 simp[HC,Df.run,Br,h,hc,k]
theorem UI{C L A B K:D}(hc:J.up c=[c,0])(i0:BK L (.int 0)=.ok A)(i1:BK L (.int 1)=.ok B)(h:J.F 151 [.int p,A,B]=.exn ⟨c,fs⟩)(k:J.F 299 [.exc c fs]=.ok K):HC.run J [.int p,C,L,.int 2]=.ok K:=by
 simp[HC,Df.run,Br,i0,i1,h,hc,k]
noncomputable def ntn(a:R3):Ex:=⟨108,[(By "triple",Aq Ab a)]⟩
theorem yZ(hp:P4 p)(h:In3 p a):mkX 108 "triple" [Aq Ab a]=.ok (ntn a):=by
 have ph:=hp.hi;obtain⟨⟨x0,x1⟩,⟨y0,y1⟩,z0,z1⟩:=h;have e:xfD 1 (Aq Ab a)=Ab:=by
  show (Dr 3 8&&([D.int a.1,.int a.2.1,.int a.2.2].all (xfD 0)))=Ab;simp[xfD];omega
 show (if (xfD 1 (Aq Ab a)||xfD 2 (Aq Ab a))=Ab then R.ok (ntn a) else .bad)=_
 rw[e];rfl
noncomputable def EI(p:Ae)(C:C6)(x y u:R3):Ao (Ak×R3):=
 if vI C x%p=0 then (if vI C y%p=0 then (if y∈[x] then Aa (Ad,y) else (if vI C u%p=0 then (if u∈[x,y] then Aa (Ad,u) else Af) else Aa (Ab,u))) else Aa (Ab,y)) else Aa (Ab,x)
noncomputable def exO:Ao (Ak×R3)->R D
 |some (Ab,x)=>.exn (ntn x)
 |some (Ad,x)=>.exn (alk x)
 |none=>.ok .non
def X83(J:Gam):Prop:=∀(p:Ae)(a:R3),P4 p->In3 p a->J.xn 108 [Aq Ab a]=.ok (ntn a)/\J.xn 107 [Aq Ab a]=.ok (alk a)
theorem fj(hx:X83 J)(hv:QT J)(C:C6)(x y u:R3)(hp:P4 p)(iC:InC p C)(nx:In3 p x)(ny:In3 p y)(nu:In3 p u):Ih.run J [.int p,Bt C,At [x,y,u]]=exO (EI p C x y u):=by
 have v0:=hv p C x hp iC nx;have v1:=hv p C y hp iC ny;have v2:=hv p C u hp iC nu;have x0:=hx p x hp nx;have x1:=hx p y hp ny;have x2:=hx p u hp nu;have s0:slD (At [x,y,u]) Af (Aa 0)=.ok (At []):=rfl;have s1:slD (At [x,y,u]) Af (Aa 1)=.ok (At [x]):=rfl;have s2:slD (At [x,y,u]) Af (Aa 2)=.ok (At [x,y]):=rfl;have c0:=IT x [];have c1:=IT y [x];have c2:=IT u [x,y];rw[BD (by simp)]at c0
 have sq:C5 (At [x,y,u])=.ok [Aq Ab x,Aq Ab y,Aq Ab u]:=rfl;generalize hA:ntn x=nx1 at *;generalize hB:ntn y=ny1 at *;generalize hC:ntn u=nu1 at *;generalize hD:alk y=ay1 at *;generalize hE:alk u=au1 at *;have fin:exO (EI p C x y u)=if vI C x%p=0 then (if vI C y%p=0 then (if y∈[x] then .exn ay1 else (if vI C u%p=0 then (if u∈[x,y] then .exn au1 else .ok .non) else .exn nu1)) else .exn ny1) else .exn nx1:=by
  unfold EI;rw[<-hA,<-hB,<-hC,<-hD,<-hE];split
  .split
   .split
    .rfl
    .split
     .split<;>rfl
     .rfl
   .rfl
  .rfl
 rw[fin]
 clear fin
 generalize vI C x%p=wx at *;generalize vI C y%p=wy at *;generalize vI C u%p=wu at *;generalize At [x,y,u]=T at *;generalize At [x,y]=T2 at *;generalize At [x]=T1 at *;generalize At []=T0 at *;generalize Aq Ab x=ta at *;generalize Aq Ab y=tb at *;generalize Aq Ab u=tu at *;generalize Bt C=cC at *;by_cases hx:wx=0
 .by_cases hy:wy=0
  .by_cases m1:y∈[x]
   .rw[Az hx,Az hy,Az m1];rw[CS m1]at c1;simp[Ih,Df.run,Br,Fn,CM,Cd,IW,J_8,EH,sq,v0,v1,s0,s1,c0,c1,hx,hy,x1]
   .rw[Az hx,Az hy,AK m1];rw[BD m1]at c1;by_cases hu:wu=0
    .by_cases m2:u∈[x,y]
     .rw[Az hu,Az m2];rw[CS m2]at c2;simp[Ih,Df.run,Br,Fn,CM,Cd,IW,J_8,EH,sq,v0,v1,v2,s0,s1,s2,c0,c1,c2,hx,hy,hu,x2]
     .rw[Az hu,AK m2];rw[BD m2]at c2;simp[Ih,Df.run,Br,Fn,CM,Cd,IW,J_8,EH,sq,v0,v1,v2,s0,s1,s2,c0,c1,c2,hx,hy,hu]
    .rw[AK hu];simp[Ih,Df.run,Br,Fn,CM,Cd,IW,J_8,EH,sq,v0,v1,v2,s0,s1,s2,c0,c1,hx,hy,hu,x2]
  .rw[Az hx,AK hy];simp[Ih,Df.run,Br,Fn,CM,Cd,IW,J_8,EH,sq,v0,v1,s0,c0,hx,hy,x1]
 .rw[AK hx];simp[Ih,Df.run,Br,Fn,CM,Cd,IW,J_8,EH,sq,v0,hx,x0]
theorem Ql(x:R3)(l:Ac R3):Cn .NotIn (Aq Ab x) (At l)=.ok (.bl (!decide (x∈l))):=by
 have h:=IT x l;have h:(if (flD 5 (Aq Ab x)&&(l.map (Aq Ab)).all (flD 5))=Ab then R.ok (D.bl ((l.map (Aq Ab)).any λy=>eqD y (Aq Ab x))) else .bad)=_:=h
 show (if (flD 5 (Aq Ab x)&&(l.map (Aq Ab)).all (flD 5))=Ab then R.ok (D.bl (!(l.map (Aq Ab)).any λy=>eqD y (Aq Ab x))) else .bad)=_
 split at h
 .rename_i hc;rw[Az hc]
  injection h with h
  injection h with h
  rw[h]
 .cases h
noncomputable def dcO(rest:D):Ao (Ak×R3)->D
 |some (Ab,x)=>dOn (Aq Ab x)
 |some (Ad,x)=>dAl (Aq Ab x)
 |none=>rest
noncomputable def rtO(Y:Rho):Ao (Ak×R3)->O
 |some (Ab,x)=>.ret (dOn (Aq Ab x)) Ab
 |some (Ad,x)=>.ret (dAl (Aq Ab x)) Ab
 |none=>.next Y
theorem in3(C:C6)(OL:Ac R3)(x y u:R3){LL:D}(hx:x∈OL↔vI C x%p=0)(hy:y∈OL↔vI C y%p=0)(hu:u∈OL↔vI C u%p=0):CM (Cd J 3 J_7) [.int 0,.int 1,.int 2] [sh (At OL),sh LL,sh (At [x,y,u]),s3]=rtO [sh (At OL),sh LL,sh (At [x,y,u]),si 2] (EI p C x y u):=by
 have i0:BK (At [x,y,u]) (.int 0)=.ok (Aq Ab x):=rfl;have i1:BK (At [x,y,u]) (.int 1)=.ok (Aq Ab y):=rfl;have i2:BK (At [x,y,u]) (.int 2)=.ok (Aq Ab u):=rfl;have s0:slD (At [x,y,u]) Af (Aa 0)=.ok (At []):=rfl;have s1:slD (At [x,y,u]) Af (Aa 1)=.ok (At [x]):=rfl;have s2:slD (At [x,y,u]) Af (Aa 2)=.ok (At [x,y]):=rfl;have c0:=IT x [];have c1:=IT y [x];have c2:=IT u [x,y];rw[BD (by simp)]at c0
 have n0:=Ql x OL;have n1:=Ql y OL;have n2:=Ql u OL;generalize hT:At [x,y,u]=T at *;have fin:rtO [sh (At OL),sh LL,sh T,si 2] (EI p C x y u)=if x∈OL then (if y∈OL then (if y∈[x] then .ret (dAl (Aq Ab y)) Ab else (if u∈OL then (if u∈[x,y] then .ret (dAl (Aq Ab u)) Ab else .next [sh (At OL),sh LL,sh T,si 2]) else .ret (dOn (Aq Ab u)) Ab)) else .ret (dOn (Aq Ab y)) Ab) else .ret (dOn (Aq Ab x)) Ab:=by
  unfold EI;by_cases h1:vI C x%p=0
  .rw[Az h1,Az (hx.mpr h1)];by_cases h2:vI C y%p=0
   .rw[Az h2,Az (hy.mpr h2)];split
    .rfl
    .by_cases h3:vI C u%p=0
     .rw[Az h3,Az (hu.mpr h3)];split<;>rfl
     .rw[AK h3,AK (λz=>h3 (hu.mp z))];rfl
   .rw[AK h2,AK (λz=>h2 (hy.mp z))];rfl
  .rw[AK h1,AK (λz=>h1 (hx.mp z))];rfl
 rw[fin]
 clear fin hx hy hu
 unfold dOn dAl;generalize At OL=TO at *;generalize At [x,y]=T2 at *;generalize At [x]=T1 at *;generalize At []=T0 at *;generalize Aq Ab x=ta at *;generalize Aq Ab y=tb at *;generalize Aq Ab u=tu at *;by_cases hx:x∈OL
 .rw[CS hx]at n0;rw[Az hx];by_cases hy:y∈OL
  .rw[CS hy]at n1;rw[Az hy];by_cases m1:y∈[x]
   .rw[CS m1]at c1;rw[Az m1];simp[CM,Cd,J_7,i0,i1,s0,s1,c0,c1,n0,n1,C2]
   .rw[BD m1]at c1;rw[AK m1];by_cases hu:u∈OL
    .rw[CS hu]at n2;rw[Az hu];by_cases m2:u∈[x,y]
     .rw[CS m2]at c2;rw[Az m2];simp[CM,Cd,J_7,i0,i1,i2,s0,s1,s2,c0,c1,c2,n0,n1,n2,C2]
     .rw[BD m2]at c2;rw[AK m2];simp[CM,Cd,J_7,i0,i1,i2,s0,s1,s2,c0,c1,c2,n0,n1,n2,C2]
    .rw[BD hu]at n2;rw[AK hu];simp[CM,Cd,J_7,i0,i1,i2,s0,s1,c0,c1,n0,n1,n2,C2]
  .rw[BD hy]at n1;rw[AK hy];simp[CM,Cd,J_7,i0,i1,s0,c0,n0,n1,C2]
 .rw[BD hx]at n0;rw[AK hx];simp[CM,Cd,J_7,i0,n0,C2]
theorem kS(O:D)(A B:Ac R3)(h:A.length≠3\/B.length≠3):IP.run J [O,.lst [At A,At B]]=.ok dCo:=by
 have i0:BK (.lst [At A,At B]) (.int 0)=.ok (At A):=rfl;have i1:BK (.lst [At A,At B]) (.int 1)=.ok (At B):=rfl;have l0:biD .len [At A]=.ok (.int A.length):=by unfold At;simp
 have l1:biD .len [At B]=.ok (.int B.length):=by unfold At;simp
 generalize (D.lst [At A,At B])=LL at *;generalize At A=TA at *;generalize At B=TB at *;unfold dCo;by_cases h1:A.length=3
 .have h2:¬ (B.length:Ae)=3:=by rcases h with h|h<;>omega
  simp[IP,Df.run,Br,i0,i1,l0,l1,h1,h2,C2]
 .have h2:¬ (A.length:Ae)=3:=by omega
  simp[IP,Df.run,Br,i0,l0,h2,C2]
theorem xY(C:C6)(OL:Ac R3)(x y u x' y' u':R3)(h:∀ z∈[x,y,u,x',y',u'],(z∈OL↔vI C z%p=0)):IP.run J [At OL,.lst [At [x,y,u],At [x',y',u']]]=.ok (dcO (dcO (.lst []) (EI p C x' y' u')) (EI p C x y u)):=by
 have i0:BK (.lst [At [x,y,u],At [x',y',u']]) (.int 0)=.ok (At [x,y,u]):=rfl;have i1:BK (.lst [At [x,y,u],At [x',y',u']]) (.int 1)=.ok (At [x',y',u']):=rfl;have l0:biD .len [At [x,y,u]]=.ok (.int 3):=rfl;have l1:biD .len [At [x',y',u']]=.ok (.int 3):=rfl;have sq:C5 (.lst [At [x,y,u],At [x',y',u']])=.ok [At [x,y,u],At [x',y',u']]:=rfl;have f1:∀ s3,_:=λs3=>in3 (J:=J) C OL x y u (LL:=.lst [At [x,y,u],At [x',y',u']]) (s3:=s3) (h x (by simp)) (h y (by simp)) (h u (by simp))
 have f2:∀ s3,_:=λs3=>in3 (J:=J) C OL x' y' u' (LL:=.lst [At [x,y,u],At [x',y',u']]) (s3:=s3) (h x' (by simp)) (h y' (by simp)) (h u' (by simp))
 have rg:DI 0 3=.ok [.int 0,.int 1,.int 2]:=rfl;generalize (D.lst [At [x,y,u],At [x',y',u']])=LL at *;generalize At [x,y,u]=TA at *;generalize At [x',y',u']=TB at *;generalize At OL=TO at *;generalize [D.int 0,D.int 1,D.int 2]=RL at *;cases e1:EI p C x y u with
 |none=>
  rw[e1]at f1;cases e2:EI p C x' y' u' with
  |none=>
   rw[e2]at f2;simp only[rtO]at f1 f2;simp[IP,Df.run,Br,i0,i1,l0,l1,sq,CM,Cd,NB,rg,f1,f2,dcO,C2]
  |some t=>
   obtain⟨b,z⟩:=t;rw[e2]at f2;cases b<;>simp only[rtO]at f1 f2<;>simp[IP,Df.run,Br,i0,i1,l0,l1,sq,CM,Cd,NB,rg,f1,f2,dcO,C2]
 |some t=>
  obtain⟨b,z⟩:=t;rw[e1]at f1;cases b<;>simp only[rtO]at f1<;>simp[IP,Df.run,Br,i0,i1,l0,l1,sq,CM,Cd,NB,rg,f1,dcO,C2]
end
noncomputable def r11(y:Ag):Ac R3:=(Cm 11).map fun(z:Ag)=>((1,(y:Ae),(z:Ae)):R3)
section
variable{p:Ae}{C D O W Z_:C6}{a b c x y z:R3}
end
section
variable{J:Gam}{ns:Ac Ae}{p:Ae}{C E:C6}{a b c:R3}
end
noncomputable def pl(p:Ae):C6:=⟨0,1,0,0,p-1,0⟩
theorem Vl(hp:P4 p)(h:NF p x):x=(0,0,1)\/(∃ z,x=(0,1,z))\/∃ y z,x=(1,y,z):=by
 obtain⟨n,_,_,rfl⟩:=XH hp h;unfold ptI;split
 .exact .inl rfl
 .split
  .exact .inr (.inl ⟨_,rfl⟩)
  .exact .inr (.inr ⟨_,_,rfl⟩)
theorem kH{a b:R3}(hp:P4 p)(ha:NF p a)(hb:NF p b):∃ l,Bb p (prd a b).l=Aa l:=by
 cases el:Bb p (prd a b).l with
 |some l=>exact⟨l,rfl⟩
 |none=>
  have hz:=LC.mp el;have no:∀ x∈(prd a b).l,x≠1:=λx hx e=>hp.o1 (e ▸ hz x hx)
  refine absurd ?_ (show ¬ (1:Ae)∈(prd a b).l from λh=>no 1 h rfl)
  rcases Vl hp ha with rfl|⟨z,rfl⟩|⟨y,z,rfl⟩<;>rcases Vl hp hb with rfl|⟨z',rfl⟩|⟨y',z',rfl⟩<;>simp[prd,C6.l]
theorem third{a b:R3}(hp:P4 p)(na:NF p a)(nb:NF p b)(ne:a≠b):∃ c,Ap a b c%p≠0:=by
 refine FJ λn=>?_
 have h:∀ c,Ap a b c%p=0:=λc=>FJ λz=>n ⟨c,z⟩
 have e:∀ c,Ay (crs a b) c%p=0:=λc=>by rw[VY];exact h c
 have c0:=e (1,0,0);have c1:=e (0,1,0);have c2:=e (0,0,1);unfold Ay at c0 c1 c2;simp only[ER,DK,Int.add_zero,Er]at c0 c1 c2;have z:CgR p (crs a b) (0,0,0):=⟨by show _%p=0%p;rw[c0,Bw],by show _%p=0%p;rw[c1,Bw],by show _%p=0%p;rw[c2,Bw]⟩
 exact ne (K1 hp nb na (Vw hp z na.2 nb.2)).symm
def NWh(p:Ae)(C:C6):Prop:=Ap (tw0 C) (tw1 C) (tw2 C)%p=0
def MX(J:Gam):Prop:=∀(p:Ae)(C:C6),P4 p->InC p C->NWh p C->J.F 147 [.int p,Bt C]=.exn ⟨14,[]⟩
theorem yE(hx:∀ es,J.xn 14 es=.ok ⟨14,[]⟩)(h:Yk J)(p:Ae)(C:C6)(hp:P4 p)(iC:InC p C)(z:NWh p C):Lo.run J [.int p,Bt C]=.exn ⟨14,[]⟩:=by
 have e:=h p C hp iC;rw[z]at e;generalize Bt C=cC at *;simp[Lo,Df.run,Br,e,hx]
section
variable{J:Gam}{ns:Ac Ae}{p:Ae}
noncomputable def NY:Df:=⟨3,Ad,(.cons (.asg 2 Ad (.call 65 (.cons (.var 0) (.cons (.var 1) .nil)))) (.cons (.ife (.cmp .IsNot (.var 2) .non) (.cons (.rais 118 (.cons (.var 2) .nil)) .nil) .nil) .nil))⟩
theorem oW{PP:D}(e:J.F 65 [.int p,PP]=.ok .non):NY.run J [.int p,PP]=.ok .non:=by
 simp[NY,Df.run,Br,e]
theorem ji{C E:C6}(h:PrC p C E)(z:Ap (tw0 E) (tw1 E) (tw2 E)=0):NWh p C:=by
 obtain⟨d,_,e⟩:=h;obtain⟨t0,t1,t2⟩:=L7 e;have k:=Ik t0 t1 t2;rw[N9,z,DK]at k;exact(show _%p=0%p from k).trans (Bw p)
theorem vC(l:R3):Ap (tw0 (prd l l)) (tw1 (prd l l)) (tw2 (prd l l))=0:=by
 unfold Ap det tw0 tw1 tw2 prd;grind
def QU(J:Gam):Prop:=∀(p n:Ae),P4 p->J.F 231 [.int p,.int n]=.ok (Aq Ab (ptI p (n%(p*p+p+1))))
def Rx(J:Gam)(ns:Ac Ae):Prop:=∀ k:Ae,0<=k->∃ m,0<=m/\J.F 228 [scr ns,.int k]=.ok (.int m)
def tG(J:Gam)(ns:Ac Ae):Prop:=∀(p at_:Ae)(OL:Ac R3),P4 p->0<=at_->4<=OL.length->OL.length<=60->(∀ x∈OL,NF p x)->∃ L:Ac R3,(∀ x∈L,NF p x)/\L.length<=4/\J.F 301 [.int p,scr ns,.int at_,At OL]=.ok (At L)
theorem qL(hm:Rx J ns)(ho:Wq J ns)(hq:QU J)(at_:Ae)(OL:Ac R3)(hp:P4 p)(a0:0<=at_)(l4:4<=OL.length)(l60:OL.length<=60)(nf:∀ x∈OL,NF p x):∃ L:Ac R3,(∀ x∈L,NF p x)/\L.length<=4/\Li.run J [.int p,scr ns,.int at_,At OL]=.ok (At L):=by
 obtain⟨M,pm,eM⟩:=ho (at_+5) OL (by omega) l60
 obtain⟨m0,q0,e0⟩:=hm at_ a0;obtain⟨m1,q1,e1⟩:=hm (at_+1) (by omega)
 obtain⟨m2,q2,e2⟩:=hm (at_+2) (by omega)
 obtain⟨m3,q3,e3⟩:=hm (at_+3) (by omega)
 have pt:=hq p m3 hp;have ptn:NF p (ptI p (m3%(p*p+p+1))):=RB hp (pN hp).2.1 (pN hp).2.2;generalize ptI p (m3%(p*p+p+1))=P at *;have lM:M.length=OL.length:=pm.length_eq;have nM:∀ x∈M,NF p x:=λx hx=>nf x (pm.mem_iff.mp hx)
 obtain⟨n,n2,n4,en⟩:∃ n:Ag,2<=n/\n<=4/\Dg [.int 3,.int 3,.int 3,.int 3,.int 2,.int 4] (m0%6)=.ok (.int n):=by
  have h0:=AM m0 (show (6:Ae)≠0 by decide)
  have h1:=AI m0 (show (0:Ae)<6 by decide)
  generalize m0%6=r at *;have:r=0\/r=1\/r=2\/r=3\/r=4\/r=5:=by omega
  rcases this with rfl|rfl|rfl|rfl|rfl|rfl
  .exact⟨3,by decide,by decide,rfl⟩
  .exact⟨3,by decide,by decide,rfl⟩
  .exact⟨3,by decide,by decide,rfl⟩
  .exact⟨3,by decide,by decide,rfl⟩
  .exact⟨2,by decide,by decide,rfl⟩
  .exact⟨4,by decide,by decide,rfl⟩
 have lt:(M.take n).length=n:=by rw[Gw];omega
 have nt:∀ x∈M.take n,NF p x:=λx hx=>nM x (List.mem_of_mem_take hx)
 have sl:=Xy M (i:=n) (by omega)
 rw[EY]at sl;have n0:(0:Ae)<n:=by omega
 have sp0:=AM m2 (show (n:Ae)≠0 by omega)
 have sp1:=AI m2 n0;have tp0:=AM m3 (show (n:Ae)≠0 by omega)
 have tp1:=AI m3 n0;have l0:((M.take n).map (Aq Ab)).length=n:=by rw[BO,lt]
 have pl:plD n (m2%n)=Aa (m2%n).toNat:=by
  unfold plD;rw[Az sp0,Az sp1]
 have pl3:plD ((M.take n).map (Aq Ab)).length (m3%n)=Aa (m3%n).toNat:=by
  rw[BO,lt];unfold plD;rw[Az tp0,Az tp1]
 have hj:(m3%n).toNat<(M.take n).length:=by rw[lt];omega
 have ix:Dg ((M.take n).map (Aq Ab)) (m3%n)=.ok (Aq Ab (M.take n)[(m3%n).toNat]):=by
  unfold Dg;rw[pl3];show (match ((M.take n).map (Aq Ab))[(m3%n).toNat]? with|some d=>R.ok d|none=>.bad)=_
  rw[DP,B8 hj];rfl
 have sl':slD (At M) Af (Aa (n:Ae))=.ok (.lst ((M.take n).map (Aq Ab))):=sl;have st:∀(k:Ag)(z:R3),((M.take n).map (Aq Ab)).set k (Aq Ab z)=((M.take n).set k z).map (Aq Ab):=λk z=>(List.map_set).symm
 have sn:∀(k:Ag)(z:R3),NF p z->∀ x∈(M.take n).set k z,NF p x:=λk z hz x hx=>by
  rcases YU hx with h|h
  .exact nt x h
  .rw[h];exact hz
 have h40:=AM m1 (show (4:Ae)≠0 by decide)
 generalize At OL=TO at *;generalize At M=TM at *;have n0':0<n:=by omega
 by_cases w1:m1%4=1
 .refine⟨(M.take n).set (m2%n).toNat P,sn _ _ ptn,by rw[Bc,lt];exact n4,?_⟩
  unfold At;rw[<-st];generalize (M.take n).map (Aq Ab)=TL at *;generalize Aq Ab P=PP at *;generalize scr ns=S at *;simp[Li,Df.run,Br,C2,eM,e0,e1,e2,e3,en,sl',slE,l0,n0',w1,MK,Dm,pl,pt]
 .by_cases w2:m1%4=2
  .refine⟨(M.take n).set (m2%n).toNat (M.take n)[(m3%n).toNat],sn _ _ (nt _ (Fh hj)),by rw[Bc,lt];exact n4,?_⟩
   unfold At;rw[<-st];generalize (M.take n)[(m3%n).toNat]=Z_ at *;generalize (M.take n).map (Aq Ab)=TL at *;generalize Aq Ab Z_=PP at *;generalize scr ns=S at *;simp[Li,Df.run,Br,C2,eM,e0,e1,e2,e3,en,sl',slE,l0,n0',w2,MK,Dm,pl,ix]
  .refine⟨M.take n,nt,by rw[lt];exact n4,?_⟩
   unfold At;generalize (M.take n).map (Aq Ab)=TL at *;generalize scr ns=S at *;simp[Li,Df.run,Br,C2,eM,e0,e1,e2,en,sl',slE,l0,n0',w1,w2,Dm]
theorem qM(hw:KW J)(hx:∀ es,J.xn 13 es=.ok ⟨13,[]⟩)(C:C6)(A B:Ac R3)(hp:P4 p)(iC:InC p C)(wC:Whl p C)(h:A.length≠3\/B.length≠3):Hf.run J [.int p,Bt C,At A,At B]=.exn ⟨13,[]⟩:=by
 have e1:=hw p C hp iC wC;have l0:biD .len [At A]=.ok (.int A.length):=by unfold At;simp
 have l1:biD .len [At B]=.ok (.int B.length):=by unfold At;simp
 generalize At A=TA at *;generalize At B=TB at *;generalize Bt C=cC at *;by_cases h1:A.length=3
 .have h2:¬ (B.length:Ae)=3:=by rcases h with h|h<;>omega
  simp[Hf,Df.run,Br,e1,l0,l1,h1,h2,hx]
 .have h2:¬ (A.length:Ae)=3:=by omega
  simp[Hf,Df.run,Br,e1,l0,h2,hx]
theorem xW(hw:KW J)(C:C6)(x y u x' y' u':R3)(hp:P4 p)(iC:InC p C)(wC:Whl p C)(h:J.F 286 [.int p,Bt C,At [x,y,u]]=.exn e):Hf.run J [.int p,Bt C,At [x,y,u],At [x',y',u']]=.exn e:=by
 have e1:=hw p C hp iC wC;have l0:biD .len [At [x,y,u]]=.ok (.int 3):=rfl;have l1:biD .len [At [x',y',u']]=.ok (.int 3):=rfl;generalize At [x,y,u]=TA at *;generalize At [x',y',u']=TB at *;generalize Bt C=cC at *;simp[Hf,Df.run,Br,e1,l0,l1,h]
theorem xV(hw:KW J)(C:C6)(x y u x' y' u':R3)(hp:P4 p)(iC:InC p C)(wC:Whl p C)(h0:J.F 286 [.int p,Bt C,At [x,y,u]]=.ok .non)(h:J.F 286 [.int p,Bt C,At [x',y',u']]=.exn e):Hf.run J [.int p,Bt C,At [x,y,u],At [x',y',u']]=.exn e:=by
 have e1:=hw p C hp iC wC;have l0:biD .len [At [x,y,u]]=.ok (.int 3):=rfl;have l1:biD .len [At [x',y',u']]=.ok (.int 3):=rfl;generalize At [x,y,u]=TA at *;generalize At [x',y',u']=TB at *;generalize Bt C=cC at *;simp[Hf,Df.run,Br,e1,l0,l1,h,h0]
theorem xU(hw:MX J)(C:C6)(A B:D)(hp:P4 p)(iC:InC p C)(wC:NWh p C):Hf.run J [.int p,Bt C,A,B]=.exn ⟨14,[]⟩:=by
 have e1:=hw p C hp iC wC;generalize Bt C=cC at *;simp[Hf,Df.run,Br,e1]
theorem wI(hw:MX J)(C:C6)(hp:P4 p)(iC:InC p C)(wC:NWh p C):Nz.run J [.int p,Bt C]=.exn ⟨14,[]⟩:=by
 have e1:=hw p C hp iC wC;generalize Bt C=cC at *;simp[Nz,Df.run,Br,e1]
theorem yB(hw:MX J)(C:C6)(B:D)(hp:P4 p)(iC:InC p C)(wC:NWh p C):Lh.run J [.int p,Bt C,B]=.exn ⟨14,[]⟩:=by
 have e1:=hw p C hp iC wC;generalize Bt C=cC at *;simp[Lh,Df.run,Br,e1]
theorem oV(hw:KW J)(hn:MX J)(C E:C6)(hp:P4 p)(iC:InC p C)(wC:Whl p C)(iE:InC p E)(nE:NWh p E):Lh.run J [.int p,Bt C,Bt E]=.exn ⟨14,[]⟩:=by
 have e1:=hw p C hp iC wC;have e2:=hn p E hp iE nE;generalize Bt C=cC at *;generalize Bt E=cE at *;simp[Lh,Df.run,Br,e1,e2]
structure A83 (J:Gam):Prop where
 co:∀(p:Ae)(C:C6)(A B:Ac R3),P4 p->InC p C->Whl p C->(A.length≠3\/B.length≠3)->J.F 287 [.int p,Bt C,At A,At B]=.exn ⟨13,[]⟩
 eA:∀(p:Ae)(C:C6)(x y u x' y' u':R3)(z:Ak×R3),P4 p->InC p C->Whl p C->In3 p x->In3 p y->In3 p u->EI p C x y u=Aa z->∀ e,exO (Aa z)=.exn e->J.F 287 [.int p,Bt C,At [x,y,u],At [x',y',u']]=.exn e
 eB:∀(p:Ae)(C:C6)(x y u x' y' u':R3)(z:Ak×R3),P4 p->InC p C->Whl p C->In3 p x->In3 p y->In3 p u->In3 p x'->In3 p y'->In3 p u'->EI p C x y u=Af->EI p C x' y' u'=Aa z->∀ e,exO (Aa z)=.exn e->J.F 287 [.int p,Bt C,At [x,y,u],At [x',y',u']]=.exn e
 kp:Ws J
 ki:∀ X,J.F 299 [.exc 108 [("triple",X)]]=.ok (dOn X)/\J.F 299 [.exc 107 [("triple",X)]]=.ok (dAl X)/\J.F 299 [.exc 13 []]=.ok dCo/\J.F 299 [.exc 14 []]=.ok dWh
 up:U83 J
 join:MW J
theorem Ug(h:EI p C x y u=Af):vI C x%p=0/\vI C y%p=0/\vI C u%p=0/\x≠y/\x≠u/\y≠u:=by
 unfold EI at h;split at h
 .rename_i h1;split at h
  .rename_i h2;split at h
   .cases h
   .rename_i h3;split at h
    .rename_i h4;split at h
     .cases h
     .rename_i h5;simp only[Ax,A1,Cc,Ei]at h3 h5;exact⟨h1,h2,h4,λz=>h3 z.symm,λz=>h5.1 z.symm,λz=>h5.2 z.symm⟩
    .cases h
  .cases h
 .cases h
noncomputable def JF(p:Ae)(C:C6):Ac R3->Ac R3->D
 |[x,y,u],[x',y',u']=>dcO (dcO (.lst []) (EI p C x' y' u')) (EI p C x y u)
 |_,_=>dCo
theorem PX(A B:Ac R3):(∃ x y u x' y' u',A=[x,y,u]/\B=[x',y',u'])\/((A.length≠3\/B.length≠3)/\∀ p C,JF p C A B=dCo):=by
  by_cases hA:A.length=3
  · by_cases hB:B.length=3
    · left
      match A,B,hA,hB with
      |[x,y,u],[x',y',u'],_,_=>exact⟨x,y,u,x',y',u',rfl,rfl⟩
    · right
      refine⟨.inr hB,λp C=>?_⟩
      unfold JF;split
      · exact absurd rfl hB
      · rfl
  · right
    refine⟨.inl hA,λp C=>?_⟩
    unfold JF;split
    · exact absurd rfl hA
    · rfl
theorem wH(h:A83 J){a b c:R3}(A B:Ac R3)(hp:P4 p)(z:Ap a b c%p≠0)(iC:InC p C)(wC:Whl p C)(pC:PrC p C (pb C0p (bk0 a b c) (bk1 a b c) (bk2 a b c)))(nA:∀ x∈A,NF p x)(nB:∀ x∈B,NF p x):HC.run J [.int p,Bt C,.lst [At A,At B],.int 0]=.ok (JF p C A B):=by
 have i0:BK (.lst [At A,At B]) (.int 0)=.ok (At A):=rfl;have i1:BK (.lst [At A,At B]) (.int 1)=.ok (At B):=rfl;obtain⟨u1,u2,u3,u4⟩:=h.up;rcases PX A B with ⟨x,y,u,x',y',u',rfl,rfl⟩|⟨hl,hd⟩
 .have nx:=nA x (by simp)
  have ny:=nA y (by simp)
  have nu:=nA u (by simp)
  have nx':=nB x' (by simp)
  have ny':=nB y' (by simp)
  have nu':=nB u' (by simp)
  have fin:∀(w:Ak×R3),(∀ e,exO (Aa w)=.exn e->J.F 287 [.int p,Bt C,At [x,y,u],At [x',y',u']]=.exn e)->∀ r,HC.run J [.int p,Bt C,.lst [At [x,y,u],At [x',y',u']],.int 0]=.ok (dcO r (Aa w)):=λw k r=>by
   obtain⟨b,w⟩:=w;cases b with
   |true=>exact N3 u2 i0 i1 (k _ rfl) (h.ki _).1
   |false=>exact N3 u1 i0 i1 (k _ rfl) (h.ki _).2.1
  show _=R.ok (dcO (dcO (.lst []) (EI p C x' y' u')) (EI p C x y u));cases e1:EI p C x y u with
  |some w=>exact fin w (h.eA p C x y u x' y' u' w hp iC wC nx.1 ny.1 nu.1 e1) _
  |none=>
   cases e2:EI p C x' y' u' with
   |some w=>exact fin w (h.eB p C x y u x' y' u' w hp iC wC nx.1 ny.1 nu.1 nx'.1 ny'.1 nu'.1 e1 e2) _
   |none=>
    have zB:Ap (bk0 a b c) (bk1 a b c) (bk2 a b c)%p≠0:=by rw[Ip];exact BL hp z z
    have mem:∀ {q},NF p q->vI C q%p=0->q∈FI p C:=λn v=>Be.mpr ⟨(G1 hp).mpr n,CS v⟩
    obtain⟨v1,v2,v3,d1,d2,d3⟩:=Ug e1;obtain⟨w1,w2,w3,g1,g2,g3⟩:=Ug e2;obtain⟨P,f⟩:=X6 h.join hp zB wC (Yn hp pC) (mem nx v1) (mem ny v2) (mem nu v3) d1 d2 d3;obtain⟨P',f'⟩:=X6 h.join hp zB wC (Yn hp pC) (mem nx' w1) (mem ny' w2) (mem nu' w3) g1 g2 g3;obtain⟨x0,x1,x2,Gx,Lx⟩:=UG hp f.gen;obtain⟨y0,y1,y2,Gy,Ly⟩:=UG hp f'.gen;obtain⟨m0,m1,m2,Gm,lm,Lm⟩:=jm hp Gx Gy Lx Ly;exact oX i0 i1 (h.kp p C m0 m1 m2 x y P u x' y' P' u' Gm lm iC wC f f' Lm)
 .rw[hd p C];exact N3 u3 i0 i1 (h.co p C A B hp iC wC hl) (h.ki .non).2.2.1
theorem xZ(OL A B:Ac R3)(hO:∀ x,x∈OL↔NF p x/\vI C x%p=0)(nA:∀ x∈A,NF p x)(nB:∀ x∈B,NF p x):IP.run J [At OL,.lst [At A,At B]]=.ok (JF p C A B):=by
 rcases PX A B with ⟨x,y,u,x',y',u',rfl,rfl⟩|⟨hl,hd⟩
 .refine xY C OL x y u x' y' u' λq hq=>?_
  have nq:NF p q:=by
   simp only[Ax,A1,Cc]at hq;rcases hq with rfl|rfl|rfl|rfl|rfl|rfl
   .exact nA _ (by simp)
   .exact nA _ (by simp)
   .exact nA _ (by simp)
   .exact nB _ (by simp)
   .exact nB _ (by simp)
   .exact nB _ (by simp)
  exact⟨λh=>((hO q).mp h).2,λh=>(hO q).mpr ⟨nq,h⟩⟩
 .rw[hd p C];exact kS _ A B hl
structure H83 (J:Gam) (ns:Ac Ae):Prop where
 prime:∃ p,P4 p/\J.F 229 [scr ns]=.ok (.int p)
 tb:tF J ns
 cv:tH J
 ov:zX J
 li:tG J ns
 as:∀(p:Ae)(C:C6)(a b c:R3)(A B:Ac R3),P4 p->Ap a b c%p≠0->InC p C->Whl p C->PrC p C (pb C0p (bk0 a b c) (bk1 a b c) (bk2 a b c))->(∀ x∈A,NF p x)->(∀ x∈B,NF p x)->J.F 300 [.int p,Bt C,.lst [At A,At B],.int 0]=.ok (JF p C A B)
 du:∀(p:Ae)(C:C6)(OL A B:Ac R3),(∀ x,x∈OL↔NF p x/\vI C x%p=0)->(∀ x∈A,NF p x)->(∀ x∈B,NF p x)->J.F 302 [At OL,.lst [At A,At B]]=.ok (JF p C A B)
 n0:∀(p:Ae)(C:C6)(A B:Ac R3),P4 p->InC p C->NWh p C->J.F 300 [.int p,Bt C,.lst [At A,At B],.int 0]=.ok dWh
 n1:∀(p:Ae)(C:C6),P4 p->InC p C->NWh p C->J.F 300 [.int p,Bt C,.lst [],.int 1]=.ok dWh
 n2:∀(p:Ae)(C E:C6),P4 p->InC p C->Whl p C->InC p E->NWh p E->J.F 300 [.int p,.int 0,.lst [Bt C,Bt E],.int 2]=.ok dWh
 n3:∀(p:Ae)(C E:C6),P4 p->InC p C->Whl p C->InC p E->NWh p E->J.F 300 [.int p,.int 0,.lst [Bt E,Bt C],.int 2]=.ok dWh
 pt:QU J
 mix:Rx J ns
 fm:N2 J
theorem dS(n:Ag)(A:Ac R3):flD (n+3) (At A)=Ab:=by
 show ((A.map (Aq Ab)).all (flD (n+2)))=Ab;rw[Ce];intro x hx;obtain⟨r,_,rfl⟩:=Dt.mp hx;rfl
theorem WG(r:D)(hr:flD 5 r=Ab)(w:Ao (Ak×R3)):flD 5 (dcO r w)=Ab:=by
 rcases w with _|⟨b,w⟩
 .exact hr
 .cases b<;>rfl
theorem yR(C:C6)(A B:Ac R3):flD 5 (JF p C A B)=Ab:=by
 rcases PX A B with ⟨x,y,u,x',y',u',rfl,rfl⟩|⟨hl,hd⟩
 .exact WG _ (WG _ rfl _) _
 .rw[hd];rfl
theorem yQ(h:H83 J ns):Qf.run J [scr ns]=.ok (.bl Ab):=by
 obtain⟨p,hp,e1⟩:=h.prime;obtain⟨a,b,c,G,e2⟩:=h.tb p 1 hp (by decide)
 obtain⟨C,iC,lC,pC,wC,e3⟩:=h.cv p a b c G;have e4:=h.ov p a b c G;have hL:=lI hp G.nz pC;have ll:4<=((GC p).map λx=>nrm p (ap a b c x)).length/\((GC p).map λx=>nrm p (ap a b c x)).length<=60:=by rw[BO];exact lJ hp
 obtain⟨A,nA,lA,e5⟩:=h.li p 10 _ hp (by decide) ll.1 ll.2 λx hx=>((hL x).mp hx).1
 obtain⟨B,nB,lB,e6⟩:=h.li p 40 _ hp (by decide) ll.1 ll.2 λx hx=>((hL x).mp hx).1
 have e7:=h.as p C a b c A B hp G.nz iC wC pC nA nB;have e8:=h.du p C _ A B hL nA nB;obtain⟨m,m0,e9⟩:=h.mix 8 (by decide)
 have e10:=h.pt p m hp;have nl:NF p (ptI p (m%(p*p+p+1))):=RB hp (pN hp).2.1 (pN hp).2.2;generalize ptI p (m%(p*p+p+1))=l at *;obtain⟨l0,el⟩:=kH hp nl nl;obtain⟨t,E,it,eE,iE,lE,pE⟩:=XZ hp el;have nE:=ji pE (vC l);have e11:=h.fm p Ad _ l0 t hp el it;rw[eE]at e11;have e12:=h.n0 p E A B hp iE nE;have e13:=h.n1 p E hp iE nE;have e14:=h.n2 p C E hp iC wC iE nE;have e15:=h.n3 p C E hp iC wC iE nE;have f1:=yR (p:=p) C A B;have f2:=NX 5 _ f1;have f3:flD 5 dWh=Ab:=rfl;have f4:=NX 5 _ f3;have f5:flD 5 (.lst [At A,At B])=Ab:=by
  show ([At A,At B].all (flD 4))=Ab;simp[dS 1]
 have f6:=NX 5 _ f5;have i0:BK (.lst [At A,At B]) (.int 0)=.ok (At A):=rfl;have i1:BK (.lst [At A,At B]) (.int 1)=.ok (At B):=rfl;have li:∀ X:Ac R3,biD .list [At X]=.ok (At X):=λX=>rfl
 have l1:=li A;have l2:=li B;have nlx:=nl.1;have ph:=hp.hi;obtain⟨x,y,z⟩:=l;have e10':J.F 231 [.int p,.int m]=.ok (.tup [.int x,.int y,.int z]):=e10;obtain⟨⟨x0,x1⟩,⟨y0,y1⟩,z0,z1⟩:=nlx;have x0:0<=x:=x0;have x1:x<p:=x1;have y0:0<=y:=y0;have y1:y<p:=y1;have z0:0<=z:=z0;have z1:z<p:=z1;have k:∀{u v:Ae},0<=u->u<100->0<=v->v<100->D0 u v=Ab:=λa b c d=>G0 (by omega) (by omega)
 have k1:=k x0 (by omega) x0 (by omega)
 have k2:=k y0 (by omega) y0 (by omega)
 have k3:=k z0 (by omega) z0 (by omega)
 have k4:=k (u:=2) (by decide) (by decide) x0 (by omega)
 have k5:=k (u:=2) (by decide) (by decide) y0 (by omega)
 have k6:=k (u:=2*x) (by omega) (by omega) y0 (by omega)
 have k7:=k (u:=2*x) (by omega) (by omega) z0 (by omega)
 have k8:=k (u:=2*y) (by omega) (by omega) z0 (by omega)
 have e11':J.F 288 [.int p,.lst [.int (x*x),.int (y*y),.int (z*z),.int (2*x*y),.int (2*x*z),.int (2*y*z)]]=.ok (Bt E):=by
  have q:(prd (x,y,z) (x,y,z)).l=[x*x,y*y,z*z,2*x*y,2*x*z,2*y*z]:=by
   show [x*x,y*y,z*z,x*y+y*x,x*z+z*x,y*z+z*y]=_;rw[show x*y+y*x=2*x*y by grind,show x*z+z*x=2*x*z by grind,show y*z+z*y=2*y*z by grind]
  rw[q]at e11;exact e11
 have d1:dWh=.lst [.bl Ab,.str "whole"]:=rfl;rw[d1]at f3 f4 e12 e13 e14 e15
 clear e11 e10 hL el eE pE nE
 generalize hLL:D.lst [At A,At B]=LL at *;generalize JF p C A B=DV at *;generalize At ((GC p).map λx=>nrm p (ap a b c x))=OO at *
 generalize At A=TA at *;generalize At B=TB at *;generalize Bt C=cC at *;generalize Bt E=cE at *;generalize CU a b c=RR at *;generalize scr ns=S at *;simp[Qf,Df.run,Br,e1,e2,e3,e4,e5,e6,hLL,i0,i1,l1,l2,e7,e8,f1,f2,f5,f6,e9,e10',JA,EH,Fa,k1,k2,k3,k4,k5,k6,k7,k8,e11',e12,e13,e14,e15,f3,f4]
end
noncomputable def cZ:Ag->Ac Ag
 |0=>[0]
 |2=>[2,0]
 |3=>[3,0]
 |4=>[4,0]
 |13=>[13,0]
 |14=>[14,0]
 |107=>[107,0]
 |108=>[108,0]
 |118=>[118,0]
 |_=>[]
noncomputable def Sf:Ag->Ac D->R Ex
 |2,_=>.ok ⟨2,[]⟩
 |3,_=>.ok ⟨3,[]⟩
 |4,_=>.ok ⟨4,[]⟩
 |13,_=>.ok ⟨13,[]⟩
 |14,_=>.ok ⟨14,[]⟩
 |107,ds=>mkX 107 "triple" ds
 |108,ds=>mkX 108 "triple" ds
 |118,ds=>mkX 118 "points" ds
 |_,_=>.bad
noncomputable def Q83:Prg:=⟨Ab,fun
 |1=>Ro
 |9=>Nw
 |17=>NK
 |23=>P0
 |57=>Rs
 |61=>Qd
 |65=>Mx
 |109=>NY
 |104=>Qg
 |91=>Qc
 |78=>PU
 |98=>Ph
 |92=>RW
 |105=>QR
 |106=>Py
 |126=>QQ
 |131=>PB
 |136=>MD
 |110=>Qy
 |111=>PK
 |112=>Mz
 |147=>Lo
 |148=>PC
 |149=>Rr
 |150=>NL
 |286=>Ih
 |287=>Hf
 |228=>ND
 |229=>Pd
 |288=>PH
 |232=>Pf
 |233=>Qe
 |250=>Pc
 |289=>Pz
 |290=>Nx
 |251=>KD
 |279=>Pi
 |280=>PV
 |292=>Pe
 |297=>Nz
 |151=>Lh
 |231=>NC
 |299=>IQ
 |300=>HC
 |301=>Li
 |302=>IP
 |303=>Qf
 | _=>⟨0,Ad,.nil⟩,λ_=>.non,cZ,Sf⟩
theorem ig(ns:Ac Ae):(gam Q83 10).F 303 [scr ns]=.ok (.bl Ab):=by
 have gF:∀ n i ds,(gam Q83 (n+1)).F i ds=(Q83.defs i).run (gam Q83 n) ds:=λ_ _ _=>rfl
 have d65:Q83.defs 65=Mx:=rfl;have d109:Q83.defs 109=NY:=rfl;have d112:Q83.defs 112=Mz:=rfl;have d150:Q83.defs 150=NL:=rfl;have d286:Q83.defs 286=Ih:=rfl;have d287:Q83.defs 287=Hf:=rfl;have d297:Q83.defs 297=Nz:=rfl;have d151:Q83.defs 151=Lh:=rfl;have d299:Q83.defs 299=IQ:=rfl;have d300:Q83.defs 300=HC:=rfl;have d301:Q83.defs 301=Li:=rfl;have d302:Q83.defs 302=IP:=rfl;have d290:Q83.defs 290=Nx:=rfl;have d251:Q83.defs 251=KD:=rfl;have d147:Q83.defs 147=Lo:=rfl;have d231:Q83.defs 231=NC:=rfl;have rs:∀ n,Ke (gam Q83 (n+1)):=λn=>xN _
 have mi:∀ n,LV (gam Q83 (n+1)) 228 ns:=λn=>xS _ ns
 have tu:∀ n,Qi (gam Q83 (n+2)):=λn=>gG (rs n)
 have fo:∀ n,N1 (gam Q83 (n+3)):=λn p b xs l t hp e it=>qS (rs (n+1)) (tu n) hp e it
 have me:∀ n,LG (gam Q83 (n+2)):=λn=>qK (rs n)
 have tf:∀ n,MV (gam Q83 (n+4)):=λn=>xL (me (n+1)) (fo n)
 have co:∀ n,Ol (gam Q83 (n+1)):=λn=>yA _
 have su:∀ n,Rw (gam Q83 (n+2)):=λn=>xM (rs n)
 have cr:∀ n,Wu (gam Q83 (n+2)):=λn=>oU (Uw _)
 have ba:∀ n,Ry (gam Q83 (n+5)):=λn=>yC (cr (n+2)) (co (n+3)) (tf n)
 have af:∀ n,Wx (gam Q83 (n+5)):=λn=>oZ (co (n+3)) (su (n+2)) (tf n)
 have ft:∀ n,Ts (gam Q83 (n+5)):=λn=>dP (me (n+2)) (kP _) (co (n+3)) (tf n)
 have fi:∀ n,lY (gam Q83 (n+3)):=λn p a b c d hp ha hb hc hd h=>by
  rw[gF,d65,qU (me n) p a b c d hp ha hb hc hd h]
 have ask:∀ n,Yl (gam Q83 (n+4)):=λn p a b c d hp ha hb hc hd h=>by
  rw[gF,d109,oW (fi n p a b c d hp ha hb hc hd h)]
 have mv:∀ n,Wr (gam Q83 (n+6)):=λn {p a b c f0 f1 f2 f3 g0 g1 g2 g3} gT l1 fr fr' L=>by
  obtain⟨⟨d0,n0,h0⟩,⟨d1,n1,h1⟩,⟨d2,n2,h2⟩,⟨d3,n3,h3⟩⟩:=L;rw[gF,d112,qJ (ask (n+1)) (ft n) (ba n) (af n) gT.p4 gT.ia gT.ib gT.ic gT.nz l1 fr.i0 fr.i1 fr.i2 fr.i3 fr.gen fr'.i0 fr'.i1 fr'.i2 fr'.i3 n0 n1 n2 n3 h0 h1 h2 h3]
 have tw:∀ n,NZ (gam Q83 (n+2)):=λn=>qF (rs n)
 have wh:∀ n,U9 (gam Q83 (n+3)):=λn=>iW (tw n) (me n)
 have aw:∀ n,KW (gam Q83 (n+4)):=λn=>yD (wh n)
 have pt:∀ n,Xp (gam Q83 (n+5)):=λn=>xO (aw n) (tw (n+2)) (tf n)
 have ld:∀ n,Xq (gam Q83 (n+4)):=λn=>xT (su (n+1)) (fo n)
 have pl:∀ n,QV (gam Q83 (n+6)):=λn=>ck (xP (pt n) (ba n) (ld (n+1)))
 have jo:∀ n,MW (gam Q83 (n+4)):=λn=>xX (Uw _) (fo n)
 have va:∀ n,QT (gam Q83 (n+2)):=λn=>qE (rs n)
 have fr:∀ n,Wt (gam Q83 (n+7)):=λn p C A B P U hp iC w h=>by
  rw[gF,d150,qV (jo (n+2)) (pl n) p C A B P U hp iC w h]
 have ap:∀ n,Ww (gam Q83 (n+3)):=λn p C A B P U hp iC h=>by
  rw[gF,d286,oY (va n) p C A B P U hp iC h]
 have kp:∀ n,Ws (gam Q83 (n+8)):=λn p C a b c A B P U A' B' P' U' T l1 iC wC fC fE L=>by
  rw[gF,d287,qN (aw (n+3)) (ap (n+4)) (fr n) (mv (n+1)) p C a b c A B P U A' B' P' U' T l1 iC wC fC fE L]
 have fm:∀ n,N2 (gam Q83 (n+1)):=λn p b xs l t hp e it=>qT _ hp e it
 have sm:∀ n,Va (gam Q83 (n+1)):=λn=>iX _
 have le:∀ n,Vb (gam Q83 (n+2)):=λn=>kQ (sm n) (fm n)
 have bk:∀ n,Ur (gam Q83 (n+2)):=λn=>gJ (kT _)
 have pr:∀ n,Uq (gam Q83 (n+1)):=λn=>gH _
 have up:∀ n,U83 (gam Q83 n):=λn=>by cases n<;>exact⟨rfl,rfl,rfl,rfl⟩
 have xx:∀ n,X83 (gam Q83 n):=λn p a hp ia=>by cases n<;>exact⟨yZ hp ia,zA hp ia⟩
 have x13:∀ n es,(gam Q83 n).xn 13 es=.ok ⟨13,[]⟩:=λn es=>by cases n<;>rfl
 have x14:∀ n es,(gam Q83 n).xn 14 es=.ok ⟨14,[]⟩:=λn es=>by cases n<;>rfl
 have whD:∀ n,Yk (gam Q83 (n+3)):=λn=>fg (tw n) (me n)
 have an:∀ n,MX (gam Q83 (n+4)):=λn p C hp iC z=>by rw[gF,d147,yE (x14 _) (whD n) p C hp iC z]
 have ex:∀ n (p:Ae) (C:C6) (x y u:R3),P4 p->InC p C->In3 p x->In3 p y->In3 p u->(gam Q83 (n+3)).F 286 [.int p,Bt C,At [x,y,u]]=exO (EI p C x y u):=λn p C x y u hp iC h1 h2 h3=>by
  rw[gF,d286,fj (xx _) (va n) C x y u hp iC h1 h2 h3]
 have ki:∀ n X,(gam Q83 (n+1)).F 299 [.exc 108 [("triple",X)]]=.ok (dOn X)/\(gam Q83 (n+1)).F 299 [.exc 107 [("triple",X)]]=.ok (dAl X)/\(gam Q83 (n+1)).F 299 [.exc 13 []]=.ok dCo/\(gam Q83 (n+1)).F 299 [.exc 14 []]=.ok dWh:=λn X=>by
  refine⟨?_,?_,?_,?_⟩
  .rw[gF,d299,qP (up _) X]
  .rw[gF,d299,qR (up _) X]
  .rw[gF,d299,qQ (up _)]
  .rw[gF,d299,qO (up _)]
 have kN:∀ n (p:Ae) (C:C6) (A B:D),P4 p->InC p C->NWh p C->(gam Q83 (n+5)).F 287 [.int p,Bt C,A,B]=.exn ⟨14,[]⟩:=λn p C A B hp iC z=>by
  rw[gF,d287,xU (an n) C A B hp iC z]
 have aN:∀ n (p:Ae) (C:C6),P4 p->InC p C->NWh p C->(gam Q83 (n+5)).F 297 [.int p,Bt C]=.exn ⟨14,[]⟩:=λn p C hp iC z=>by
  rw[gF,d297,wI (an n) C hp iC z]
 have A:A83 (gam Q83 8):=by
  refine⟨λp C A B hp iC wC h=>?_,λp C x y u x' y' u' z hp iC wC h1 h2 h3 e0 e e'=>?_,λp C x y u x' y' u' z hp iC wC h1 h2 h3 h4 h5 h6 e0 e1 e e'=>?_,kp 0,ki 7,up 8,jo 4⟩
  .rw[gF,d287,qM (aw 3) (x13 _) C A B hp iC wC h]
  .rw[gF,d287,xW (aw 3) C x y u x' y' u' hp iC wC (by rw[ex 4 p C x y u hp iC h1 h2 h3,e0,e'])]
  .rw[gF,d287,xV (aw 3) C x y u x' y' u' hp iC wC (by rw[ex 4 p C x y u hp iC h1 h2 h3,e0];rfl) (by rw[ex 4 p C x' y' u' hp iC h4 h5 h6,e1,e'])]
 have mx:Rx (gam Q83 8) ns:=mi 7;have h:H83 (gam Q83 9) ns:=by
  refine⟨?_,λp at_ hp ha=>?_,λp a b c G=>?_,λp a b c G=>?_,λp at_ OL hp a0 l4 l60 nf=>?_,λp C a b c A' B' hp z iC wC pC nA nB=>?_,λp C OL A' B' hO nA nB=>?_,λp C A' B' hp iC z=>?_,λp C hp iC z=>?_,λp C E hp iC wC iE nE=>?_,λp C E hp iC wC iE nE=>?_,λp n hp=>?_,mi 8,fm 8⟩
  .obtain⟨p,hp,e⟩:=qH (mi 7);exact⟨p,hp,e⟩
  .obtain⟨a,b,c,g,e⟩:=qG (mi 7) p at_ hp ha;exact⟨a,b,c,g,e⟩
  .obtain⟨C,h1,h2,h3,h4,e⟩:=oS (bk 6) (pr 7) (fm 7) p a b c G;exact⟨C,h1,h2,h3,h4,e⟩
  .rw[gF,d290,xQ (le 6) p a b c G]
  .have ord:Wq (gam Q83 8) ns:=λat_ L ha hL=>by
    obtain⟨M,pm,e⟩:=qI (mi 6) at_ L ha hL;exact⟨M,pm,by rw[gF,d251,e]⟩
   have pt:QU (gam Q83 8):=λp n hp=>by
    rw[gF,d231,show NC=Ll from rfl,WR _ p n hp]
   obtain⟨L,h1,h2,e⟩:=qL mx ord pt at_ OL hp a0 l4 l60 nf;exact⟨L,h1,h2,by rw[gF,d301,e]⟩
  .rw[gF,d300,wH A A' B' hp z iC wC pC nA nB]
  .rw[gF,d302,xZ OL A' B' hO nA nB]
  .rw[gF,d300,N3 (up 8).2.2.2 rfl rfl (kN 3 p C _ _ hp iC z) (ki 7 .non).2.2.2]
  .rw[gF,d300,kU (up 8).2.2.2 (aN 3 p C hp iC z) (ki 7 .non).2.2.2]
  .rw[gF,d300,UI (up 8).2.2.2 rfl rfl (show (gam Q83 8).F 151 [.int p,Bt C,Bt E]=.exn ⟨14,[]⟩ by rw[gF,d151,oV (aw 3) (an 3) C E hp iC wC iE nE]) (ki 7 .non).2.2.2]
  .rw[gF,d300,UI (up 8).2.2.2 rfl rfl (show (gam Q83 8).F 151 [.int p,Bt E,Bt C]=.exn ⟨14,[]⟩ by rw[gF,d151,yB (an 3) E _ hp iE nE]) (ki 7 .non).2.2.2]
  .rw[gF,d231,show NC=Ll from rfl,WR _ p n hp]
 exact yQ h
end OvC
namespace OvC
open PySem PySem.Spec PyProof.Rows Ov L2
variable{l:Gp}
noncomputable def X4:Ac (Aj×Ag×Ag):=([("rest",1,2),("turned_over",9,2),("one_form",17,2),("crossed",23,2),("join",57,3),("measure",61,4),("first_three",65,2),("ask_no_three",109,2),("columns",104,1),("sums_by",91,3),("table_of",78,2),("crossed_rows",98,1),("led",92,3),("after",105,3),("table_back",106,2),("value",126,3),("twice_table",131,2),("is_whole",136,2),("scaled",110,2),("frame_table",111,2),("frame_move",112,3),("ask_whole",147,2),("polar_table",148,2),("pole",149,3),("frame_on",150,3),("ask_points",286,3),("keeping",287,4),("all_keeping",297,2),("curve_move",151,3),("_law_mixed",228,2)]:Ac (Aj×Ag×Ag))++([("_law_prime",229,1),("_law_form",288,2),("_law_point",231,2),("_law_cross",232,3),("_law_sum",233,3),("_law_table",250,3),("_law_led",289,3),("_law_oval",290,2),("_law_order",251,3),("_law_product",279,3),("_law_back",280,2),("_law_curve",292,2),("_law_kinds",299,1001),("_law_asked",300,4),("_law_list",301,4),("_law_due",302,2),("law",303,1)]:Ac (Aj×Ag×Ag))
noncomputable def Tn:Ac Aj:=["ValueError", "enumerate", "isinstance", "len", "list", "range", "sorted", "sum", "tuple", "zip"]
noncomputable def RD:Ac (Aj×Ag):=[("NoOver",2),("NoTriple",3),("Alike",107),("OnLine",118),("NoTable",4),("NoCount",13),("NotWhole",14),("NotOn",108),("OvalError",0)]
noncomputable def RK:Ac (Aj×Ag):=[("NotWhole",14),("NoCount",13),("NotOn",108),("Alike",107),("OvalError",0)]
noncomputable def XQ:Ac (Aj×Ag):=[]
noncomputable abbrev C83(h:Ak)(n:Ag)(N:Ac Aj)(i d:Ag):Ak:=IA 80 h X4 Tn RD RK XQ (N.take n) N (tp83 i) (Q83.defs d)
theorem aj:C83 Ad 2 ["p", "n"] 11 1=Ab:=by decide+kernel
theorem ai:C83 Ad 2 ["p", "n", "turned"] 12 9=Ab:=by decide+kernel
theorem ah:C83 Ad 2 ["p", "numbers", "rests", "first", "factor", "#5", "#6"] 14 17=Ab:=by decide+kernel
theorem ag:C83 Ad 2 ["one", "other"] 15 23=Ab:=by decide+kernel
theorem ac:C83 Ad 3 ["p", "one", "other"] 17 57=Ab:=by decide+kernel
theorem aa:C83 Ad 4 ["p", "one", "other", "third"] 18 61=Ab:=by decide+kernel
theorem zZ:C83 Ad 2 ["p", "points", "i", "one", "j", "k"] 19 65=Ab:=by decide+kernel
theorem zY:C83 Ad 2 ["p", "points", "three"] 20 109=Ab:=by decide+kernel
theorem yK:C83 Ad 1 ["rows"] 23 104=Ab:=by decide+kernel
theorem yJ:C83 Ad 3 ["p", "rows", "numbers", "#3"] 24 91=Ab:=by decide+kernel
theorem sY:C83 Ad 2 ["p", "rows", "nine"] 25 78=Ab:=by decide+kernel
theorem sX:C83 Ad 1 ["table"] 26 98=Ab:=by decide+kernel
theorem sW:C83 Ad 3 ["p", "table", "point"] 27 92=Ab:=by decide+kernel
theorem sV:C83 Ad 3 ["p", "one", "other", "sides", "#4"] 28 105=Ab:=by decide+kernel
theorem sU:C83 Ad 2 ["p", "table"] 29 106=Ab:=by decide+kernel
theorem sT:C83 Ad 3 ["p", "curve", "point", "squares", "products"] 31 126=Ab:=by decide+kernel
theorem sS:C83 Ad 2 ["p", "curve"] 33 131=Ab:=by decide+kernel
theorem sR:C83 Ad 2 ["p", "curve", "rows"] 34 136=Ab:=by decide+kernel
theorem sQ:C83 Ad 2 ["factor", "point", "#2"] 36 110=Ab:=by decide+kernel
theorem sP:C83 Ad 2 ["p", "four", "sides"] 37 111=Ab:=by decide+kernel
theorem uH:C83 Ad 3 ["p", "four", "goals"] 38 112=Ab:=by decide+kernel
theorem uG:C83 Ad 2 ["p", "curve"] 40 147=Ab:=by decide+kernel
theorem uF:C83 Ad 2 ["p", "curve"] 41 148=Ab:=by decide+kernel
theorem uE:C83 Ad 3 ["p", "curve", "line"] 42 149=Ab:=by decide+kernel
theorem uD:C83 Ad 3 ["p", "curve", "three"] 44 150=Ab:=by decide+kernel
theorem uC:C83 Ad 3 ["p", "curve", "points", "place", "point"] 45 286=Ab:=by decide+kernel
theorem uB:C83 Ad 4 ["p", "curve", "three", "goals"] 46 287=Ab:=by decide+kernel
theorem uA:C83 Ad 2 ["p", "curve", "points", "frame"] 48 297=Ab:=by decide+kernel
theorem tZ:C83 Ad 3 ["p", "one", "other"] 49 151=Ab:=by decide+kernel
theorem tY:C83 Ad 2 ["_law_script", "_law_k", "_law_cell"] 51 228=Ab:=by decide+kernel
theorem tX:C83 Ad 1 ["_law_script"] 52 229=Ab:=by decide+kernel
theorem tW:C83 Ad 2 ["_law_p", "_law_numbers", "_law_rests", "_law_first", "_law_back_here", "#5", "#6", "#7", "#8"] 53 288=Ab:=by decide+kernel
theorem tV:C83 Ad 2 ["_law_p", "_law_number"] 54 231=Ab:=by decide+kernel
theorem tU:C83 Ad 3 ["_law_p", "_law_one", "_law_other", "_law_x", "_law_y", "_law_z"] 55 232=Ab:=by decide+kernel
theorem tT:C83 Ad 3 ["_law_p", "_law_one", "_law_other"] 56 233=Ab:=by decide+kernel
theorem tS:C83 Ad 3 ["_law_p", "_law_script", "_law_at", "_law_rows", "_law_k", "_law_number", "_law_i", "_law_j", "_law_many", "#9", "#10", "#11"] 59 250=Ab:=by decide+kernel
theorem tR:C83 Ad 3 ["_law_p", "_law_rows", "_law_point_here", "#3"] 60 289=Ab:=by decide+kernel
theorem tQ:C83 Ad 2 ["_law_p", "_law_rows", "_law_points", "_law_t"] 61 290=Ab:=by decide+kernel
theorem tP:C83 Ad 3 ["_law_script", "_law_at", "_law_things", "_law_told", "_law_k", "_law_spot"] 62 251=Ab:=by decide+kernel
theorem tO:C83 Ad 3 ["_law_p", "_law_one", "_law_other", "_law_rows", "_law_row", "#5", "#6"] 63 279=Ab:=by decide+kernel
theorem tN:C83 Ad 2 ["_law_p", "_law_rows", "_law_a", "_law_b", "_law_c", "_law_columns", "#6", "#7"] 64 280=Ab:=by decide+kernel
theorem tM:C83 Ad 2 ["_law_p", "_law_rows", "_law_back_here", "_law_turned", "_law_made", "_law_half", "#6", "#7"] 66 292=Ab:=by decide+kernel
theorem tL:C83 Ab 1 ["_law_e", "_law_kinds_here"] 67 299=Ab:=by decide+kernel
theorem tK:C83 Ad 4 ["_law_p", "_law_curve_here", "_law_lists", "_law_way", "_law_kinds_here", "_law_e"] 68 300=Ab:=by decide+kernel
theorem tJ:C83 Ad 4 ["_law_p", "_law_script", "_law_at", "_law_points", "_law_told", "_law_way", "_law_spot"] 69 301=Ab:=by decide+kernel
theorem tI:C83 Ad 2 ["_law_points", "_law_lists", "_law_told", "_law_k"] 70 302=Ab:=by decide+kernel
theorem V1:C83 Ad 1 ["_law_script", "_law_p", "_law_rows", "_law_curve_here", "_law_points", "_law_lists", "_law_handed", "_law_line", "_law_x", "_law_y", "_law_z", "_law_square", "_law_due_here"] 71 303=Ab:=by decide+kernel
theorem rK:Mg "OvalError" "triple" "triple" (LY (tp83 7))=Ab:=by decide+kernel
theorem rJ:Mg "OvalError" "points" "points" (LY (tp83 9))=Ab:=by decide+kernel
theorem rH:Mg "OvalError" "triple" "triple" (LY (tp83 8))=Ab:=by decide+kernel
set_option maxHeartbeats 0 in
theorem all83{w:AF}{K:Fg}{h:AB}{mg:Aj->Ao Ai}{fa f0 f1 f2 f3 f4 f5 f6 f7 f8 f9 f10 f11 f12 f13 f14 f15 f16 f17 f18 f19 f20 f21 f22 f23 f24 f25 f26 f27 f28 f29 f30 f31 f32 f33 f34 f35 f36 f37 f38 f39 f40 f41 f42 f43 f44 f45 f46 x0 x1 x2 x3 x4 x5 x6 x7 x8 ix2 ix3 ix7:Al}(X:K.In h)(G:h.Ns Bo mg)(hfa:mg "law" = Aa (.ref fa))(a0:FnI K f0 "rest" (tp83 11))(a1:FnI K f1 "turned_over" (tp83 12))(a2:FnI K f2 "one_form" (tp83 14))(a3:FnI K f3 "crossed" (tp83 15))(a4:FnI K f4 "join" (tp83 17))(a5:FnI K f5 "measure" (tp83 18))(a6:FnI K f6 "first_three" (tp83 19))(a7:FnI K f7 "ask_no_three" (tp83 20))(a8:FnI K f8 "columns" (tp83 23))(a9:FnI K f9 "sums_by" (tp83 24))(a10:FnI K f10 "table_of" (tp83 25))(a11:FnI K f11 "crossed_rows" (tp83 26))(a12:FnI K f12 "led" (tp83 27))(a13:FnI K f13 "after" (tp83 28))(a14:FnI K f14 "table_back" (tp83 29))(a15:FnI K f15 "value" (tp83 31))(a16:FnI K f16 "twice_table" (tp83 33))(a17:FnI K f17 "is_whole" (tp83 34))(a18:FnI K f18 "scaled" (tp83 36))(a19:FnI K f19 "frame_table" (tp83 37))(a20:FnI K f20 "frame_move" (tp83 38))(a21:FnI K f21 "ask_whole" (tp83 40))(a22:FnI K f22 "polar_table" (tp83 41))(a23:FnI K f23 "pole" (tp83 42))(a24:FnI K f24 "frame_on" (tp83 44))(a25:FnI K f25 "ask_points" (tp83 45))(a26:FnI K f26 "keeping" (tp83 46))(a27:FnI K f27 "all_keeping" (tp83 48))(a28:FnI K f28 "curve_move" (tp83 49))(a29:FnI K f29 "_law_mixed" (tp83 51))(a30:FnI K f30 "_law_prime" (tp83 52))(a31:FnI K f31 "_law_form" (tp83 53))(a32:FnI K f32 "_law_point" (tp83 54))(a33:FnI K f33 "_law_cross" (tp83 55))(a34:FnI K f34 "_law_sum" (tp83 56))(a35:FnI K f35 "_law_table" (tp83 59))(a36:FnI K f36 "_law_led" (tp83 60))(a37:FnI K f37 "_law_oval" (tp83 61))(a38:FnI K f38 "_law_order" (tp83 62))(a39:FnI K f39 "_law_product" (tp83 63))(a40:FnI K f40 "_law_back" (tp83 64))(a41:FnI K f41 "_law_curve" (tp83 66))(a42:FnI K f42 "_law_kinds" (tp83 67))(a43:FnI K f43 "_law_asked" (tp83 68))(a44:FnI K f44 "_law_list" (tp83 69))(a45:FnI K f45 "_law_due" (tp83 70))(a46:FnI K f46 "law" (tp83 71))(cx0:XA K "NoOver" x0 Af)(cx1:XA K "NoTriple" x1 Af)(cx2:XB K "Alike" x2 ix2 "Alike.__init__" (LY (tp83 7)))(cx3:XB K "OnLine" x3 ix3 "OnLine.__init__" (LY (tp83 9)))(cx4:XA K "NoTable" x4 Af)(cx5:XA K "NoCount" x5 Af)(cx6:XA K "NotWhole" x6 Af)(cx7:XB K "NotOn" x7 ix7 "NotOn.__init__" (LY (tp83 8)))(cx8:XA K "OvalError" x8 Af)(ox8:XO K x8)(sx6:SuC K x6 [(x0,Ad),(x1,Ad),(x2,Ad),(x3,Ad),(x4,Ad),(x5,Ad),(x6,Ab),(x7,Ad),(x8,Ad)])(sx5:SuC K x5 [(x0,Ad),(x1,Ad),(x2,Ad),(x3,Ad),(x4,Ad),(x5,Ab),(x6,Ad),(x7,Ad),(x8,Ad)])(sx7:SuC K x7 [(x0,Ad),(x1,Ad),(x2,Ad),(x3,Ad),(x4,Ad),(x5,Ad),(x6,Ad),(x7,Ab),(x8,Ad)])(sx2:SuC K x2 [(x0,Ad),(x1,Ad),(x2,Ab),(x3,Ad),(x4,Ad),(x5,Ad),(x6,Ad),(x7,Ad),(x8,Ad)])(sx8:SuC K x8 [(x0,Ab),(x1,Ab),(x2,Ab),(x3,Ab),(x4,Ab),(x5,Ab),(x6,Ab),(x7,Ab),(x8,Ab)])(z0:BX K Bo "ValueError" = Aa Af)(z1:BX K Bo "enumerate" = Aa Af)(z2:BX K Bo "isinstance" = Aa Af)(z3:BX K Bo "len" = Aa Af)(z4:BX K Bo "list" = Aa Af)(z5:BX K Bo "range" = Aa Af)(z6:BX K Bo "sorted" = Aa Af)(z7:BX K Bo "sum" = Aa Af)(z8:BX K Bo "tuple" = Aa Af)(z9:BX K Bo "zip" = Aa Af):
    ∃ fd:B9,(∀(s:Ar)(v:Ai),GJ s fd ⟨[v],[]⟩ [("_law_script",v)])/\∀ base:AB,K.In base->base.Ns Bo mg->FnOk l.prog w K mg base (CXR l.prog w) 10 fa fd ["_law_script"] (OD K):=by
  obtain⟨_,F,e⟩:=a46;obtain⟨_,_,_,_,_,_,_,_,_,rfl,_,_⟩:=F.ex;cases hfa.symm.trans (BU X G e);have XT83:XT Q83.up Q83.xn (clL [(2,x0),(3,x1),(107,x2),(118,x3),(4,x4),(13,x5),(14,x6),(108,x7),(0,x8)]) RD RK K mg:=by
    refine bq (all_cons (cx0.row λ_=>by first|exact .inr rfl|exact .inl rfl) (all_cons (cx1.row λ_=>by first|exact .inr rfl|exact .inl rfl) (all_cons (XB.row X G cx2 ox8 cx8.n (.inl rfl) rK (λ_ _ _ _ _ _ _ _=>rfl) λ_=>rfl) (all_cons (XB.row X G cx3 ox8 cx8.n (.inr rfl) rJ (λ_ _ _ _ _ _ _ _=>rfl) λ_=>rfl) (all_cons (cx4.row λ_=>by first|exact .inr rfl|exact .inl rfl) (all_cons (cx5.row λ_=>by first|exact .inr rfl|exact .inl rfl) (all_cons (cx6.row λ_=>by first|exact .inr rfl|exact .inl rfl) (all_cons (XB.row X G cx7 ox8 cx8.n (.inl rfl) rH (λ_ _ _ _ _ _ _ _=>rfl) λ_=>rfl) (all_cons (cx8.row λ_=>by first|exact .inr rfl|exact .inl rfl) (all_nil)))))))))) (all_cons ⟨_,rfl,BU X G cx0.n⟩ (all_cons ⟨_,rfl,BU X G cx1.n⟩ (all_cons ⟨_,rfl,BU X G cx2.a.n⟩ (all_cons ⟨_,rfl,BU X G cx3.a.n⟩ (all_cons ⟨_,rfl,BU X G cx4.n⟩ (all_cons ⟨_,rfl,BU X G cx5.n⟩ (all_cons ⟨_,rfl,BU X G cx6.n⟩ (all_cons ⟨_,rfl,BU X G cx7.a.n⟩ (all_cons ⟨_,rfl,BU X G cx8.n⟩ (all_nil)))))))))) (all_cons ⟨_,BU X G cx6.n,cx6.kc,sx6⟩ (all_cons ⟨_,BU X G cx5.n,cx5.kc,sx5⟩ (all_cons ⟨_,BU X G cx7.a.n,cx7.a.kc,sx7⟩ (all_cons ⟨_,BU X G cx2.a.n,cx2.a.kc,sx2⟩ (all_cons ⟨_,BU X G cx8.n,cx8.kc,sx8⟩ (all_nil)))))) ?_
    intro c q ds;show Sf c ds=.bad;unfold Sf;split<;>first|rfl|exact absurd rfl (q ("NoOver",2) (by decide))|exact absurd rfl (q ("NoTriple",3) (by decide))|exact absurd rfl (q ("Alike",107) (by decide))|exact absurd rfl (q ("OnLine",118) (by decide))|exact absurd rfl (q ("NoTable",4) (by decide))|exact absurd rfl (q ("NoCount",13) (by decide))|exact absurd rfl (q ("NotWhole",14) (by decide))|exact absurd rfl (q ("NotOn",108) (by decide))|exact absurd rfl (q ("OvalError",0) (by decide))
  have T:Tab K mg (clL [(2,x0),(3,x1),(107,x2),(118,x3),(4,x4),(13,x5),(14,x6),(108,x7),(0,x8)]) X4 Tn RD RK XQ Q83 80:=⟨XT83,all_cons (CD X G z0) (all_cons (CD X G z1) (all_cons (CD X G z2) (all_cons (CD X G z3) (all_cons (CD X G z4) (all_cons (CD X G z5) (all_cons (CD X G z6) (all_cons (CD X G z7) (all_cons (CD X G z8) (all_cons (CD X G z9) (all_nil)))))))))),all_nil,all_cons (EJ 2 1 X G a0 rfl aj λ_ _ _ _ _ _ _ _=>rfl) (all_cons (EJ 2 9 X G a1 rfl ai λ_ _ _ _ _ _ _ _=>rfl) (all_cons (EJ 2 17 X G a2 rfl ah λ_ _ _ _ _ _ _ _=>rfl) (all_cons (EJ 2 23 X G a3 rfl ag λ_ _ _ _ _ _ _ _=>rfl) (all_cons (Gg 3 57 X G a4 rfl ac λ_ _ _ _ _ _ _ _ _=>rfl) (all_cons (O1 4 61 X G a5 rfl aa λ_ _ _ _ _ _ _ _ _ _=>rfl) (all_cons (EJ 2 65 X G a6 rfl zZ λ_ _ _ _ _ _ _ _=>rfl) (all_cons (EJ 2 109 X G a7 rfl zY λ_ _ _ _ _ _ _ _=>rfl) (all_cons (Nk 1 104 X G a8 rfl yK λ_ _ _ _ _ _ _=>rfl) (all_cons (Gg 3 91 X G a9 rfl yJ λ_ _ _ _ _ _ _ _ _=>rfl) (all_cons (EJ 2 78 X G a10 rfl sY λ_ _ _ _ _ _ _ _=>rfl) (all_cons (Nk 1 98 X G a11 rfl sX λ_ _ _ _ _ _ _=>rfl) (all_cons (Gg 3 92 X G a12 rfl sW λ_ _ _ _ _ _ _ _ _=>rfl) (all_cons (Gg 3 105 X G a13 rfl sV λ_ _ _ _ _ _ _ _ _=>rfl) (all_cons (EJ 2 106 X G a14 rfl sU λ_ _ _ _ _ _ _ _=>rfl) (all_cons (Gg 3 126 X G a15 rfl sT λ_ _ _ _ _ _ _ _ _=>rfl) (all_cons (EJ 2 131 X G a16 rfl sS λ_ _ _ _ _ _ _ _=>rfl) (all_cons (EJ 2 136 X G a17 rfl sR λ_ _ _ _ _ _ _ _=>rfl) (all_cons (EJ 2 110 X G a18 rfl sQ λ_ _ _ _ _ _ _ _=>rfl) (all_cons (EJ 2 111 X G a19 rfl sP λ_ _ _ _ _ _ _ _=>rfl) (all_cons (Gg 3 112 X G a20 rfl uH λ_ _ _ _ _ _ _ _ _=>rfl) (all_cons (EJ 2 147 X G a21 rfl uG λ_ _ _ _ _ _ _ _=>rfl) (all_cons (EJ 2 148 X G a22 rfl uF λ_ _ _ _ _ _ _ _=>rfl) (all_cons (Gg 3 149 X G a23 rfl uE λ_ _ _ _ _ _ _ _ _=>rfl) (all_cons (Gg 3 150 X G a24 rfl uD λ_ _ _ _ _ _ _ _ _=>rfl) (all_cons (Gg 3 286 X G a25 rfl uC λ_ _ _ _ _ _ _ _ _=>rfl) (all_cons (O1 4 287 X G a26 rfl uB λ_ _ _ _ _ _ _ _ _ _=>rfl) (all_cons (EJ 2 297 X G a27 rfl uA λ_ _ _ _ _ _ _ _=>rfl) (all_cons (Gg 3 151 X G a28 rfl tZ λ_ _ _ _ _ _ _ _ _=>rfl) (all_cons (EJ 2 228 X G a29 rfl tY λ_ _ _ _ _ _ _ _=>rfl) (all_cons (Nk 1 229 X G a30 rfl tX λ_ _ _ _ _ _ _=>rfl) (all_cons (EJ 2 288 X G a31 rfl tW λ_ _ _ _ _ _ _ _=>rfl) (all_cons (EJ 2 231 X G a32 rfl tV λ_ _ _ _ _ _ _ _=>rfl) (all_cons (Gg 3 232 X G a33 rfl tU λ_ _ _ _ _ _ _ _ _=>rfl) (all_cons (Gg 3 233 X G a34 rfl tT λ_ _ _ _ _ _ _ _ _=>rfl) (all_cons (Gg 3 250 X G a35 rfl tS λ_ _ _ _ _ _ _ _ _=>rfl) (all_cons (Gg 3 289 X G a36 rfl tR λ_ _ _ _ _ _ _ _ _=>rfl) (all_cons (EJ 2 290 X G a37 rfl tQ λ_ _ _ _ _ _ _ _=>rfl) (all_cons (Gg 3 251 X G a38 rfl tP λ_ _ _ _ _ _ _ _ _=>rfl) (all_cons (Gg 3 279 X G a39 rfl tO λ_ _ _ _ _ _ _ _ _=>rfl) (all_cons (EJ 2 280 X G a40 rfl tN λ_ _ _ _ _ _ _ _=>rfl) (all_cons (EJ 2 292 X G a41 rfl tM λ_ _ _ _ _ _ _ _=>rfl) (all_cons (Nk 1001 299 X G a42 rfl tL λ_ _ _ _ _ _ _=>rfl) (all_cons (O1 4 300 X G a43 rfl tK λ_ _ _ _ _ _ _ _ _ _=>rfl) (all_cons (O1 4 301 X G a44 rfl tJ λ_ _ _ _ _ _ _ _ _ _=>rfl) (all_cons (EJ 2 302 X G a45 rfl tI λ_ _ _ _ _ _ _ _=>rfl) (all_cons (Nk 1 303 X G ⟨_,F,e⟩ rfl V1 λ_ _ _ _ _ _ _=>rfl) (all_nil)))))))))))))))))))))))))))))))))))))))))))))))⟩
  exact⟨_,λs v=>.of_eq rfl,λbase _ _=>law_fn (WF T (Q1 T 9) (XU F) rfl V1) ig⟩
theorem walk83{q:AS}{loose:Ac Aj}{XP:(Aj->Ao Ai)->AB->Prop}{YP:AF->AB->Prop}{d:DefRec}{K:Mt->Fg}(hn:l.most=Aa 63)(hdf:d.params.defaults=[])(hY:∀(w:AF)(h:AB),YP w h->(K w.params).In h)(F:∀(w:AF)(mg:Aj->Ao Ai)(fa:Al)(h:AB),(K w.params).In h->h.Ns Bo mg->mg d.name=Aa (.ref fa) ->
   ∃ fd:B9,(∀(s:Ar)(u:Ai),GJ s fd ⟨[u],[]⟩ [("_law_script",u)])/\∀ base:AB,(K w.params).In base->base.Ns Bo mg->FnOk l.prog w (K w.params) mg base (CXR l.prog w) 10 fa fd ["_law_script"] (OD (K w.params))):aS q loose XP YP l.row.toRowW d [] (λf vs=>Ld f vs):=
 L2.walk_of (n:=63) (k:=10) (x := "_law_script") (CX:=λw=>CXR l.prog w) (sp:=λw=>OD (K w.params)) hn (by decide) hdf ⟨rfl,by decide,by decide,rfl⟩ hY F (λ_ H a ns hl _ hS=>⟨a,ns,rfl,hl,hS,λ_ _ z=>z⟩) λ_ _ _ _ _ z=>yW z
end OvC
open PySem PySem.W PyProof.Rows
set_option hygiene false
set_option maxRecDepth 100000 in
set_option maxHeartbeats 0 in
theorem PySem.Challenge.cw_ovalfield_k83_keeping_refused_holds : PySem.Challenge.rw_ovalfield_k83_keeping_refused.Holds := by
 refine OvC.hold83.go OvC.reck83_1 OvC.reck83_2 OvC.reck83_3 OvC.reck83_4 OvC.reck83_5 OvC.reck83_6 OvC.reck83_7 OvC.reck83_8 OvC.reck83_9 OvC.reck83_10 OvC.reck83_11 ?_;intro said;refine OvC.walk83 (l:=PySem.Challenge.rw_ovalfield_k83_keeping_refused) rfl rfl (λw h Y_=>aV Y_) ?F
 case F=>
  intro w mg fa h KX G hmg
  refine' OvC.all83 KX G hmg ?a0 ?a1 ?a2 ?a3 ?a4 ?a5 ?a6 ?a7 ?a8 ?a9 ?a10 ?a11 ?a12 ?a13 ?a14 ?a15 ?a16 ?a17 ?a18 ?a19 ?a20 ?a21 ?a22 ?a23 ?a24 ?a25 ?a26 ?a27 ?a28 ?a29 ?a30 ?a31 ?a32 ?a33 ?a34 ?a35 ?a36 ?a37 ?a38 ?a39 ?a40 ?a41 ?a42 ?a43 ?a44 ?a45 ?a46 ?cx0 ?cx1 ?cx2 ?cx3 ?cx4 ?cx5 ?cx6 ?cx7 ?cx8 ?ox8 ?sx6 ?sx5 ?sx7 ?sx2 ?sx8 ?z0 ?z1 ?z2 ?z3 ?z4 ?z5 ?z6 ?z7 ?z8 ?z9
  case a0|a1|a2|a3|a4|a5|a6|a7|a8|a9|a10|a11|a12|a13|a14|a15|a16|a17|a18|a19|a20|a21|a22|a23|a24|a25|a26|a27|a28|a29|a30|a31|a32|a33|a34|a35|a36|a37|a38|a39|a40|a41|a42|a43|a44|a45|a46=>(refine' Ov.fni ?a ?l ?c ?k;(case a=>k_is);(case l=>k_is);(case c=>k_is);(case k=>k_is))
  case cx0|cx1|cx4|cx5|cx6|cx8=>(refine' Ov.xa_mk ?n (Ov.xcls_l ?e) ?d ?f ?g ?a ?b ?c ?o ?h ?v;(case n=>k_is);(case e=>k_exc);(case d=>kernel_rfl);(case f|g|a|b|c|o|h|v=>k_is))
  case cx2|cx3|cx7=>(refine' Ov.XB.mk ?i (Ov.xa_mk ?n ?e ?d ?f ?g ?a ?b ?c ?o ?h ?v) (Ov.ini_mk ?l ?m ?k) ?t ?s;(case n=>k_is);(case i=>k_is);(case l=>k_is);(case e|d=>kernel_rfl);(case m|k|t|s|f|g|a|b|c|o|h|v=>k_is))
  case ox8=>(refine' Ov.XO.mk ?a ?b ?c;(case a|b|c=>k_is))
  case sx6|sx5|sx7|sx2|sx8=>(refine' Ov.all_cons ?q0 (Ov.all_cons ?q1 (Ov.all_cons ?q2 (Ov.all_cons ?q3 (Ov.all_cons ?q4 (Ov.all_cons ?q5 (Ov.all_cons ?q6 (Ov.all_cons ?q7 (Ov.all_cons ?q8 (Ov.all_nil)))))))));(case q0|q1|q2|q3|q4|q5|q6|q7|q8=>dsimp only;k_is))
  case z0|z1|z2|z3|z4|z5|z6|z7|z8|z9=>k_is
import PyProof.Rows.All
import Wide.All
import OpenK.AllK
import Wide.FinOn
import PyProof.EqAt
import KE.KSortTup
import PyProof.EqKinds
import PyProof.TupleCall
import Lean
import PySem.Challenge.RW_ovalfield_k71_three_on_a_line
set_option Elab.async false
set_option linter.all false
set_option maxRecDepth 100000
set_option maxHeartbeats 4000000
open Bool renaming true→Aa,false→Ad,and_eq_true→An,false_ne_true→AD,not_eq_true'→BL,or_eq_true→CU,toNat_true→C7,eq_iff_iff→DL,or_false→EU,and_false→Gd,false_eq_true→Hw,or_true→JH,and_true→XY
open Option renaming some→Ab,none→Af,bind_eq_some_iff→AS,isSome_iff_exists→ED,map_some→FU,map→Gf,bind_some→YC,getD_none→YD,isNone_iff_eq_none→YE
open _root_ renaming List→Ac,Int→Ae,Nat→Ag,Bool→Aj,Option→Ap,if_pos→AI,if_neg→AT,of_decide_eq_true→AW,decide_eq_true→AZ,decide_eq_true_eq→A2,beq_iff_eq→A6,Array→A8,False→Bl,or_false→BH,dif_neg→Cn,decide_eq_false→Cp,not_or→Dm,beq_eq_false_iff_ne→Dt,String→DB,not_false_eq_true→Ek,beq_self_eq_true→EM,if_true→Fn,Unit→Gp,Decidable→GU,and_true→Ht,True→Ii,if_false→Iy,bne_iff_ne→JB,beq_false_of_ne→mm,decide_eq_false_iff_not→mn
open PySem renaming wpAny_bind→Ah,Value→Ai,Str→Ak,Addr→Al,Expr→Ao,Shared→Ar,wpAny→Au,wpAny_pure→Av,starEach→Ax,Heap→AC,World→AF,Pos→AO,Program→AV,Stmt→AY,Around→A9,mainGlobals→Ba,wpAny_field→Bk,wpAny_mono→Bu,wpAny_seqItems→BY,wpAny_setField_rec→B5,wpAny_callSpecial?_slot→Ca,backTo→Cd,FuncData→Cf,wpAny_holding→Co,rawInt→Cr,wpAny_loadPart_at→Cy,Scope→Cz,cLine→CA,binaryOp→CB,excClassObj→CH,Env→CN,assignEach→CO,wpAny_newObj_type→CP,wpAny_call_entry→CW,compareOp→CZ,wpAny_truthy_bool→C1,mem_of_lookup→C2,Obj→C9,swapsWith→Dd,Tok→Di,foldedSetIterable→Do,cellsFrom→Dr,bootBuiltins→Dz,sizeLine_eq→DA,CmpOp→DC,wpAny_onRaise→DU,pyNext→Ei,wpAny_pyIter_list→Ej,codeAny_call_builtin→Eo,Keyword→Eu,OwnTail→Ev,NameKind→EG,checkBuiltinCall→EH,wpAny_standAt→EV,codeAny_builtin→EY,GenState→E2,IsPair→Fi,codeAny→Fl,ExceptHandler→FC,attributeBase→FE,wpAny_attempt→FG,sliceBounds→FI,wpAny_isSubtype_exc→FM,wpAny_execs_nil→FY,wpAny_passesOwn→FZ,wpAny_updateSeq→F0,Operator→F3,PassesOwn→F4,wpAny_Call_Name_kw→F5,wpAny_pyIter_tuple→F6,wpAny_setField→Gi,wpAny_letGo→GC,IsZip→G1,codeAny_mono→G3,letOwnedTupleGo→G4,wpAny_rule→G5,wpAny_updateSeq_pair→G6,BindsTo→Hk,Sem→Hl,Model→Hu,keywordEach→Hv,noteFrame→HB,pushCells→HC,behindInMarks→HE,plainId_quiet→HF,swappedStores→HG,isInstance→HU,wpAny_call→HV,OsState→HW,callerA→HX,ExcBaseFacts→Ic,IsPart→Ie,Paired→Ig,wpAny_execs_cons→Ih,Drawn→IA,pushCells_keeps→IC,setFlight→ID,wpAny_specialOf→IE,wpAny_of_eq→IG,Result→IY,isTrue→Ja,newFunctionEnv→Jb,notedBy→Jc,recursionLimit→Jd,wpAny_newTuple→Je,backToKw→Jf,bindArgs→Jg,bindC→Jh,bindL→Ji,builtinsNs→Jj,typeLookup→Jk,Comprehension→JD,swapsWithSole→JG,callSpecial?→JP,callType_new→JQ,concat_meets→JR,lastMarks→JS,onTheHeap→JT,preSum→JU,updateSeq→JV,UnaryOp→Km,getItem→Kn,handleBy→Kq,PyData→K2,StoreFacts→K4,call→K7,call_meets→K8,pyIter→K9,sysModules→La,wpAny_Name→Lb,IntMulOk→Md,Params→Me,builtinLookup_eq_fast→aF,call_sum_walkG→aG,codeAny_call_function→aH,codeAny_of_tree→aI,firstArgMember→aJ,isSubtype_stop→aK,noFill_tuple_add→aL,refuseLoop_ref→aM,slot_list_getitem→aN,typeLookup_type→aO,wpAny_assign_Name→aP,wpAny_comprehension_free→aQ,wpAny_isInstance→aR,wpAny_newFunctionEnv_cells→aS,wpAny_pyIter_enum→aU,wpAny_pyIter_zip→aV,wpAny_pyNext_list_end→aW,wpAny_pyNext_list_item→aX
open PySem.Heap renaming get?_push_of_some→As,get?_push_size→Az,lt_size→AB,size_push→BF,get?_update_self→B7,get?_update_other→Ch,get?_none_of_le→DO,SameBut→EF,ExtBut→IF,MadeExcOf→IX,get?_push_at→ZF,get?_push_cases→ZG,get?_update_ne→ZH
open List renaming mem_cons→At,mem_cons_of_mem→Ay,mem_cons_self→AE,size_toArray→AJ,not_mem_nil→AM,getElem?_eq_some_iff→Bh,range→Bm,length_set→Bp,mem_append_right→Bw,length_cons→Bz,mem_range→BE,length_append→BJ,mem_singleton→BN,length_map→BR,nodup_cons→BW,lookup_cons→BX,map_cons→CC,getElem?_eq_getElem→CS,append_nil→C8,getElem_of_mem→Ds,getElem?_set_self→Dx,mem_of_getElem?→DM,forIn_nil→DV,nodup_nil→DW,forIn_cons→D8,length_singleton→D9,getD_eq_getElem?_getD→Eb,isEmpty_eq_false_iff→El,all_eq_true→Ey,any_eq_true→Ez,exists_of_findSome?_eq_some→EA,getElem_mem→EB,getElem?_cons_succ→EO,getElem?_cons_zero→EQ,mem_filter→EX,range_succ_eq_map→EZ,take_of_length_le→E1,getElem?_map→E8,mem_map→Fd,filter_cons→Fo,mem_append_left→Fp,findSome?_eq_none_iff→FA,map_congr_left→FJ,drop_eq_getElem_cons→FS,getElem?_append_left→FT,map_map→F1,toArray→F2,getElem?_set_self'→Gj,lookup→Gy,all_cons→GE,any_cons→GF,length_take→GI,zipIdx_cons→GJ,getElem?_set_ne→GV,mem_append→GW,zipIdx_nil→GX,filterMap_cons→Hf,findSome?_cons→Hg,replicate→Hj,contains_cons→Hx,zip_cons_cons→Hy,getElem?_set→HR,isEmpty_iff→H9,of_mem_zip→Iz,any_map→JI,map_nil→JJ,all_map→Yb,contains_eq_mem→Yd,drop_eq_nil_of_le→Ye,drop_zero→Yg,ext_getElem?→Yh,getElem?_append_right→Yi,getElem?_of_mem→Yj,getElem?_replicate→Yk,getElem?_toArray→Yl,length_drop→Ym,length_nil→Yn,length_replicate→Yo,lookup_cons_self→Yp,reverse_cons→Yq,set_set→Yr,sum_cons→Ys,take_append_drop→Yt,take_left'→Yu,take_sublist→Yv
open Nat renaming lt_of_lt_of_le→AN,ne_of_lt→A4,le_refl→A7,lt_irrefl→Bt,le_trans→Cb,ne_of_gt→Dy,ble→DG,lt_of_le_of_lt→DH,lt_succ_of_lt→DS,le_add_right→EC,le_of_ble_eq_true→Fe,le_of_lt→Ff,not_lt→Ge,zero_le→Gz,lt_succ_self→GK,not_lt_zero→GY,pow_le_pow_right→GZ,add_le_add_left→Hh,lt_or_gt_of_ne→Hz,mod_eq_of_lt→Ia,le_of_eq→Yw,le_succ→Yx,lt_trans→Yy,min_eq_left→Yz,min_self→YA,zero_add→YB
open PySem.Str renaming ofString→AQ,empty→JO
open Int renaming emod_eq_of_lt→AR,emod_lt_of_pos→AX,emod_nonneg→A3,zero_emod→Bj,emod_emod_of_dvd→BD,mul_emod→BV,mul_comm→Cq,mul_zero→CD,dvd_refl→CQ,one_mul→Du,zero_mul→Dv,mul_one→Et,zero_add→Ew,toNat_natCast→Gn,mul_assoc→GD,mul_pos→Ko,add_emod→X2,add_zero→X3,le_refl→X4,mul_nonneg→X5,mul_sub→X6,sub_add_cancel→X7,sub_emod→X8,zero_sub→X9
open PySem.W renaming findIn→AU,nsIn→BK,mg_none_of→BS,subIn→BZ,mg_of→B9,keepIn→CT,looks_findIn→CV,fnOf→Dc,fencedOpening→Dg,mroIn→Dh,kitOne→Dk,clsIn→DT,typeIn→DY,openEnds→E3,specialIn→E9,codeIn→Fk,topFrom→FH,findCls→FW,readsIn→FX,OpenLaw→GB,methodObj→HS,kitAny→IZ,excIn→JF,WalkO→Z_2,callWith_K→Z_4,cellsFrom_some→Z_5,codeRec_of→Z_6,isNs_of_in→Z_7,kIn_of→Z_8,kitMeta→Z_9,looks_subIn→aA,nsOkIn→aC,tail_of_in→aD
open PySem.Builtin.SmallTypes renaming nextOf→A1,ownedTupleIsFree→A5,ownedTupleHandOut→Da
open PySem.W.Fast renaming te10274390034422433532→Bb,te14082659384304107361→Bc,te14289696077712309145→Be,te14364793385576792824→Bf,te1435165496053646825→Bi
open False renaming elim→BB
open Option.some renaming inj→BM,injEq→Cc
open PySem.Value renaming ref→BO,none→Dj,builtin→DE,type→Gh,bool→K5,int→Ma,str→Mb,bytes→ZY,float→ZZ
open Prod renaming ext→BP
open PySem.NameKind renaming cell→B8,free→Ed
open PyProof.Rows renaming callWith_type1→Cw,envOfC→FB,AllBare→Gg,boot_tuple→Gk,boot_isinstance→G0,IntsAre→IW,IsTup→Kl,Call_→K1,boot_list→YF,boot_zip→YG,slicePart_none→YH,slot_tuple_getitem→YI,subscriptTail_builtinR→YJ
open PySem.F renaming slot_zip_next→CF,slot_tuple_iterator_next→Ec,args_zip_next_1→Eh,entry_zip_next→EE,slot_list_extend→Fh,excBase_ValueError→FD,plain_extend_loop→FK,plainAttrs_list→Gm,attr_ValueError→Go,args_list_extend_2→Zn,args_object_init_2→Zo,args_tuple_add_2→Zp,args_tuple_iterator_next_1→Zq,called_zip→Zr,entry_bexc_ga→Zs,entry_extend_loop→Zt,entry_list_extend→Zu,entry_tuple_add→Zv,entry_tuple_iterator_next→Zw,entry_zip_new→Zx,plain_list_iadd→Zy,plain_tuple_new→Zz,slot_tuple_add→ZA,slot_zip_iter→ZB,typeOf_object_class→ZC,type_list_extend→ZD
open Array renaming getElem?_eq_getElem→CK,length_toList→EN,getElem?_eq_some_iff→Fx,getElem?_push→He,forIn_toList→XS,size_push→XU,toArray_toList→XV,toList→XX
open Classical renaming byContradiction→CM,choose_spec→Fa,choose→XZ
open PySem.Builtin.Tuple renaming tupleExact→Db
open PySem.Obj renaming mapSeq→DD,data_mapFields→DI,isFreed_of_fields→Fj,mapFields→GH,cls_mapFields→ZI
open PySem.Builtin.List renaming listTooLong→DN,listExtendWith→YM,listSameRef→YN
open Ne renaming symm→DX
open PySem.PyData renaming shownAll→Ea,depthAll→IB,hasDictAll→ZK,showableAll→ZL
open PySem.Around renaming under_plainId→Em,under→JL
open PySem.Builtin.Slice renaming slicePlaces→En,sliceAdjust→FV,sliceApplied→YQ
open ForInStep renaming yield→EW
open PySem.Calls renaming evalArgs_plain→Fq,Name_function_global→YR,callWith_builtin→YS,spliced_cons→YT,spliced_nil→YU
open PySem.Shared renaming heap→GA
open PySem.SeqAt renaming EqAt→G2,RcNeAt→JN,RcAt→K3
open PySem.Heap.SameBut renaming update→Hi,refl→ZE
open PySem.Code renaming quiet_builtin→HA,isFrame→JM,frames→YV
open Sum renaming inl→HY,inr→HZ
open Nat.succ renaming inj→Ib
open Prod.mk renaming injEq→JC
open PySem.Value.ref renaming inj→JE
open PyProof.Rows.IsTup renaming new→JK
open PySem.Walks renaming list→K6,tuple→aE
open NeZero renaming ne→L8
open PySem.Data renaming cell→L9,seq→Mc
open Eq renaming symm→M5
open Function renaming comp_def→X1
open List.cons renaming injEq→Yc
open PySem.AutoSeq1 renaming wpAny_loadPart'→YK
open PySem.Builtin.Int renaming intBits→YL
open PySem.Builtin.ObjectAttr renaming storeInDict→YO
open PySem.EntryCells renaming newEntry→YW
open PySem.Expr renaming Attribute→YX,BinOp→YZ,BoolOp→Y_1,Call→Y_3,Compare→Y_5,Constant→Y_7,List→Y_9,ListComp→Zb,Name→Zd,Slice→Zf,Subscript→Zh,Tuple→Zj,UnaryOp→Zl
open PySem.Expr.Attribute renaming elim→YY
open PySem.Expr.BinOp renaming elim→Y_0
open PySem.Expr.BoolOp renaming elim→Y_2
open PySem.Expr.Call renaming elim→Y_4
open PySem.Expr.Compare renaming elim→Y_6
open PySem.Expr.Constant renaming elim→Y_8
open PySem.Expr.List renaming elim→Za
open PySem.Expr.ListComp renaming elim→Zc
open PySem.Expr.Name renaming elim→Ze
open PySem.Expr.Slice renaming elim→Zg
open PySem.Expr.Subscript renaming elim→Zi
open PySem.Expr.Tuple renaming elim→Zk
open PySem.Expr.UnaryOp renaming elim→Zm
open PySem.Paired renaming length→ZJ
open PySem.SeqAt.EqAt renaming of_refs→ZM,same→ZN
open PySem.Stmt renaming Assign→ZO,Expr→ZQ,Raise→ZU,Return→ZW
open PySem.Stmt.Assign renaming elim→ZP
open PySem.Stmt.Expr renaming elim→ZR
open PySem.Stmt.For renaming elim→ZS
open PySem.Stmt.If renaming elim→ZT
open PySem.Stmt.Raise renaming elim→ZV
open PySem.Stmt.Return renaming elim→ZX
open PySem.W.WData renaming int→Z_0
open PySem.W.WShape renaming has→Z_1
abbrev Fg:=PySem.W.Frag
abbrev Pn:=Ac (PySem.Addr×PySem.Obj)
abbrev Vq:=PySem.Value->PySem.Shared->Prop
set_option genSizeOfSpec false
section
open PySem PySem.W PyProof.Rows
namespace OvC
set_option genInjectivity false in
structure Eleven (P:Prop) where
 (α1 α2 α3 α4 α5 α6 α7 α8 α9 α10 α11:Type)
 (l1 r1:AF->α1)
 (l2 r2:AF->α2)
 (l3 r3:AF->α3)
 (l4 r4:AF->α4)
 (l5 r5:AF->α5)
 (l6 r6:AF->α6)
 (l7 r7:AF->α7)
 (l8 r8:AF->α8)
 (l9 r9:AF->α9)
 (l10 r10:AF->α10)
 (l11 r11:AF->α11)
 X:Prop
 go:(∀ w,l1 w=r1 w)->(∀ w,l2 w=r2 w)->(∀ w,l3 w=r3 w)->(∀ w,l4 w=r4 w)->(∀ w,l5 w=r5 w)->(∀ w,l6 w=r6 w)->(∀ w,l7 w=r7 w)->(∀ w,l8 w=r8 w)->(∀ w,l9 w=r9 w)->(∀ w,l10 w=r10 w)->(∀ w,l11 w=r11 w)->X->P
theorem map_pair{U α β:Type}{A:U->α}{B:U->β}{r:Ap U}{a:α}{b:β}(h1:Gf A r=Ab a)(h2:Gf B r=Ab b):Gf (λs=>(A s,B s)) r=Ab (a,b):=by
 cases r with
 |none=>cases h1
 |some s=>cases h1;cases h2;rfl
theorem map_take{U α:Type}{B:U->Ac α}{r:Ap U}{v:Ac α}(n:Ag)(h1:Gf (λs=>(B s).take n) r=Ab (v.take n))(h2:Gf (λs=>(B s).drop n) r=Ab (v.drop n)):Gf B r=Ab v:=by
 cases r with
 |none=>cases h1
 |some s=>
  have e1:(B s).take n=v.take n:=by injection h1
  have e2:(B s).drop n=v.drop n:=by injection h2
  show Ab (B s)=Ab v;rw[<-Yt n (B s),<-Yt n v,e1,e2]
end OvC
namespace OvC
noncomputable def tp71(i:Ag):AY:=PySem.Challenge.pw_ovalfield_k71_three_on_a_line.main.body.getD i (.Pass ⟨0,0,0,0⟩)
end OvC
noncomputable def OvC.view71:PySem.Program:={ PySem.Challenge.pw_ovalfield_k71_three_on_a_line with main:={PySem.Challenge.pw_ovalfield_k71_three_on_a_line.main with body:=[OvC.tp71 1,OvC.tp71 2,OvC.tp71 3,OvC.tp71 4,OvC.tp71 5,OvC.tp71 6,OvC.tp71 7,OvC.tp71 8,OvC.tp71 9,OvC.tp71 11,OvC.tp71 12,OvC.tp71 14,OvC.tp71 15,OvC.tp71 16,OvC.tp71 18,OvC.tp71 19,OvC.tp71 20,OvC.tp71 21,OvC.tp71 22,OvC.tp71 23,OvC.tp71 24,OvC.tp71 26,OvC.tp71 27,OvC.tp71 28,OvC.tp71 29,OvC.tp71 30,OvC.tp71 31,OvC.tp71 33,OvC.tp71 34,OvC.tp71 35,OvC.tp71 36,OvC.tp71 37,OvC.tp71 38,OvC.tp71 39,OvC.tp71 41,OvC.tp71 42,OvC.tp71 43,OvC.tp71 45,OvC.tp71 46,OvC.tp71 47,OvC.tp71 48,OvC.tp71 50,OvC.tp71 51,OvC.tp71 52,OvC.tp71 53,OvC.tp71 54,OvC.tp71 55,OvC.tp71 56,OvC.tp71 58,OvC.tp71 59,OvC.tp71 60,OvC.tp71 61,OvC.tp71 62,OvC.tp71 63,OvC.tp71 64,OvC.tp71 65,OvC.tp71 66,OvC.tp71 67,OvC.tp71 68,OvC.tp71 69,OvC.tp71 70]} }
set_option hygiene false
local macro_rules | `(tactic| o_head $H)=>`(tactic| refine holds_open (q:=OvC.view71) (loose:=[]) (Xt:=fun s=>xlAt OvC.view71 [] s&&recOk (RowW.records (OpenRow.toRowW (PySem.Challenge.rw_ovalfield_k71_three_on_a_line.row))) s) (XP:=XL OvC.view71 []) (Yf:=Hook.obs $H) (Ya:=Hook.val $H) (YP:=Hook.says $H) (N:=7360) ?hl (Hook.of $H) (Hook.keeps $H) (fun s e=>xl_of s (Bool.and_eq_true_iff.mp e).1) XL.keeps (by rfl) (by rfl) (by rfl) (fun s e=>recFacts_of (Bool.and_eq_true_iff.mp e).2) (by rfl) (by first|assumption|decide +kernel) (by decide +kernel) ⟨rfl,rfl,rfl,rfl,rfl,by decide +kernel⟩ ?hw ?hc)
set_option maxRecDepth 100000 in
set_option maxHeartbeats 0 in
noncomputable def OvC.hold71:OvC.Eleven PySem.Challenge.rw_ovalfield_k71_three_on_a_line.Holds:=by
 refine' ⟨_,_,_,_,_,_,_,_,_,_,_,_,_,_,_,_,_,_,_,_,_,_,_,_,_,_,_,_,_,_,_,_,_,_,λg1 g2 g3 g4 g5 g6 g7 g8 g9 g10 g11 x=>_⟩
 rotate_right
 w_on;refine holds_law (by decide+kernel) λsaid=>?_;k_head
 (case hl=>intro w;refine OvC.map_pair ?p1 (OvC.map_take 100 ?p2 ?p3);(case p1=>rw[PySem.W.Fast.te4187177175401517315];unfold PySem.W.Fast.tw4187177175401517315 openGood;refine OvC.map_pair ?q1 (OvC.map_pair ?q2 (OvC.map_pair ?q3 (OvC.map_pair ?q4 (OvC.map_pair ?q5 (OvC.map_pair ?q6 (OvC.map_pair ?q7 (OvC.map_pair ?q8 ?q9)))))));(case q1=>unfold E3 Dg FH;rw[Bb,Bf,Bi,Be,Bc];exact g1 w);(case q2=>unfold E3 Dg FH;rw[Bb,Bf,Bi,Be,Bc];exact g2 w);(case q3=>unfold E3 Dg FH;rw[Bb,Bf,Bi,Be,Bc];exact g3 w);(case q4=>unfold E3 Dg FH;rw[Bb,Bf,Bi,Be,Bc];exact g4 w);(case q5=>unfold E3 Dg FH;rw[Bb,Bf,Bi,Be,Bc];exact g5 w);(case q6=>unfold E3 Dg FH;rw[Bb,Bf,Bi,Be,Bc];exact g6 w);(case q7=>unfold E3 Dg FH;rw[Bb,Bf,Bi,Be,Bc];exact g7 w);(case q8=>unfold E3 Dg FH;rw[Bb,Bf,Bi,Be,Bc];exact g8 w);(case q9=>unfold E3 Dg FH;rw[Bb,Bf,Bi,Be,Bc];exact g9 w);skip);(case p2=>unfold E3 Dg FH;rw[Bb,Bf,Bi,Be,Bc];exact g10 w);(case p3=>unfold E3 Dg FH;rw[Bb,Bf,Bi,Be,Bc];exact g11 w))
 (case hw=>w_witness2)
 k_fill
 revert said
 exact x
theorem OvC.reck71_1(w:AF):OvC.hold71.l1 w=OvC.hold71.r1 w:=by kernel_rfl
theorem OvC.reck71_2(w:AF):OvC.hold71.l2 w=OvC.hold71.r2 w:=by kernel_rfl
theorem OvC.reck71_3(w:AF):OvC.hold71.l3 w=OvC.hold71.r3 w:=by kernel_rfl
theorem OvC.reck71_4(w:AF):OvC.hold71.l4 w=OvC.hold71.r4 w:=by kernel_rfl
theorem OvC.reck71_5(w:AF):OvC.hold71.l5 w=OvC.hold71.r5 w:=by kernel_rfl
theorem OvC.reck71_6(w:AF):OvC.hold71.l6 w=OvC.hold71.r6 w:=by kernel_rfl
theorem OvC.reck71_7(w:AF):OvC.hold71.l7 w=OvC.hold71.r7 w:=by kernel_rfl
theorem OvC.reck71_8(w:AF):OvC.hold71.l8 w=OvC.hold71.r8 w:=by kernel_rfl
theorem OvC.reck71_9(w:AF):OvC.hold71.l9 w=OvC.hold71.r9 w:=by kernel_rfl
theorem OvC.reck71_10(w:AF):OvC.hold71.l10 w=OvC.hold71.r10 w:=by kernel_rfl
theorem OvC.reck71_11(w:AF):OvC.hold71.l11 w=OvC.hold71.r11 w:=by kernel_rfl
end
-- CHANGE: your row's module here,as the last of these rows
namespace L2
open PySem PySem.Spec PyProof.Rows
abbrev Key:=Sum Ae Ak
noncomputable def Xk:Key->Ai->Aj
 |.inl k,v=>Value.isInt k v
 |.inr x,v=>Value.isStrOf x v
noncomputable def bR(w:AF):Key->Ae
 |.inl k=>hashInt k
 |.inr x=>hashStr w x
theorem Jp:∀{k:Key}{v:Ai},Xk k v=Aa->(∃ i t,k=HY i/\v=Ma i t)\/(∃ x t,k=HZ x/\v=Mb x t)
 |.inl i,v,h=>by
  obtain⟨t,e⟩:=Value.isInt_shape (k:=i) (v:=v) h;exact .inl ⟨i,t,rfl,e⟩
 |.inr x,v,h=>by
  obtain⟨t,e⟩:=Value.isStrOf_shape (x:=x) (v:=v) h;exact .inr ⟨x,t,rfl,e⟩
theorem zE(a b:Ae):decide ((HY a:Key)=HY b)=(a==b):=by
 by_cases e:a=b
 .subst e;simp
 .have h:¬ (HY a:Key)=HY b:=λq=>e (Sum.inl.inj q)
  rw[Cp h];exact(Dt.mpr e).symm
theorem bg(a b:Ak):decide ((HZ a:Key)=HZ b)=decide (a=b):=by
 by_cases e:a=b
 .subst e;simp
 .have h:¬ (HZ a:Key)=HZ b:=λq=>e (Sum.inr.inj q)
  rw[Cp h,Cp e]
theorem zD(a:Ae)(b:Ak):decide ((HY a:Key)=HZ b)=Ad:=Cp (λq=>nomatch q)
theorem bh(a:Ak)(b:Ae):decide ((HZ a:Key)=HY b)=Ad:=Cp (λq=>nomatch q)
noncomputable def QI(prog:AV)(w:AF):PySem.KeyKind prog w Key where
 is:=Xk
 hash:=bR w
 inj:=λv a b ha hb=>by
  rcases Jp ha with ⟨i,t,rfl,rfl⟩|⟨x,t,rfl,rfl⟩
  .rcases Jp hb with ⟨j,u,rfl,e⟩|⟨y,u,rfl,e⟩
   .injection e with e1 _;rw[e1]
   .exact nomatch e
  .rcases Jp hb with ⟨j,u,rfl,e⟩|⟨y,u,rfl,e⟩
   .exact nomatch e
   .injection e with e1 _;rw[e1]
 byValue:=λk v h=>by
  rcases Jp h with ⟨i,t,rfl,rfl⟩|⟨x,t,rfl,rfl⟩<;>rfl
 pyHash:=λhv h=>by
  rcases Jp hv with ⟨i,t,rfl,rfl⟩|⟨x,t,rfl,rfl⟩
  .exact wpAny_pyHash_int h
  .exact wpAny_pyHash_str h
 eqBool:=λhu hv h=>by
  rcases Jp hu with ⟨i,t,rfl,rfl⟩|⟨x,t,rfl,rfl⟩
  .rcases Jp hv with ⟨j,u,rfl,rfl⟩|⟨y,u,rfl,rfl⟩
   .rw[zE]at h;exact wpAny_eqBool_int h
   .rw[zD]at h;exact SeqAt.EqAt.int_str i t y u _ _ _ _ h
  .rcases Jp hv with ⟨j,u,rfl,rfl⟩|⟨y,u,rfl,rfl⟩
   .rw[bh]at h;exact SeqAt.EqAt.str_int x t j u _ _ _ _ h
   .rw[bg]at h;exact wpAny_eqBool_str h
 «strs»:=λk x t v h=>by
  rcases Jp h with ⟨i,u,rfl,e⟩|⟨y,u,rfl,e⟩
  .exact nomatch e
  .injection e with e1 _
   subst e1;cases v<;>rfl
end L2
namespace L2
open PySem PySem.Spec PyProof.Rows
variable{us:Ac Ai}{a b it:Al}{P:AV}{h:AC}{o:C9}{g':A8 E2}{t' i k n:Ag}{d':IA}{ch fp:Ac Al}{x qual:Ak}{M:Hu}{u:Ai}{Q:Gp->Ar->Prop}{e tg:Ao}{s:Ar}{pos p:AO}{pI:Pn}{es:Ac Ao}{body:Ac AY}{f:Ai->Ai->Hl Ai}{g:Ae->Ae->Ae}{op:DC}{kw:Ac (Ak×Ai)}{fd:Cf}{ps:Ac Ak}{scope:Cz}
inductive V where
 |non|bl (b:Aj)|int (i:Ae)|str (x:Ak)|byt (b:A8 UInt8)|flt (b:UInt64)|ref (a:Al)|ty (n:DB)
 deriving DecidableEq
variable{xs vs:Ac V}{v:V}
def BU:V->Ai->Prop
 |.non,u=>u=Dj
 |.bl b,u=>u=K5 b
 |.int i,u=>∃ t,u=Ma i t
 |.str x,u=>∃ t,u=Mb x t
 |.byt b,u=>∃ t,u=ZY b t
 |.flt b,u=>∃ t,u=ZZ b t
 |.ref a,u=>u=BO a
 |.ty n,u=>u=Gh n
noncomputable abbrev Bo:Ac V->Ac Ai->Prop:=Ig BU
theorem Bo.length(r:Bo xs us):xs.length=us.length:=ZJ r
theorem Bo.get:∀{xs:Ac V}{us:Ac Ai}{i:Ag}{x:V},Bo xs us->xs[i]?=Ab x->∃ u,us[i]?=Ab u/\BU x u
 |_,_,_,_,.nil,e=>by simp at e
 |_,_,0,_,.cons r _,e=>by simp at e;subst e;exact⟨_,rfl,r⟩
 |_,_,i+1,x,.cons _ t,e=>by
  obtain⟨u,h1,h2⟩:=Bo.get (i:=i) (x:=x) t (by simpa using e)
  exact⟨u,by simpa using h1,h2⟩
theorem Bo.set{x:V}{u:Ai}(r:BU x u):∀{xs:Ac V}{us:Ac Ai}(i:Ag),Bo xs us->Bo (xs.set i x) (us.set i u)
 |_,_,_,.nil=>.nil
 |_,_,0,.cons _ t=>.cons r t
 |_,_,i+1,.cons q t=>.cons q (Bo.set r i t)
theorem Bo.append:∀{xs ys:Ac V}{us ws:Ac Ai},Bo xs us->Bo ys ws->Bo (xs++ys) (us++ws)
 |_,_,_,_,.nil,s=>s
 |_,_,_,_,.cons r t,s=>.cons r (Bo.append t s)
theorem Bo.take:∀{xs:Ac V}{us:Ac Ai}(n:Ag),Bo xs us->Bo (xs.take n) (us.take n)
 |_,_,0,_=>.nil
 |_,_,_+1,.nil=>.nil
 |_,_,n+1,.cons r t=>.cons r (Bo.take n t)
theorem Bo.drop:∀{xs:Ac V}{us:Ac Ai}(n:Ag),Bo xs us->Bo (xs.drop n) (us.drop n)
 |_,_,0,r=>r
 |_,_,_+1,.nil=>.nil
 |_,_,n+1,.cons _ t=>Bo.drop n t
def MZ:Ap V->Ap Ai->Prop
 |some v,Ab u=>BU v u
 |none,Af=>Ii
 |_,_=>Bl
def KV{κ:Type}:Ac (κ×V)->Ac (κ×Ai)->Prop:=Ig fun(p:κ×V)(q:κ×Ai)=>p.1=q.1/\BU p.2 q.2
noncomputable def kV:Key->V
 |.inl i=>.int i
 |.inr x=>.str x
inductive HO where
 /-- a list -/
 |lst (xs:Ac V)
 /-- a tuple (never changes) -/
 |tup (xs:Ac V)
 /-- a dict whose keys are ints and texts;one whose keys are tuples of ints and texts (the empty one is both) -/
 |dK (kvs:Ac (Key×V))|dT (kvs:Ac (Ac Key×V))
 /-- a set of ints: its members,its size -/
 |set (S:Ae->Aj) (n:Ag)
 /-- an instance of the class at C,its dict at dx,its attributes -/
 |ins (C dx:Al) (fs:Ac (Ak×V))
 /-- the dict of the instance at x -/
 |own (x:Al)
 /-- the dict of an exception -/
 |xd (fs:Ac (Ak×V))
 /-- a bound method,f of x -/
 |met (f x:Al)
 /-- a range object lo,lo+1,.. below hi -/
 |rng (lo hi:Ae)
 /-- a thing that is known to the object (the script;a dict while a loop walks it): read,never written while it is so -/
 |frz (o:C9) (u:HO)
 /-- a code object's table -/
 |tbl (ps:A8 Ai)
 /-- any other thing,by what is Aa of its one object (a def of one's own: SetO a S n:=HO.ext fun h=>..) -/
 |ext (φ:AC->Prop)
abbrev Hp:=Al->Ap HO
variable{H:Hp}
noncomputable def upd(H:Hp)(a:Al)(o:HO):Hp:=λb=>if b=a then Ab o else H b
theorem F7{o:HO}:upd H a o a=Ab o:=by unfold upd;rw[AI rfl]
theorem BQ{o:HO}(h:b≠a):upd H a o b=H b:=by unfold upd;rw[AT h]
theorem VA{o u:HO}:upd (upd H a o) a u=upd H a u:=by
 funext b;unfold upd;split<;>rfl
theorem Gr{o:HO}(h:H a=Ab o)(h':H b=Af):a≠b:=by
 intro e;subst e;rw[h]at h';cases h'
section
variable(P:AV)(w:AF)
def ObjOk(H:Hp)(h:AC)(a:Al):HO->Prop
  |.lst xs=>xs.length<=sizeLine/\∃(its:Ac Ai)(n:Ag),Bo xs its/\h.get? a=Ab { cls:=.type "list",data:=.seq its.toArray n }
  |.tup xs=>xs.length<=sizeLine/\∃ its:Ac Ai,Bo xs its/\Kl h a its.toArray
  |.dK kvs=>kvs.length<=sizeLine/\(a==La)=Ad/\∃ vs,KV kvs vs/\h.DictOf (QI P w) a vs
  |.dT kvs=>kvs.length<=sizeLine/\(a==La)=Ad/\∃ xs:Ac (Ac Key×Al×Ai),
      Ig (fun(p:Ac Key×V)(q:Ac Key×Al×Ai)=>p.1=q.1/\H q.2.1=Ab (.tup (p.1.map kV))/\BU p.2 q.2.2) kvs xs /\
      ∃ o es ep,h.get? a=Ab o/\o.ExactDict/\o.data=.dict es ep/\es.toList=xs.map (entryOfKey (tupleKind (QI P w)))/\(xs.map (·.1)).Nodup
  |.set S n=>h.SetOf (intKind P w) a S n
  |.ins C dx fs=>H dx=Ab (.own a)/\fs.length<=1000/\dx≠a/\h.get? a=Ab (PySem.W.instObj C dx) /\
      ∃ mA,h.Ns1 dx mA/\(∀ f,MZ (fs.lookup f) (mA f))/\PySem.Within mA (fs.map (·.1))
  |.own _=>∃ o,h.get? a=Ab o
  |.xd fs=>∃ mA,h.Ns1 a mA/\∀ f,MZ (fs.lookup f) (mA f)
  |.rng lo hi=>∃ t u v,h.get? a=Ab { cls:=.type "range",data:=.fields #[.int lo t,.int hi u,.int 1 v] }
  |.frz o u=>h.get? a=Ab o/\ObjOk H h a u
  |.tbl ps=>h.get? a=Ab {cls:=.none,data:=.fields ps}
  |.met f x=>h.get? a=Ab (HS (.ref f) (.ref x))
  |.ext φ=>φ h/\(∃ o,h.get? a=Ab o)/\∀ h1 h2:AC,φ h1->(∀ o,h1.get? a=Ab o->h2.get? a=Ab o)->φ h2
def HOk(H:Hp)(h:AC):Prop:=∀ a o,H a=Ab o->ObjOk P w H h a o
end
section
variable{P:AV}{w:AF}{H H':Hp}{h h':AC}{a:Al}{o:HO}
theorem ObjOk.lt(x:ObjOk P w H h a o):a<h.objs.size:=by
 cases o with
 |lst xs=>obtain⟨_,_,_,_,e⟩:=x;exact AB e
 |tup xs=>obtain⟨_,_,_,p⟩:=x;exact p.lt
 |dK kvs=>obtain⟨_,_,_,_,o,_,_,e,_⟩:=x;exact AB e
 |dT kvs=>obtain⟨_,_,_,_,o,_,_,e,_⟩:=x;exact AB e
 |set S n=>obtain⟨o,_,_,_,e,_⟩:=x;exact AB e
 |ins C dx fs=>obtain⟨_,_,_,e,_⟩:=x;exact AB e
 |own y=>obtain⟨_,e⟩:=x;exact AB e
 |xd fs=>obtain⟨_,⟨_,_,_,e,_⟩,_⟩:=x;exact AB e
 |rng lo hi=>obtain⟨_,_,_,e⟩:=x;exact AB e
 |frz ob u=>obtain⟨e,_⟩:=x;exact AB e
 |tbl ps=>exact AB (show h.get? a=Ab _ from x)
 |met f y=>exact AB (show h.get? a=Ab _ from x)
 |ext φ=>obtain⟨_,⟨_,e⟩,_⟩:=x;exact AB e
theorem Ig.mapP{α β:Type}{F G:α->β->Prop}:∀{l₁:Ac α}{l₂:Ac β},Ig F l₁ l₂->(∀ a b,F a b->G a b)->Ig G l₁ l₂
 |_,_,.nil,_=>.nil
 |_,_,.cons r t,f=>.cons (f _ _ r) (Ig.mapP t f)
theorem ObjOk.stay(x:ObjOk P w H h a o)(k:∀ b u,(b=a\/H b=Ab (.own a))->h.get? b=Ab u->h'.get? b=Ab u)(ho:∀ b,H b=Ab (.own a)->H' b=Ab (.own a))(ht:∀ b xs,H b=Ab (.tup xs)->H' b=Ab (.tup xs)):ObjOk P w H' h' a o:=by
 induction o with
 |lst xs=>obtain⟨z,its,n,r,e⟩:=x;exact⟨z,its,n,r,k _ _ (.inl rfl) e⟩
 |tup xs=>obtain⟨z,its,r,ob,e,c⟩:=x;exact⟨z,its,r,ob,k _ _ (.inl rfl) e,c⟩
 |dK kvs=>obtain⟨z,y,vs,r,ob,es,ep,e,c⟩:=x;exact⟨z,y,vs,r,ob,es,ep,k _ _ (.inl rfl) e,c⟩
 |dT kvs=>
  obtain⟨z,y,xs,r,ob,es,ep,e,c⟩:=x;exact⟨z,y,xs,Ig.mapP r λp q z=>⟨z.1,ht _ _ z.2.1,z.2.2⟩,ob,es,ep,k _ _ (.inl rfl) e,c⟩
 |set S n=>obtain⟨ob,es,ep,t,e,c⟩:=x;exact⟨ob,es,ep,t,k _ _ (.inl rfl) e,c⟩
 |ins C dx fs=>
  obtain⟨d,z,ne,e,mA,⟨od,es,ep,e2,c⟩,r⟩:=x;exact⟨ho _ d,z,ne,k _ _ (.inl rfl) e,mA,⟨od,es,ep,k _ _ (.inr d) e2,c⟩,r⟩
 |own y=>obtain⟨ob,e⟩:=x;exact⟨ob,k _ _ (.inl rfl) e⟩
 |xd fs=>obtain⟨mA,⟨od,es,ep,e,c⟩,r⟩:=x;exact⟨mA,⟨od,es,ep,k _ _ (.inl rfl) e,c⟩,r⟩
 |rng lo hi=>obtain⟨t,u,v,e⟩:=x;exact⟨t,u,v,k _ _ (.inl rfl) e⟩
 |frz ob u ih=>obtain⟨e,q⟩:=x;exact⟨k _ _ (.inl rfl) e,ih q⟩
 |tbl ps=>
  have e:h.get? a=Ab {cls:=.none,data:=.fields ps}:=x;show h'.get? a=Ab {cls:=.none,data:=.fields ps};exact k a _ (.inl rfl) e
 |met f y=>
  have e:h.get? a=Ab (HS (.ref f) (.ref y)):=x;show h'.get? a=Ab (HS (.ref f) (.ref y));exact k a _ (.inl rfl) e
 |ext φ=>obtain⟨p,⟨o,e⟩,st⟩:=x;exact⟨st _ _ p λo q=>k _ _ (.inl rfl) q,⟨o,k _ _ (.inl rfl) e⟩,st⟩
theorem HOk.lt(x:HOk P w H h)(e:H a=Ab o):a<h.objs.size:=(x a o e).lt
theorem HOk.fresh(x:HOk P w H h)(e:h.objs.size<=a):H a=Af:=by
 cases q:H a with
 |none=>rfl
 |some u=>exact absurd (AN (x.lt q) e) (Bt _)
theorem HOk.kept(x:HOk P w H h)(k:∀ b u,h.get? b=Ab u->h'.get? b=Ab u):HOk P w H h':=λa o e=>
 (x a o e).stay (λb u _ q=>k b u q) (λ_ q=>q) λ_ _ q=>q
theorem HOk.laid(x:HOk P w H h)(k:∀ b u,h.get? b=Ab u->h'.get? b=Ab u)(hp:h.objs.size<=a)(new:ObjOk P w (upd H a o) h' a o):HOk P w (upd H a o) h':=λb u e=>by
 have hn:=x.fresh hp;by_cases hb:b=a
 .subst hb;rw[F7]at e;cases e;exact new
 .rw[BQ hb]at e;exact(x b u e).stay (λc v _ q=>k c v q) (λc q=>by rw[BQ (Gr q hn)];exact q) λc xs q=>by rw[BQ (Gr q hn)];exact q
end
def Rd(H:Hp)(a:Al)(u:HO):Prop:=H a=Ab u\/∃ o,H a=Ab (.frz o u)
theorem Rd.ok{w:AF}{u:HO}(r:Rd H a u)(x:HOk P w H h):ObjOk P w H h a u:=by
 rcases r with r|⟨o,r⟩
 .exact x a u r
 .obtain⟨_,q⟩:=x a _ r;exact q
def Mut:Ap HO->Prop
 |some (.lst _)=>Ii
 |some (.dK _)=>Ii
 |some (.dT _)=>Ii
 |some (.set _ _)=>Ii
 |some (.ins _ _ _)=>Ii
 |some (.ext _)=>Ii
 |_=>Bl
section
variable{P:AV}{w:AF}{H:Hp}{h h':AC}{x e:Al}{o':HO}
theorem HOk.write(ok:HOk P w H h)(mu:Mut (H x))(he:e=x\/H e=Ab (.own x))(k:∀ b u,b≠e->h.get? b=Ab u->h'.get? b=Ab u)(heo:∃ u,h'.get? e=Ab u)(new:ObjOk P w (upd H x o') h' x o'):HOk P w (upd H x o') h':=λb u q=>by
 have nown:∀ c y,H c=Ab (.own y)->c≠x:=λc y r z=>by subst z;rw[r]at mu;exact mu
 have ntup:∀ c xs,H c=Ab (.tup xs)->c≠x:=λc xs r z=>by subst z;rw[r]at mu;exact mu
 by_cases hb:b=x
 .subst hb;rw[F7]at q;cases q;exact new
 .rw[BQ hb]at q;by_cases hbe:b=e
  .have q':H b=Ab (.own x):=by
    rcases he with z|z
    .exact absurd (hbe.trans z) hb
    .rw[hbe];exact z
   rw[q]at q';cases q';obtain⟨v,hv⟩:=heo;exact⟨v,by rw[hbe];exact hv⟩
  .refine(ok b u q).stay (λc v hc r=>k c v ?_ r) (λc r=>by rw[BQ (nown c b r)];exact r) λc xs r=>by rw[BQ (ntup c xs r)];exact r
   rcases hc with rfl|hc
   .exact hbe
   .rintro rfl;rcases he with z|z
    .exact nown c b hc z
    .rw[hc]at z;cases z;exact hb rfl
end
structure Un (fs ex:Ac Al) (H H':Hp) (h h':AC):Prop where
 keep:∀ b o,h.get? b=Ab o->H b=Af->b∉fs->b∉ex->h'.get? b=Ab o
 slot:∀ b o,h.get? b=Ab o->H b=Af->b∈fs->b∉ex->∃ sl,h'.get? b=Ab {o with slots:=sl}
 free:∀ b o,h.get? b=Ab o->H b=Af->b∉ex->H' b=Af
 there:∀ b o,h.get? b=Ab o->b∉ex->∃ o',h'.get? b=Ab o'
 tups:∀ b xs,H b=Ab (.tup xs)->H' b=Ab (.tup xs)
 frzs:∀ b o u,H b=Ab (.frz o u)->H' b=Ab (.frz o u)
 tbls:∀ b ps,H b=Ab (.tbl ps)->∃ more,H' b=Ab (.tbl (ps++more))
section
variable{fs fs' ex ex':Ac Al}{H H1 H2:Hp}{h h1 h2 h':AC}{a x e:Al}{o:HO}
theorem Un.any(u:Un fs ex H H1 h h1){ob:C9}(q:h.get? b=Ab ob)(n:H b=Af)(hx:b∉ex):∃ sl,h1.get? b=Ab {ob with slots:=sl}:=by
 by_cases hb:b∈fs
 .exact u.slot b ob q n hb hx
 .exact⟨ob.slots,u.keep b ob q n hb hx⟩
theorem Un.kept(k:∀ b u,h.get? b=Ab u->h'.get? b=Ab u):Un fs ex H H h h':=
 ⟨λb ob q _ _ _=>k b ob q,λb ob q _ _ _=>⟨ob.slots,k b ob q⟩,λ_ _ _ n _=>n,λb ob q _=>⟨ob,k b ob q⟩,λ_ _ q=>q,λ_ _ _ q=>q,λ_ ps q=>⟨#[],by rw[q];simp⟩⟩
theorem Un.refl:Un fs ex H H h h:=Un.kept λ_ _ q=>q
theorem Un.laid(k:∀ b u,h.get? b=Ab u->h'.get? b=Ab u)(hp:h.objs.size<=a)(hn:H a=Af):Un fs ex H (upd H a o) h h' where
 keep:=λb u q _ _ _=>k b u q
 slot:=λb u q _ _ _=>⟨u.slots,k b u q⟩
 free:=λb u q n _=>by rw[BQ (A4 (AN (AB q) hp))];exact n
 there:=λb u q _=>⟨u,k b u q⟩
 tups:=λb xs q=>by rw[BQ (Gr q hn)];exact q
 frzs:=λb u xs q=>by rw[BQ (Gr q hn)];exact q
 tbls:=λb ps q=>⟨#[],by rw[BQ (Gr q hn),q];simp⟩
theorem Un.write(mu:Mut (H x))(he:e=x\/H e=Ab (.own x))(k:∀ b u,b≠e->h.get? b=Ab u->h'.get? b=Ab u)(heo:∃ u,h'.get? e=Ab u):Un fs ex H (upd H x o) h h':=by
 have hx:∀ b,H b=Af->b≠x:=λb n z=>by subst z;rw[n]at mu;exact mu
 have hb:∀ b,H b=Af->b≠e:=λb n z=>by
  subst z;rcases he with r|r
  .exact hx b n r
  .rw[n]at r;cases r
 have hm:∀ b u,H b=Ab u->¬ Mut (Ab u)->b≠x:=λb u q nm z=>by subst z;rw[q]at mu;exact nm mu
 refine⟨λb u q n _ _=>k b u (hb b n) q,λb u q n _ _=>⟨u.slots,k b u (hb b n) q⟩,λb u q n _=>by rw[BQ (hx b n)];exact n,λb u q _=>?_,
  λb xs q=>by rw[BQ (hm b _ q λz=>z)];exact q,λb u xs q=>by rw[BQ (hm b _ q λz=>z)];exact q,λb ps q=>⟨#[],by rw[BQ (hm b _ q λz=>z),q];simp⟩⟩
 by_cases hbe:b=e
 .subst hbe;exact heo
 .exact⟨u,k b u hbe q⟩
end
noncomputable def trk(h:AC)(H:Hp):Ac Al:=(Bm h.objs.size).filter λa=>(H a).isSome
noncomputable def Jz(h:AC)(H:Hp):AC:=PySem.W.hideAll h (trk h H)
theorem iJ(h:AC)(H:Hp):(Jz h H).objs.size=h.objs.size:=PySem.W.hideAll_size _ _
theorem lG(e:h.get? b=Ab o)(n:H b=Af):(Jz h H).get? b=Ab o:=
 PySem.W.hideAll_get _ e λhm=>by
  have q:(H b).isSome=Aa:=(EX.mp hm).2;rw[n]at q;simp at q
theorem pJ(e:(Jz h H).get? b=Ab o):h.get? b=Ab o/\H b=Af:=by
 have e':h.get? b=Ab o:=PySem.W.of_hideAll (trk h H) e;refine⟨e',?_⟩;cases q:H b with
 |none=>rfl
 |some x=>
  have hm:b∈trk h H:=EX.mpr ⟨BE.mpr (AB e'),by simp[q]⟩
  have z:(Jz h H).get? b=Af:=PySem.W.hideAll_none (trk h H) hm;rw[z]at e;cases e
noncomputable def tV(g h:AC)(L:Al):Pn:=(Bm h.objs.size).filterMap λa=>if a=L\/(g.get? a).isSome=Aa then Af else (h.get? a).map λo=>(a,o)
noncomputable def rest(g h:AC)(L d:Al):Pn:=(tV g h L).filter λp=>decide (p.1≠d)
structure Mod (K:Fg) (mg:Ak->Ap Ai) (base:AC):Prop where
 kin:K.In base
 glob:base.Ns Ba mg
 blt:∃ mb,base.Ns Jj mb/\∀ x:Ak,x≠"__name__"->mb x=Dz x
 nolimit:base.NoLimit
structure Cx where
 prog:AV
 w:AF
 K:Fg
 mg:Ak->Ap Ai
 base:AC
 A:A9
 N:Ac Ak
 s₀:Ar
 H₀:Hp
 env:CN
 outer:Ac CN
 stack:Ac CN
 ex:Ac Al
 fn:Ak->Aj
 calm:Aj
 pn:Pn
 xe:Ai->Ar->Prop
variable{X:Cx}
noncomputable def frs(l:Ac CN):Ac Al:=l.filterMap (·.frame)
noncomputable abbrev Cx.fs(X:Cx):Ac Al:=frs X.outer
def Vis(sc:Cz)(x:Ak):Prop:=sc.names.lookup x=Ab .local\/sc.names.lookup x=Ab .cell\/sc.names.lookup x=Ab .free
def Loc(sc:Cz)(x:Ak):Prop:=sc.names.lookup x=Ab .local\/sc.names.lookup x=Ab .cell
noncomputable def dD(env:CN)(h:AC)(m:Ak->Ap Ai)(x:Ak)(u:Ai):Prop:=
 (env.kindOf x=Ab .local/\m x=Ab u)\/((env.kindOf x=Ab .cell\/env.kindOf x=Ab .free)/\∃ c,env.cells.lookup x=Ab c/\h.IsCell c (Ab u))
structure Cx.Ok (X:Cx):Prop where
 mod:Mod X.K X.mg X.base
 kind:X.env.scope.kind=.function
 glob:X.env.globals=Ba
 blt:X.env.builtins=Jj
 above:X.s₀.heap.objs.size<=X.env.locals
 inj:∀ x y c,X.env.cells.lookup x=Ab c->X.env.cells.lookup y=Ab c->x=y
 has:∀ x,(X.env.kindOf x=Ab .cell\/X.env.kindOf x=Ab .free)->∃ c,X.env.cells.lookup x=Ab c
 cab:∀ x c,X.fn x=Aa->X.env.cells.lookup x=Ab c->X.s₀.heap.objs.size<=c
 hd:X.calm=Aa->X.A.handled=Af
 frames:X.A.frames=Ab X.stack
 stk:X.stack=X.outer\/(X.stack=X.env::X.outer/\X.env.frame=Ab X.env.locals)
 exf:∀ b∈X.ex,b≠X.env.locals/\∀ x c,X.env.cells.lookup x=Ab c->c≠b
 bs:∀ b o,X.base.get? b=Ab o->X.s₀.heap.get? b=Ab o/\X.H₀ b=Af
 bsz:X.base.objs.size<=X.s₀.heap.objs.size
 noex:∀ b o,X.base.get? b=Ab o->b∉X.ex
 exfs:∀ b∈X.ex,b∉X.fs
 funs:X.s₀.heap.FunFrames X.base X.outer
 frf:∀ b∈X.fs,X.H₀ b=Af
structure Inv (X:Cx) (pI:Pn) (U:Ac (Ap V)) (H:Hp) (s:Ar):Prop where
 ok:X.Ok
 os:s.os=X.s₀.os
 bare:Gg s.gens
 base:Un X.fs X.ex X.H₀ H X.s₀.heap s.heap
 loc:∃ m,s.heap.Ns X.env.locals m/\∀(i:Ag)(x:Ak)(v:V),X.N[i]?=Ab x->U[i]?=Ab (Ab v)->Vis X.env.scope x->∃ u,BU v u/\dD X.env s.heap m x u
 cell:∀ x c,X.env.cells.lookup x=Ab c->∃ v,s.heap.IsCell c v
 free:H X.env.locals=Af
 freeC:∀ x c,X.env.cells.lookup x=Ab c->H c=Af
 pin:∀ p∈X.pn++pI,s.heap.get? p.1=Ab p.2/\H p.1=Af/\p.1≠X.env.locals/\p.1∉X.fs/\∀ v,p.2.data≠.cell v
 hok:HOk X.prog X.w H s.heap
 len:U.length=X.N.length
section
variable{X:Cx}{pI:Pn}{U:Ac (Ap V)}{H H':Hp}{s:Ar}{h':AC}
theorem Cx.Ok.nofr(ok:X.Ok)(e:X.base.get? b=Ab o):b∉X.fs:=λhb=>by
 have:=(ok.funs.mem hb).1;rw[e]at this;cases this
theorem Inv.bs(I:Inv X pI U H s):∀ b o,X.base.get? b=Ab o->s.heap.get? b=Ab o/\H b=Af:=λb o e=>
 ⟨I.base.keep b o (I.ok.bs b o e).1 (I.ok.bs b o e).2 (I.ok.nofr e) (I.ok.noex b o e),I.base.free b o (I.ok.bs b o e).1 (I.ok.bs b o e).2 (I.ok.noex b o e)⟩
theorem Inv.bk(I:Inv X pI U H s):∀ b o,X.base.get? b=Ab o->s.heap.get? b=Ab o:=λb o e=>(I.bs b o e).1
theorem Inv.mod(I:Inv X pI U H s):Mod X.K X.mg X.base:=I.ok.mod
theorem Inv.kIn(I:Inv X pI U H s):X.K.In s.heap:=I.ok.mod.kin.keeps I.bk
theorem Inv.lt(I:Inv X pI U H s):X.env.locals<s.heap.objs.size:=let ⟨_,hn,_⟩:=I.loc;hn.lt
theorem Inv.sz(I:Inv X pI U H s):X.s₀.heap.objs.size<=s.heap.objs.size:=Cb I.ok.above (Ff I.lt)
theorem Inv.nofs(I:Inv X pI U H s)(h:s.heap.objs.size<=a):a∉X.fs:=λhb=>by
 obtain⟨_,o,ho,_⟩:=I.ok.funs.mem hb;exact absurd (AN (AB ho) (Cb I.sz h)) (Bt _)
theorem Inv.cne(I:Inv X pI U H s):∀ x c,X.env.cells.lookup x=Ab c->c≠X.env.locals:=λx c e z=>by
 obtain⟨v,o,ho,hd⟩:=I.cell x c e;obtain⟨m,⟨o',es,ep,ho',hd',_⟩,_⟩:=I.loc;rw[z,ho']at ho;cases ho;rw[hd']at hd;cases hd
theorem Inv.funs(I:Inv X pI U H s):s.heap.FunFrames X.base X.outer:=by
 have all:∀(l:Ac CN),(∀ b∈frs l,b∈X.fs)->X.s₀.heap.FunFrames X.base l->s.heap.FunFrames X.base l:=by
  intro l
  induction l with
  |nil=>intro _ _;trivial
  |cons env r ih=>
   intro hs hl;obtain⟨hk,⟨L,o,hf,hn,ho,hd⟩,hr⟩:=hl;have hL:L∈X.fs:=hs L (by unfold frs;rw[Hf,hf];exact AE)
   obtain⟨sl,e⟩:=I.base.slot L o ho (I.ok.frf L hL) hL λz=>I.ok.exfs L z hL
   exact⟨hk,⟨L,_,hf,hn,e,hd⟩,ih (λb hb=>hs b (by unfold frs;rw[Hf,hf];exact Ay _ hb)) hr⟩
 exact all X.outer (λ_ hb=>hb) I.ok.funs
theorem Inv.stack(I:Inv X pI U H s):s.heap.FunFrames X.base X.stack:=by
 rcases I.ok.stk with e|⟨e,hf⟩
 .rw[e];exact I.funs
 .rw[e];obtain⟨m,hn,_⟩:=I.loc;refine .cons (by rw[I.ok.kind];decide) hf hn ?_ I.funs
  exact DO (Cb I.ok.bsz I.ok.above)
theorem Inv.stkSub(I:Inv X pI U H s):∀ b∈frs X.stack,b∈X.env.locals::X.fs:=λb hb=>by
 rcases I.ok.stk with e|⟨e,hf⟩
 .rw[e]at hb;exact Ay _ hb
 .rw[e]at hb;unfold frs at hb;rw[Hf,hf]at hb;exact hb
theorem Inv.stkFree(I:Inv X pI U H s):∀ b∈frs X.stack,H b=Af:=λb hb=>by
 rcases At.mp (I.stkSub b hb) with e|hb
 .rw[e];exact I.free
 .obtain⟨_,o,ho,_⟩:=I.ok.funs.mem hb;exact I.base.free b o ho (I.ok.frf b hb) λz=>I.ok.exfs b z hb
theorem Inv.step(I:Inv X pI U H s)(hch:∀ b∈ch,(b∈X.ex\/X.s₀.heap.objs.size<=b)/\b≠X.env.locals/\(∀ x c,X.env.cells.lookup x=Ab c->c≠b)/\∀ p∈X.pn++pI,p.1≠b)(keep:∀ b o,b≠X.env.locals->b∉X.fs->b∉ch->s.heap.get? b=Ab o->H b=Af->h'.get? b=Ab o)(slot:∀ b o,b≠X.env.locals->b∈X.fs->b∉ch->s.heap.get? b=Ab o->H b=Af->∃ sl,h'.get? b=Ab {o with slots:=sl})(free:∀ b o,b∉ch->s.heap.get? b=Ab o->H b=Af->H' b=Af)(there:∀ b o,b∉ch->s.heap.get? b=Ab o->∃ o',h'.get? b=Ab o')(tups:∀ b xs,H b=Ab (.tup xs)->H' b=Ab (.tup xs))(frzs:∀ b o u,H b=Ab (.frz o u)->H' b=Ab (.frz o u))(tbls:∀ b ps,H b=Ab (.tbl ps)->∃ more,H' b=Ab (.tbl (ps++more)))(ns:∀ m,s.heap.Ns X.env.locals m->h'.Ns X.env.locals m)(hok:HOk X.prog X.w H' h')(hg:Gg g'):Inv X pI U H' {s with heap:=h',gens:=g',drawn:=d',toks:=t'}:=by
 have neL:∀ b o,X.s₀.heap.get? b=Ab o->b≠X.env.locals:=λb o e=>A4 (AN (AB e) I.ok.above)
 have neC:∀ b o,X.s₀.heap.get? b=Ab o->b∉X.ex->b∉ch:=λb o e hx hb=>by
  rcases (hch b hb).1 with z|z
  .exact hx z
  .exact absurd (AN (AB e) z) (Bt _)
 have cellK:∀ x c,X.env.cells.lookup x=Ab c->∀ v,s.heap.IsCell c v->h'.IsCell c v:=λx c e v ⟨o,ho,hd⟩=>by
  have nch:c∉ch:=λz=>(hch c z).2.2.1 x c e rfl
  by_cases hc:c∈X.fs
  .obtain⟨sl,q⟩:=slot c o (I.cne x c e) hc nch ho (I.freeC x c e);exact⟨_,q,hd⟩
  .exact⟨o,keep c o (I.cne x c e) hc nch ho (I.freeC x c e),hd⟩
 refine⟨I.ok,I.os,hg,⟨λb o e n hb hx=>?_,λb o e n hb hx=>?_,λb o e n hx=>?_,λb o e hx=>?_,λb xs e=>tups b xs (I.base.tups b xs e),λb o xs e=>frzs b o xs (I.base.frzs b o xs e),λb ps e=>?_⟩,?_,λx c e=>?_,?_,λx c e=>?_,λp hp=>?_,hok,I.len⟩
 .exact keep b o (neL b o e) hb (neC b o e hx) (I.base.keep b o e n hb hx) (I.base.free b o e n hx)
 .obtain⟨sl,e1⟩:=I.base.slot b o e n hb hx;obtain⟨sl',e2⟩:=slot b _ (neL b o e) hb (neC b o e hx) e1 (I.base.free b o e n hx);exact⟨sl',e2⟩
 .obtain⟨o',e1⟩:=I.base.there b o e hx;exact free b o' (neC b o e hx) e1 (I.base.free b o e n hx)
 .obtain⟨o',e1⟩:=I.base.there b o e hx;exact there b o' (neC b o e hx) e1
 .obtain⟨m1,e1⟩:=I.base.tbls b ps e;obtain⟨m2,e2⟩:=tbls b _ e1;exact⟨m1++m2,by rw[e2,Array.append_assoc]⟩
 .obtain⟨m,hn,hl⟩:=I.loc;refine⟨m,ns m hn,λi x v e1 e2 e3=>?_⟩
  obtain⟨u,r,l⟩:=hl i x v e1 e2 e3;refine⟨u,r,?_⟩;rcases l with l|⟨k,c,e,z⟩
  .exact .inl l
  .exact .inr ⟨k,c,e,cellK x c e _ z⟩
 .obtain⟨v,z⟩:=I.cell x c e;exact⟨v,cellK x c e v z⟩
 .obtain⟨m,⟨o,_,_,ho,_⟩,_⟩:=I.loc;exact free _ o (λz=>(hch _ z).2.1 rfl) ho I.free
 .obtain⟨v,o,ho,hd⟩:=I.cell x c e;exact free c o (λz=>(hch c z).2.2.1 x c e rfl) ho (I.freeC x c e)
 .obtain⟨e,n,ne,nf,d⟩:=I.pin p hp;have nch:p.1∉ch:=λz=>(hch p.1 z).2.2.2 p hp rfl
  exact⟨keep p.1 p.2 ne nf nch e n,free p.1 p.2 nch e n,ne,nf,d⟩
theorem Inv.un(I:Inv X pI U H s)(u:Un X.fs [] H H' s.heap h')(hok:HOk X.prog X.w H' h'):Inv X pI U H' {s with heap:=h',toks:=t'}:=by
 obtain⟨m,⟨o,es,ep,ho,r⟩,_⟩:=id I.loc;obtain⟨sl,hL⟩:=u.any ho I.free (by simp)
 exact I.step (g':=s.gens) (d':=s.drawn) (ch:=[]) (λ_ z=>nomatch z) (λb o _ hb _ e n=>u.keep b o e n hb (by simp)) (λb o _ hb _ e n=>u.slot b o e n hb (by simp)) (λb o _ e n=>u.free b o e n (by simp)) (λb o _ e=>u.there b o e (by simp)) u.tups u.frzs u.tbls (λm' hm=>by
  obtain⟨o',es',ep',ho',r'⟩:=hm;rw[ho]at ho';cases ho';exact⟨_,es',ep',hL,r'⟩) hok I.bare
theorem Inv.call(I:Inv X pI U H s)(u:Un (frs X.stack) ch H H' s.heap h')(hok:HOk X.prog X.w H' h')(hg:Gg g')(hch:∀ b∈ch,(b∈X.ex\/X.s₀.heap.objs.size<=b)/\b≠X.env.locals/\(∀ x c,X.env.cells.lookup x=Ab c->c≠b)/\∀ p∈X.pn++pI,p.1≠b):Inv X pI U H' {s with heap:=h',gens:=g',drawn:=d',toks:=t'}:=by
 obtain⟨m,⟨o,es,ep,ho,r⟩,_⟩:=id I.loc;obtain⟨sl,hL⟩:=u.any ho I.free λz=>(hch _ z).2.1 rfl
 exact I.step (ch:=ch) hch (λb o hL hb hc e n=>u.keep b o e n (λz=>(At.mp (I.stkSub b z)).elim hL hb) hc) (λb o _ _ hc e n=>u.any e n hc) (λb o hc e n=>u.free b o e n hc) (λb o hc e=>u.there b o e hc) u.tups u.frzs u.tbls (λm' hm=>by
  obtain⟨o',es',ep',ho',r'⟩:=hm;rw[ho]at ho';cases ho';exact⟨_,es',ep',hL,r'⟩) hok hg
theorem Inv.turned(I:Inv X pI U H s)(k:∀ b o,b≠it->s.heap.get? b=Ab o->h'.get? b=Ab o)(hn:H it=Af)(hL:it≠X.env.locals)(h1:it∈X.ex\/X.s₀.heap.objs.size<=it)(h2:∀ x c,X.env.cells.lookup x=Ab c->c≠it)(h3:∀ p∈X.pn++pI,p.1≠it):Inv X pI U H {s with heap:=h',toks:=t'}:=by
 have nit:∀ b u,H b=Ab u->b≠it:=λb u e z=>by rw[z,hn]at e;cases e
 refine I.step (g':=s.gens) (d':=s.drawn) (ch:=[it]) (λb hb=>?_) (λb o _ _ hc e _=>k b o (λz=>hc (by simp[z])) e) (λb o _ _ hc e _=>⟨o.slots,k b o (λz=>hc (by simp[z])) e⟩) (λ_ _ _ _ n=>n)
  (λb o hc e=>⟨o,k b o (λz=>hc (by simp[z])) e⟩) (λ_ _ e=>e) (λ_ _ _ e=>e) (λb ps e=>⟨#[],by rw[e];simp⟩) (λm hm=>?_) (λb u e=>?_) I.bare
 .have e:b=it:=by simpa using hb
  subst e;exact⟨h1,hL,h2,h3⟩
 .obtain⟨o,es,ep,ho,r⟩:=hm;exact⟨o,es,ep,k _ o (DX hL) ho,r⟩
 .refine(I.hok b u e).stay (λc v hc q=>k c v ?_ q) (λ_ q=>q) λ_ _ q=>q
  rcases hc with z|z
  .rw[z];exact nit b u e
  .exact nit c _ z
theorem Inv.tok(I:Inv X pI U H s)(t:Ag):Inv X pI U H {s with toks:=t}:=I.un (h':=s.heap) (t':=t) Un.refl I.hok
theorem Inv.kept{t':Ag}(I:Inv X pI U H s)(k:∀ b u,s.heap.get? b=Ab u->h'.get? b=Ab u):Inv X pI U H {s with heap:=h',toks:=t'}:=I.un (Un.kept k) (I.hok.kept k)
theorem Inv.laid{a:Al}{o:HO}{t':Ag}(I:Inv X pI U H s)(k:∀ b u,s.heap.get? b=Ab u->h'.get? b=Ab u)(hp:s.heap.objs.size<=a)(new:ObjOk X.prog X.w (upd H a o) h' a o):Inv X pI U (upd H a o) {s with heap:=h',toks:=t'}:=I.un (Un.laid k hp (I.hok.fresh hp)) (I.hok.laid k hp new)
theorem Inv.write{x e:Al}{o:HO}{t':Ag}(I:Inv X pI U H s)(mu:Mut (H x))(he:e=x\/H e=Ab (.own x))(k:∀ b u,b≠e->s.heap.get? b=Ab u->h'.get? b=Ab u)(heo:∃ u,h'.get? e=Ab u)(new:ObjOk X.prog X.w (upd H x o) h' x o):Inv X pI U (upd H x o) {s with heap:=h',toks:=t'}:=I.un (Un.write mu he k heo) (I.hok.write mu he k heo new)
theorem Inv.pins_of{pins':Pn}(I:Inv X pI U H s)(h:∀ p∈pins',s.heap.get? p.1=Ab p.2/\H p.1=Af/\p.1≠X.env.locals/\p.1∉X.fs/\∀ v,p.2.data≠.cell v):Inv X pins' U H s:=
 ⟨I.ok,I.os,I.bare,I.base,I.loc,I.cell,I.free,I.freeC,λp hp=>(GW.mp hp).elim (λz=>I.pin p (Fp _ z)) (h p),I.hok,I.len⟩
theorem Qr{N:Ac Ak}(hN:N.Nodup){j:Ag}(a:N[i]?=Ab x)(b:N[j]?=Ab x):i=j:=by
 obtain⟨h1,e1⟩:=Bh.mp a;obtain⟨h2,e2⟩:=Bh.mp b;exact(List.getElem_inj hN).mp (e1.trans e2.symm)
theorem Uk{A:A9}{E:Vq}(I:Inv X pI U H s)(hN:X.N.Nodup)(hi:X.N[i]?=Ab x)(hx:Loc X.env.scope x)(r:BU v u)(h:∀ s',Inv X pI (U.set i (Ab v)) H s'->(∃ a,EF a s.heap s'.heap/\(a=X.env.locals\/X.env.cells.lookup x=Ab a))->Q () s')(hf:X.fn x=Aa\/X.env.scope.names.lookup x=Ab .local:=by first|exact .inl rfl|exact .inr rfl|assumption):Au M A (storeName X.env x u) Q E s:=by
 obtain⟨m,hn,hl⟩:=id I.loc;have hcls:(X.env.scope.kind==.class||(X.env.scope.kind==.module&&X.env.locals != X.env.globals))=Ad:=by rw[I.ok.kind];rfl
 have hiσ:i<U.length:=by rw[I.len];exact(Bh.mp hi).1
 have cne:=I.cne;have tracked:∀{a:Al}{h':AC},(∃ o,s.heap.get? a=Ab o/\H a=Af)->EF a s.heap h'->HOk X.prog X.w H h':=λ{a h'} ha hs b ob e=>by
  obtain⟨_,_,hfree⟩:=ha;refine(I.hok b ob e).stay (λc w' hc q=>(hs.2 c ?_).trans q) (λ_ q=>q) λ_ _ q=>q
  rintro rfl;rcases hc with rfl|hc
  .rw[hfree]at e;cases e
  .rw[hfree]at hc;cases hc
 rcases hx with hk|hk
 .refine wpAny_storeName_local hk hn (λh' hn' hs=>?_) hcls
  obtain⟨oL,_,_,hoL,_⟩:=id hn;refine h _ ⟨I.ok,I.os,I.bare,⟨λb o e n hb hx=>?_,λb o e n hb hx=>?_,I.base.free,λb o e hx=>?_,I.base.tups,I.base.frzs,I.base.tbls⟩,⟨_,hn',λj y v' e1 e2 e3=>?_⟩,λy c e=>?_,I.free,I.freeC,λp hp=>?_,tracked ⟨oL,hoL,I.free⟩ hs,by simpa using I.len⟩ ⟨_,hs,.inl rfl⟩
  .exact(hs.2 b (A4 (AN (AB e) I.ok.above))).trans (I.base.keep b o e n hb hx)
  .obtain⟨sl,e1⟩:=I.base.slot b o e n hb hx;exact⟨sl,(hs.2 b (A4 (AN (AB e) I.ok.above))).trans e1⟩
  .obtain⟨o',e1⟩:=I.base.there b o e hx;exact⟨o',(hs.2 b (A4 (AN (AB e) I.ok.above))).trans e1⟩
  .by_cases hj:j=i
   .subst hj;rw[hi]at e1;cases e1;rw[Dx hiσ]at e2;cases e2;exact⟨u,r,.inl ⟨hk,by simp⟩⟩
   .rw[GV (DX hj)]at e2;obtain⟨u',r',q⟩:=hl j y v' e1 e2 e3;refine⟨u',r',?_⟩;rcases q with ⟨k,e⟩|⟨k,c,e,z⟩
    .refine .inl ⟨k,?_⟩;have:y≠x:=λe=>hj (Qr hN e1 (e ▸ hi))
     simp[this,e]
    .exact .inr ⟨k,c,e,z.sameBut hs (cne y c e)⟩
  .obtain⟨w',z⟩:=I.cell y c e;exact⟨w',z.sameBut hs (cne y c e)⟩
  .obtain⟨e,n,ne,nf,d⟩:=I.pin p hp;exact⟨(hs.2 p.1 ne).trans e,n,ne,nf,d⟩
 .have hfn:X.fn x=Aa:=by
   rcases hf with z|z
   .exact z
   .rw[z]at hk;cases hk
  obtain⟨c,hc⟩:=I.ok.has x (.inl hk);obtain⟨w',z⟩:=I.cell x c hc;refine wpAny_storeName_cell I.ok.kind hk hc z (λh' hc' hs=>?_)
  obtain⟨oc,hoc,hocd⟩:=id z;refine h {s with heap:=h'} ⟨I.ok,I.os,I.bare,⟨λb o e n hb hx=>?_,λb o e n hb hx=>?_,I.base.free,λb o e hx=>?_,I.base.tups,I.base.frzs,I.base.tbls⟩,⟨m,hn.sameBut hs (DX (cne x c hc)),λj y v' e1 e2 e3=>?_⟩,λy c' e=>?_,I.free,I.freeC,λp hp=>?_,tracked ⟨oc,hoc,I.freeC x c hc⟩ hs,by simpa using I.len⟩ ⟨c,hs,.inr hc⟩
  .exact(hs.2 b (A4 (AN (AB e) (I.ok.cab x c hfn hc)))).trans (I.base.keep b o e n hb hx)
  .obtain⟨sl,e1⟩:=I.base.slot b o e n hb hx;exact⟨sl,(hs.2 b (A4 (AN (AB e) (I.ok.cab x c hfn hc)))).trans e1⟩
  .obtain⟨o',e1⟩:=I.base.there b o e hx;exact⟨o',(hs.2 b (A4 (AN (AB e) (I.ok.cab x c hfn hc)))).trans e1⟩
  .by_cases hj:j=i
   .subst hj;rw[hi]at e1;cases e1;rw[Dx hiσ]at e2;cases e2;exact⟨u,r,.inr ⟨.inl hk,c,hc,hc'⟩⟩
   .rw[GV (DX hj)]at e2;obtain⟨u',r',q⟩:=hl j y v' e1 e2 e3;refine⟨u',r',?_⟩;rcases q with q|⟨k,c',e,z'⟩
    .exact .inl q
    .refine .inr ⟨k,c',e,z'.sameBut hs ?_⟩;rintro rfl;exact hj (Qr hN e1 (I.ok.inj _ _ _ e hc ▸ hi))
  .by_cases hcc:c'=c
   .subst hcc;exact⟨_,hc'⟩
   .obtain⟨w2,z2⟩:=I.cell y c' e;exact⟨w2,z2.sameBut hs hcc⟩
  .obtain⟨e,n,ne,nf,d⟩:=I.pin p hp;refine⟨(hs.2 p.1 ?_).trans e,n,ne,nf,d⟩;intro q;rw[q,hoc]at e;have q':oc=p.2:=BM e;exact d w' (by rw[<-q'];exact hocd)
theorem QB{A:A9}{E:Vq}(I:Inv X pI U H s)(hN:X.N.Nodup)(hi:X.N[i]?=Ab x)(hx:Loc X.env.scope x)(r:BU v u)(h:∀ s',Inv X pI (U.set i (Ab v)) H s'->Q () s')(hf:X.fn x=Aa\/X.env.scope.names.lookup x=Ab .local:=by first|exact .inl rfl|exact .inr rfl|assumption):Au M A (storeName X.env x u) Q E s:=
 Uk I hN hi hx r (λs' I' _=>h s' I') hf
theorem Inv.call'{s':Ar}(I:Inv X pI U H s)(ho:s'.os=s.os)(u:Un (frs X.stack) ch H H' s.heap s'.heap)(hok:HOk X.prog X.w H' s'.heap)(hg:Gg s'.gens)(hch:∀ b∈ch,(b∈X.ex\/X.s₀.heap.objs.size<=b)/\b≠X.env.locals/\(∀ x c,X.env.cells.lookup x=Ab c->c≠b)/\∀ p∈X.pn++pI,p.1≠b):Inv X pI U H' s':=by
 obtain⟨h',g',d',t',o'⟩:=s';have e:o'=s.os:=ho;subst e;exact I.call (g':=g') (t':=t') (d':=d') u hok hg hch
end
abbrev XK:=Ai->Ap Al->Hp->Prop
abbrev St:=Ac (Ap V)
variable{U:St}
abbrev VK:=V->Hp->Prop
abbrev TE:=St->Hp->VK->Prop
variable{te:TE}
abbrev TT:=St->Hp->(Aj->Hp->Prop)->Prop
abbrev TA:=St->Hp->(Ac V->Hp->Prop)->Prop
variable{ta:TA}
structure Ends where
 nx:St->Hp->Prop
 rt:VK
 bk:St->Hp->Prop:=λ_ _=>Bl
 ct:St->Hp->Prop:=λ_ _=>Bl
abbrev TS:=Ends->St->Hp->Prop
def EP(X:Cx)(pI:Pn)(U:St)(Q:VK)(u:Ai)(s':Ar):Prop:=∃ v H',Inv X pI U H' s'/\BU v u/\Q v H'
def TP(X:Cx)(pI:Pn)(U:St)(Q:Aj->Hp->Prop)(b:Aj)(s':Ar):Prop:=∃ H',Inv X pI U H' s'/\Q b H'
def AP(X:Cx)(pI:Pn)(U:St)(Q:Ac V->Hp->Prop)(us:Ac Ai)(s':Ar):Prop:=∃ vs H',Inv X pI U H' s'/\Bo vs us/\Q vs H'
noncomputable def SP(X:Cx)(pI:Pn)(D:Ends)(f:Flow)(s':Ar):Prop:=
  match f with
  |.next=>∃ U' H',Inv X pI U' H' s'/\D.nx U' H'
  |.brk=>∃ U' H',Inv X pI U' H' s'/\D.bk U' H'
  |.cont=>∃ U' H',Inv X pI U' H' s'/\D.ct U' H'
  |.ret u=>∃ v U' H',Inv X pI U' H' s'/\BU v u/\D.rt v H'
noncomputable def PE(X:Cx)(e:Ao)(t:TE):Prop:=
 ∀(pI:Pn)(s:Ar)(U:St)(H:Hp)(Q:VK),Inv X pI U H s->t U H Q->Au (model X.prog X.w) X.A (eval e X.env) (EP X pI U Q) X.xe s
noncomputable def PT(X:Cx)(e:Ao)(t:TT):Prop:=
 ∀(pI:Pn)(s:Ar)(U:St)(H:Hp)(Q:Aj->Hp->Prop),Inv X pI U H s->t U H Q->Au (model X.prog X.w) X.A (Ja e X.env (eval e X.env)) (TP X pI U Q) X.xe s
noncomputable def PW(X:Cx)(e:Ao)(t:TT):Prop:=
 ∀(whole:Hl Ai)(pI:Pn)(s:Ar)(U:St)(H:Hp)(Q:Aj->Hp->Prop),Inv X pI U H s->t U H Q->Au (model X.prog X.w) X.A (Ja e X.env whole) (TP X pI U Q) X.xe s
theorem PW.pt{t:TT}(h:PW X e t):PT X e t:=h _
noncomputable def PA(X:Cx)(es:Ac Ao)(t:TA):Prop:=
 ∀(pos:AO)(pI:Pn)(s:Ar)(U:St)(H:Hp)(Q:Ac V->Hp->Prop),Inv X pI U H s->t U H Q->Au (model X.prog X.w) X.A (spliced (Cd pos (Ax es X.env))) (AP X pI U Q) X.xe s
noncomputable def PS(X:Cx)(st:AY)(t:TS):Prop:=
 ∀(pI:Pn)(s:Ar)(U:St)(H:Hp)(D:Ends),Inv X pI U H s->t D U H->Au (model X.prog X.w) X.A (exec st X.env) (SP X pI D) X.xe s
noncomputable def PSs(X:Cx)(st:Ac AY)(t:TS):Prop:=
 ∀(pI:Pn)(s:Ar)(U:St)(H:Hp)(D:Ends),Inv X pI U H s->t D U H->Au (model X.prog X.w) X.A (execs st X.env) (SP X pI D) X.xe s
theorem thn{α:Type}{t:Hl α}{Q Q':α->Ar->Prop}{A:A9}{E:Vq}(h:Au M A t Q E s)(hQ:∀ a s,Q a s->Q' a s):Au M A t Q' E s:=Bu h hQ λ_ _ x=>x
section
variable{X:Cx}
def GR(i:Ag):TE:=λU H Q=>∃ v,U[i]?=Ab (Ab v)/\Q v H
def tC(v:V):TE:=λ_ H Q=>Q v H
theorem N7(hN:X.N[i]?=Ab x)(hv:Vis X.env.scope x)(hd:(x==("__debug__" : Ak))=Ad:=by decide)(hcd:(x==("__classdict__" : Ak))=Ad:=by decide):PE X (.Name x pos) (GR i):=by
 intro pI s U H Q I h;obtain⟨v,e,h⟩:=h;obtain⟨m,hn,hl⟩:=I.loc;obtain⟨u,r,l⟩:=hl i x v hN e hv;have fin:EP X pI U Q u s:=⟨v,H,I,r,h⟩;rcases l with ⟨hk,hm⟩|⟨hk,c,hc,hcell⟩
 .exact Lb (wpAny_loadName_local I.ok.kind hk hn hm fin) hd
 .rcases hk with hk|hk
  .exact Lb (wpAny_loadName_cell I.ok.kind hk hc hcell fin) hd
  .exact Lb (wpAny_loadName_free I.ok.kind hk hc hcell fin hcd) hd
theorem xX{i j pos}:PE X (.Constant (.int i) j pos) (tC (.int i)):=λ_ _ _ H _ I h=>wpAny_Constant_int ⟨.int i,H,I.tok _,⟨_,rfl⟩,h⟩
theorem lr{b j pos}:PE X (.Constant (.bool b) j pos) (tC (.bl b)):=λ_ _ _ H _ I h=>Constant_bool ⟨.bl b,H,I,rfl,h⟩
theorem xV{j pos}:PE X (.Constant .none j pos) (tC .non):=λ_ _ _ H _ I h=>Constant_none ⟨.non,H,I,rfl,h⟩
theorem WX{x j pos}:PE X (.Constant (.str x) j pos) (tC (.str x)):=λ_ _ _ H _ I h=>Calls.Constant_str ⟨.str x,H,I.tok _,⟨_,rfl⟩,h⟩
def Gl(X:Cx)(x:Ak):Prop:=X.env.kindOf x=Ab .globalImplicit
theorem KG{E:Vq}{Q:Vq}(I:Inv X pI U H s)(hg:Gl X x)(hm:X.mg x=Ab u)(h:Q u s)(hd:(x==("__debug__" : Ak))=Ad:=by decide):Au (model X.prog X.w) X.A (eval (.Name x pos) X.env) Q E s:=
 YR I.ok.kind hg (Calls.loadGlobal_global (by rw[I.ok.glob];exact I.mod.glob.keeps I.bk) hm h) hd
theorem Ju{E:Vq}{Q:Vq}(I:Inv X pI U H s)(hg:Gl X x)(hm:X.mg x=Af)(hv:Dz x=Ab u)(h:Q u s)(hn:x≠"__name__" := by decide)(hd:(x==("__debug__" : Ak))=Ad:=by decide):Au (model X.prog X.w) X.A (eval (.Name x pos) X.env) Q E s:=by
 obtain⟨mb,h1,h2⟩:=I.mod.blt;exact YR I.ok.kind hg (Calls.loadGlobal_builtin (by rw[I.ok.glob];exact I.mod.glob.keeps I.bk) hm (by rw[I.ok.blt];exact h1.keeps I.bk) ((h2 x hn).trans hv) h) hd
theorem Vt(hg:Gl X x)(hm:X.mg x=Ab u)(r:BU v u)(hd:(x==("__debug__" : Ak))=Ad:=by decide):PE X (.Name x pos) (tC v):=
 λ_ _ _ H _ I h=>KG I hg hm ⟨v,H,I,r,h⟩ hd
theorem Vv(hg:Gl X x)(hm:X.mg x=Af)(hv:Dz x=Ab u)(r:BU v u)(hn:x≠"__name__" := by decide)(hd:(x==("__debug__" : Ak))=Ad:=by decide):PE X (.Name x pos) (tC v):=
 λ_ _ _ H _ I h=>Ju I hg hm hv ⟨v,H,I,r,h⟩ hn hd
variable{a b:Ao}{ta tb:TE}{pos:AO}
variable{tA tB':TT}{rest:Ac Ao}
def cK(t u:TT):TT:=λU H Q=>t U H λc H1=>if c=Aa then u U H1 Q else Q Ad H1
def tOr(t u:TT):TT:=λU H Q=>t U H λc H1=>if c=Aa then Q Aa H1 else u U H1 Q
def bY(t:TT):TT:=λU H Q=>t U H λc H1=>Q (!c) H1
theorem qY(ha:PT X a tA):PW X (.BoolOp .And [a] pos) tA:=by
 intro wh pI s U H Q I h;refine isTrue_and (thn (ha pI s U H Q I h) λc s1 e=>?_)
 cases c with
 |true=>exact isTrue_and_nil e
 |false=>exact e
theorem xJ(ha:PT X a tA):PW X (.BoolOp .Or [a] pos) tA:=by
 intro wh pI s U H Q I h;refine isTrue_or (thn (ha pI s U H Q I h) λc s1 e=>?_)
 cases c with
 |false=>exact isTrue_or_nil e
 |true=>exact e
theorem xK(ha:PT X a tA)(hb:PW X (.BoolOp .And (b::rest) pos) tB'):PW X (.BoolOp .And (a::b::rest) pos) (cK tA tB'):=by
 intro wh pI s U H Q I h;refine isTrue_and (thn (ha pI s U H _ I h) λc s1 ⟨H1,I1,q1⟩=>?_)
 cases c with
 |true=>exact hb wh pI s1 U H1 Q I1 q1
 |false=>exact⟨H1,I1,q1⟩
theorem lc(ha:PT X a tA)(hb:PW X (.BoolOp .Or (b::rest) pos) tB'):PW X (.BoolOp .Or (a::b::rest) pos) (tOr tA tB'):=by
 intro wh pI s U H Q I h;refine isTrue_or (thn (ha pI s U H _ I h) λc s1 ⟨H1,I1,q1⟩=>?_)
 cases c with
 |true=>exact⟨H1,I1,q1⟩
 |false=>exact hb wh pI s1 U H1 Q I1 q1
theorem xL(ha:PT X a tA):PT X (.UnaryOp .Not a pos) (bY tA):=by
 intro pI s U H Q I h;exact isTrue_not (ha pI s U H (λc H1=>Q (!c) H1) I h)
def fg(ta tb:TE):TE:=λU H Q=>ta U H λx H1=>∃ c,x=.bl c/\if c=Aa then tb U H1 Q else Q (.bl Ad) H1
def bX(ta tb:TE):TE:=λU H Q=>ta U H λx H1=>∃ c,x=.bl c/\if c=Aa then Q (.bl Aa) H1 else tb U H1 Q
def dw(ta:TE):TE:=λU H Q=>ta U H λx H1=>∃ c,x=.bl c/\Q (.bl (!c)) H1
theorem xT{op}{t:TE}(h:PE X a t):PE X (.BoolOp op [a] pos) t:=λpI s U H Q I hw=>BoolOp_one (h pI s U H Q I hw)
theorem wV(ha:PE X a ta)(hb:PE X (.BoolOp .And (b::rest) pos) tb):PE X (.BoolOp .And (a::b::rest) pos) (fg ta tb):=by
 intro pI s U H Q I h;refine BoolOp_and (thn (ha pI s U H _ I h) λv s1 ⟨x,H1,I1,r1,q1⟩=>?_)
 obtain⟨c,rfl,q1⟩:=q1;cases r1;refine C1 ?_;cases c with
 |true=>exact hb pI s1 U H1 Q I1 q1
 |false=>exact⟨.bl Ad,H1,I1,rfl,q1⟩
theorem ll(ha:PE X a ta)(hb:PE X (.BoolOp .Or (b::rest) pos) tb):PE X (.BoolOp .Or (a::b::rest) pos) (bX ta tb):=by
 intro pI s U H Q I h;refine BoolOp_or (thn (ha pI s U H _ I h) λv s1 ⟨x,H1,I1,r1,q1⟩=>?_)
 obtain⟨c,rfl,q1⟩:=q1;cases r1;refine C1 ?_;cases c with
 |false=>exact hb pI s1 U H1 Q I1 q1
 |true=>exact⟨.bl Aa,H1,I1,rfl,q1⟩
theorem xU(ha:PE X a ta):PE X (.UnaryOp .Not a pos) (dw ta):=by
 intro pI s U H Q I h;refine UnaryOp_ (thn (ha pI s U H _ I h) λv s1 ⟨x,H1,I1,r1,q1⟩=>?_)
 obtain⟨c,rfl,q1⟩:=q1;cases r1;exact not_of (C1 ⟨.bl (!c),H1,I1,rfl,q1⟩)
end
noncomputable def SqL(K:Fg)(H:Hp)(a:Al)(xs:Ac V):Prop:=
 Rd H a (.lst xs) \/
  ∃(o:C9)(its:A8 Ai)(n:Ag),K.lookup a=Ab o/\o.cls=.type "list"/\o.dict=Af/\o.data=.seq its n/\its.size<=sizeLine/\Bo xs its.toList
noncomputable def SqT(K:Fg)(H:Hp)(a:Al)(xs:Ac V):Prop:=
 Rd H a (.tup xs) \/
  ∃(o:C9)(its:A8 Ai)(n:Ag),K.lookup a=Ab o/\o.cls=.type "tuple"/\o.data=.seq its n/\its.size<=sizeLine/\Bo xs its.toList
noncomputable def dX:Ai->Ap V
 |.none=>Ab .non
 |.bool b=>Ab (.bl b)
 |.int i _=>Ab (.int i)
 |.str x _=>Ab (.str x)
 |.bytes b _=>Ab (.byt b)
 |.float b _=>Ab (.flt b)
 |.ref a=>Ab (.ref a)
 |.type n=>Ab (.ty n)
 |_=>Af
theorem BU.abs{x:V}(r:BU x u):dX u=Ab x:=by
 cases x with
 |non=>cases r;rfl
 |bl _=>cases r;rfl
 |int _=>obtain⟨t,rfl⟩:=r;rfl
 |str _=>obtain⟨t,rfl⟩:=r;rfl
 |byt _=>obtain⟨t,rfl⟩:=r;rfl
 |flt _=>obtain⟨t,rfl⟩:=r;rfl
 |ref _=>cases r;rfl
 |ty _=>cases r;rfl
theorem BU.inj{x y:V}(r:BU x u)(q:BU y u):x=y:=BM (r.abs.symm.trans q.abs)
theorem Bo.inj:∀{xs ys:Ac V}{us:Ac Ai},Bo xs us->Bo ys us->xs=ys
 |_,_,_,.nil,.nil=>rfl
 |_,_,_,.cons r t,.cons r' t'=>by rw[r.inj r',Bo.inj t t']
section
variable{X:Cx}{pI:Pn}{U:St}{H:Hp}{s:Ar}{a:Al}{xs ys:Ac V}
theorem SqL.of{K:Fg}(h:H a=Ab (.lst xs)):SqL K H a xs:=.inl (.inl h)
theorem SqT.of{K:Fg}(h:H a=Ab (.tup xs)):SqT K H a xs:=.inl (.inl h)
theorem Inv.list(I:Inv X pI U H s)(h:SqL X.K H a xs):∃ its:Ac Ai,Bo xs its/\PlainL s.heap a its.toArray/\xs.length<=sizeLine:=by
 rcases h with h|⟨o,its,n,hk,hc,hd,hs,hz,r⟩
 .obtain⟨z,its,n,r,e⟩:=h.ok I.hok;exact⟨its,r,⟨_,n,e,rfl,rfl,rfl⟩,z⟩
 .refine⟨its.toList,r,⟨o,n,I.kIn a o hk,hc,hd,by simpa using hs⟩,?_⟩
  have e:=r.length;simp only[EN]at e;omega
theorem Inv.tuple(I:Inv X pI U H s)(h:SqT X.K H a xs):∃ its:Ac Ai,Bo xs its/\Kl s.heap a its.toArray/\xs.length<=sizeLine:=by
 rcases h with h|⟨o,its,n,hk,hc,hs,hz,r⟩
 .obtain⟨z,its,r,p⟩:=h.ok I.hok;exact⟨its,r,p,z⟩
 .refine⟨its.toList,r,⟨o,I.kIn a o hk,hc,n,by simpa using hs⟩,?_⟩
  have e:=r.length;simp only[EN]at e;omega
theorem Inv.list_inj(I:Inv X pI U H s)(h:SqL X.K H a xs)(h':SqL X.K H a ys):xs=ys:=by
 obtain⟨its,r,⟨o,n,e,_,_,d⟩,_⟩:=I.list h;obtain⟨its',r',⟨o',n',e',_,_,d'⟩,_⟩:=I.list h';rw[e]at e';cases e';rw[d]at d'
 injection d' with d1 _
 have:its=its':=by simpa using congrArg XX d1
 subst this;exact r.inj r'
theorem Inv.tuple_inj(I:Inv X pI U H s)(h:SqT X.K H a xs)(h':SqT X.K H a ys):xs=ys:=by
 obtain⟨its,r,⟨o,e,_,n,d⟩,_⟩:=I.tuple h;obtain⟨its',r',⟨o',e',_,n',d'⟩,_⟩:=I.tuple h';rw[e]at e';cases e';rw[d]at d'
 injection d' with d1 _
 have:its=its':=by simpa using congrArg XX d1
 subst this;exact r.inj r'
end
noncomputable abbrev Cx.wish(X:Cx)(E:Vq):Cx:={X with xe:=E}
noncomputable abbrev Cx.nox(X:Cx):Cx:=X.wish λ_ _=>Bl
theorem Cx.Ok.wish(ok:X.Ok)(E:Vq):(X.wish E).Ok:=
 ⟨ok.mod,ok.kind,ok.glob,ok.blt,ok.above,ok.inj,ok.has,ok.cab,ok.hd,ok.frames,ok.stk,ok.exf,ok.bs,ok.bsz,ok.noex,ok.exfs,ok.funs,ok.frf⟩
theorem Cx.Ok.unwish{E:Vq}(ok:(X.wish E).Ok):X.Ok:=
 ⟨ok.mod,ok.kind,ok.glob,ok.blt,ok.above,ok.inj,ok.has,ok.cab,ok.hd,ok.frames,ok.stk,ok.exf,ok.bs,ok.bsz,ok.noex,ok.exfs,ok.funs,ok.frf⟩
section
variable{X:Cx}{pI:Pn}{U:St}{H:Hp}{s:Ar}{E:Vq}
theorem Inv.wish(I:Inv X pI U H s)(E:Vq):Inv (X.wish E) pI U H s:=⟨I.ok.wish E,I.os,I.bare,I.base,I.loc,I.cell,I.free,I.freeC,I.pin,I.hok,I.len⟩
theorem Inv.unwish(I:Inv (X.wish E) pI U H s):Inv X pI U H s:=⟨I.ok.unwish,I.os,I.bare,I.base,I.loc,I.cell,I.free,I.freeC,I.pin,I.hok,I.len⟩
theorem SP.unwish{D:Ends}{f:Flow}{s':Ar}(h:SP (X.wish E) pI D f s'):SP X pI D f s':=by
 cases f with
 |next=>obtain⟨U',H',I,q⟩:=h;exact⟨U',H',I.unwish,q⟩
 |brk=>obtain⟨U',H',I,q⟩:=h;exact⟨U',H',I.unwish,q⟩
 |cont=>obtain⟨U',H',I,q⟩:=h;exact⟨U',H',I.unwish,q⟩
 |ret u=>obtain⟨v,U',H',I,r,q⟩:=h;exact⟨v,U',H',I.unwish,r,q⟩
theorem PSs.nox{st:Ac AY}{t:TS}(h:PSs X.nox st t):PSs X st t:=λpI s U H D I hw=>
 Bu (h pI s U H D (I.wish _) hw) (λ_ _ q=>q.unwish) λ_ _ z=>BB z
end
section
variable{X:Cx}{st:AY}{rest:Ac AY}{t u:TS}{e:Ao}{te:TE}{pos:AO}
def eg:TS:=λD U H=>D.nx U H
def bV(t u:TS):TS:=λD U H=>t {D with nx:=u D} U H
theorem rC:PSs X [] eg:=λ_ _ U H _ I h=>FY ⟨U,H,I,h⟩
theorem UJ(h1:PS X st t)(h2:PSs X rest u):PSs X (st::rest) (bV t u):=by
 intro pI s U H D I h;refine Ih (thn (h1 pI s U H {D with nx:=u D} I h) λf s1 q=>?_)
 cases f with
 |next=>
  obtain⟨U',H',I',q⟩:=q;exact h2 pI s1 U' H' D I' q
 |ret v=>exact q
 |brk=>exact q
 |cont=>exact q
theorem MC(h1:PS X st t):PSs X [st] t:=by
 intro pI s U H D I h;refine Ih (thn (h1 pI s U H D I h) λf s1 q=>?_)
 cases f with
 |next=>exact FY q
 |ret v=>exact q
 |brk=>exact q
 |cont=>exact q
theorem Inv.quiet(I:Inv X pI U H s):interactive X.env=Ad:=by simp[interactive,I.ok.kind]
def eh(te:TE):TS:=λD U H=>te U H λ_ H1=>D.nx U H1
theorem KD(he:PE X e te)(hs:Dd e Af pos.line X.env=pure Ad:=by rfl):PS X (.Expr e pos) (eh te):=by
 intro pI s U H D I h;exact wpAny_Expr_any (thn (he pI s U H _ I h) λv s1 ⟨x,H1,I1,r1,q1⟩=>⟨U,H1,I1,q1⟩) I.quiet hs
def bW(te:TE):TS:=λD U H=>te U H D.rt
theorem QZ(he:PE X e te):PS X (.Return (Ab e) pos) (bW te):=by
 intro pI s U H D I h;exact wpAny_Return_some (thn (he pI s U H _ I h) λv s1 ⟨x,H1,I1,r1,q1⟩=>⟨x,U,H1,I1,r1,q1⟩)
def cE(c:TT)(t u:TS):TS:=λD U H=>c U H λb H1=>if b=Aa then t D U H1 else u D U H1
theorem lg{c:Ao}{a b:Ac AY}{tc:TT}(hc:PT X c tc)(ha:PSs X a t)(hb:PSs X b u):PS X (.If c a b pos) (cE tc t u):=by
 intro pI s U H D I h;refine wpAny_If (thn (hc pI s U H _ I h) λd s1 ⟨H1,I1,q1⟩=>?_)
 cases d with
 |true=>exact ha pI s1 U H1 D I1 q1
 |false=>exact hb pI s1 U H1 D I1 q1
end
abbrev TG:=V->St->Hp->(St->Hp->Prop)->Prop
abbrev TGs:=Ac V->St->Hp->(St->Hp->Prop)->Prop
noncomputable def PG(X:Cx)(target:Ao)(t:TG):Prop:=
 ∀(pI:Pn)(s:Ar)(U:St)(H:Hp)(v:V)(u:Ai)(Q:St->Hp->Prop),Inv X pI U H s->BU v u->t v U H Q ->
  Au (model X.prog X.w) X.A (assign target X.env u) (λ_ s'=>∃ U' H',Inv X pI U' H' s'/\Q U' H') X.xe s
noncomputable def PGs(X:Cx)(ts:Ac Ao)(t:TGs):Prop:=
 ∀(pI:Pn)(s:Ar)(U:St)(H:Hp)(vs:Ac V)(us:Ac Ai)(Q:St->Hp->Prop),Inv X pI U H s->Bo vs us->t vs U H Q ->
  Au (model X.prog X.w) X.A (assignInOrder ((CO ts X.env).map (·.2)) us) (λ_ s'=>∃ U' H',Inv X pI U' H' s'/\Q U' H') X.xe s
section
variable{X:Cx}{pos:AO}
def FP(i:Ag):TG:=λv U H Q=>Q (U.set i (Ab v)) H
theorem MD(hN:X.N.Nodup)(hi:X.N[i]?=Ab x)(hx:Loc X.env.scope x)(hf:X.fn x=Aa\/X.env.scope.names.lookup x=Ab .local:=by first|exact .inl rfl|exact .inr rfl|assumption):PG X (.Name x pos) (FP i):=by
 intro pI s U H v u Q I r h;exact aP (QB I hN hi hx r (λs' I'=>⟨_,H,I',h⟩) hf)
def Ix:TGs:=λvs U H Q=>vs=[]/\Q U H
def Iq(t:TG)(u:TGs):TGs:=λvs U H Q=>∃ v r,vs=v::r/\t v U H λU' H'=>u r U' H' Q
theorem Vs:PGs X [] Ix:=by
 intro pI s U H vs us Q I r h;obtain⟨e,h⟩:=h;subst e;cases r;exact assignInOrder_nil ⟨U,H,I,h⟩
theorem UK{t:TG}{u:TGs}(h1:PG X e t)(h2:PGs X es u)(hs:(CO (e::es) X.env).map (·.2)=assign e X.env::(CO es X.env).map (·.2):=by rfl):PGs X (e::es) (Iq t u):=by
 intro pI s U H vs us Q I r h;obtain⟨v,vr,e1,h⟩:=h;subst e1;cases r with
 |cons r rr=>
  rw[hs];refine assignInOrder_cons (thn (h1 pI s U H _ _ _ I r h) λ_ s1 ⟨U1,H1,I1,q1⟩=>?_)
  exact h2 pI s1 U1 H1 _ _ Q I1 rr q1
def L6(K:Fg)(n:Ag)(t:TGs):TG:=λv U H Q=>∃ a xs,v=.ref a/\SqT K H a xs/\xs.length=n/\t xs U H Q
theorem Q1{t:TGs}(hc:X.calm=Aa)(h:PGs X es t)(hn:(CO es X.env).length=n:=by rfl)(hst:(CO es X.env).findIdx? (·.1)=Af:=by rfl):PG X (.Tuple es k pos) (L6 X.K n t):=by
 intro pI s U H v u Q I r hw;obtain⟨a,xs,e1,hq,hl,hw⟩:=hw;subst e1;cases r;obtain⟨its,rv,ht,hz⟩:=I.tuple hq;refine assign_Tuple_tuple (I.ok.hd hc) ht (by simp[hn,<-hl,rv.length]) hst λh' hx=>?_
 have I1:Inv X pI U H {s with heap:=h'}:=I.kept (t':=s.toks) λb o e=>hx b o (A4 (AB e)) e
 exact h pI _ U H xs _ Q I1 (by simpa using rv) hw
def OJ(te:TE)(g:TG):TS:=λD U H=>te U H λx H1=>g x U H1 D.nx
theorem xN{g:TG}(he:PE X e te)(hg:PG X tg g)(hs:JG [tg] e pos.line X.env=pure Ad:=by rfl)(hw:HG [tg] e X.env=pure Af:=by rfl)(h1:(CO [tg] X.env).map (·.2)=[assign tg X.env]:=by rfl):PS X (.Assign [tg] e pos) (OJ te g):=by
 intro pI s U H D I h;refine wpAny_Assign_stores (thn (he pI s U H _ I h) λv s1 ⟨x,H1,I1,r1,q1⟩=>?_) hs hw
 rw[h1];exact thn (hg pI s1 U H1 x v _ I1 r1 q1) λ_ s2 q=>q
theorem N5{pos':AO}(hN:X.N.Nodup)(hi:X.N[i]?=Ab x)(hx:Loc X.env.scope x)(he:PE X e te)(hs:Dd e (Ab (.Name x pos')) pos.line X.env=pure Ad:=by rfl)(hf:X.fn x=Aa\/X.env.scope.names.lookup x=Ab .local:=by first|exact .inl rfl|exact .inr rfl|assumption):PS X (.Assign [.Name x pos'] e pos) (OJ te (FP i)):=by
 intro pI s U H D I h;refine wpAny_Assign_Name (thn (he pI s U H _ I h) λv s1 ⟨y,H1,I1,r1,q1⟩=>?_) hs
 exact QB I1 hN hi hx r1 (λs2 I2=>⟨_,H1,I2,q1⟩) hf
end
section
variable{X:Cx}{pos:AO}
end
structure It where
 go:Ag->Hp->Prop
 yld:Ag->Hp->V->Hp->Prop
 stop:Ag->Hp->Prop
noncomputable def Hs(X:Cx)(pI:Pn)(H:Hp)(b:Al):Prop:=
 H b=Af/\b≠X.env.locals/\b∉X.fs/\(b∈X.ex\/X.s₀.heap.objs.size<=b)/\(∀ x c,X.env.cells.lookup x=Ab c->c≠b)/\∀ p∈X.pn++pI,p.1≠b
theorem Inv.fpOk{H':Hp}(I:Inv X pI U H s)(hb:s.heap.objs.size<=b)(hn:H' b=Af):Hs X pI H' b:=by
 refine⟨hn,Dy (AN I.lt hb),I.nofs hb,.inr (Cb I.sz hb),λx c e z=>?_,λp hp z=>?_⟩
 .obtain⟨v,q⟩:=I.cell x c e;exact absurd (AN q.lt (by rw[z];exact hb)) (Bt _)
 .exact absurd (AN (AB (I.pin p hp).1) (by rw[z];exact hb)) (Bt _)
structure Turn (P:AV) (w:AF) (K:Fg) (tg:Ao) (J:It) (fp:Ac Al) (it:Al) (tn:Ag->AC->Prop):Prop where
 mem:it∈fp
 obj:∀ i h,tn i h->∀ b∈fp,∃ o,h.get? b=Ab o/\∀ v,o.data≠.cell v
 keep:∀ i h h',tn i h->(∀ b∈fp,∀ o,h.get? b=Ab o->h'.get? b=Ab o)->tn i h'
 item:∀(X:Cx),X.prog=P->X.w=w->X.K=K->X.calm=Aa->∀(i:Ag)(pI:Pn)(s:Ar)(U:St)(H:Hp)(E:Vq),Inv X pI U H s->(∀ b∈fp,Hs X pI H b)->tn i s.heap->J.go i H ->
  Au (model P w) X.A (Ei (.ref it)) (λr s1=>∃ u,r=Ab u /\
   Au (model P w) X.A (G4 tg (.ref it) u) (λ_ s2=>∃ x H',Inv X pI U H' s2/\BU x u/\J.yld i H x H'/\tn (i+1) s2.heap/\∀ b∈fp,H' b=Af) E s1) E s
 done:∀(X:Cx),X.prog=P->X.w=w->X.K=K->X.calm=Aa->∀(i:Ag)(pI:Pn)(s:Ar)(U:St)(H:Hp)(E:Vq),Inv X pI U H s->(∀ b∈fp,Hs X pI H b)->tn i s.heap->J.stop i H ->
  Au (model P w) X.A (Ei (.ref it)) (λr s1=>r=Af/\Inv X pI U H s1) E s
 self:∀(A:A9)(i:Ag)(s:Ar)(Q:Vq)(E:Vq),tn i s.heap->Q (.ref it) s->Au (model P w) A (K9 (.ref it)) Q E s
abbrev TI:=St->Hp->(It->Hp->Prop)->Prop
noncomputable def PIE(X:Cx)(pI:Pn)(U:St)(tg:Ao)(R:It->Hp->Prop)(itv:Ai)(s2:Ar):Prop:=
 ∃(it:Al)(fp:Ac Al)(tn:Ag->AC->Prop)(J:It)(H':Hp),itv=.ref it/\Inv X pI U H' s2/\Turn X.prog X.w X.K tg J fp it tn/\tn 0 s2.heap/\(∀ b∈fp,Hs X pI H' b)/\R J H'
noncomputable def PI(X:Cx)(tg iter:Ao)(wi:TI):Prop:=
 ∀(pI:Pn)(s:Ar)(U:St)(H:Hp)(R:It->Hp->Prop),Inv X pI U H s->wi U H R ->
  Au (model X.prog X.w) X.A (eval iter X.env) (λv s1=>Au (model X.prog X.w) X.A (K9 v) (PIE X pI U tg R) X.xe s1) X.xe s
theorem RV{A:A9}{E:Vq}{n:DB}{vs:A8 Ai}(ho:s.heap.get? it=Ab o)(hc:o.cls=.type n)(hd:o.data=.fields vs)(hn:["enumerate", "zip", "dict_itemiterator", "dict_reverseitemiterator", "odict_iterator", "itertools.zip_longest", "itertools.pairwise"].contains n=Ad)(hQ:Q () s):Au M A (G4 tg (.ref it) u) Q E s:=by
  unfold G4;cases tg<;>first
    |exact Av hQ
    | (cases u<;>first
        |exact Av hQ
        | (refine Ah (wpAny_load ho ?_)
           rw[hc,hd];show Au M A (if (["enumerate", "zip", "dict_itemiterator", "dict_reverseitemiterator", "odict_iterator", "itertools.zip_longest", "itertools.pairwise"].contains n&&vs[0]? == Ab (Cr _))=Aa then _ else _) Q E s
           rw[AT (by intro h;rw[hn,Bool.false_and]at h;cases h)]
           exact Av hQ))
noncomputable def Itl(K:Fg)(a:Al):It:=
 ⟨λi H=>∃ xs x,SqL K H a xs/\xs[i]?=Ab x,λi H x H'=>H'=H/\∀ xs,SqL K H a xs->xs[i]?=Ab x,λi H=>∃ xs,SqL K H a xs/\xs.length<=i⟩
noncomputable def Itt(K:Fg)(a:Al):It:=
 ⟨λi H=>∃ xs x,SqT K H a xs/\xs[i]?=Ab x,λi H x H'=>H'=H/\∀ xs,SqT K H a xs->xs[i]?=Ab x,λi H=>∃ xs,SqT K H a xs/\xs.length<=i⟩
noncomputable def Itr(lo:Ae)(n:Ag):It:=⟨λi _=>i<n,λi H x H'=>H'=H/\x=.int (lo+i),λi _=>n<=i⟩
theorem gP{w:AF}{K:Fg}(a it:Al):Turn P w K tg (Itl K a) [it] it (λi h=>h.IsListIter it a i) where
  mem:=by simp
  obj:=λi h st b hb=>by
    have e:b=it:=by simpa using hb
    subst e;obtain⟨o,e,c,d⟩:=st;exact⟨o,e,λv z=>by rw[d]at z;cases z⟩
  keep:=λi h h' st k=>st.at λo e=>k it (by simp) o e
  item:=by
    intro X hP hw hK hc i pI s U H E I hf st hg;subst hP hw hK;obtain⟨xs,x,hq,hx⟩:=hg;obtain⟨its,rv,p,hz⟩:=I.list hq;obtain⟨u,hu,ru⟩:=rv.get hx;obtain⟨f0,f1,f2,f3,f4,f5⟩:=hf it (by simp)
    refine aX st p.isList (x:=u) (by simpa using hu) λh' st' sb=>?_
    have I1:Inv X pI U H {s with heap:=h'}:=I.turned (t':=s.toks) (λb o hb e=>(sb.2 b hb).trans e) f0 f1 f3 f4 f5
    obtain⟨o,e,c,d⟩:=id st';exact⟨u,rfl,RV (s:={s with heap:=h'}) e c d (by decide) ⟨x,H,I1,ru,⟨rfl,λys hy=>by rw[I.list_inj hy hq];exact hx⟩,st',λb hb=>(hf b hb).1⟩⟩
  done:=by
    intro X hP hw hK hc i pI s U H E I hf st hg;subst hP hw hK;obtain⟨xs,hq,hx⟩:=hg;obtain⟨its,rv,p,hz⟩:=I.list hq;obtain⟨f0,f1,f2,f3,f4,f5⟩:=hf it (by simp)
    have hl:=rv.length;exact aW (I.ok.hd hc) st p.isList (by simp;omega) λh' eb=>⟨rfl,I.turned (t':=s.toks) (λb o hb e=>eb b o hb e) f0 f1 f3 f4 f5⟩
  self:=λ_ _ _ _ _ st h=>wpAny_pyIter_listiter st h
theorem gB{w:AF}{K:Fg}(a it:Al):Turn P w K tg (Itt K a) [it] it (λi h=>h.IsTupleIter it a i) where
  mem:=by simp
  obj:=λi h st b hb=>by
    have e:b=it:=by simpa using hb
    subst e;obtain⟨o,e,c,d⟩:=st;exact⟨o,e,λv z=>by rw[d]at z;cases z⟩
  keep:=λi h h' st k=>st.at λo e=>k it (by simp) o e
  item:=by
    intro X hP hw hK hc i pI s U H E I hf st hg;subst hP hw hK;obtain⟨xs,x,hq,hx⟩:=hg;obtain⟨its,rv,p,hz⟩:=I.tuple hq;obtain⟨u,hu,ru⟩:=rv.get hx;obtain⟨f0,f1,f2,f3,f4,f5⟩:=hf it (by simp)
    refine wpAny_pyNext_tuple_item st (show s.heap.IsTuple a its.toArray from p) (x:=u) (by simpa using hu) λh' st' sb=>?_
    have I1:Inv X pI U H {s with heap:=h'}:=I.turned (t':=s.toks) (λb o hb e=>(sb.2 b hb).trans e) f0 f1 f3 f4 f5
    obtain⟨o,e,c,d⟩:=id st';exact⟨u,rfl,RV (s:={s with heap:=h'}) e c d (by decide) ⟨x,H,I1,ru,⟨rfl,λys hy=>by rw[I.tuple_inj hy hq];exact hx⟩,st',λb hb=>(hf b hb).1⟩⟩
  done:=by
    intro X hP hw hK hc i pI s U H E I hf st hg;subst hP hw hK;obtain⟨xs,hq,hx⟩:=hg;obtain⟨its,rv,p,hz⟩:=I.tuple hq;obtain⟨f0,f1,f2,f3,f4,f5⟩:=hf it (by simp)
    have hl:=rv.length;exact wpAny_pyNext_tuple_end (I.ok.hd hc) st (show s.heap.IsTuple a its.toArray from p) (by simp;omega) λh' eb=>⟨rfl,I.turned (t':=s.toks) (λb o hb e=>eb b o hb e) f0 f1 f3 f4 f5⟩
  self:=λ_ _ _ _ _ st h=>wpAny_pyIter_tupleiter st h
theorem fD{w:AF}{K:Fg}(it:Al)(lo:Ae)(n:Ag):Turn P w K tg (Itr lo n) [it] it (λi h=>IsRangeIter h it (lo+(i:Ag)*1) ((n:Ae)-(i:Ag)) 1) where
  mem:=by simp
  obj:=λi h st b hb=>by
    have e:b=it:=by simpa using hb
    subst e;exact⟨_,st,λv z=>by
      have z':Data.fields _=L9 v:=z;cases z'⟩
  keep:=λi h h' st k=>k it (by simp) _ st
  item:=by
    intro X hP hw hK hc i pI s U H E I hf st hg;subst hP hw hK;obtain⟨f0,f1,f2,f3,f4,f5⟩:=hf it (by simp)
    have W:=Walks.range (prog:=X.prog) (w:=X.w) (I.ok.hd hc) it lo 1 n;refine W.item i s _ _ hg st λv h' tk hv st' kk=>?_
    obtain⟨t,rfl⟩:=hv;have I1:Inv X pI U H {s with heap:=h',toks:=tk}:=I.turned (λb o hb e=>kk b o (by simpa using hb) e) f0 f1 f3 f4 f5
    refine⟨_,rfl,RV (s:={s with heap:=h',toks:=tk}) (n := "range_iterator") st' rfl rfl (by decide) ⟨.int (lo+i),H,I1,⟨t,?_⟩,⟨rfl,rfl⟩,st',λb hb=>(hf b hb).1⟩⟩
    rw[Et]
  done:=by
    intro X hP hw hK hc i pI s U H E I hf st hg;subst hP hw hK;obtain⟨f0,f1,f2,f3,f4,f5⟩:=hf it (by simp)
    exact wpAny_pyNext_range_end (I.ok.hd hc) st (by have:n<=i:=hg;omega) λh' eb=>⟨rfl,I.turned (t':=s.toks) (λb o hb e=>eb b o hb e) f0 f1 f3 f4 f5⟩
  self:=λ_ _ _ _ _ st h=>wpAny_pyIter_rangeiter st h
section
variable{X:Cx}{tg:Ao}
theorem UI{R:It->Hp->Prop}{E:Vq}{lo hi:Ae}{t u v:Di}{tk:Ag}(I:Inv X pI U H s)(h1:-(2 ^ 62)<=lo)(h2:lo<2 ^ 62)(h3:-(2 ^ 62)<=hi)(h4:hi<2 ^ 62)(q:R (Itr lo (hi-lo).toNat) H):Au (model X.prog X.w) X.A (K9 (.ref s.heap.objs.size)) (PIE X pI U tg R) E { s with heap:=s.heap.push { cls:=.type "range",data:=.fields #[.int lo t,.int hi u,.int 1 v] },toks:=tk }:=by
 refine wpAny_pyIter_range (IsRange.new ..) (small_one h1 h2 h3 h4) ?_;have I1:Inv X pI U H { s with heap:=s.heap.push { cls:=.type "range",data:=.fields #[.int lo t,.int hi u,.int 1 v] },toks:=tk }:=I.kept λb o e=>As _ e
 refine⟨(s.heap.push { cls:=.type "range",data:=.fields #[.int lo t,.int hi u,.int 1 v] }).objs.size,[(s.heap.push { cls:=.type "range",data:=.fields #[.int lo t,.int hi u,.int 1 v] }).objs.size],_,_,H,rfl,
  I1.kept (t':=tk) λb o e=>As _ e,fD _ lo (hi-lo).toNat,?_,λb hb=>?_,q⟩
 .have e1:lo+((0:Ag):Ae)*1=lo:=by simp
  have e2:(((hi-lo).toNat:Ag):Ae)-((0:Ag):Ae)=Builtin.Range.rangeSize lo hi 1:=by rw[rangeSize_one];split<;>omega
  show IsRangeIter _ _ (lo+((0:Ag):Ae)*1) ((((hi-lo).toNat:Ag):Ae)-((0:Ag):Ae)) 1;rw[e1,e2];exact Az _ rfl
 .have e:b=(s.heap.push { cls:=.type "range",data:=.fields #[.int lo t,.int hi u,.int 1 v] }).objs.size:=by simpa using hb
  subst e;exact I1.fpOk (A7 _) (I1.hok.fresh (A7 _))
def k9(ta:TA):TI:=λU H R=>ta U H λvs H1=>∃ j:Ae,vs=[.int j]/\-(2 ^ 62)<=j/\j<2 ^ 62/\R (Itr 0 j.toNat) H1
def k8(ta:TA):TI:=λU H R=>ta U H λvs H1=>∃ i j:Ae,vs=[.int i,.int j]/\(-(2 ^ 62)<=i/\i<2 ^ 62/\-(2 ^ 62)<=j/\j<2 ^ 62)/\R (Itr i (j-i).toNat) H1
theorem gO{a:Ao}(hg:Gl X "range")(hm:X.mg "range" = Af)(ha:PA X [a] ta)(hs:Ax [a] X.env=[(Ad,eval a X.env)]:=by rfl):PI X tg (.Call (.Name "range" p) [a] [] pos) (k9 ta):=by
 intro pI s U H R I h;refine K1 (Ju I hg hm boot_range (Cw (thn (ha pos pI s U H _ I h) λus s1 ⟨vs,H1,I1,r1,q1⟩=>?_) hs rfl))
 obtain⟨j,e,q1,q2,q⟩:=q1;subst e;cases r1 with
 |cons r rr=>
  cases rr;obtain⟨t,rfl⟩:=r;exact call_range_1 (UI I1 (by omega) (by omega) q1 q2 (by simpa using q))
theorem gN{a b:Ao}(hg:Gl X "range")(hm:X.mg "range" = Af)(ha:PA X [a,b] ta)(hs:Ax [a,b] X.env=[(Ad,eval a X.env),(Ad,eval b X.env)]:=by rfl)(hs2:Ax [b] X.env=[(Ad,eval b X.env)]:=by rfl):
  PI X tg (.Call (.Name "range" p) [a,b] [] pos) (k8 ta):=by
 intro pI s U H R I h;refine K1 (Ju I hg hm boot_range (Cw (thn (ha pos pI s U H _ I h) λus s1 ⟨vs,H1,I1,r1,q1⟩=>?_) (by rw[hs,hs2]) (by rw[hs2];rfl)))
 obtain⟨i,j,e,⟨q1,q2,q3,q4⟩,q⟩:=q1;subst e;cases r1 with
 |cons r rr=>
  cases rr with
  |cons r' rr=>
   cases rr;obtain⟨t,rfl⟩:=r;obtain⟨t',rfl⟩:=r';exact call_range_2 (UI I1 q1 q2 q3 q4 q)
def cH(wi:TI)(g:TG)(tb:TS):TS:=λD U H=>wi U H λJ H1=>∃ W:Ag->Ag->St->Hp->Prop,(∃ m,W 0 m U H1)/\∀ i m U H,W i m U H ->
 (J.stop i H/\D.nx U H)\/(J.go i H/\∃ N:St->Hp->Prop,(∀ U' H',N U' H'->∃ m',m'<m/\W (i+1) m' U' H')/\∀ x H',J.yld i H x H'->g x U H' λU2 H2=>tb {D with nx:=N,ct:=N,bk:=D.nx} U2 H2)
noncomputable def KN(fp:Ac Al)(h:AC):Pn:=fp.filterMap λb=>(h.get? b).map λo=>(b,o)
theorem No(hb:b∈fp)(e:h.get? b=Ab o):(b,o)∈KN fp h:=List.mem_filterMap.mpr ⟨b,hb,by rw[e];rfl⟩
theorem Uu{p:Al×C9}(hp:p∈KN fp h):p.1∈fp/\h.get? p.1=Ab p.2:=by
 obtain⟨b,hb,e⟩:=List.mem_filterMap.mp hp;cases q:h.get? b with
 |none=>rw[q]at e;cases e
 |some o=>
  rw[q]at e;have e':(b,o)=p:=BM e;subst e';exact⟨hb,q⟩
theorem Inv.pinned(I:Inv X pI U H s)(hf:∀ b∈fp,Hs X pI H b)(ho:∀ b∈fp,∃ o,s.heap.get? b=Ab o/\∀ v,o.data≠.cell v):Inv X (pI++KN fp s.heap) U H s:=
 I.pins_of λp hp=>(GW.mp hp).elim (λz=>I.pin p (Bw _ z)) λz=>by
  obtain⟨hb,e⟩:=Uu z;obtain⟨f0,f1,f2,_⟩:=hf p.1 hb;obtain⟨o,e',d⟩:=ho p.1 hb;rw[e]at e';cases e';exact⟨e,f0,f1,f2,d⟩
theorem Inv.unpinned{pI pl:Pn}(I:Inv X (pI++pl) U H s):Inv X pI U H s:=I.pins_of λp hp=>I.pin p (Bw _ (Fp _ hp))
theorem xM{iter:Ao}{wi:TI}{g:TG}{tb:TS}(hp:F4 (model X.prog X.w) X.A X.env X.xe)(hc:X.calm=Aa)(hi:PI X tg iter wi)(hg:PG X tg g)(hb:PSs X body tb)(hs:∀ x,Do iter X.env x=pure x:=by intro _;rfl):PS X (.For tg iter body [] pos) (cH wi g tb):=by
 intro pI s U H D I h;refine wpAny_For (thn (hi pI s U H _ I h) λv s1 h1=>thn h1 λitv s2 h2=>?_) hs
 obtain⟨it,fp,tn,J,H2,e,I2,T,st2,f2,W,⟨m0,w0⟩,turn⟩:=h2;subst e
 -- what stays Aa of the iterator's objects through the loop
 have stat:∀{H':Hp},(∀ b∈fp,H' b=Af)->∀ b∈fp,Hs X pI H' b:=λhn b hb=>⟨hn b hb,(f2 b hb).2⟩
 refine codeAny_forLoop_any (λn s'=>∃ i U' H',Inv X pI U' H' s'/\tn i s'.heap/\(∀ b∈fp,H' b=Af)/\W i n U' H') ?_ m0 ⟨0,U,H2,I2,st2,λb hb=>(f2 b hb).1,w0⟩
 rintro n s3 ⟨i,U3,H3,I3,st3,fr3,w3⟩;rcases turn i n U3 H3 w3 with ⟨stop,qn⟩|⟨go,N,hN,step⟩
 .refine FZ hp (thn (T.done X rfl rfl rfl hc i pI s3 U3 H3 X.xe I3 (stat fr3) st3 stop) λr s4 ⟨hr,I4⟩=>?_)
  subst hr;exact FY ⟨U3,H3,I4,qn⟩
 .refine FZ hp (thn (T.item X rfl rfl rfl hc i pI s3 U3 H3 X.xe I3 (stat fr3) st3 go) λr s4 ⟨u,hr,h4⟩=>?_)
  subst hr;refine FZ hp (thn h4 λ_ s5 ⟨x,H5,I5,r5,y5,st5,fr5⟩=>?_)
  have I5':=I5.pinned (stat fr5) (T.obj _ _ st5);refine FZ hp (thn (hg _ s5 U3 H5 x u _ I5' r5 (step x H5 y5)) λ_ s6 ⟨U6,H6,I6,q6⟩=>?_)
  refine FZ hp (thn (hb _ s6 U6 H6 _ I6 q6) λf s7 q7=>?_)
  have again:∀{U7:St}{H7:Hp},Inv X (pI++KN fp s5.heap) U7 H7 s7->N U7 H7->∃ m,m<n/\∃ i U' H',Inv X pI U' H' s7/\tn i s7.heap/\(∀ b∈fp,H' b=Af)/\W i m U' H':=λ{U7 H7} I7 n7=>by
   obtain⟨m',hm,w7⟩:=hN U7 H7 n7;refine⟨m',hm,i+1,U7,H7,I7.unpinned,T.keep _ _ _ st5 λb hb o e=>(I7.pin (b,o) (Bw _ (Bw _ (No hb e)))).1,λb hb=>?_,w7⟩
   obtain⟨o,e,d⟩:=T.obj _ _ st5 b hb;exact(I7.pin (b,o) (Bw _ (Bw _ (No hb e)))).2.1
  cases f with
  |next=>obtain⟨U7,H7,I7,n7⟩:=q7;exact again I7 n7
  |cont=>obtain⟨U7,H7,I7,n7⟩:=q7;exact again I7 n7
  |brk=>obtain⟨U7,H7,I7,q7⟩:=q7;exact⟨U7,H7,I7.unpinned,q7⟩
  |ret v=>obtain⟨x7,U7,H7,I7,r7,q7⟩:=q7;exact⟨x7,U7,H7,I7.unpinned,r7,q7⟩
end
abbrev R2:=V->V->Hp->VK->Prop
variable{r:R2}
noncomputable def OpR(X:Cx)(f:Ai->Ai->Hl Ai)(r:R2):Prop:=
 ∀(pI:Pn)(s:Ar)(U:St)(H:Hp)(x y:V)(v u:Ai)(Q:VK),Inv X pI U H s->BU x v->BU y u->r x y H Q ->
  Au (model X.prog X.w) X.A (f v u) (EP X pI U Q) X.xe s
noncomputable def UnR(X:Cx)(f:Ai->Hl Ai)(r:V->Hp->VK->Prop):Prop:=
 ∀(pI:Pn)(s:Ar)(U:St)(H:Hp)(x:V)(v:Ai)(Q:VK),Inv X pI U H s->BU x v->r x H Q ->
  Au (model X.prog X.w) X.A (f v) (EP X pI U Q) X.xe s
noncomputable def J7(X:Cx)(f:Ai)(r:Ac V->Hp->VK->Prop):Prop:=
 ∀(pI:Pn)(s:Ar)(U:St)(H:Hp)(xs:Ac V)(us:Ac Ai)(Q:VK),Inv X pI U H s->Bo xs us->r xs H Q ->
  Au (model X.prog X.w) X.A (call f us) (EP X pI U Q) X.xe s
noncomputable def dZ(X:Cx)(r:V->Hp->(Aj->Hp->Prop)->Prop):Prop:=
 ∀(pI:Pn)(s:Ar)(U:St)(H:Hp)(x:V)(v:Ai)(Q:Aj->Hp->Prop),Inv X pI U H s->BU x v->r x H Q ->
  Au (model X.prog X.w) X.A (truthy v) (TP X pI U Q) X.xe s
def tOp(r:R2)(ta tb:TE):TE:=λU H Q=>ta U H λx H1=>tb U H1 λy H2=>r x y H2 Q
def tUn(r:V->Hp->VK->Prop)(ta:TE):TE:=λU H Q=>ta U H λx H1=>r x H1 Q
def rI(C:Ae->Ae->Prop)(g:Ae->Ae->V):R2:=λx y H Q=>∃ i j,x=.int i/\y=.int j/\C i j/\Q (g i j) H
def rI0(g:Ae->Ae->V):R2:=λx y H Q=>∃ i j,x=.int i/\y=.int j/\Q (g i j) H
def rU(g:Ae->V):V->Hp->VK->Prop:=λx H Q=>∃ i,x=.int i/\Q (g i) H
section
variable{X:Cx}{a b c:Ao}{ta tb tc:TE}{pos:AO}
theorem O1(ha:PE X a ta)(hb:PE X b tb){R:V->V->Hp->Prop}(I:Inv X pI U H s)(h:ta U H λx H1=>tb U H1 λy H2=>R x y H2){Q:Vq}(hf:∀ v u s2 x y H2,Inv X pI U H2 s2->BU x v->BU y u->R x y H2->Au (model X.prog X.w) X.A (f v u) Q X.xe s2):Au (model X.prog X.w) X.A (eval a X.env) (λv s₁=>Au (model X.prog X.w) X.A (eval b X.env) (λu s₂=>Au (model X.prog X.w) X.A (f v u) Q X.xe s₂) X.xe s₁) X.xe s:=by
 refine thn (ha pI s U H _ I h) λv s1 ⟨x,H1,I1,r1,q1⟩=>?_
 refine thn (hb pI s1 U H1 _ I1 q1) λu s2 ⟨y,H2,I2,r2,q2⟩=>?_
 exact hf v u s2 x y H2 I2 r1 r2 q2
theorem Xf{op:F3}(ho:OpR X (CB op) r)(ha:PE X a ta)(hb:PE X b tb):PE X (.BinOp a op b pos) (tOp r ta tb):=by
 intro pI s U H Q I h;exact wpAny_BinOp (O1 ha hb I h λv u s2 x y H2 I2 rx ry q=>ho pI s2 U H2 x y v u Q I2 rx ry q)
theorem lj{op:Km}{r:V->Hp->VK->Prop}(ho:UnR X (unaryOp op) r)(ha:PE X a ta):PE X (.UnaryOp op a pos) (tUn r ta):=by
 intro pI s U H Q I h;exact UnaryOp_ (thn (ha pI s U H _ I h) λv s1 ⟨x,H1,I1,r1,q1⟩=>ho pI s1 U H1 x v Q I1 r1 q1)
theorem opI{C:Ae->Ae->Prop}(rule:∀(i j:Ae)(t u:Di)(s:Ar)(Q:Vq)(E:Vq),C i j->Q (.int (g i j) s.toks) {s with toks:=s.toks+1}->Au (model X.prog X.w) X.A (f (.int i t) (.int j u)) Q E s):OpR X f (rI C λi j=>.int (g i j)):=by
 intro pI s U H x y v u Q I rx ry h;obtain⟨i,j,rfl,rfl,hc,q⟩:=h;obtain⟨t,rfl⟩:=rx;obtain⟨t',rfl⟩:=ry;exact rule i j t t' s _ _ hc ⟨.int (g i j),H,I.tok _,⟨_,rfl⟩,q⟩
theorem SV(rule:∀(i j:Ae)(t u:Di)(s:Ar)(Q:Vq)(E:Vq),Q (.int (g i j) s.toks) {s with toks:=s.toks+1}->Au (model X.prog X.w) X.A (f (.int i t) (.int j u)) Q E s):OpR X f (rI0 λi j=>.int (g i j)):=by
 intro pI s U H x y v u Q I rx ry h;obtain⟨i,j,rfl,rfl,q⟩:=h;obtain⟨t,rfl⟩:=rx;obtain⟨t',rfl⟩:=ry;exact rule i j t t' s _ _ ⟨.int (g i j),H,I.tok _,⟨_,rfl⟩,q⟩
theorem ON{g:Ae->Ae->Aj}(rule:∀(i j:Ae)(t u:Di)(s:Ar)(Q:Vq)(E:Vq),Q (.bool (g i j)) s->Au (model X.prog X.w) X.A (f (.int i t) (.int j u)) Q E s):OpR X f (rI0 λi j=>.bl (g i j)):=by
 intro pI s U H x y v u Q I rx ry h;obtain⟨i,j,rfl,rfl,q⟩:=h;obtain⟨t,rfl⟩:=rx;obtain⟨t',rfl⟩:=ry;exact rule i j t t' s _ _ ⟨.bl (g i j),H,I,rfl,q⟩
def dG(i j:Ae):Prop:=0<j/\j<1073741824
def dF(i j:Ae):Prop:=0<=j/\j<=1000000/\i.natAbs<2 ^ 64
def OZ(i j:Ae):Prop:=(-(2 ^ 64)<i/\i<2 ^ 64)\/(-(2 ^ 64)<j/\j<2 ^ 64)
theorem OZ.ok{i j:Ae}(h:OZ i j):Md i j:=by
 rcases h with ⟨h1,h2⟩|⟨h1,h2⟩
 .exact .of_left (intBits_le_64 h1 h2)
 .exact .of_right (intBits_le_64 h1 h2)
theorem xB:OpR X (CB .Add) (rI0 λi j=>.int (i+j)):=SV λ_ _ _ _ _ _ _ q=>add_int q
theorem wX:OpR X (CB .Sub) (rI0 λi j=>.int (i-j)):=SV λ_ _ _ _ _ _ _ q=>sub_int q
theorem qB:OpR X (CB .FloorDiv) (rI dG λi j=>.int (i/j)):=opI λi j _ _ _ _ _ hc q=>by
 have h1:(0:Ae)<j:=hc.1;have h2:j<1073741824:=hc.2;exact floordiv_int (by omega) (by rw[Int.fdiv_eq_ediv_of_nonneg i (by omega)];exact q) (.inl (PyProof.noPylong_small (by omega)))
theorem wZ:OpR X (CB .Mod) (rI (λ_ j=>0<j) λi j=>.int (i%j)):=opI λi j _ _ _ _ _ hc q=>by
 have h1:(0:Ae)<j:=hc;exact mod_int' (by omega) (by rw[Int.fmod_eq_emod_of_nonneg i (by omega)];exact q)
theorem wY:OpR X (CB .Pow) (rI dF λi j=>.int (i ^ j.toNat)):=opI λ_ _ _ _ _ _ _ hc q=>pow_int_small hc.1 hc.2.1 hc.2.2 q
theorem unI{f:Ai->Hl Ai}{g:Ae->Ae}(rule:∀(i:Ae)(t:Di)(s:Ar)(Q:Vq)(E:Vq),Q (.int (g i) s.toks) {s with toks:=s.toks+1}->Au (model X.prog X.w) X.A (f (.int i t)) Q E s):UnR X f (rU λi=>.int (g i)):=by
 intro pI s U H x v Q I rx h;obtain⟨i,rfl,q⟩:=h;obtain⟨t,rfl⟩:=rx;exact rule i t s _ _ ⟨.int (g i),H,I.tok _,⟨_,rfl⟩,q⟩
theorem wQ:UnR X (unaryOp .USub) (rU λi=>.int (-i)):=unI λ_ _ _ _ _ q=>neg_int q
end
section
variable{X:Cx}{a b c:Ao}{ta tb tc:TE}{pos:AO}
theorem Wp{Q:VK}{k k':Aj}(I:Inv X pI U H s)(q:Q (.bl k) H)(e:k=k'):EP X pI U Q (.bool k') s:=by
 subst e;exact⟨.bl k,H,I,rfl,q⟩
theorem m6:OpR X (CZ .Lt) (rI0 λi j=>.bl (decide (i<j))):=ON λ_ _ _ _ _ _ _ q=>lt_int q
theorem m7:OpR X (CZ .LtE) (rI0 λi j=>.bl (decide (i<=j))):=ON λ_ _ _ _ _ _ _ q=>le_int q
theorem m8:OpR X (CZ .Gt) (rI0 λi j=>.bl (decide (j<i))):=ON λ_ _ _ _ _ _ _ q=>gt_int q
theorem m9:OpR X (CZ .GtE) (rI0 λi j=>.bl (decide (j<=i))):=ON λ_ _ _ _ _ _ _ q=>ge_int q
theorem xA:OpR X (CZ .Is) (λx y H Q=>y=.non/\Q (.bl (decide (x=.non))) H):=by
 intro pI s U H x y v u Q I rx ry h;obtain⟨rfl,q⟩:=h;cases ry;refine is_none_gen (Wp I q ?_);cases x<;>first
  |(cases rx;rfl)
  |(obtain⟨t,rfl⟩:=rx;rfl)
theorem pZ:OpR X (CZ .IsNot) (λx y H Q=>y=.non/\Q (.bl (!decide (x=.non))) H):=by
 intro pI s U H x y v u Q I rx ry h;obtain⟨rfl,q⟩:=h;cases ry;refine isnot_none_gen (Wp I q ?_);cases x<;>first
  |(cases rx;rfl)
  |(obtain⟨t,rfl⟩:=rx;rfl)
theorem pS(ho:OpR X (CZ op) r)(ha:PE X a ta)(hb:PE X b tb)(hm:HE op b=Ad):PE X (.Compare a [op] [b] pos) (tOp r ta tb):=by
 intro pI s U H Q I h;exact wpAny_Compare1 (O1 ha hb I h λv u s2 x y H2 I2 rx ry q=>ho pI s2 U H2 x y v u Q I2 rx ry q) hm
def W3(t:TE):TT:=λU H Q=>t U H λx H'=>∃ k,x=.bl k/\Q k H'
theorem rB(ho:OpR X (CZ op) r)(ha:PE X a ta)(hb:PE X b tb)(hm:HE op b=Ad):PT X (.Compare a [op] [b] pos) (W3 (tOp r ta tb)):=by
 intro pI s U H Q I h;refine wpAny_isTrue_Compare1 (thn (ha pI s U H _ I h) λv s1 ⟨x,H1,I1,r1,q1⟩=>thn (hb pI s1 U H1 _ I1 q1) λu s2 ⟨y,H2,I2,r2,q2⟩=>
  thn (ho pI s2 U H2 x y v u _ I2 r1 r2 q2) λc s3 ⟨z,H3,I3,r3,k,e,q3⟩=>?_) hm
 subst e;cases r3;exact C1 ⟨H3,I3,q3⟩
def WL(r r':R2)(ta tb tc:TE):TE:=λU H Q=>ta U H λx H1=>tb U H1 λy H2=>r x y H2 λz H3=>∃ k,z=.bl k /\
 (if k=Aa then tc U H3 λw' H4=>r' y w' H4 Q else Q (.bl Ad) H3)
theorem jA{op':DC}{r':R2}(ho:OpR X (CZ op) r)(ho':OpR X (CZ op') r')(ha:PE X a ta)(hb:PE X b tb)(hc:PE X c tc)(hm:JS [op,op'] [b,c]=Ad:=by with_unfolding_all rfl):PE X (.Compare a [op,op'] [b,c] pos) (WL r r' ta tb tc):=by
 intro pI s U H Q I h;refine Compare_chain (thn (ha pI s U H _ I h) λv s1 ⟨x,H1,I1,r1,q1⟩=>chain_link (thn (hb pI s1 U H1 _ I1 q1) λu s2 ⟨y,H2,I2,r2,q2⟩=>
  thn (ho pI s2 U H2 x y v u _ I2 r1 r2 q2) λd s3 ⟨z,H3,I3,r3,k,e,q3⟩=>?_)) hm
 subst e;cases r3;refine C1 ?_;cases k with
 |false=>exact ite_ff ⟨.bl Ad,H3,I3,rfl,q3⟩
 |true=>exact ite_tt (chain_last (thn (hc pI s3 U H3 _ I3 q3) λw' s4 ⟨z',H4,I4,r4,q4⟩=>ho' pI s4 U H4 y z' u w' Q I4 r2 r4 q4))
theorem iT{op':DC}{r':R2}(ho:OpR X (CZ op) r)(ho':OpR X (CZ op') r')(ha:PE X a ta)(hb:PE X b tb)(hc:PE X c tc)(hm:JS [op,op'] [b,c]=Ad:=by with_unfolding_all rfl):PT X (.Compare a [op,op'] [b,c] pos) (W3 (WL r r' ta tb tc)):=by
 intro pI s U H Q I h;refine isTrue_chain (thn (ha pI s U H _ I h) λv s1 ⟨x,H1,I1,r1,q1⟩=>test_link (thn (hb pI s1 U H1 _ I1 q1) λu s2 ⟨y,H2,I2,r2,q2⟩=>
  thn (ho pI s2 U H2 x y v u _ I2 r1 r2 q2) λd s3 ⟨z,H3,I3,r3,k,e,q3⟩=>?_)) hm
 subst e;cases r3;refine C1 ?_;cases k with
 |false=>
  obtain⟨k',e',q'⟩:=q3;cases e';exact ite_ff ⟨H3,I3,q'⟩
 |true=>
  refine ite_tt (test_last (thn (hc pI s3 U H3 _ I3 q3) λw' s4 ⟨z',H4,I4,r4,q4⟩=>thn (ho' pI s4 U H4 y z' u w' _ I4 r2 r4 q4) λd' s5 ⟨z2,H5,I5,r5,k2,e2,q5⟩=>?_))
  subst e2;cases r5;exact C1 ⟨H5,I5,q5⟩
noncomputable def To(K:Fg)(x:V)(H:Hp)(k:Aj):Prop:=
  match x with
  |.non=>k=Ad
  |.bl b=>k=b
  |.int i=>k=(i != 0)
  |.str y=>y.length<=sizeLine/\k=((y.length:Ae) != 0)
  |.byt y=>y.size<=sizeLine/\k=((y.size:Ae) != 0)
  |.ref p=>(∃ xs,SqL K H p xs/\k=!xs.isEmpty)\/(∃ xs,SqT K H p xs/\k=!xs.isEmpty)\/∃ kvs,H p=Ab (.dK kvs)/\k=!kvs.isEmpty
  |_=>Bl
theorem fM{κ:Type}{kvs:Ac (κ×V)}{vs:Ac (κ×Ai)}(r:KV kvs vs):(!vs.isEmpty)=!kvs.isEmpty:=by
 cases r<;>rfl
theorem TN{its:Ac Ai}(r:Bo xs its):(!its.toArray.isEmpty)=!xs.isEmpty:=by
 cases r<;>simp
theorem MK:(sizeLine:Ag)<2 ^ 63:=by rw[DA];decide
theorem vJ:dZ X (λx H Q=>∃ k,To X.K x H k/\Q k H):=by
 intro pI s U H x v Q I rx h;obtain⟨k,e,q⟩:=h;have hl:=MK;have hs:sizeLine=16777216:=DA;cases x with
 |non=>
  cases rx;have e':k=Ad:=e;subst e';exact truthy_none ⟨H,I,q⟩
 |bl b=>
  cases rx;have e':k=b:=e;subst e';exact C1 ⟨H,I,q⟩
 |int i=>
  obtain⟨t,rfl⟩:=rx;have e':k=(i != 0):=e;subst e';exact PySem.P.truthy_int ⟨H,I,q⟩
 |str y=>
  obtain⟨t,rfl⟩:=rx;obtain⟨hy,e'⟩:y.length<=sizeLine/\k=((y.length:Ae) != 0):=e;subst e';exact PySem.P.truthy_str (by omega) ⟨H,I.tok _,q⟩
 |byt y=>
  obtain⟨t,rfl⟩:=rx;obtain⟨hy,e'⟩:y.size<=sizeLine/\k=((y.size:Ae) != 0):=e;subst e';exact PySem.W.truthy_bytes (by omega) ⟨H,I.tok _,q⟩
 |ref p=>
  cases rx;have e':(∃ xs,SqL X.K H p xs/\k=!xs.isEmpty)\/(∃ xs,SqT X.K H p xs/\k=!xs.isEmpty)\/∃ kvs,H p=Ab (.dK kvs)/\k=!kvs.isEmpty:=e;rcases e' with ⟨xs,hx,e'⟩|⟨xs,hx,e'⟩|⟨kvs,hx,e'⟩
  .subst e';obtain⟨its,r,pl,hz⟩:=I.list hx;have hlen:=r.length;exact wpAny_truthy_list pl.isList (by simp only[AJ];omega) ⟨H,I.tok _,by rw[TN r];exact q⟩
  .subst e';obtain⟨its,r,pl,hz⟩:=I.tuple hx;have hlen:=r.length;exact truthy_tuple pl (by simp only[AJ];omega) ⟨H,I.tok _,by rw[TN r];exact q⟩
  .subst e';obtain⟨hz,hS,vs,r,m⟩:kvs.length<=sizeLine/\(p==La)=Ad/\∃ vs,KV kvs vs/\s.heap.DictOf (QI X.prog X.w) p vs:=I.hok p _ hx;have hlen:kvs.length=vs.length:=ZJ r;exact wpAny_truthy_dict hS m (by omega) ⟨H,I.tok _,by rw[fM r];exact q⟩
 |_=>exact(show Bl from e).elim
theorem iS(ha:PE X a ta)(he:∀ whole,Ja a X.env whole=(do let v <-whole;standAt a.pos;holding [v] (truthy v))):PT X a (λU H Q=>ta U H λx H'=>∃ k,To X.K x H' k/\Q k H'):=by
 intro pI s U H Q I h;exact isTrue_plain (thn (ha pI s U H _ I h) λv s1 ⟨x,H1,I1,r1,q1⟩=>vJ pI s1 U H1 x v Q I1 r1 q1) (he _)
theorem fG:OpR X (CB .Add) (λx y H Q=>∃ i j,x=.str i/\y=.str j/\i.length+j.length<=sizeLine/\Q (.str (i++j)) H):=by
 intro pI s U H x y v u Q I rx ry h;obtain⟨i,j,rfl,rfl,hz,q⟩:=h;obtain⟨t,rfl⟩:=rx;obtain⟨t',rfl⟩:=ry;exact add_str (λt' tk=>⟨.str (i++j),H,I.tok _,⟨_,rfl⟩,q⟩) hz
theorem IL{x:V}(r:Bo [x] us):∃ u,us=[u]/\BU x u:=by
 cases r with
 |cons r1 r2=>cases r2;exact⟨_,rfl,r1⟩
theorem MR{x y:V}(r:Bo [x,y] us):∃ u w',us=[u,w']/\BU x u/\BU y w':=by
 cases r with
 |cons r1 r2=>
  cases r2 with
  |cons r3 r4=>cases r4;exact⟨_,_,rfl,r1,r3⟩
end
section
variable{prog:AV}{w:AF}{A:A9}{E:Vq}{s:Ar}{K:Fg}{x dx C f:Al}{mA:Ak->Ap Ai}{name:Ak}{v:Ai}
end
theorem MZ.some_of{o:Ap Ai}(r:MZ (Ab v) o):∃ u,o=Ab u/\BU v u:=by
 cases o with
 |none=>exact(show Bl from r).elim
 |some u=>exact⟨u,rfl,r⟩
theorem iK(r:BU v u):PySem.W.handedIn u=Aa:=by
 cases v with
 |non=>cases (show u=Dj from r);rfl
 |bl b=>cases (show u=K5 b from r);rfl
 |int i=>obtain⟨t,e⟩:=(show ∃ t,u=Ma i t from r);cases e;rfl
 |str x=>obtain⟨t,e⟩:=(show ∃ t,u=Mb x t from r);cases e;rfl
 |byt b=>obtain⟨t,e⟩:=(show ∃ t,u=ZY b t from r);cases e;rfl
 |flt b=>obtain⟨t,e⟩:=(show ∃ t,u=ZZ b t from r);cases e;rfl
 |ref a=>cases (show u=BO a from r);rfl
 |ty n=>cases (show u=Gh n from r);rfl
section
variable{P:AV}{w:AF}{H H':Hp}{h h':AC}{a C dx:Al}{fs fs':Ac (Ak×V)}
end
section
variable{X:Cx}{pI:Pn}{U:St}{H:Hp}{s:Ar}{a C dx:Al}{fs:Ac (Ak×V)}{f:Ak}{v:V}{A:A9}{E:Vq}
theorem tT{prog:AV}{w:AF}{env:CN}{f:Ak}{Q:Vq}(hb:FE e f env (eval e env)=eval e env)(h:Au (model prog w) A (eval e env) (λo s₁=>Au (model prog w) A (getAttr o f Aa) Q E s₁) E s):Au (model prog w) A (eval (.Attribute e f pos) env) Q E s:=
 Attribute_any_ h (by rw[arm_eval_Attribute,hb])
end
section
variable{X:Cx}{o e value:Ao}{f:Ak}{pos pos' tpos:AO}{ta tv:TE}
end
section
variable{X:Cx}{pI:Pn}{U:St}{H:Hp}{s:Ar}{A:A9}{E:Vq}{Q:Vq}{c:Ai}{b:Aj}
end
structure Room (k:Ag) (A:A9):Prop where
 hd:A.handled=Af
 dp:A.depth+3*k+5<Jd
 un:A.units+16*k+200<CA
 gd:A.guards=Ab []
theorem Room.mono{j:Ag}{A:A9}(r:Room k A)(h:j<=k):Room j A:=⟨r.hd,by have:=r.dp;omega,by have:=r.un;omega,r.gd⟩
theorem Room.deeper{A:A9}(r:Room (k+1) A)(env:CN):Room k (A.deeper env):=
 ⟨r.hd,by have:=r.dp;show A.depth+1+3*k+5<_;omega,by have:=r.un;show A.units+3+16*k+200<_;omega,r.gd⟩
theorem fJ{A:A9}{C:Al}:(A.under (.builtin "type.__call__" ⟨.ref C::us,kw⟩)).depth=A.depth+1:=by
 first|rfl|simp[JL,Code.weight,Code.isCreation,Code.isGuard,Code.isCaller,YV,JM,guardIds]
theorem fH{A:A9}{C:Al}:(A.under (.builtin "type.__call__" ⟨.ref C::us,kw⟩)).units=A.units+1:=by
 first|rfl|simp[JL,Code.cUnits,YV,JM]
theorem Room.depth{A:A9}(r:Room k A):A.depth<Jd:=by have:=r.dp;omega
theorem Room.units{A:A9}(r:Room k A):A.units+64<CA:=by have:=r.un;omega
def cA:TA:=λ_ H Q=>Q [] H
def ek(ta:TE)(tr:TA):TA:=λU H Q=>ta U H λx H1=>tr U H1 λxs H2=>Q (x::xs) H2
section
variable{X:Cx}{e:Ao}{es:Ac Ao}{te:TE}{t:TA}{pos:AO}
theorem Gs:PA X [] cA:=λ_ _ _ _ H Q I h=>YU ⟨[],H,I,.nil,h⟩
theorem Ee(ha:PE X e te)(hr:PA X es t)(hs:Ax (e::es) X.env=(Ad,eval e X.env)::Ax es X.env:=by rfl):PA X (e::es) (ek te t):=by
 intro pos pI s U H Q I h;rw[hs];show Au _ _ (spliced ((Ad,eval e X.env)::Cd pos (Ax es X.env))) _ _ s;refine YT (thn (ha pI s U H _ I h) λu s1 ⟨x,H1,I1,r1,q1⟩=>?_)
 exact thn (hr pos pI s1 U H1 _ I1 q1) λus s2 ⟨xs,H2,I2,r2,q2⟩=>⟨x::xs,H2,I2,.cons r1 r2,q2⟩
def bU(t:TA):TE:=λU H Q=>t U H λxs H1=>xs.length<=sizeLine/\∀ p,H1 p=Af->Q (.ref p) (upd H1 p (.tup xs))
def cB(t:TA):TE:=λU H Q=>t U H λxs H1=>xs.length<=sizeLine/\∀ p,H1 p=Af->Q (.ref p) (upd H1 p (.lst xs))
theorem WW{x1}(h:PA X es t):PE X (.Tuple es x1 pos) (bU t):=by
 intro pI s U H Q I hq;refine wpAny_Tuple_spliced (thn (h pos pI s U H _ I hq) λus s1 ⟨xs,H1,I1,r,z,q⟩=>⟨by rw[<-r.length];exact z,?_⟩)
 have hf:H1 s1.heap.objs.size=Af:=I1.hok.fresh (A7 _);refine⟨.ref s1.heap.objs.size,upd H1 s1.heap.objs.size (.tup xs),I1.laid (t':=s1.toks) (λb u e=>As _ e) (A7 _) ?_,rfl,q _ hf⟩
 exact⟨z,us,r,⟨_,Az _ rfl,rfl,_,rfl⟩⟩
theorem xW(h:PA X es t):PE X (.List es pos) (cB t):=by
 intro pI s U H Q I hq;refine wpAny_List_spliced (thn (h pos pI s U H _ I hq) λus s1 ⟨xs,H1,I1,r,z,q⟩=>⟨by rw[<-r.length];exact z,?_⟩)
 have hf:H1 s1.heap.objs.size=Af:=I1.hok.fresh (A7 _);refine⟨.ref s1.heap.objs.size,upd H1 s1.heap.objs.size (.lst xs),I1.laid (t':=s1.toks) (λb u e=>As _ e) (A7 _) ?_,rfl,q _ hf⟩
 exact⟨z,us,0,r,Az _ rfl⟩
end
abbrev Sp:=Ac V->Hp->VK->XK->Prop
variable{sp:Sp}
abbrev CXT:=Ac CN->Hp->Ar->XK->Ai->Ar->Prop
variable{CX:CXT}
structure Env0 (P:AV) (w:AF) (K:Fg) (mg:Ak->Ap Ai) (base:AC) (A:A9) (outer:Ac CN) (s:Ar) (H:Hp):Prop where
 frames:A.frames=Ab outer
 mod:Mod K mg base
 bs:∀ b o,base.get? b=Ab o->s.heap.get? b=Ab o/\H b=Af
 bsz:base.objs.size<=s.heap.objs.size
 funs:s.heap.FunFrames base outer
 frf:∀ b∈frs outer,H b=Af
 hok:HOk P w H s.heap
 bare:Gg s.gens
noncomputable def CE(outer:Ac CN)(P:AV)(w:AF)(H:Hp)(s:Ar)(Q:VK)(u:Ai)(s':Ar):Prop:=
 ∃ v H',s'.os=s.os/\Gg s'.gens/\Un (frs outer) [] H H' s.heap s'.heap/\HOk P w H' s'.heap/\BU v u/\Q v H'
noncomputable def CR(CX:CXT)(outer:Ac CN)(P:AV)(w:AF)(H:Hp)(s:Ar)(Q:VK)(E:XK)(r:IY)(s':Ar):Prop:=
  match r with
  |.ok (.ret u)=>CE outer P w H s Q u s'
  |.ok _=>Bl
  |.error e=>CX outer H s E e s'
structure FnOk (P:AV) (w:AF) (K:Fg) (mg:Ak->Ap Ai) (base:AC) (CX:CXT) (k:Ag) (f:Al) (fd:Cf) (ps:Ac Ak) (sp:Sp):Prop where
 len:∀ vs H Q E,sp vs H Q E->vs.length=ps.length
 run:∀(A:A9)(outer:Ac CN)(s:Ar)(H:Hp)(args:Args)(us:Ac Ai)(vs:Ac V)(Q:VK)(E:XK),Room k A->Env0 P w K mg base A outer s H->Hk s fd args (ps.zip us)->Bo vs us->sp vs H Q E ->
  Fl (model P w) A (.call (.ref f) args) (CR CX outer P w H s Q E) s
theorem FnOk.imp{w:AF}{K:Fg}{mg:Ak->Ap Ai}{base:AC}{f:Al}{sp':Sp}(F:FnOk P w K mg base CX k f fd ps sp)(h:∀ vs H Q E,sp' vs H Q E->sp vs H Q E):FnOk P w K mg base CX k f fd ps sp':=
 ⟨λvs H Q E q=>F.len vs H Q E (h _ _ _ _ q),λA outer s H args us vs Q E hr he hb hv hs=>F.run A outer s H args us vs Q E hr he hb hv (h _ _ _ _ hs)⟩
theorem Env0.make{w:AF}{K:Fg}{mg:Ak->Ap Ai}{base:AC}{A:A9}{outer:Ac CN}(e:Env0 P w K mg base A outer s H)(C:Al)(us:Ac Ai)(kw:Ac (Ak×Ai)):
    Env0 P w K mg base (A.under (.builtin "type.__call__" ⟨.ref C::us,kw⟩)) outer s H:=⟨by first|exact e.frames|(simpa [JL,Code.envs,JM,pushEnvs] using e.frames),e.mod,e.bs,e.bsz,e.funs,e.frf,e.hok,e.bare⟩
section
variable{X:Cx}{pI:Pn}{U:St}{H:Hp}{s s':Ar}
theorem Inv.env0(I:Inv X pI U H s):Env0 X.prog X.w X.K X.mg X.base X.A X.stack s H:=
 ⟨I.ok.frames,I.ok.mod,I.bs,Cb I.ok.bsz I.sz,I.stack,I.stkFree,I.hok,I.bare⟩
theorem Inv.after{Q:VK}(I:Inv X pI U H s)(h:CE X.stack X.prog X.w H s Q u s'):EP X pI U Q u s':=by
 obtain⟨v,H',os,bare,un,hok,r,q⟩:=h;obtain⟨hh,g,d,t,os'⟩:=s';obtain rfl:os'=s.os:=os;exact⟨v,H',I.call (h':=hh) (g':=g) (d':=d) (t':=t) (ch:=[]) un hok bare (λb z=>absurd z (by simp)),r,q⟩
end
def et(sp:Sp)(dvs:Ac V)(E:XK)(t:TA):TE:=λU H Q=>t U H λvs H1=>sp (vs++dvs) H1 Q E
noncomputable def G9(K:Fg)(fd:Cf)(ps:Ac Ak)(ds:Ac Ai):Prop:=
 ∀(s:Ar)(us:Ac Ai),K.In s.heap->(us++ds).length=ps.length->Hk s fd ⟨us,[]⟩ (ps.zip (us++ds))
theorem G9.all{K:Fg}(h:∀ us:Ac Ai,us.length=ps.length->Jg fd ⟨us,[]⟩=pure (ps.zip us)):G9 K fd ps []:=λs us _ hl=>by
 rw[C8]at hl ⊢;exact .of_eq (h us hl)
def LJ(CX:CXT)(X:Cx)(E:XK):Prop:=∀(pI:Pn)(U:St)(H:Hp)(s:Ar)(e:Ai)(s':Ar),Inv X pI U H s->CX X.stack H s E e s'->X.xe e s'
section
variable{X:Cx}{CX:CXT}{k:Ag}{f C:Al}{fd:Cf}{ps:Ac Ak}{sp:Sp}{dvs:Ac V}{ds:Ac Ai}{E:XK}{x m:Ak}{p pos apos:AO}{e o:Ao}{es:Ac Ao}{ta:TE}{t:TA}
theorem yF{Q:VK}(F:FnOk X.prog X.w X.K X.mg X.base CX k f fd ps sp)(hr:Room k X.A)(hb:G9 X.K fd ps ds)(hd:Bo dvs ds)(hx:LJ CX X E)(I:Inv X pI U H s)(r:Bo vs us)(h:sp (vs++dvs) H Q E):Au (model X.prog X.w) X.A (call (.ref f) us) (EP X pI U Q) X.xe s:=by
 have r2:Bo (vs++dvs) (us++ds):=r.append hd;have hl:(us++ds).length=ps.length:=by rw[<-r2.length];exact F.len _ _ _ _ h
 refine HV (G3 (F.run X.A X.stack s H ⟨us,[]⟩ (us++ds) (vs++dvs) Q E hr I.env0 (hb s us I.kIn hl) r2 h) λr s' hq=>?_)
 cases r with
 |error e=>exact hx pI U H s e s' I hq
 |ok fl=>
  cases fl with
  |ret u=>exact I.after hq
  |next=>exact BB hq
  |brk=>exact BB hq
  |cont=>exact BB hq
theorem Vu(F:FnOk X.prog X.w X.K X.mg X.base CX k f fd ps sp)(hr:Room k X.A)(hg:Gl X x)(hm:X.mg x=Ab (.ref f))(hk:CT X.K (.ref f)=Aa)(hb:G9 X.K fd ps ds)(hd:Bo dvs ds)(hx:LJ CX X E)(ha:PA X (e::es) t)(hdb:(x==("__debug__" : Ak))=Ad:=by decide)(he:Ax (e::es) X.env=(Ad,eval e X.env)::Ax es X.env:=by rfl)(hpl:(Cd pos (Ax es X.env)).any (·.1)=Ad:=by rfl):PE X (.Call (.Name x p) (e::es) [] pos) (et sp dvs E t):=by
 intro pI s U H Q I h;refine F5 (KG I hg hm ?_ hdb);refine Z_4 (h₀:=X.base) I.ok.mod.kin hk (thn (ha pos pI s U H _ I h) λus s1 ⟨vs,H1,I1,r,q⟩=>⟨I1.kIn,?_⟩) he hpl
 exact yF F hr hb hd hx I1 r q
end
section
variable{X:Cx}{CX:CXT}{k:Ag}{f C:Al}{fd:Cf}{ps ks:Ac Ak}{sp:Sp}{E:XK}{x m:Ak}{p pos apos kpos:AO}{e o:Ao}{es:Ac Ao}{kws:Ac Eu}{te ta:TE}{t tk:TA}{nm:Ap Ak}
variable{g:Ac Ai->Ac Ai->Ac Ai}{gV:Ac V->Ac V->Ac V}
end
structure FnScope (N P:Ac Ak) (sc:Cz):Prop where
 kind:sc.kind=.function
 co:sc.isCoroutine=Ad
 gen:sc.isGenerator=Ad
 nd:N.Nodup
 pre:N.take P.length=P
 par:∀ x∈P,sc.names.lookup x=Ab .local\/sc.names.lookup x=Ab .cell
 nofree:∀ y∈sc.names,y.2≠.free
theorem Ub{kindOf:Ak->Ap EG}{x:Ak}:∀{binds:Ac (Ak×Ai)}{m:Ak->Ap Ai},(∀ v,(x,v)∉binds)->Ji kindOf binds m x=m x
 |[],_,_=>rfl
 |(n,v)::r,m,h=>by
  unfold Ji;rw[Ub λw hw=>h w (Ay _ hw)]
  split
  .have:x≠n:=by rintro rfl;exact h v AE
   simp[this]
  .rfl
theorem Ud{kindOf:Ak->Ap EG}{x:Ak}:∀{binds:Ac (Ak×Ai)}{m:Ak->Ap Ai},(∀ v,(x,v)∉binds)->Jh kindOf binds m x=m x
 |[],_,_=>rfl
 |(n,v)::r,m,h=>by
  unfold Jh;rw[Ud λw hw=>h w (Ay _ hw)]
  split
  .rfl
  .have:x≠n:=by rintro rfl;exact h v AE
   simp[this]
theorem Uc{kindOf:Ak->Ap EG}{x:Ak}{v:Ai}:∀{P:Ac Ak}{vs:Ac Ai}{i:Ag}{m:Ak->Ap Ai},P.Nodup->P[i]?=Ab x->vs[i]?=Ab v->kindOf x=Ab .local->Ji kindOf (P.zip vs) m x=Ab v
 |[],_,_,_,_,h,_,_=>by simp at h
 |_::_,[],_,_,_,_,h,_=>by simp at h
 |p::P,w::vs,0,m,nd,h1,h2,hk=>by
  simp at h1 h2;subst h1;subst h2;show Ji kindOf ((p,w)::P.zip vs) m p=_;unfold Ji;rw[Ub λv hv=>(BW.mp nd).1 (Iz hv).1,AI hk]
  simp
 |p::P,w::vs,i+1,m,nd,h1,h2,hk=>by
  show Ji kindOf ((p,w)::P.zip vs) m x=_;unfold Ji;exact Uc (i:=i) (BW.mp nd).2 (by simpa using h1) (by simpa using h2) hk
theorem Ue{kindOf:Ak->Ap EG}{x:Ak}{v:Ai}:∀{P:Ac Ak}{vs:Ac Ai}{i:Ag}{m:Ak->Ap Ai},P.Nodup->P[i]?=Ab x->vs[i]?=Ab v->kindOf x≠Ab .local->Jh kindOf (P.zip vs) m x=Ab v
 |[],_,_,_,_,h,_,_=>by simp at h
 |_::_,[],_,_,_,_,h,_=>by simp at h
 |p::P,w::vs,0,m,nd,h1,h2,hk=>by
  simp at h1 h2;subst h1;subst h2;show Jh kindOf ((p,w)::P.zip vs) m p=_;unfold Jh;rw[Ud λv hv=>(BW.mp nd).1 (Iz hv).1,AT hk]
  simp
 |p::P,w::vs,i+1,m,nd,h1,h2,hk=>by
  show Jh kindOf ((p,w)::P.zip vs) m x=_;unfold Jh;exact Ue (i:=i) (BW.mp nd).2 (by simpa using h1) (by simpa using h2) hk
noncomputable def start(N:Ac Ak)(vs:Ac V):St:=vs.map Ab++Hj (N.length-vs.length) Af
noncomputable def GS(CX:CXT)(P:AV)(w:AF)(K:Fg)(mg:Ak->Ap Ai)(base:AC)(N:Ac Ak)(qual:Ak)(scope:Cz)(f:Al)(cd:Ai)(A:A9)(outer:Ac CN)(s:Ar)(H:Hp)(E:XK):Cx where
 prog:=P
 w:=w
 K:=K
 mg:=mg
 base:=base
 A:=A.deeper (FB qual scope s.heap.objs.size f cd)
 N:=N
 s₀:=s
 H₀:=H
 env:=FB qual scope s.heap.objs.size f cd
 outer:=outer
 stack:=FB qual scope s.heap.objs.size f cd::outer
 ex:=[]
 calm:=Aa
 fn:=λ_=>Aa
 pn:=[]
 xe:=λe s'=>Au (model P w) (A.deeper (FB qual scope s.heap.objs.size f cd)) (leaving (FB qual scope s.heap.objs.size f cd) e) (λ_ s''=>CX outer H s E e s'') (λe' s''=>CX outer H s E e' s'') s'
theorem Vf{sc:Cz}(h:sc.names.lookup x=Ab .cell):∃ c,(Dr n sc.names []).lookup x=Ab c:=by
 have q:=Z_5 sc.names n [] (.inl h);exact ED.mp q
theorem Uv{w:AF}{K:Fg}{mg:Ak->Ap Ai}{base:AC}{N ps:Ac Ak}{f:Al}{cd:Ai}{A:A9}{outer:Ac CN}{s1:Ar}{E:XK}(S:FnScope N ps scope)(hd:A.handled=Af)(e0:Env0 P w K mg base A outer s H)(hl:vs.length=ps.length)(r:Bo vs us)(x:InCallC s s.heap.objs.size (Ji (FB qual scope s.heap.objs.size f cd).kindOf (ps.zip us) λ_=>Af) (Dr (s.heap.objs.size+1) scope.names []) (Jh (FB qual scope s.heap.objs.size f cd).kindOf (ps.zip us) λ_=>Af) s1):Inv (GS CX P w K mg base N qual scope f cd A outer s H E) [] (start N vs) H s1:=by
 have hpl:ps.length<=N.length:=by have:=congrArg List.length S.pre;rw[GI]at this;omega
 obtain⟨h1,tk,rfl,hk⟩:=x.done;have noA:∀ b:Al,b∉(GS CX P w K mg base N qual scope f cd A outer s H E).ex:=λb z=>absurd (show b∈([]:Ac Al) from z) (by simp)
 refine⟨⟨e0.mod,S.kind,rfl,rfl,A7 _,λy z c h1 h2=>?_,λy hy=>?_,λy c _ h=>?_,λ_=>hd,Around.frames_deeper e0.frames,.inr ⟨rfl,rfl⟩,λb z=>absurd z (noA b),e0.bs,e0.bsz,λb _ _=>noA b,λb z=>absurd z (noA b),e0.funs,e0.frf⟩,
  rfl,e0.bare,Un.kept hk,⟨_,x.toInCall.ns,λi y v h1 h2 h3=>?_⟩,λy c h=>⟨_,x.cell y c h⟩,e0.hok.fresh (A7 _),λy c h=>?_,λp hp=>absurd (show p∈([]:Pn) from hp) (by simp),e0.hok.kept hk,?_⟩
 .exact name_of_addr x.apart (C2 h1) (C2 h2)
 .have hy:scope.names.lookup y=Ab .cell\/scope.names.lookup y=Ab .free:=hy;rcases hy with hy|hy
  .exact Vf hy
  .exact absurd rfl (S.nofree _ (C2 hy))
 .exact Ff (x.above y c (C2 h))
 .have hi:i<vs.length:=by
   unfold start at h2;by_cases hi:i<vs.length
   .exact hi
   .rw[Yi (by simpa using hi)]at h2
    rw[Yk]at h2;split at h2<;>cases h2
  have ha:vs[i]?=Ab v:=by
   unfold start at h2;rw[FT (by simpa using hi),E8]at h2
   cases e:vs[i]? with
   |none=>rw[e]at h2;cases h2
   |some a=>rw[e]at h2;cases h2;rfl
  obtain⟨u,hu,rv⟩:=r.get ha;have hp:ps[i]?=Ab y:=by
   rw[<-S.pre,List.getElem?_take_of_lt (by omega)];exact h1
  have ndP:ps.Nodup:=by rw[<-S.pre];exact S.nd.sublist (Yv _ _)
  refine⟨u,rv,?_⟩;rcases S.par y (DM hp) with k|k
  .exact .inl ⟨k,Uc ndP hp hu k⟩
  .obtain⟨c,e⟩:=Vf (n:=s.heap.objs.size+1) k;refine .inr ⟨.inl k,c,e,?_⟩;have q:=x.cell y c e;rw[Ue ndP hp hu (by show scope.names.lookup y≠_;rw[k];decide)]at q
   exact q
 .exact e0.hok.fresh (Ff (x.above y c (C2 h)))
 .unfold start;show _=N.length;rw[BJ,BR,Yo];omega
theorem Xj{w:AF}{K:Fg}{mg:Ak->Ap Ai}{base:AC}{f:Al}{name:Ak}{params:Arguments}{dV kV doc pm cdv ct oc:Ai}{an od:Ap Al}{osl:A8 (Ap Ai)}{N ps:Ac Ak}(lk:K.lookup f=Ab ⟨oc,od,.func (Dc name qual params body scope dV kV doc pm an cdv ct),osl⟩)(hcd:Fk K cdv qual=Aa)(S:FnScope N ps scope)(len:∀ vs H Q E,sp vs H Q E->vs.length=ps.length)(hbody:∀(A:A9)(outer:Ac CN)(s:Ar)(H:Hp)(vs:Ac V)(Q:VK)(E:XK),Room k (A.deeper (FB qual scope s.heap.objs.size f cdv))->sp vs H Q E ->
   ∃ t,PSs (GS CX P w K mg base N qual scope f cdv A outer s H E) body t/\t {nx:=λ_ H'=>Q .non H',rt:=Q} (start N vs) H):FnOk P w K mg base CX (k+1) f (Dc name qual params body scope dV kV doc pm an cdv ct) ps sp:=by
 refine⟨len,λA outer s H args us vs Q E hr e0 hb r hsp=>?_⟩
 have hl:=len _ _ _ _ hsp;have KX:K.In s.heap:=e0.mod.kin.keeps λb o e=>(e0.bs b o e).1
 have lim:s.heap.NoLimit:=e0.mod.nolimit.keeps λb o e=>(e0.bs b o e).1
 have hkind:∀ y∈ps.zip us,scope.names.lookup y.1=Ab .local\/(scope.names.lookup y.1=Ab .cell/\((Dr (s.heap.objs.size+1) scope.names []).lookup y.1).isSome=Aa):=λ⟨n,v⟩ hy=>by
  rcases S.par n (Iz hy).1 with q|q
  .exact .inl q
  .exact .inr ⟨q,Z_5 _ _ _ (.inl q)⟩
 refine aH hr.depth (KX _ _ lk) rfl S.co S.gen rfl (Z_6 KX hcd) (hb _ _ _ _ ?_);refine aS S.kind hkind λenv he s1 x=>?_
 subst he;refine⟨lim.keeps x.toInCall.keep,codeAny_func ?_⟩;obtain⟨t,ht,hq⟩:=hbody A outer s H vs Q E (hr.deeper _) hsp;have I:Inv (GS CX P w K mg base N qual scope f cdv A outer s H E) [] (start N vs) H s1:=Uv S hr.hd e0 hl r x;refine Bu (ht [] s1 (start N vs) H _ I hq) (λfl s' hs=>?_) λe s' hs=>hs
 have fin:∀{U':St}{H':Hp}{v:V}{u:Ai},Inv (GS CX P w K mg base N qual scope f cdv A outer s H E) [] U' H' s'->BU v u->Q v H'->CE outer P w H s Q u s':=
  λ{U' H' v u} J rv q=>⟨v,H',J.os,J.bare,J.base,J.hok,rv,q⟩
 cases fl with
 |ret u=>
  obtain⟨v,U',H',J,rv,q⟩:=hs;exact fin J rv q
 |next=>
  obtain⟨U',H',J,q⟩:=hs;exact fin (v:=V.non) (u:=Dj) J rfl q
 |brk=>
  obtain⟨_,_,_,q⟩:=hs;exact BB q
 |cont=>
  obtain⟨_,_,_,q⟩:=hs;exact BB q
section
variable{X:Cx}{x:Ak}{p pos:AO}{e:Ao}{es:Ac Ao}{t:TA}{id T:DB}{r:Ac V->Hp->VK->Prop}
def tCB(r:Ac V->Hp->VK->Prop)(t:TA):TE:=λU H Q=>t U H λvs H1=>r vs H1 Q
theorem Mr(hc:J7 X (.builtin id) r)(hg:Gl X x)(hm:X.mg x=Af)(hv:Dz x=Ab (.builtin id))(ha:PA X (e::es) t)(hn:x≠"__name__" := by decide)(hdb:(x==("__debug__" : Ak))=Ad:=by decide)(he:Ax (e::es) X.env=(Ad,eval e X.env)::Ax es X.env:=by rfl)(hpl:(Cd pos (Ax es X.env)).any (·.1)=Ad:=by rfl):PE X (.Call (.Name x p) (e::es) [] pos) (tCB r t):=by
 intro pI s U H Q I h;refine F5 (Ju I hg hm hv ?_ hn hdb);exact PyProof.Rows.callWith_builtin1 (thn (ha pos pI s U H _ I h) λus s1 ⟨vs,H1,I1,r1,q1⟩=>hc pI s1 U H1 vs us Q I1 r1 q1) he hpl
theorem Ut(hc:J7 X (.type T) r)(hg:Gl X x)(hm:X.mg x=Af)(hv:Dz x=Ab (.type T))(ha:PA X (e::es) t)(hn:x≠"__name__" := by decide)(hdb:(x==("__debug__" : Ak))=Ad:=by decide)(he:Ax (e::es) X.env=(Ad,eval e X.env)::Ax es X.env:=by rfl)(hpl:(Cd pos (Ax es X.env)).any (·.1)=Ad:=by rfl):PE X (.Call (.Name x p) (e::es) [] pos) (tCB r t):=by
 intro pI s U H Q I h;refine F5 (Ju I hg hm hv ?_ hn hdb);exact Cw (thn (ha pos pI s U H _ I h) λus s1 ⟨vs,H1,I1,r1,q1⟩=>hc pI s1 U H1 vs us Q I1 r1 q1) he hpl
end
end L2
namespace HT
open PySem PyProof.Rows
variable{sl:Al}
section
open PySem.SeqAt
open PySem.AutoSeq1 (wpAny_loadPart')
open PySem.MeetsSeq PySem.MeetsSeq2 PySem.MeetsSeq3
end
section
variable{prog:AV}{w:AF}{A:A9}{E:Vq}{s:Ar}
theorem cat_tup{t b:Al}{vs ws:Ac Ai}{Q:Vq}(ht:Kl s.heap t vs.toArray)(hb:Kl s.heap b ws.toArray)(hv:vs≠[])(h1:ws=[]->Q (.ref t) s)(h2:ws≠[]->Q (.ref s.heap.objs.size) { s with heap:=s.heap.push { cls:=.type "tuple",data:=.seq (vs++ws).toArray } })(hsz:vs.length+ws.length<=sizeLine):Au (model prog w) A (CB .Add (.ref t) (.ref b)) Q E s:=by
 obtain⟨⟨cls,dd,data,sl⟩,ho,hc,n,hd⟩:=id ht;obtain⟨⟨cls2,dd2,data2,sl2⟩,ho2,hc2,n2,hd2⟩:=id hb;simp only at hc hd hc2 hd2;subst hc hd hc2 hd2;have e:vs.toArray++ws.toArray=(vs++ws).toArray:=by simp
 by_cases hw:ws=[]
 .exact JR ⟨_,ho,rfl⟩ ⟨_,ho2,rfl⟩ aL seq_tuple_add ZA Zv (Zp _ _)
   (tuple_addW1 t b vs.toArray ws.toArray n n2 dd dd2 sl sl2 (by simpa using hv) (by simp[hw])) ⟨ho,ho2,h1 hw⟩
 .refine JR ⟨_,ho,rfl⟩ ⟨_,ho2,rfl⟩ aL seq_tuple_add ZA Zv (Zp _ _)
   (tuple_addW2 t b vs.toArray ws.toArray n n2 dd dd2 sl sl2 (by simpa using hv) (by simpa using hw) (by rw[AJ,AJ];exact hsz)) ⟨ho,ho2,?_⟩
  rw[e];exact h2 hw
noncomputable def sIx(n d:Ag):Ap Ae->Ag
 |none=>d
 |some v=>if v<0 then (v+(n:Ae)).toNat else min v.toNat n
theorem yD(n d:Ag)(hd:d<=n)(o:Ap Ae):sIx n d o<=n:=by
 cases o with
 |none=>exact hd
 |some v=>
  show (if v<0 then (v+(n:Ae)).toNat else min v.toNat n)<=n
  by_cases hv:v<0
  .rw[AI hv];omega
  .rw[AT hv];exact Nat.min_le_right _ _
theorem V3(v:Ae)(n d:Ag):(if v<0 then max (v+(n:Ae)) 0 else min v (n:Ae))=((sIx n d (Ab v):Ag):Ae):=by
 show (if v<0 then max (v+(n:Ae)) 0 else min v (n:Ae))=(((if v<0 then (v+(n:Ae)).toNat else min v.toNat n):Ag):Ae)
 by_cases hv:v<0
 .simp only[AI hv];omega
 .simp only[AT hv];omega
theorem fN(lo hi:Ap Ae)(n:Ag):FV lo hi 1 (n:Ae)=(((sIx n 0 lo:Ag):Ae),((sIx n n hi:Ag):Ae)):=by
 have h1:¬ ((1:Ae)<0):=by omega
 unfold FV;simp only[h1,Iy];refine BP ?_ ?_
 .cases lo with
  |none=>rfl
  |some v=>exact V3 v n 0
 .cases hi with
  |none=>rfl
  |some v=>exact V3 v n n
theorem fF(i j:Ag):En (i:Ae) (j:Ae) 1=j-i:=by
 unfold En;have h1:(1:Ae)>0:=by omega
 simp only[h1,Fn,Int.ediv_one];split<;>omega
theorem TK{v:Ai}{o:Ap Ae}{Q:Ap Ae->Ar->Prop}(p:Ie v o)(h:Q o s):Au (model prog w) A (Builtin.Slice.slicePartIndex v) Q E s:=by
 cases p with
 |none=>exact YH h
 |int i t=>exact slicePart_int h
theorem eF{vl vu:Ai}{lo hi:Ap Ae}{n:Ag}{Q:Ae×Ae×Ag->Ar->Prop}(hs:s.heap.IsSliceOf sl vl vu .none)(pl:Ie vl lo)(pu:Ie vu hi)(h:Q (((sIx n 0 lo:Ag):Ae),1,sIx n n hi-sIx n 0 lo) s):Au (model prog w) A (YQ (.ref sl) (pure (n:Ae))) Q E s:=by
 obtain⟨os,hos,hcs,hds⟩:=id hs;unfold YQ Builtin.Slice.sliceFields;refine Ah (Ah (Bk hos hds (x:=vl) rfl (Ah (Bk hos hds (x:=vu) rfl (Ah (Bk hos hds (x:=.none) rfl (Av ?_)))))));refine Ah (YH ?_);show Au _ _ (if ((1:Ae)==0)=Aa then _ else _) _ _ s
 rw[AT (by decide)]
 refine Ah (TK pl (Ah (TK pu (Ah (Av ?_)))));show Au _ _ (match FV lo hi 1 (n:Ae) with|(lo,hi)=>pure (lo,(1:Ae),En lo hi 1)) _ _ s
 rw[fN lo hi n];show Au _ _ (pure (((sIx n 0 lo:Ag):Ae),(1:Ae),En ((sIx n 0 lo:Ag):Ae) ((sIx n n hi:Ag):Ae) 1)) _ _ s;rw[fF];exact Av h
theorem iV(xs:A8 Ai)(i k:Ag):((Bm k).filterMap fun(m:Ag)=>xs[((i:Ae)+(m:Ae)*1).toNat]?).toArray=((xs.toList.drop i).take k).toArray:=by
 have e:(fun(m:Ag)=>xs[((i:Ae)+(m:Ae)*1).toNat]?)=λm=>xs[i+m]?:=by
  funext m
  have:((i:Ae)+(m:Ae)*1).toNat=i+m:=by omega
  rw[this]
 rw[e];have:=pick_run xs i k;rw[List.filterMap_map]at this;have e2:((λx=>xs[x]?) ∘ λx=>i+x)=λm=>xs[i+m]?:=rfl
 rw[e2]at this;rw[this]
theorem getItem_tuple_cut{t:Al}{items:A8 Ai}{vl vu:Ai}{lo hi:Ap Ae}{Q:Vq}(ht:Kl s.heap t items)(hs:s.heap.IsSliceOf sl vl vu .none)(pl:Ie vl lo)(pu:Ie vu hi)(hw:¬ (sIx items.size 0 lo=0/\sIx items.size items.size hi=items.size))(h:Q (.ref s.heap.objs.size) { s with heap:=s.heap.push { cls:=.type "tuple",data:=.seq ((items.toList.drop (sIx items.size 0 lo)).take (sIx items.size items.size hi-sIx items.size 0 lo)).toArray } })(hsz:items.size<=sizeLine):Au (model prog w) A (Kn (.ref t) (.ref sl)) Q E s:=by
 have htake:sizeOk (.seq ((items.toList.drop (sIx items.size 0 lo)).take (sIx items.size items.size hi-sIx items.size 0 lo)).toArray):=by
  show ((items.toList.drop (sIx items.size 0 lo)).take (sIx items.size items.size hi-sIx items.size 0 lo)).toArray.size<=sizeLine;rw[AJ,GI,Ym,EN];omega
 have hj:sIx items.size items.size hi<=items.size:=yD _ _ (A7 _) hi;obtain⟨os,hos,hcs,hds⟩:=id hs;have hTs:s.TypeIs (.ref sl) "slice" := ⟨os,hos,hcs⟩;unfold Kn
 try with_reducible refine Co ?_
 first|refine Ah (Av ?_)|skip
 refine Ah (wpAny_sequenceKey ht.typeIs (by decide) ?_)
 refine Ah (Ca (name:=AQ "__getitem__") ht.typeIs YI
  (CW YI ht.typeIs entry_tuple_getitem ?_ (args_tuple_getitem _ _)))
 show Au _ _ (Builtin.Tuple.tupleItemsOf (.ref t) >>= _) _ _ s;refine Ah (tupleItemsOf_ ht ?_);refine Ah (wpAny_typeOf hTs ?_);rw[AI (by decide)]
 refine Ah (eF hs pl pu ?_);have hno:¬ ((((sIx items.size 0 lo:Ag):Ae)==0&&(1:Ae)==1&&(sIx items.size items.size hi-sIx items.size 0 lo)==items.size)=Aa):=by
  intro q;rw[An,An]at q;have q1:((sIx items.size 0 lo:Ag):Ae)=0:=eq_of_beq q.1.1;have q2:sIx items.size items.size hi-sIx items.size 0 lo=items.size:=eq_of_beq q.2;exact hw ⟨by omega,by omega⟩
 show Au _ _ (if (((sIx items.size 0 lo:Ag):Ae)==0&&(1:Ae)==1&&(sIx items.size items.size hi-sIx items.size 0 lo)==items.size)=Aa then _ else _) _ _ s
 rw[AT hno,iV]
 first
  |exact Ah (m:=Db _) (CP (Av ⟨_,rfl,Av h⟩) htake)
  |exact Ah (m:=Db _) (CP (Ah (Av (Av ⟨_,rfl,Av h⟩))) htake)
  |exact Ah (Ah (m:=Db _) (CP (Av (Av ⟨_,rfl,Av h⟩)) htake))
  |exact Ah (Ah (m:=Db _) (CP (Av ⟨_,rfl,Av h⟩) htake))
end
end HT
namespace L2
open PySem PySem.Spec PyProof.Rows
variable{xs:Ac V}{us its:Ac Ai}{n t':Ag}{i:Ae}{pI:Pn}{U:St}{H:Hp}{s:Ar}
abbrev TO:=St->Hp->(Ap Ae->Hp->Prop)->Prop
noncomputable def PO(X:Cx)(e:Ap Ao)(t:TO):Prop:=
 ∀(pI:Pn)(s:Ar)(U:St)(H:Hp)(Q:Ap Ae->Hp->Prop),Inv X pI U H s->t U H Q ->
  Au (model X.prog X.w) X.A (evalPart e X.env) (λu s'=>∃ o H',Inv X pI U H' s'/\Ie u o/\Q o H') X.xe s
def nJ:TO:=λ_ H Q=>Q Af H
def dn(t:TE):TO:=λU H Q=>t U H λx H1=>∃ i,x=.int i/\Q (Ab i) H1
section
variable{X:Cx}{e:Ao}{te:TE}{lo hi:Ap Ao}{tl th:TO}{pos p2:AO}
theorem rG:PO X Af nJ:=by
 intro pI s U H Q I h;rw[evalPart_none];exact Av ⟨Af,H,I,.none,h⟩
theorem rF(h:PE X e te):PO X (Ab e) (dn te):=by
 intro pI s U H Q I hw;rw[evalPart_some];refine thn (h pI s U H _ I hw) λu s1 ⟨x,H1,I1,r1,q1⟩=>?_
 obtain⟨i,rfl,q⟩:=q1;obtain⟨t,rfl⟩:=r1;exact⟨Ab i,H1,I1,.int i t,q⟩
noncomputable def SlR(X:Cx)(r:V->Ap Ae->Ap Ae->Hp->VK->Prop):Prop:=
 ∀(pI:Pn)(s:Ar)(U:St)(H:Hp)(x:V)(v vl vu:Ai)(lo hi:Ap Ae)(sl:Al)(Q:VK),Inv X pI U H s->BU x v->s.heap.IsSliceOf sl vl vu .none->Ie vl lo->Ie vu hi->r x lo hi H Q ->
  ∃ T id,Jk (.type T) "__getitem__" = pure (Ab (.builtin id))/\s.TypeIs v T/\Au (model X.prog X.w) X.A (Kn v (.ref sl)) (EP X pI U Q) X.xe s
def tSl(r:V->Ap Ae->Ap Ae->Hp->VK->Prop)(te:TE)(tl th:TO):TE:=λU H Q=>te U H λx H1=>tl U H1 λl H2=>th U H2 λu H3=>r x l u H3 Q
theorem iW{r:V->Ap Ae->Ap Ae->Hp->VK->Prop}(hr:SlR X r)(he:PE X e te)(hl:PO X lo tl)(hu:PO X hi th):PE X (.Subscript e (.Slice lo hi Af p2) pos) (tSl r te tl th):=by
 intro pI s U H Q I h;refine Subscript_ (thn (he pI s U H _ I h) λv s1 ⟨x,H1,I1,r1,q1⟩=>?_)
 refine wpAny_Slice (thn (hl pI s1 U H1 _ I1 q1) λvl s2 ⟨l,H2,I2,pl,q2⟩=>thn (hu pI s2 U H2 _ I2 q2) λvu s3 ⟨u,H3,I3,pu,q3⟩=>?_)
 rw[evalPart_none];refine Av ?_;have I4:Inv X pI U H3 { s3 with heap:=s3.heap.push { cls:=.type "slice",data:=.fields #[vl,vu,.none] } }:=I3.kept (t':=s3.toks) λb ob q=>As _ q
 obtain⟨T,id,hT,ht,hg⟩:=hr pI { s3 with heap:=s3.heap.push { cls:=.type "slice",data:=.fields #[vl,vu,.none] } } U H3 x v vl vu l u s3.heap.objs.size Q I4 r1 (Heap.IsSliceOf.new ..) pl pu q3
 show Au (model X.prog X.w) X.A (subscriptTail e (.Slice lo hi Af p2) v (.ref s3.heap.objs.size)) (EP X pI U Q) X.xe { s3 with heap:=s3.heap.push { cls:=.type "slice",data:=.fields #[vl,vu,.none] } }
 exact tail_any (ops:=[.ref s3.heap.objs.size,v]) ht hT hg (by with_unfolding_all rfl)
noncomputable def Kh(xs:Ac V)(lo hi:Ap Ae):Ac V:=(xs.drop (HT.sIx xs.length 0 lo)).take (HT.sIx xs.length xs.length hi-HT.sIx xs.length 0 lo)
theorem TB(xs:Ac V)(lo hi:Ap Ae):(Kh xs lo hi).length<=xs.length:=by
 unfold Kh;rw[GI,Ym];omega
def SM(K:Fg):V->Ap Ae->Ap Ae->Hp->VK->Prop:=λx lo hi H Q=>∃ a xs,x=.ref a/\SqT K H a xs /\
 ¬ (HT.sIx xs.length 0 lo=0/\HT.sIx xs.length xs.length hi=xs.length)/\∀ p,H p=Af->Q (.ref p) (upd H p (.tup (Kh xs lo hi)))
theorem wB:SlR X (SM X.K):=by
 intro pI s U H x v vl vu lo hi sl Q I rx hs pl pu h;obtain⟨a,xs,rfl,hx,hw,q⟩:=h;cases rx;obtain⟨its,r,ht,hz⟩:=I.tuple hx;have hlen:its.toArray.size=xs.length:=by rw[AJ];exact r.length.symm
 refine⟨"tuple",_,PyProof.Rows.slot_tuple_getitem.lookup,ht.typeIs,?_⟩;refine HT.getItem_tuple_cut ht hs pl pu (by rw[hlen];exact hw) ?_ (by rw[hlen];exact hz)
 rw[hlen];refine⟨.ref s.heap.objs.size,_,I.laid (t':=s.toks) (o:=.tup (Kh xs lo hi)) (λb ob q=>As _ q) (A7 _) ?_,rfl,q _ (I.hok.fresh (A7 _))⟩
 exact⟨Cb (TB xs lo hi) hz,_,(r.drop (HT.sIx xs.length 0 lo)).take (HT.sIx xs.length xs.length hi-HT.sIx xs.length 0 lo),JK _ _⟩
def ie(K:Fg):R2:=λx y H Q=>∃ a b xs ys,x=.ref a/\y=.ref b/\SqT K H a xs/\SqT K H b ys/\xs≠[]/\xs.length+ys.length<=sizeLine /\
 (ys=[]->Q (.ref a) H)/\(ys≠[]->∀ p,H p=Af->Q (.ref p) (upd H p (.tup (xs++ys))))
theorem Bo.nil_iff(r:Bo xs us):us=[]↔xs=[]:=by
 cases r with
 |nil=>simp
 |cons _ _=>simp
theorem qC:OpR X (CB .Add) (ie X.K):=by
 intro pI s U H x y v u Q I rx ry h;obtain⟨a,b,xs,ys,rfl,rfl,ha,hb,hx,hz,q1,q2⟩:=h;cases rx;cases ry;obtain⟨its,r1,p1,_⟩:=I.tuple ha;obtain⟨its2,r2,p2,_⟩:=I.tuple hb;refine HT.cat_tup p1 p2 (λz=>hx (r1.nil_iff.mp z)) (λz=>⟨.ref a,H,I,rfl,q1 (r2.nil_iff.mp z)⟩) (λz=>?_) (by rw[<-r1.length,<-r2.length];exact hz)
 refine⟨.ref s.heap.objs.size,_,I.laid (t':=s.toks) (o:=.tup (xs++ys)) (λb ob q=>As _ q) (A7 _) ?_,rfl,q2 (λw=>z (r2.nil_iff.mpr w)) _ (I.hok.fresh (A7 _))⟩
 exact⟨by rw[BJ];exact hz,_,r1.append r2,JK _ _⟩
end
noncomputable def ixN(n:Ag)(i:Ae):Ap Ag:=if 0<=i then (if i<n then Ab i.toNat else Af) else if -(n:Ae)<=i then Ab (i+n).toNat else Af
noncomputable def atI{α:Type}(xs:Ac α)(i:Ae):Ap α:=(ixN xs.length i).bind λj=>xs[j]?
theorem sS{j:Ag}(h:ixN n i=Ab j):seqIndex? i n=Ab j/\j<n/\-(n:Ae)<=i/\i<n:=by
 unfold ixN at h;by_cases h0:0<=i
 .rw[AI h0]at h;by_cases h1:i<n
  .rw[AI h1]at h;have e:i.toNat=j:=BM h;exact⟨by rw[seqIndex_of h0 h1,e],by omega,by omega,h1⟩
  .rw[AT h1]at h;cases h
 .rw[AT h0]at h;by_cases h1:-(n:Ae)<=i
  .rw[AI h1]at h;have e:(i+n).toNat=j:=BM h;exact⟨by rw[seqIndex_neg (by omega) h1,e],by omega,h1,by omega⟩
  .rw[AT h1]at h;cases h
theorem V7{α:Type}{xs:Ac α}{v:α}(h:atI xs i=Ab v):∃ j,seqIndex? i xs.length=Ab j/\xs[j]?=Ab v/\j<xs.length/\-(xs.length:Ae)<=i/\i<xs.length:=by
 unfold atI at h;cases e:ixN xs.length i with
 |none=>rw[e]at h;cases h
 |some j=>
  rw[e]at h;obtain⟨h1,h2,h3,h4⟩:=sS e;exact⟨j,h1,h,h2,h3,h4⟩
def QQ(b:Ao):Prop:=∀ o i,subscripted b Ad o i=operate [o,i] (Kn o i)
noncomputable def IxR(X:Cx)(r:R2):Prop:=
 ∀(value slice:Ao)(pI:Pn)(s:Ar)(U:St)(H:Hp)(x y:V)(v u:Ai)(Q:VK),Inv X pI U H s->BU x v->BU y u->r x y H Q ->
  subscripted slice Ad v u=operate [v,u] (Kn v u)->Au (model X.prog X.w) X.A (subscriptTail value slice v u) (EP X pI U Q) X.xe s
noncomputable def MtR(X:Cx)(id:DB)(r:V->Ac V->Hp->VK->Prop):Prop:=
 ∀(pI:Pn)(s:Ar)(U:St)(H:Hp)(x:V)(xs:Ac V)(v:Ai)(us:Ac Ai)(Q:VK),Inv X pI U H s->BU x v->Bo xs us->r x xs H Q ->
  Au (model X.prog X.w) X.A (call (.builtin id) (v::us)) (EP X pI U Q) X.xe s
section
variable{X:Cx}{a b:Ao}{ta tb:TE}{pos:AO}
theorem IxR.or{r r':R2}(h:IxR X r)(h':IxR X r'):IxR X (λx y H Q=>r x y H Q\/r' x y H Q):=by
 intro value slice pI s U H x y v u Q I rx ry q hs;rcases q with q|q
 .exact h value slice pI s U H x y v u Q I rx ry q hs
 .exact h' value slice pI s U H x y v u Q I rx ry q hs
theorem lq{r:R2}(hr:IxR X r)(ha:PE X a ta)(hb:PE X b tb)(hs:QQ b):PE X (.Subscript a b pos) (tOp r ta tb):=by
 intro pI s U H Q I h;exact Subscript_ (O1 ha hb I h λv u s2 x y H2 I2 rx ry q=>hr a b pI s2 U H2 x y v u Q I2 rx ry q (hs _ _))
def SR(K:Fg):R2:=λx y H Q=>∃ p xs i v,x=.ref p/\y=.int i/\SqL K H p xs/\atI xs i=Ab v/\Q v H
def SQ(K:Fg):R2:=λx y H Q=>∃ p xs i v,x=.ref p/\y=.int i/\SqT K H p xs/\atI xs i=Ab v/\Q v H
theorem sQ:IxR X (SR X.K):=by
 intro value slice pI s U H x y v u Q I rx ry h hs;obtain⟨p,xs,i,z,rfl,rfl,hq,he,q⟩:=h;cases rx;obtain⟨t,rfl⟩:=ry;obtain⟨its,r,pl,hz⟩:=I.list hq;obtain⟨j,h1,h2,h3,h4,h5⟩:=V7 he;obtain⟨w,ew,rw'⟩:=r.get h2;have hl:=r.length;have hn:=MK;have fin:EP X pI U Q w s:=⟨z,H,I,rw',q⟩;by_cases h0:0<=i
 .have hj:i.toNat=j:=by
   rw[seqIndex_of h0 h5]at h1;exact BM h1
  exact item_listR pl.isList h0 (by omega) (by rw[hj];simpa using ew) fin hs
 .have hj:(i+(its.toArray.size:Ae)).toNat=j:=by
   rw[seqIndex_neg (by omega) h4]at h1
   rw[AJ,<-hl];exact BM h1
  exact YJ (x:=w) pl.isList.typeIs aN.lookup
   (wpAny_getItem_list_neg (Q:=λr s'=>r=w/\EP X pI U Q r s') pl.isList (by omega) (by rw[AJ]<;>omega) (by omega) (by rw[hj];simpa using ew) ⟨rfl,fin⟩) hs
theorem zF:IxR X (SQ X.K):=by
 intro value slice pI s U H x y v u Q I rx ry h hs;obtain⟨p,xs,i,z,rfl,rfl,hq,he,q⟩:=h;cases rx;obtain⟨t,rfl⟩:=ry;obtain⟨its,r,pl,hz⟩:=I.tuple hq;obtain⟨j,h1,h2,h3,h4,h5⟩:=V7 he;obtain⟨w,ew,rw'⟩:=r.get h2;have hl:=r.length;have hn:=MK;have fin:EP X pI U Q w s:=⟨z,H,I,rw',q⟩;exact YJ (x:=w) pl.typeIs slot_tuple_getitem.lookup
  (getItem_tuple (j:=j) (Q:=λr s'=>r=w/\EP X pI U Q r s') pl (by omega) (by omega) (by rw[AJ,<-hl];exact h1) (by simpa using ew) ⟨rfl,fin⟩) hs
theorem Inv.lst{p:Al}(I:Inv X pI U H s)(h:H p=Ab (.lst xs)):
  ∃(its:Ac Ai)(n:Ag),Bo xs its/\s.heap.get? p=Ab { cls:=.type "list",data:=.seq its.toArray n }/\xs.length<=sizeLine:=by
 obtain⟨z,its,n,r,e⟩:=I.hok p _ h;exact⟨its,n,r,e,z⟩
theorem eX(lo hi:Ap Ae)(n:Ag):(FI lo hi Af n).1=((HT.sIx n 0 lo:Ag):Ae)/\(FI lo hi Af n).2.1=((HT.sIx n n hi:Ag):Ae)/\(FI lo hi Af n).2.2=1:=by
 refine⟨?_,?_,rfl⟩
 .cases lo with
  |none=>simp[FI,HT.sIx]
  |some i=>
   simp only[FI,HT.sIx,YD,show (1:Ae)>0 by decide,Fn]
   by_cases h:i<0
   .simp only[h,Fn]<;>omega
   .simp only[h,Iy]<;>omega
 .cases hi with
  |none=>simp[FI,HT.sIx]
  |some i=>
   simp only[FI,HT.sIx,YD,show (1:Ae)>0 by decide,Fn]
   by_cases h:i<0
   .simp only[h,Fn]<;>omega
   .simp only[h,Iy]<;>omega
theorem eP(its:Ac Ai)(lo hi:Ap Ae):slicePick its.toArray lo hi Af=((its.drop (HT.sIx its.length 0 lo)).take (HT.sIx its.length its.length hi-HT.sIx its.length 0 lo)).toArray:=by
 obtain⟨h1,h2,h3⟩:=eX lo hi its.toArray.size;unfold slicePick;rw[h1,h2,h3];simp only[sliceRange_one,pick_run,AJ]<;>rfl
def SN(K:Fg):V->Ap Ae->Ap Ae->Hp->VK->Prop:=λx lo hi H Q=>∃ a xs,x=.ref a/\SqL K H a xs/\∀ p,H p=Af->Q (.ref p) (upd H p (.lst (Kh xs lo hi)))
theorem oC:SlR X (SN X.K):=by
 intro pI s U H x v vl vu lo hi sl Q I rx hs pl pu h;obtain⟨a,xs,rfl,hx,q⟩:=h;cases rx;obtain⟨its,r,ht,hz⟩:=I.list hx;have hlen:=r.length;refine⟨"list",_,aN.lookup,ht.isList.typeIs,?_⟩;refine wpAny_getItem_list_slice ht.isList hs pl pu .none (by simp) ?_ (by rw[AJ]<;>omega)
 rw[eP,<-hlen];refine⟨.ref s.heap.objs.size,_,I.laid (t':=s.toks) (o:=.lst (Kh xs lo hi)) (λb ob q=>As _ q) (A7 _) ?_,rfl,q _ (I.hok.fresh (A7 _))⟩
 exact⟨Cb (TB xs lo hi) hz,_,0,(r.drop (HT.sIx xs.length 0 lo)).take (HT.sIx xs.length xs.length hi-HT.sIx xs.length 0 lo),Az _ rfl⟩
theorem Tu:J7 X (.builtin "len") (λxs H Q=>∃ p ys,xs=[.ref p]/\(SqL X.K H p ys\/SqT X.K H p ys)/\Q (.int ys.length) H):=by
 intro pI s U H xs us Q I r h;obtain⟨p,ys,rfl,hq,q⟩:=h;obtain⟨u,rfl,rx⟩:=IL r;cases rx;have hn:=MK;rcases hq with hq|hq
 .obtain⟨its,r',pl,hz⟩:=I.list hq;have hlen:=r'.length;exact Calls.call_len_list pl.isList (by simp only[AJ]<;>omega) ⟨.int ys.length,H,I.tok _,⟨s.toks+1,by rw[AJ,hlen]⟩,q⟩
 .obtain⟨its,r',pl,hz⟩:=I.tuple hq;have hlen:=r'.length;exact len_tuple pl (by simp only[AJ]<;>omega) ⟨.int ys.length,H,I.tok _,⟨s.toks+1,by rw[AJ,hlen]⟩,q⟩
theorem eS:J7 X (.builtin "len") (λxs H Q=>∃ z,xs=[.str z]/\z.length<=sizeLine/\Q (.int z.length) H):=by
 intro pI s U H xs us Q I r h;obtain⟨z,rfl,hz,q⟩:=h;obtain⟨u,rfl,t,rfl⟩:=IL r;have hn:=MK;exact len_str (by omega) ⟨.int z.length,H,I.tok _,⟨_,rfl⟩,q⟩
theorem Tt:J7 X (.type "list") (λxs H Q=>∃ p ys,xs=[.ref p]/\(SqL X.K H p ys\/SqT X.K H p ys)/\∀ l,H l=Af->Q (.ref l) (upd H l (.lst ys))):=by
 intro pI s U H xs us Q I r h;obtain⟨p,ys,rfl,hq,q⟩:=h;obtain⟨u,rfl,rx⟩:=IL r;cases rx;have fin:∀(its:Ac Ai),Bo ys its->ys.length<=sizeLine->∀(h':AC)(c':Ag),(∀ b o',s.heap.get? b=Ab o'->h'.get? b=Ab o') ->
   h'.get? s.heap.objs.size=Ab { cls:=.type "list",dict:=Af,data:=.seq its.toArray c',slots:=#[] }->EP X pI U Q (.ref s.heap.objs.size) {s with heap:=h'}:=λits r' hz h' c' kp e=>
  ⟨.ref s.heap.objs.size,_,I.laid (t':=s.toks) kp (A7 _) (show ObjOk X.prog X.w _ h' _ (.lst ys) from ⟨hz,its,c',r',e⟩),rfl,q _ (I.hok.fresh (A7 _))⟩
 rcases hq with hq|hq
 .obtain⟨its,r',pl,hz⟩:=I.list hq;have hlen:=r'.length;obtain⟨o,ho,hc,n,hd⟩:=pl.isList;exact call_list_seq p (.inl rfl) ho hc hd (λh' c' kp e=>fin its r' hz h' c' kp e) (by simp only[AJ]<;>omega)
 .obtain⟨its,r',pl,hz⟩:=I.tuple hq;have hlen:=r'.length;obtain⟨o,ho,hc,n,hd⟩:=pl;exact call_list_seq p (.inr rfl) ho hc hd (λh' c' kp e=>fin its r' hz h' c' kp e) (by simp only[AJ]<;>omega)
theorem Tw:J7 X (.type "tuple") (λxs H Q=>∃ p ys,xs=[.ref p]/\((SqL X.K H p ys/\∀ l,H l=Af->Q (.ref l) (upd H l (.tup ys)))\/(SqT X.K H p ys/\Q (.ref p) H))):=by
 intro pI s U H xs us Q I r h;obtain⟨p,ys,rfl,h⟩:=h;obtain⟨u,rfl,rx⟩:=IL r;cases rx;rcases h with ⟨hq,q⟩|⟨hq,q⟩
 .obtain⟨its,r',pl,hz⟩:=I.list hq;have hlen:=r'.length;refine call_tuple_list pl.isList (λh' kp=>?_) (by simp only[AJ]<;>omega)
  have I1:Inv X pI U H {s with heap:=h'}:=I.kept (t':=s.toks) kp
  have I2:Inv X pI U (upd H h'.objs.size (.tup ys)) { s with heap:=h'.push { cls:=.type "tuple",data:=.seq its.toArray } }:=
   I1.laid (t':=s.toks) (λb o e=>As _ e) (A7 _) (show ObjOk X.prog X.w _ _ _ (.tup ys) from ⟨hz,its,r',JK _ _⟩)
  exact⟨.ref h'.objs.size,_,I2,rfl,q _ (I1.hok.fresh (A7 _))⟩
 .obtain⟨its,r',pl,hz⟩:=I.tuple hq;exact call_tuple_same pl ⟨.ref p,H,I,rfl,q⟩
def tyV(K:Fg)(T:DB)(x:V)(H:Hp):Prop:=match x with
  |.str _=>T = "str"
  |.int _=>T = "int"
  |.ref p=>(T = "list"/\∃ xs,SqL K H p xs)\/(T = "tuple"/\∃ o,K.lookup p=Ab o/\o.cls=.type "tuple"/\o.dict=Af) \/
      (T = "dict"/\((∃ kvs,H p=Ab (.dK kvs))\/∃ kvs,H p=Ab (.dT kvs)))\/(T = "set"/\∃ S n,H p=Ab (.set S n))
  |_=>Bl
theorem wS{T:DB}{x:V}{v:Ai}(I:Inv X pI U H s)(r:BU x v)(ty:tyV X.K T x H):s.TypeIs v T/\∀ a,v=.ref a->∃ ob,s.heap.get? a=Ab ob/\ob.dict=Af:=by
 cases x with
 |str z=>
  obtain⟨t,rfl⟩:=r;cases (show T = "str" from ty)
  exact⟨typeIs_str s z t,λ_ e=>nomatch e⟩
 |int i=>
  obtain⟨t,rfl⟩:=r;cases (show T = "int" from ty)
  exact⟨typeIs_int s i t,λ_ e=>nomatch e⟩
 |ref p=>
  cases r;rcases ty with ⟨rfl,xs,hq⟩|⟨rfl,o,hk,hc,hd⟩|⟨rfl,hk⟩|⟨rfl,S,n,hk⟩
  .obtain⟨its,_,pl,_⟩:=I.list hq;refine⟨pl.isList.typeIs,λa e=>?_⟩
   cases e;obtain⟨o,n,e,c,hd,_⟩:=pl;exact⟨o,e,hd⟩
  .refine⟨⟨o,I.kIn p o hk,hc⟩,λa e=>?_⟩
   cases e;exact⟨o,I.kIn _ o hk,hd⟩
  .have z:∃ o,s.heap.get? p=Ab o/\o.ExactDict:=by
    rcases hk with ⟨kvs,hk⟩|⟨kvs,hk⟩
    .obtain⟨_,_,_,_,o,_,_,e,ex,_⟩:=I.hok p _ hk;exact⟨o,e,ex⟩
    .obtain⟨_,_,_,_,o,_,_,e,ex,_⟩:=I.hok p _ hk;exact⟨o,e,ex⟩
   obtain⟨o,e,ex⟩:=z;refine⟨⟨o,e,ex.1⟩,λa e2=>?_⟩
   cases e2;exact⟨o,e,ex.2.1⟩
  .obtain⟨o,_,_,_,e,ex,_⟩:=I.hok p _ hk;refine⟨⟨o,e,ex.1⟩,λa e2=>?_⟩
   cases e2;exact⟨o,e,ex.2.1⟩
 |_=>exact BB ty
def tBM(K:Fg)(T:DB)(r:V->Ac V->Hp->VK->Prop)(to:TE)(t:TA):TE:=λU H Q=>to U H λx H1=>tyV K T x H1/\t U H1 λxs H2=>r x xs H2 Q
variable{o e:Ao}{es:Ac Ao}{to:TE}{t:TA}{name:Ak}{apos cpos:AO}{T id:DB}{r:V->Ac V->Hp->VK->Prop}
theorem RD(pa:PlainAttrs T)(slot:Slot T name id)(hty:typeOf (.builtin id)=pure (.type "method_descriptor"))(hm:MtR X id r)(ho:PE X o to)(ha:PA X (e::es) t)(hbase:FE o name X.env (eval o X.env)=eval o X.env:=by rfl)(hfew:((Cd cpos (Ax (e::es) X.env)).all (λx=>!x.1)&&(Jf cpos (Hv [] X.env)).all (λx=>x.1.isSome)
   && decide ((e::es).length+([]:Ac Eu).length+(if ([]:Ac Eu).isEmpty then 0 else 1)<30))=Aa:=by rfl)(hline:(apos.endLine==cpos.line)=Aa:=by rfl)(hs:Ax (e::es) X.env=(Ad,eval e X.env)::Ax es X.env:=by rfl)(hplain:(Cd cpos (Ax es X.env)).any (·.1)=Ad:=by rfl):PE X (.Call (.Attribute o name apos) (e::es) [] cpos) (tBM X.K T r to t):=by
 intro pI s U H Q I h;refine wpAny_Call_method_late hbase hfew hline rfl (thn (ho pI s U H _ I h) λv s1 ⟨x,H1,I1,r1,ty,q1⟩=>?_)
 obtain⟨h1,h2⟩:=wS I1 r1 ty;refine⟨T,id,pa,slot,hty,h1,h2,?_⟩;have hA:=ha cpos pI s1 U H1 _ I1 q1;rw[hs]at hA ⊢;refine YS (by show (Ad||(Cd cpos (Ax es X.env)).any (·.1))=Ad;rw[hplain]<;>rfl) (Fq ?_)
 exact thn hA λus s2 ⟨vs,H2,I2,r2,q2⟩=>hm pI s2 U H2 x vs v us Q I2 r1 r2 q2
/- xs.append(e),list.index on a module's tuple .. are MtR facts of 06m -/
end
noncomputable def MtM(X:Cx)(id:DB)(r:V->Ac V->Hp->VK->Prop):Prop:=
 ∀(pI:Pn)(s:Ar)(U:St)(H:Hp)(x:V)(xs:Ac V)(v:Ai)(us:Ac Ai)(Q:VK),Inv X pI U H s->BU x v->Bo xs us->r x xs H Q ->
  Au (model X.prog X.w) X.A (call (.builtin id) (v::us)) (EP X pI U Q) X.xe s
theorem Bo.one:∀{x:V}{us:Ac Ai},Bo [x] us->∃ u,us=[u]/\BU x u
 |_,_,.cons r .nil=>⟨_,rfl,r⟩
theorem Bo.zero:∀{us:Ac Ai},Bo [] us->us=[]
 |_,.nil=>rfl
theorem Bo.eraseIdx:∀{xs:Ac V}{us:Ac Ai}(i:Ag),Bo xs us->Bo (xs.eraseIdx i) (us.eraseIdx i)
 |_,_,_,.nil=>.nil
 |_,_,0,.cons _ t=>t
 |_,_,i+1,.cons r t=>.cons r (Bo.eraseIdx i t)
theorem Bo.reverse(h:Bo xs us):Bo xs.reverse us.reverse:=by
 induction h with
 |nil=>exact .nil
 |cons r t ih=>rw[Yq,Yq];exact Bo.append ih (.cons r .nil)
section
variable{X:Cx}{pI:Pn}{U:St}{H:Hp}{s:Ar}{l b:Al}{xs ys zs:Ac V}
theorem Inv.lset{its':Ac Ai}{f:A8 Ai->A8 Ai}(I:Inv X pI U H s)(hH:H l=Ab (.lst xs))(e:s.heap.get? l=Ab { cls:=.type "list",data:=.seq its.toArray n })(hf:f its.toArray=its'.toArray)(hv:Bo ys its')(hz:ys.length<=sizeLine):Inv X pI U (upd H l (.lst ys)) {s with heap:=s.heap.update l (DD f),toks:=t'}:=by
 have q:=PySem.IsL.update e f;rw[hf]at q;refine I.write (x:=l) (e:=l) (by rw[hH];exact trivial) (.inl rfl) (λb' u hb hu=>(Ch s.heap (DD f) (DX hb)).trans hu) ⟨_,q⟩ ?_
 exact⟨hz,its',_,hv,q⟩
theorem Inv.lnew(I:Inv X pI U H s)(hv:Bo ys its)(hz:ys.length<=sizeLine):
  Inv X pI U (upd H s.heap.objs.size (.lst ys)) { s with heap:=s.heap.push { cls:=.type "list",data:=.seq its.toArray },toks:=t' }:=
 I.laid (λ_ _ q=>As _ q) (A7 _) ⟨hz,its,0,hv,Az _ rfl⟩
theorem Inv.fresh(I:Inv X pI U H s):H s.heap.objs.size=Af:=I.hok.fresh (A7 _)
theorem Inv.lstM(I:Inv X pI U H s)(hH:H l=Ab (.lst xs)):xs.length<=sizeLine/\∃(its:Ac Ai)(n:Ag),Bo xs its/\xs.length=its.length/\s.heap.get? l=Ab { cls:=.type "list",data:=.seq its.toArray n }:=by
 obtain⟨z,its,n,r,e⟩:=I.hok l _ hH;exact⟨z,its,n,r,r.length,e⟩
theorem Ux(h:n<=sizeLine):DN n=Ad:=by
 unfold DN;exact Cp (by omega)
end
section
variable{X:Cx}
def qX:V->Ac V->Hp->VK->Prop:=λx vs H Q=>∃ l xs y,x=.ref l/\vs=[y]/\H l=Ab (.lst xs)/\xs.length<sizeLine/\Q .non (upd H l (.lst (xs++[y])))
theorem iB:MtM X "list.append" qX:=by
 intro pI s U H x vs v us Q I rx rv h;obtain⟨l,xs,y,rfl,rfl,hH,hz,q⟩:=h;cases rx;obtain⟨u,rfl,ru⟩:=rv.one;obtain⟨z,its,n,r,hl,e⟩:=I.lstM hH;refine K8 F.slot_list_append ⟨_,e,rfl⟩ F.entry_list_append (F.args_list_append_2 _ _) (PySem.list_append l its.toArray n u (by rw[AJ];omega)) ⟨e,?_⟩
 refine⟨.non,_,I.lset (its':=its++[u]) hH e (by simp) (r.append (.cons ru .nil)) ?_,rfl,q⟩
 rw[BJ,D9];omega
def qW:V->Ac V->Hp->VK->Prop:=λx vs H Q=>∃ l b xs zs,x=.ref l/\vs=[.ref b]/\H l=Ab (.lst xs)/\H b=Ab (.lst zs)/\xs.length+zs.length<=sizeLine/\Q .non (upd H l (.lst (xs++zs)))
theorem iA:MtM X "list.extend" qW:=by
 intro pI s U H x vs v us Q I rx rv h;obtain⟨l,b,xs,zs,rfl,rfl,hH,hB,hz,q⟩:=h;cases rx;obtain⟨u,rfl,ru⟩:=rv.one;cases ru;obtain⟨z,its,n,r,hl,e⟩:=I.lstM hH;obtain⟨z2,its2,n2,r2,hl2,e2⟩:=I.lstM hB;have hsz:its.toArray.size+its2.toArray.size<=sizeLine:=by rw[AJ,AJ];omega
 have hlong:¬ (!its.toArray.isEmpty&&DN (its.toArray.size+its2.toArray.size))=Aa:=by
  rw[Ux hsz,Gd];exact AD
 refine K8 Fh ⟨_,e,rfl⟩ Zu (Zn _ _)
  (AutoSeq1.list_extend_list_list_0 l its.toArray n b its2.toArray n2 hlong (by rw[AJ];omega) (by omega)) ⟨e,e2,?_⟩
 refine⟨.non,_,I.lset (its':=its++its2) hH e (by simp) (r.append r2) ?_,rfl,q⟩
 rw[BJ];omega
end
section
variable{prog:AV}{w:AF}{A:A9}{E:Vq}{s:Ar}
set_option maxRecDepth 100000 in
end
section
variable{X:Cx}
end
end L2
namespace Att
open PySem PySem.W PySem.Calls PyProof.Rows
variable{P:Me}{h:AC}{l:GB}{n:Ag}
theorem eJ:∀(ns:Ac Ae)(vs:Ac Ai),WellAll P h vs (ns.map Z_0)->IW vs ns:=by
 intro ns
 induction ns with
 |nil=>
  intro vs w;rw[JJ]at w;cases w;exact .nil
 |cons n ns ih=>
  intro vs w;rw[CC]at w;cases w with
  |cons a b=>
   cases a;exact .cons _ _ (ih _ b)
theorem gJ(hn:l.most=Ab n){args:Ac WData}{vals:Ac Ai}(hpre:l.row.toRowW.claim.pre args=Aa)(hwl:WellAll P h vals args):
  ∃ a vs ns,vals=[BO a]/\args=[WData.list (ns.map Z_0)]/\h.get? a=Ab { cls:=.type "list",data:=.seq vs.toArray }/\IW vs ns/\ns.length<=n:=by
 have hsh:WShape.hasAll [] args [.list .int]=Aa:=(pre_splitW hpre).1;have hc:l.pre.holds [] {args:=args}=Aa:=(pre_splitW hpre).2;obtain⟨d,r,rfl,h1,h2⟩:=hasAllW_cons hsh;obtain rfl:=hasAllW_nil h2;obtain⟨xs,rfl,h3⟩:=hasW_list h1;obtain⟨ns,rfl⟩:=items_int h3;have hlen:ns.length<=n:=by
  unfold OpenLaw.pre at hc;have h4:(WTm.not (.lt (.lit (.int (n:Ae))) (.len (.arg 0)))).holds [] {args:=[.list (ns.map .int)]}=Aa:=by
   have h4:=(holds_andW hc).1;rw[hn]at h4;exact h4
  have h5:=condW_of h4 (w_not (w_lt w_lit (w_len_list (w_arg rfl))));rw[BR]at h5;refine Nat.le_of_not_lt λq=>?_
  have q':(n:Ae)<((ns.length:Ag):Ae):=by omega
  first
   |(rw[AZ q']at h5;exact absurd h5 (by decide))
   |(simp at h5;omega)
 cases hwl with
 |cons w1 w2=>
  cases w2;cases w1 with
  |list ho hall=>exact⟨_,_,ns,rfl,rfl,ho,eJ ns _ hall,hlen⟩
theorem gM(l:GB)(args:Ac WData):l.row.toRowW.claim.post args (.bool Aa) args=Aa:=
 postW_of (r:=l.row.toRowW) (X:=(Aa==Aa))
  (show Z_1 [] (.bool Aa) .bool=Aa by first|rfl|decide|simp[Z_1,WShape.arms,WShape.armsAll])
  (show (WTm.eq .res (.lit (.bool Aa))).value [] {args:=args,res:=Ab (.bool Aa),after:=args}=Ab (.bool (Aa==Aa)) from w_eq_bool (w_res rfl) w_lit) rfl
theorem attach_call{q:AV}{loose:Ac Ak}{XP:(Ak->Ap Ai)->AC->Prop}{YP:AF->AC->Prop}{d:DefRec}(hn:l.most=Ab n)(hdf:d.params.defaults=[])(call:∀(w:AF)(s₀ s₁:Ar)(mg mb:Ak->Ap Ai)(fa:Al)(o:C9)(pm cd doc:Ai)(a:Al)(vs:Ac Ai)(ns:Ac Ae),
   Ground q loose [] XP w s₀ mg mb s₁.heap->YP w s₁.heap ->
   s₁.heap.get? fa=Ab o->o.data=.func (docDef d.name d.params d.body d.scope pm cd doc)->s₁.heap.CodeRec cd d.name->mg d.name=Ab (.ref fa) ->
   s₁.heap.get? a=Ab { cls:=.type "list",data:=.seq vs.toArray }->IW vs ns->ns.length<=n->s₁.gens=#[] ->
   Fl (model l.prog w) HX (.call (.ref fa) ⟨[.ref a],[]⟩) (λr s'=>r=.ok (.ret (.bool Aa))/\OldK s₁.heap s'.heap/\s'.os=s₁.os/\Gg s'.gens) s₁):WalkO q loose XP YP l.row.toRowW d [] (λf vs=>K7 f vs):=by
 intro w s₀ s₁ mg mb G Y_ fa o pm cd doc dV kV ho hd hcd hD hmg hg args vals as hpre hlay hrd hwl hlo;obtain rfl:dV=.none:=Dflts.none hD hdf;obtain rfl:kV=.none:=Dflts.noKw hD;obtain⟨a,vs,ns,rfl,rfl,hobj,hints,hlen⟩:=gJ hn hpre hwl;refine enter_call (G3 (call w s₀ s₁ mg mb fa o pm cd doc a vs ns G Y_ ho (fd_plain hd) hcd hmg hobj hints hlen hg) λr s' hq=>?_)
 obtain⟨rfl,h2,h3,h4⟩:=hq;exact⟨.inl ⟨.bool Aa,.bool Aa,[],rfl,λ_=>rfl,.bool Aa,gM l _,λ_=>⟨List.Pairwise.nil,λ_ hm=>(nomatch hm)⟩⟩,h2,h3,h4⟩
section
variable{prog:AV}{w:AF}{A:A9}{E:Vq}{s:Ar}{K:Frag}
end
end Att
namespace L2
open PySem PySem.Spec PyProof.Rows
variable{k:Ag}{x:Ak}
theorem Uj:∀{vs:Ac Ai}{ns:Ac Ae},IW vs ns->Bo (ns.map V.int) vs
 |_,_,.nil=>.nil
 |_,_,.cons n t h=>.cons ⟨t,rfl⟩ (Uj h)
def O4(H:Hp):Prop:=∀ b,H b=Af\/∃ o xs,H b=Ab (.frz o (.lst xs))
theorem mL{P:AV}{w:AF}{K:Fg}{mg mb:Ak->Ap Ai}{CX:CXT}{fa a:Al}{fd:Cf}{sp:Sp}{s₁:Ar}{vs:Ac Ai}{ns:Ac Ae}(KX:K.In s₁.heap)(hns:s₁.heap.Ns Ba mg)(hb:s₁.heap.Ns Jj mb)(hbb:∀ x:Ak,x≠"__name__"->mb x=Dz x)(hlim:s₁.heap.NoLimit)(hg:s₁.gens=#[])(ha:s₁.heap.get? a=Ab { cls:=.type "list",data:=.seq vs.toArray })(hi:IW vs ns)(hl:ns.length<=sizeLine)(hr:Room k HX)(F:∀ base:AC,K.In base->base.Ns Ba mg->FnOk P w K mg base CX k fa fd [x] sp)(hbind:∀(s:Ar)(u:Ai),Hk s fd ⟨[u],[]⟩ [(x,u)])(hsp:∀ H:Hp,O4 H->SqL K H a (ns.map V.int)->sp [.ref a] H (λv _=>v=.bl Aa) λ_ _ _=>Bl)(hCX:∀ H e s',CX [] H s₁ (λ_ _ _=>Bl) e s'->Bl):Fl (model P w) HX (.call (.ref fa) ⟨[.ref a],[]⟩) (λr s'=>r=.ok (.ret (.bool Aa))/\OldK s₁.heap s'.heap/\s'.os=s₁.os/\Gg s'.gens) s₁:=by
 have rv:=Uj hi;have lenV:=hi.length
 -- from an abstract heap in which nothing but the script may be tracked
 have core:∀ H:Hp,O4 H->SqL K H a (ns.map V.int)->HOk P w H s₁.heap->(∀ b,H b≠Af->b=a)->(H a≠Af->K.lookup a=Af) ->
   Fl (model P w) HX (.call (.ref fa) ⟨[.ref a],[]⟩) (λr s'=>r=.ok (.ret (.bool Aa))/\OldK s₁.heap s'.heap/\s'.os=s₁.os/\Gg s'.gens) s₁:=by
  intro H hO hS hok hA hK;have base_of:∀{b:Al}{o:C9},s₁.heap.get? b=Ab o->H b=Af->(Jz s₁.heap H).get? b=Ab o:=λe n=>lG e n
  have noA:∀{b:Al}{o:C9}{es:A8 DictEntry}{ep:Ag},s₁.heap.get? b=Ab o->o.data=.dict es ep->H b=Af:=λ{b o es ep} e d=>by
   cases q:H b with
   |none=>rfl
   |some u=>
    have e':b=a:=hA b (by rw[q];simp)
    subst e';rw[ha]at e;cases e;have d':Mc vs.toArray _=Data.dict es ep:=d;cases d'
  have nsK:∀{b:Al}{m:Ak->Ap Ai},s₁.heap.Ns b m->(Jz s₁.heap H).Ns b m:=λ{b m} ⟨o,es,ep,e,d,r⟩=>⟨o,es,ep,base_of e (noA e d),d,r⟩
  have hKb:K.In (Jz s₁.heap H):=λb o e=>base_of (KX b o e) (by
   cases q:H b with
   |none=>rfl
   |some u=>
    have e':b=a:=hA b (by rw[q];simp)
    subst e';rw[hK (by rw[q];simp)]at e;cases e)
  have hM:Mod K mg (Jz s₁.heap H):=⟨hKb,nsK hns,⟨mb,nsK hb,hbb⟩,let ⟨mc,h1,h2⟩:=hlim;⟨mc,nsK h1,h2⟩⟩
  have e0:Env0 P w K mg (Jz s₁.heap H) HX [] s₁ H:=⟨rfl,hM,λb o e=>pJ e,Yw (iJ _ _),trivial,λb hb=>absurd (show b∈([]:Ac Al) from hb) (by simp),hok,.of_eq hg⟩
  refine G3 ((F _ hKb (nsK hns)).run HX [] s₁ H ⟨[.ref a],[]⟩ [.ref a] [.ref a] _ _ hr e0 (hbind s₁ (.ref a)) (.cons rfl .nil) (hsp H hO hS)) λr s' h=>?_
  cases r with
  |error e=>exact(hCX H e s' h).elim
  |ok fl=>
   cases fl with
   |next=>exact BB h
   |brk=>exact BB h
   |cont=>exact BB h
   |ret u=>
    obtain⟨v,H',os,bare,un,hok',r',q⟩:=h;have q':v=.bl Aa:=q;subst q';obtain rfl:u=K5 Aa:=r';refine⟨rfl,OldK.of_keep λb o e=>?_,os,bare⟩
    cases q:H b with
    |none=>exact un.keep b o e q (by intro z;exact absurd (show b∈([]:Ac Al) from z) (by simp)) (by simp)
    |some u=>
     rcases hO b with z|⟨ob,xs,z⟩
     .rw[q]at z;cases z
     .have z2:=un.frzs b ob _ z;obtain⟨e1,_⟩:=hok b _ z;obtain⟨e2,_⟩:=hok' b _ z2;rw[e]at e1;cases e1;exact e2
 cases hk:K.lookup a with
 |some o=>
  -- the script is one of the module's own objects
  have e:=KX a o hk;rw[ha]at e;cases e;refine core (λ_=>Af) (λ_=>.inl rfl) (.inr ⟨_,vs.toArray,_,hk,rfl,rfl,rfl,by rw[AJ,lenV];exact hl,by simpa using rv⟩) (λb u z=>by have z':(Af:Ap HO)=Ab u:=z;cases z') (λb z=>absurd rfl z) λz=>absurd rfl z
 |none=>
  refine core (λb=>if b=a then Ab (.frz { cls:=.type "list",data:=.seq vs.toArray } (.lst (ns.map V.int))) else Af) (λb=>?_) (.inl (.inr ⟨{ cls:=.type "list",data:=.seq vs.toArray },AI rfl⟩)) (λb u z=>?_) (λb z=>?_) λ_=>hk
  .by_cases hb:b=a
   .exact .inr ⟨_,_,AI hb⟩
   .exact .inl (AT hb)
  .by_cases hb:b=a
   .have z':=(AI hb).symm.trans z;cases z';subst hb;exact⟨ha,by rw[BR];exact hl,vs,_,rv,ha⟩
   .have z':=(AT hb).symm.trans z;cases z'
  .by_cases hb:b=a
   .exact hb
   .exact absurd (AT hb) z
noncomputable abbrev KOf{K:Fg}{h:AC}(_:K.In h):Fg:=K
theorem walk_of{l:GB}{n:Ag}{q:AV}{loose:Ac Ak}{XP:(Ak->Ap Ai)->AC->Prop}{YP:AF->AC->Prop}{d:DefRec}{K:Me->Fg}{CX:AF->CXT}{sp:AF->Sp}(hn:l.most=Ab n)(hn2:n<=sizeLine)(hdf:d.params.defaults=[])(hr:Room k HX)(hY:∀(w:AF)(h:AC),YP w h->(K w.params).In h)(F:∀(w:AF)(mg:Ak->Ap Ai)(fa:Al)(h:AC),(K w.params).In h->h.Ns Ba mg->mg d.name=Ab (.ref fa) ->
   ∃ fd:Cf,(∀(s:Ar)(u:Ai),Hk s fd ⟨[u],[]⟩ [(x,u)]) /\
    ∀ base:AC,(K w.params).In base->base.Ns Ba mg->FnOk l.prog w (K w.params) mg base (CX w) k fa fd [x] (sp w))(hsp:∀(w:AF)(H:Hp)(a:Al)(ns:Ac Ae),ns.length<=n->O4 H->SqL (K w.params) H a (ns.map V.int)->sp w [.ref a] H (λv _=>v=.bl Aa) λ_ _ _=>Bl)(hCX:∀(w:AF)(H:Hp)(s:Ar)(e:Ai)(s':Ar),CX w [] H s (λ_ _ _=>Bl) e s'->Bl):Z_2 q loose XP YP l.row.toRowW d [] (λf vs=>K7 f vs):=by
 refine Att.attach_call hn hdf λw s₀ s₁ mg mb fa o pm cd doc a vs ns G Y_ ho hd hcd hmg hobj hints hlen hg=>?_
 have KX:=hY w _ Y_;obtain⟨fd,hb,hF⟩:=F w mg fa _ KX G.T.g hmg;exact mL KX G.T.g G.T.b G.T.builtins G.T.nolimit hg hobj hints (Cb hlen hn2) hr hF hb (λH hO hS=>hsp w H a ns hlen hO hS) λH e s'=>hCX w H s₁ e s'
end L2
/- THE LAST THEOREM (shape;LID,My.* are yours):
   My.Adr:a structure of the addresses that your layer names (classes,functions);My.Txt K t:a structure (Prop) of the equations over K;
   My.txt_mk:{K} {implicit addresses ..} (e1:nsIn K Ba "law" = Ab (Ab (.ref f))) (e2:K.lookup f=Ab ⟨oc,od,.func (fnOf "law" "law" params body scope dV kV doc pm an cdv ct),sl⟩) (e3:codeIn K cdv "law" = Aa) ..:∃ t,My.Txt K t
set_option maxRecDepth 100000 in
set_option maxHeartbeats 0 in
theorem PySem.Challenge.cw_LID_holds:PySem.Challenge.rw_LID.Holds:=by
 w_on;o_law;k_head;(case hw=>w_witness2)
 k_fill
 refine L2.walk_of (l:=PySem.Challenge.rw_LID) (n:=63) (k:=40) (x := "script") (CX:=λw=>..) (sp:=λ_=>My.sp_law) rfl (by decide) rfl ⟨rfl,by decide,by decide⟩ (λw h Y_=>Z_8 Y_) ?F ?S ?C
 case F=>
  intro w mg fa h KX G hmg;have T:∃ t,My.Txt (L2.KOf KX) t:=by
   dsimp only[L2.KOf]                          -- K must stand as «<heap const> w.params» for k_is
   refine' My.txt_mk ?e1 ?e2 ?e3 ..
   (case e1=>PySem.W.k_is)                    -- in the order: a name -> its address -> its object -> its parts
   (case e2=>PySem.W.k_is)
   ..
  obtain⟨t,T⟩:=T;have e0:=hmg.symm.trans (B9 KX G T.law);cases e0                                       -- fa is the law's own address
  exact⟨_,fun s u=>.of_eq rfl,fun base kb nb=>My.law_fn T kb nb⟩     -- if «.of_eq rfl» comes too early: refine' ⟨_,?b,fun base kb nb=>My.law_fn T kb nb⟩;exact fun s u=>.of_eq rfl
 case S=>exact λw H a ns hl hO hS=>..
 case C=>exact ..
(the tactic k_is has no namespace:write k_is) -/
namespace L2
open PySem PySem.Spec PyProof.Rows
noncomputable def IJ(s:AY):Arguments:=match s with
  |.FunctionDef _ a _ _ _ _ _ _ _ _=>a
  |_=>{posonlyargs:=[],args:=[],vararg:=Af,kwonlyargs:=[],kw_defaults:=[],kwarg:=Af,defaults:=[]}
noncomputable def Gq(s:AY):Ac AY:=match s with
  |.FunctionDef _ _ b _ _ _ _ _ _ _=>b
  |_=>[]
noncomputable def C3(s:AY):Cz:=match s with
  |.FunctionDef _ _ _ _ _ _ sc _ _ _=>sc
  |_=>{kind:=.function,names:=[],isGenerator:=Ad,isCoroutine:=Ad}
noncomputable abbrev CX0:CXT:=λ_ _ _ _ _ _=>Bl
noncomputable abbrev E0:XK:=λ_ _ _=>Bl
structure Fun (K:Fg) (x qual:Ak) (st:AY) (f:Al) (fd:Cf):Prop where
 ex:∃(oc:Ai)(od:Ap Al)(kV doc pm:Ai)(an:Ap Al)(cdv ct:Ai)(osl:A8 (Ap Ai)),
  fd=Dc x qual (IJ st) (Gq st) (C3 st) .none kV doc pm an cdv ct/\K.lookup f=Ab ⟨oc,od,.func fd,osl⟩/\Fk K cdv qual=Aa
 kp:CT K (.ref f)=Aa
section
variable{P:AV}{w:AF}{K:Fg}{mg:Ak->Ap Ai}{base:AC}
theorem Fun.ok{x qual:Ak}{st:AY}{f:Al}{fd:Cf}{N ps:Ac Ak}{k:Ag}{sp:Sp}(F:Fun K x qual st f fd)(S:FnScope N ps (C3 st))(len:∀ vs H Q E,sp vs H Q E->vs.length=ps.length)(hbody:∀(cdv:Ai)(A:A9)(outer:Ac CN)(s:Ar)(H:Hp)(vs:Ac V)(Q:VK)(E:XK),Room k (A.deeper (FB qual (C3 st) s.heap.objs.size f cdv))->sp vs H Q E ->
   ∃ t,PSs (GS CX0 P w K mg base N qual (C3 st) f cdv A outer s H E).nox (Gq st) t/\t {nx:=λ_ H'=>Q .non H',rt:=Q} (start N vs) H):FnOk P w K mg base CX0 (k+1) f fd ps sp:=by
 obtain⟨oc,od,kV,doc,pm,an,cdv,ct,osl,rfl,lk,hcd⟩:=F.ex;refine Xj lk hcd S len λA outer s H vs Q E hr hsp=>?_
 obtain⟨t,h,q⟩:=hbody cdv A outer s H vs Q E hr hsp;exact⟨t,h.nox,q⟩
theorem Fun.binds{x qual:Ak}{st:AY}{f:Al}{fd:Cf}{ps:Ac Ak}(F:Fun K x qual st f fd)(h:∀(kV doc pm:Ai)(an:Ap Al)(cdv ct:Ai)(us:Ac Ai),us.length=ps.length->Jg (Dc x qual (IJ st) (Gq st) (C3 st) .none kV doc pm an cdv ct) ⟨us,[]⟩=pure (ps.zip us)):G9 K fd ps []:=by
 obtain⟨oc,od,kV,doc,pm,an,cdv,ct,osl,rfl,lk,hcd⟩:=F.ex;exact .all (h kV doc pm an cdv ct)
theorem Wo{x qual:Ak}{st:AY}{f:Al}{oc:Ai}{od an:Ap Al}{osl:A8 (Ap Ai)}{kV doc pm cdv ct:Ai}(l:K.lookup f=Ab ⟨oc,od,.func (Dc x qual (IJ st) (Gq st) (C3 st) .none kV doc pm an cdv ct),osl⟩)(c:Fk K cdv qual=Aa)(k:CT K (.ref f)=Aa):Fun K x qual st f (Dc x qual (IJ st) (Gq st) (C3 st) .none kV doc pm an cdv ct):=⟨⟨oc,od,kV,doc,pm,an,cdv,ct,osl,rfl,l,c⟩,k⟩
end
section
variable{X:Cx}
end
def AH(H H':Hp):Prop:=∀ b o,H b=Ab o->H' b=Ab o
theorem AH.refl(H:Hp):AH H H:=λ_ _ h=>h
theorem AH.trans{H H1 H2:Hp}(a:AH H H1)(b:AH H1 H2):AH H H2:=λc o h=>b c o (a c o h)
theorem AH.free{H H':Hp}(e:AH H H'){l:Al}(h:H' l=Af):H l=Af:=by
 cases q:H l with
 |none=>rfl
 |some o=>
  rw[e l o q]at h;cases h
end L2
section
namespace Ov
open PySem
variable{α β:Type}
inductive D where
 |non|bl (b:Aj)|int (i:Ae)|str (x:Ak)|tup (ds:Ac D)|lst (ds:Ac D)
 |obj (c:Ag) (fs:Ac (Ak×D))|exc (c:Ag) (fs:Ac (Ak×D))|dic (kvs:Ac (Ac Ae×D))
 deriving Inhabited
structure Ex where
 c:Ag
 fs:Ac (Ak×D)
 deriving Inhabited
inductive R (α:Type) where
 |ok (a:α)|exn (x:Ex)|bad
 deriving Inhabited
noncomputable def R.bind{α β:Type}(r:R α)(f:α->R β):R β:=match r with
  |.ok a=>f a
  |.exn x=>.exn x
  |.bad=>.bad
@[simp]theorem R.bind_ok(a:α)(f:α->R β):(R.ok a).bind f=f a:=rfl
@[simp]theorem R.bind_exn(x:Ex)(f:α->R β):(R.exn x:R α).bind f=.exn x:=rfl
@[simp]theorem R.bind_bad(f:α->R β):(R.bad:R α).bind f=.bad:=rfl
theorem R.bind_assoc{γ:Type}(r:R α)(f:α->R β)(g:β->R γ):(r.bind f).bind g=r.bind λa=>(f a).bind g:=by cases r<;>rfl
noncomputable def DR(n:Ag):Aj:=DG n 1000000
noncomputable def F9(i j:Ae):Aj:=(decide (-(18446744073709551616:Ae)<i)&&decide (i<18446744073709551616))||(decide (-(18446744073709551616:Ae)<j)&&decide (j<18446744073709551616))
noncomputable def Fm(i j:Ae):Aj:=decide (i.natAbs<2 ^ 2000)&&decide (j.natAbs<2 ^ 2000)
noncomputable def C4:F3->D->D->R D
 |.Add,.int i,.int j=>.ok (.int (i+j))
 |.Sub,.int i,.int j=>.ok (.int (i-j))
 |.Mult,.int i,.int j=>if (F9 i j||Fm i j)=Aa then .ok (.int (i*j)) else .bad
 |.FloorDiv,.int i,.int j=>if 0<j/\j<1073741824 then .ok (.int (i/j)) else .bad
 |.Mod,.int i,.int j=>if 0<j then .ok (.int (i%j)) else .bad
 |.Pow,.int i,.int j=>if (0<=j/\j<=1000000)/\(-(18446744073709551616:Ae)<i/\i<18446744073709551616) then .ok (.int (i ^ j.toNat)) else .bad
 |.Add,.str x,.str y=>if DR (x.length+y.length)=Aa then .ok (.str (x++y)) else .bad
 |.Add,.lst x,.lst y=>if DR (x.length+y.length)=Aa then .ok (.lst (x++y)) else .bad
 |.Add,.tup x,.tup y=>if (!x.isEmpty&&DR (x.length+y.length))=Aa then .ok (.tup (x++y)) else .bad
 |_,_,_=>.bad
noncomputable def unD:Km->D->R D
 |.USub,.int i=>.ok (.int (-i))
 |_,_=>.bad
noncomputable def b2i(b:Aj):Ae:=if b=Aa then 1 else 0
mutual
noncomputable def eqD:D->D->Aj
 |.non,.non=>Aa
 |.bl a,.bl b=>a==b
 |.bl a,.int j=>b2i a==j
 |.int i,.bl b=>i==b2i b
 |.int i,.int j=>i==j
 |.str x,.str y=>x==y
 |.tup xs,.tup ys=>eqDs xs ys
 |.lst xs,.lst ys=>eqDs xs ys
 |_,_=>Ad
noncomputable def eqDs:Ac D->Ac D->Aj
 |[],[]=>Aa
 |x::xs,y::ys=>eqD x y&&eqDs xs ys
 |_,_=>Ad
end
noncomputable def flD:Ag->D->Aj
 |_,.non=>Aa
 |_,.bl _=>Aa
 |_,.int _=>Aa
 |_,.str _=>Aa
 |n+1,.tup xs=>xs.all (flD n)
 |n+1,.lst xs=>xs.all (flD n)
 |_,_=>Ad
noncomputable def Ke:D->Ap (Ac Ae)
 |.tup ds=>keyDs ds
 |_=>Af
where keyDs:Ac D->Ap (Ac Ae)
 |[]=>Ab []
 |.int i::r=>(keyDs r).map (i :: ·)
 |_=>Af
noncomputable def ltD:Ag->D->D->Aj
 |0,.int i,.int j=>decide (i<j)
 |n+1,.tup xs,.tup ys=>ltDs (ltD n) xs ys
 |_,_,_=>Ad
where ltDs (lt:D->D->Aj):Ac D->Ac D->Aj
 |[],[]=>Ad
 |[],_::_=>Aa
 |_::_,[]=>Ad
 |x::xs,y::ys=>if eqD x y=Aa then ltDs lt xs ys else lt x y
noncomputable def rkD:Ag->D->Aj
 |0,.int _=>Aa
 |n+1,.tup xs=>xs.all (rkD n)
 |_,_=>Ad
noncomputable def SH(lt:D->D->Aj)(x:D):Ac D->Ac D
 |[]=>[x]
 |y::ys=>if lt y x=Aa then y::SH lt x ys else x::y::ys
noncomputable def W5(lt:D->D->Aj):Ac D->Ac D
 |[]=>[]
 |x::xs=>SH lt x (W5 lt xs)
noncomputable def SZ:Ac D->Aj
 |[]=>Aa
 |x::xs=>xs.all (λy=>!eqD x y)&&SZ xs
noncomputable def Tl:Ac D->Aj
 |[]=>Aa
 |[_]=>Aa
 |x::y::r=>ltD 1 x y&&Tl (y::r)
noncomputable def VH(xs:Ac D):R (Ac D):=if (xs.all (λd=>rkD 1 d && !eqD d (.tup []))&&SZ xs&&(decide (xs.length<64)||(Tl xs&&decide (xs.length<=1000))))=Aa then .ok (W5 (ltD 1) xs) else .bad
noncomputable def B4:DC->D->D->R D
  |.Eq,x,y=>if (flD 5 x&&flD 5 y)=Aa then .ok (.bl (eqD x y)) else .bad
  |.NotEq,x,y=>if (flD 5 x&&flD 5 y)=Aa then .ok (.bl (!eqD x y)) else .bad
  |.Lt,.int i,.int j=>.ok (.bl (decide (i<j)))
  |.LtE,.int i,.int j=>.ok (.bl (decide (i<=j)))
  |.Gt,.int i,.int j=>.ok (.bl (decide (j<i)))
  |.GtE,.int i,.int j=>.ok (.bl (decide (j<=i)))
  |.In,x,.lst ys=>if (flD 5 x&&ys.all (flD 5))=Aa then .ok (.bl (ys.any λy=>eqD y x)) else .bad
  |.In,x,.dic kvs=>match Ke x with
    |some k=>.ok (.bl (kvs.any λp=>p.1==k))
    |none=>.bad
  |.In,x,.tup ys=>if (flD 5 x&&ys.all (flD 5))=Aa then .ok (.bl (ys.any λy=>eqD y x)) else .bad
  |.NotIn,x,.lst ys=>if (flD 5 x&&ys.all (flD 5))=Aa then .ok (.bl (!ys.any λy=>eqD y x)) else .bad
  |.NotIn,x,.tup ys=>if (flD 5 x&&ys.all (flD 5))=Aa then .ok (.bl (!ys.any λy=>eqD y x)) else .bad
  |.Is,.non,.non=>.ok (.bl Aa)
  |.Is,.bl _,.non=>.ok (.bl Ad)
  |.Is,.int _,.non=>.ok (.bl Ad)
  |.Is,.str _,.non=>.ok (.bl Ad)
  |.Is,.tup _,.non=>.ok (.bl Ad)
  |.Is,.lst _,.non=>.ok (.bl Ad)
  |.Is,.obj _ _,.non=>.ok (.bl Ad)
  |.Is,.bl a,.bl b=>.ok (.bl (a==b))
  |.IsNot,.bl a,.bl b=>.ok (.bl (!(a==b)))
  |.IsNot,.non,.non=>.ok (.bl Ad)
  |.IsNot,.bl _,.non=>.ok (.bl Aa)
  |.IsNot,.int _,.non=>.ok (.bl Aa)
  |.IsNot,.str _,.non=>.ok (.bl Aa)
  |.IsNot,.tup _,.non=>.ok (.bl Aa)
  |.IsNot,.lst _,.non=>.ok (.bl Aa)
  |.IsNot,.obj _ _,.non=>.ok (.bl Aa)
  |_,_,_=>.bad
noncomputable def Cu:D->R Aj
 |.non=>.ok Ad
 |.bl b=>.ok b
 |.int i=>.ok (i != 0)
 |.str x=>if DR x.length=Aa then .ok (x.length != 0) else .bad
 |.tup xs=>.ok (!xs.isEmpty)
 |.lst xs=>.ok (!xs.isEmpty)
 |_=>.bad
noncomputable def plD(n:Ag)(i:Ae):Ap Ag:=if 0<=i then (if i<n then Ab i.toNat else Af) else if -(n:Ae)<=i then Ab (i+n).toNat else Af
noncomputable def EJ(xs:Ac D)(i:Ae):R D:=match plD xs.length i with
  |some k=>match xs[k]? with
    |some d=>.ok d
    |none=>.bad
  |none=>.bad
noncomputable def Rb(kvs:Ac (Ac Ae×D))(k:Ac Ae):Ap D:=(kvs.find? λp=>p.1==k).map (·.2)
noncomputable def Ws(kvs:Ac (Ac Ae×D))(k:Ac Ae)(v:D):Ac (Ac Ae×D):=if (kvs.any λp=>p.1==k)=Aa then kvs.map (λp=>if (p.1==k)=Aa then (k,v) else p) else kvs++[(k,v)]
noncomputable def CJ:D->D->R D
  |.lst xs,.int i=>EJ xs i
  |.tup xs,.int i=>EJ xs i
  |.dic kvs,k=>match (Ke k).bind (Rb kvs) with
    |some d=>.ok d
    |none=>.bad
  |_,_=>.bad
noncomputable def Gb:D->R Ae
 |.int i=>.ok i
 |_=>.bad
noncomputable def D7:D->R Aj
 |.bl b=>.ok b
 |_=>.bad
noncomputable def Ci:D->R (Ac D)
 |.lst xs=>.ok xs
 |.tup xs=>.ok xs
 |_=>.bad
noncomputable def LS:D->R (Ac D)
 |.lst xs=>.ok xs
 |_=>.bad
inductive BI where
 |len|abs|max|min|int|list|tuple|all|any|sum|sorted|str|count|stp|lset|tmin|tmax|tlt|rvs
 deriving DecidableEq,Inhabited
inductive Ki where
 |int|bool|str|list|tuple|verr|cls (c:Ag)
 deriving DecidableEq,Inhabited
mutual
inductive E where
 |non|bl (b:Aj)|int (i:Ae)|str (x:Ak)
 |var (i:Ag)|glob (g:Ag)
 |bin (op:F3) (a b:E)|un (op:Km) (a:E)|no (a:E)
 |and (es:Es)|or (es:Es)
 |cmp (op:DC) (a b:E)|cmp2 (op op':DC) (a b c:E)
 |ite (c a b:E)
 |call (f:Ag) (as:Es)|bi (b:BI) (as:Es)
 |isi (a:E) (ks:Ac Ki)
 |idx (a i:E)|sl (a lo hi:E)
 |tup (es:Es)|lst (es:Es)
 |comp (elt:E) (t:Ag) (it:I) (c:E)|compT (elt:E) (ts:Ac Ag) (it:I) (c:E)|tupI (it:I)|dnew
 |fld (o:E) (f:Ak)
inductive Es where
 |nil|cons (e:E) (es:Es)
inductive I where
 |e (a:E)|rng (a:E)|rng2 (a b:E)|zip (a b:E)|zip3 (a b c:E)|enm (a:E)
end
abbrev Sl:=Ap (D×Aj)
abbrev Rho:=Ac Sl
structure Gam where
 F:Ag->Ac D->R D
 G:Ag->D
 up:Ag->Ac Ag
 /-- the defs whose answer is a new list -/
 fr:Ag->Aj
 /-- what is raised: the class,what it is made of -/
 xn:Ag->Ac D->R Ex
noncomputable def D5(lo:Ae)(n:Ag):Ac D:=(Bm n).map fun(k:Ag)=>D.int (lo+(k:Ae))
noncomputable def DJ(lo hi:Ae):R (Ac D):=if (-(4611686018427387904:Ae)<=lo/\lo<4611686018427387904)/\(-(4611686018427387904:Ae)<=hi/\hi<4611686018427387904)/\hi-lo<1000000 then .ok (D5 lo (hi-lo).toNat) else .bad
noncomputable def kiD(up:Ag->Ac Ag):Ki->D->Aj
 |.int,.int _=>Aa
 |.int,.bl _=>Aa
 |.bool,.bl _=>Aa
 |.str,.str _=>Aa
 |.list,.lst _=>Aa
 |.tuple,.tup _=>Aa
 |.cls c,.obj k _=>(up k).contains c
 |.cls c,.exc k _=>(up k).contains c
 |.verr,.exc _ _=>Aa
 |_,_=>Ad
noncomputable def Er:Ki->Aj
 |.cls _=>Aa
 |.verr=>Aa
 |_=>Ad
noncomputable def Ep(up:Ag->Ac Ag)(ks:Ac Ki)(x:D):R D:=match x with
  |.obj _ _=>.bad
  |.exc _ _=>if ks.all Er=Aa then .ok (.bl (ks.any λk=>kiD up k x)) else .bad
  |.dic _=>.bad
  |_=>if ks.any Er=Aa then .bad else .ok (.bl (ks.any λk=>kiD up k x))
noncomputable def ES:D->R Aj
 |.non=>.ok Ad
 |.bl b=>.ok b
 |.int i=>.ok (i != 0)
 |_=>.bad
noncomputable def HK:Ac D->R Aj
 |[]=>.ok Aa
 |x::r=>(ES x).bind λb=>(HK r).bind λc=>.ok (b&&c)
noncomputable def Gv:Ac D->R Aj
 |[]=>.ok Ad
 |x::r=>(ES x).bind λb=>(Gv r).bind λc=>.ok (b||c)
noncomputable def HM:Ae->Ac D->R Ae
 |a,[]=>.ok a
 |a,.int i::r=>HM (a+i) r
 |_,_=>.bad
noncomputable def Gx:Ac D->Ac D->Ac D
 |x::xs,y::ys=>.tup [x,y]::Gx xs ys
 |_,_=>[]
noncomputable def Ro:Ac D->Ac D->Ac D->Ac D
 |x::xs,y::ys,z::zs=>.tup [x,y,z]::Ro xs ys zs
 |_,_,_=>[]
noncomputable def LU(x y z:D):R (Ac D):=(Ci x).bind λxs=>(Ci y).bind λys=>(Ci z).bind λzs=>if 0<xs.length/\xs.length<=1000/\ys.length=xs.length/\zs.length=xs.length then .ok (Ro xs ys zs) else .bad
noncomputable def EK:Ae->Ac D->Ac D
 |_,[]=>[]
 |i,x::xs=>.tup [.int i,x]::EK (i+1) xs
noncomputable def nlD:Ag->D->Aj
 |_,.non=>Aa
 |_,.bl _=>Aa
 |_,.int _=>Aa
 |_,.str _=>Aa
 |n+1,.tup xs=>xs.all (nlD n)
 |_,_=>Ad
noncomputable def Fw(fr:Aj):D->Aj
 |.lst ds=>fr&&ds.all (nlD 5)
 |d=>nlD 5 d
noncomputable def Oo:Ac D->Ap (Ac Ae)
 |[]=>Ab []
 |.int i::r=>(Oo r).map (i :: ·)
 |_=>Af
noncomputable def S0(i:Ae):Ac Ae->Ae
 |[]=>i
 |j::r=>S0 (if j<i then j else i) r
noncomputable def pk2(k n:Ag):Ac Ag:=(Bm ((n-min k n+1)/2)).map λj=>min k n+2*j
noncomputable def Tb(k:Ag)(xs:Ac D):Ac D:=(pk2 k xs.length).filterMap λi=>xs[i]?
noncomputable def ddS(acc:Ac Ae)(x:Ae):Ac Ae:=if acc.any (· == x)=Aa then acc else acc++[x]
noncomputable def ddN(is:Ac Ae):Ag:=(is.foldl ddS []).length
noncomputable def XC(xs:Ac D):R D:=match Oo xs with
  |some is=>if DG is.length 4000=Aa then .ok (.int (ddN is)) else .bad
  |none=>.bad
noncomputable def mmD(mx:Aj)(x y:D):R D:=if [x,y].all (λd=>rkD 1 d && !eqD d (.tup []))=Aa then .ok (if (if mx=Aa then ltD 1 x y else ltD 1 y x)=Aa then y else x) else .bad
noncomputable def S7(x y:D):R D:=if [x,y].all (λd=>rkD 1 d && !eqD d (.tup []))=Aa then .ok (.bl (ltD 1 x y)) else .bad
noncomputable def dN(k:Ac Ae):Ae:=reduceHash (Builtin.Tuple.tupleHashOf (k.map hashInt))
noncomputable def XD:Ac D->Ap (Ac (Ac Ae))
 |[]=>Ab []
 |.tup xs::r=>(Oo xs).bind λk=>(XD r).map (k :: ·)
 |_=>Af
noncomputable def SD:Ac Ae->Aj
 |[]=>Aa
 |h::r=>!r.contains h&&SD r
noncomputable def kn(xs:Ac D):R D:=match XD xs with
  |some ks=>if (DG ks.length 3&&SD (ks.map dN))=Aa then .ok (.int ks.length) else .bad
  |none=>.bad
noncomputable def biD:BI->Ac D->R D
  |.len,[.lst xs]=>.ok (.int xs.length)
  |.len,[.tup xs]=>.ok (.int xs.length)
  |.len,[.str x]=>if DR x.length=Aa then .ok (.int x.length) else .bad
  |.abs,[.int i]=>.ok (.int (if i<0 then -i else i))
  |.max,[.int i,.int j]=>.ok (.int (if i<j then j else i))
  |.min,[.int i,.int j]=>.ok (.int (if j<i then j else i))
  |.min,[.lst xs]=>match Oo xs with
    |some (i::is)=>.ok (.int (S0 i is))
    |_=>.bad
  |.int,[.int i]=>.ok (.int i)
  |.int,[.bl b]=>.ok (.int (b2i b))
  |.list,[.lst xs]=>.ok (.lst xs)
  |.list,[.tup xs]=>.ok (.lst xs)
  |.tuple,[.lst xs]=>.ok (.tup xs)
  |.tuple,[.tup xs]=>.ok (.tup xs)
  |.all,[.lst xs]=>(HK xs).bind λb=>.ok (.bl b)
  |.any,[.lst xs]=>(Gv xs).bind λb=>.ok (.bl b)
  |.any,[.tup xs]=>(Gv xs).bind λb=>.ok (.bl b)
  |.sum,[.lst xs]=>(HM 0 xs).bind λi=>.ok (.int i)
  |.sum,[.tup xs]=>(HM 0 xs).bind λi=>.ok (.int i)
  |.sorted,[.lst xs]=>(VH xs).bind λys=>.ok (.lst ys)
  |.count,[.lst xs,x]=>if (flD 5 x&&xs.all (flD 5))=Aa then .ok (.int ((xs.filter λy=>eqD y x).length:Ag)) else .bad
  |.len,[.dic kvs]=>.ok (.int kvs.length)
  |.stp,[.lst xs,.int k]=>.ok (.lst (Tb k.toNat xs))
  |.lset,[.lst xs]=>XC xs
  |.lset,[.tup xs]=>kn xs
  |.tmin,[x,y]=>mmD Ad x y
  |.tmax,[x,y]=>mmD Aa x y
  |.tlt,[x,y]=>S7 x y
  |.rvs,[.lst xs]=>.ok (.lst xs.reverse)
  |_,_=>.bad
noncomputable def slE(c:E)(d:D):R (Ap Ae):=match c with
  |.non=>.ok Af
  |_=>(Gb d).bind λi=>.ok (Ab i)
noncomputable def Hb(n d:Ag):Ap Ae->Ag
 |none=>d
 |some i=>if i<0 then (i+n).toNat else min i.toNat n
noncomputable def KZ(xs:Ac D)(lo hi:Ap Ae):Ac D:=(xs.drop (Hb xs.length 0 lo)).take (Hb xs.length xs.length hi-Hb xs.length 0 lo)
noncomputable def slD:D->Ap Ae->Ap Ae->R D
 |.lst xs,l,h=>.ok (.lst (KZ xs l h))
 |.tup xs,l,h=>if (Hb xs.length 0 l==0&&Hb xs.length xs.length h==xs.length)=Aa then .bad else .ok (.tup (KZ xs l h))
 |_,_,_=>.bad
noncomputable def MV:D->Ak->R D
  |.exc _ fs,f=>match fs.lookup f with
    |some d=>.ok d
    |none=>.bad
  |_,_=>.bad
noncomputable def Gw(Y:Rho)(i:Ag):R D:=match Y[i]? with
  |some (Ab (d,Ad))=>.ok d
  |_=>.bad
noncomputable def Dp(Y:Rho)(i:Ag):R D:=match Y[i]? with
  |some (Ab (d,_))=>.ok d
  |_=>.bad
noncomputable def shE(Y:Rho):E->Aj
  | .var i=>(match Y[i]? with
    |some (Ab (_,Aa))=>Ad
    | _=>Aa)
  |_=>Aa
noncomputable def IR(Y:Rho):Es->Aj
 |.nil=>Aa
 |.cons e es=>shE Y e&&IR Y es
noncomputable def ER:Ac Ag->Ac D->Rho->Ap Rho
 |[],[],Y=>Ab Y
 |t::ts,d::ds,Y=>ER ts ds (Y.set t (Ab (d,Ad)))
 |_,_,_=>Af
noncomputable def F8(ts:Ac Ag)(d:D)(Y:Rho):R Rho:=match d with
  | .tup xs=>(match ER ts xs Y with
    |some Y'=>.ok Y'
    | none=>.bad)
  |_=>.bad
noncomputable def IP(ts:Ac Ag)(d:D)(Y:Rho):R Rho:=match d with
  | .lst xs=>(match ER ts xs Y with
    |some Y'=>.ok Y'
    | none=>.bad)
  |d=>F8 ts d Y
noncomputable def Ce(g:D->R Aj)(f:D->R D):Ac D->R (Ac D)
 |[]=>.ok []
 |x::xs=>(g x).bind λb=>if b=Aa then (f x).bind λy=>(Ce g f xs).bind λys=>.ok (y::ys) else Ce g f xs
noncomputable def noX{α:Type}:R α->R α
 |.ok a=>.ok a
 |_=>.bad
noncomputable def top(Y:Rho)(e:E)(r:R D):R D:=match e with
  |.var i=>Dp Y i
  |_=>r
mutual
noncomputable def evE(Z:Gam)(Y:Rho):E->R D
 |.non=>.ok .non
 |.bl b=>.ok (.bl b)
 |.int i=>.ok (.int i)
 |.str x=>.ok (.str x)
 |.var i=>Gw Y i
 |.glob g=>.ok (Z.G g)
 |.bin op a b=>(top Y a (evE Z Y a)).bind λx=>(top Y b (evE Z Y b)).bind λy=>C4 op x y
 |.un op a=>(top Y a (evE Z Y a)).bind λx=>unD op x
 |.no a=>(top Y a (evE Z Y a)).bind λx=>(D7 x).bind λb=>.ok (.bl (!b))
 |.and es=>evN Z Y es
 |.or es=>evO Z Y es
 |.cmp op a b=>(top Y a (evE Z Y a)).bind λx=>(top Y b (evE Z Y b)).bind λy=>B4 op x y
 |.cmp2 op op' a b c=>(top Y a (evE Z Y a)).bind λx=>(top Y b (evE Z Y b)).bind λy=>(B4 op x y).bind λz=>(D7 z).bind λk=>if k=Aa then (top Y c (evE Z Y c)).bind λu=>B4 op' y u else .ok (.bl Ad)
 |.ite c a b=>(top Y c (evE Z Y c)).bind λx=>(Cu x).bind λk=>if k=Aa then evE Z Y a else evE Z Y b
 |.call f as=>(evB Z Y as).bind λxs=>(Z.F f xs).bind λd=>if IR Y as=Aa then .ok d else if Fw (Z.fr f) d=Aa then .ok d else .bad
 |.bi b as=>(evB Z Y as).bind λxs=>biD b xs
 |.isi a ks=>(top Y a (evE Z Y a)).bind λx=>Ep Z.up ks x
 |.idx a i=>(top Y a (evE Z Y a)).bind λx=>(top Y i (evE Z Y i)).bind λy=>CJ x y
 |.sl a lo hi=>(top Y a (evE Z Y a)).bind λx=>(top Y lo (evE Z Y lo)).bind λl=>(slE lo l).bind λl'=>(top Y hi (evE Z Y hi)).bind λh=>(slE hi h).bind λh'=>slD x l' h'
 |.tup es=>(evA Z Y es).bind λxs=>.ok (.tup xs)
 |.lst es=>(evA Z Y es).bind λxs=>.ok (.lst xs)
 |.comp elt t it c=>(evI Z Y it).bind λxs=>(noX (Ce (λx=>(top (Y.set t (Ab (x,Ad))) c (evE Z (Y.set t (Ab (x,Ad))) c)).bind Cu) (λx=>evE Z (Y.set t (Ab (x,Ad))) elt) xs)).bind λys=>.ok (.lst ys)
 |.compT elt ts it c=>(evI Z Y it).bind λxs=>(noX (Ce (λx=>(F8 ts x Y).bind λY'=>(top Y' c (evE Z Y' c)).bind Cu) (λx=>(F8 ts x Y).bind λY'=>evE Z Y' elt) xs)).bind λys=>.ok (.lst ys)
 |.tupI it=>(evI Z Y it).bind λxs=>.ok (.tup xs)
 |.dnew=>.ok (.dic [])
 |.fld o f=>(top Y o (evE Z Y o)).bind λx=>MV x f
noncomputable def evN(Z:Gam)(Y:Rho):Es->R D
 |.nil=>.bad
 |.cons e .nil=>evE Z Y e
 |.cons e (.cons e' es)=>(evE Z Y e).bind λx=>(D7 x).bind λc=>if c=Aa then evN Z Y (.cons e' es) else .ok (.bl Ad)
noncomputable def evO(Z:Gam)(Y:Rho):Es->R D
 |.nil=>.bad
 |.cons e .nil=>evE Z Y e
 |.cons e (.cons e' es)=>(evE Z Y e).bind λx=>(D7 x).bind λc=>if c=Aa then .ok (.bl Aa) else evO Z Y (.cons e' es)
noncomputable def evA(Z:Gam)(Y:Rho):Es->R (Ac D)
 |.nil=>.ok []
 |.cons e es=>(evE Z Y e).bind λx=>(evA Z Y es).bind λxs=>.ok (x::xs)
noncomputable def evB(Z:Gam)(Y:Rho):Es->R (Ac D)
 |.nil=>.ok []
 |.cons e es=>(top Y e (evE Z Y e)).bind λx=>(evB Z Y es).bind λxs=>.ok (x::xs)
noncomputable def evI(Z:Gam)(Y:Rho):I->R (Ac D)
 |.e a=>(evE Z Y a).bind Ci
 |.rng a=>(top Y a (evE Z Y a)).bind λx=>(Gb x).bind λj=>DJ 0 j
 |.rng2 a b=>(top Y a (evE Z Y a)).bind λx=>(top Y b (evE Z Y b)).bind λy=>(Gb x).bind λi=>(Gb y).bind λj=>DJ i j
 |.zip a b=>(evE Z Y a).bind λx=>(evE Z Y b).bind λy=>(Ci x).bind λxs=>(Ci y).bind λys=>.ok (Gx xs ys)
 |.zip3 a b c=>(evE Z Y a).bind λx=>(evE Z Y b).bind λy=>(evE Z Y c).bind λz=>LU x y z
 |.enm a=>(evE Z Y a).bind λx=>(Ci x).bind λxs=>.ok (EK 0 xs)
end
noncomputable def Eg(Z:Gam):E->Aj
 |.lst _=>Aa
 |.comp _ _ _ _=>Aa
 |.compT _ _ _ _=>Aa
 |.dnew=>Aa
 |.bin .Add _ _=>Aa
 |.bi .list _=>Aa
 |.bi .sorted _=>Aa
 |.sl _ _ _=>Aa
 |.call f _=>Z.fr f
 |_=>Ad
mutual
inductive S where
 |pass
 /-- x=e;fresh: x alone holds the new list -/
 |asg (i:Ag) (fresh:Aj) (e:E)
 /-- a,b,..=e -/
 |asgT (ts:Ac Ag) (e:E)
 |expr (e:E)
 |ret (e:E)|retN
 |ife (c:E) (a b:Ss)
 |fors (t:Ag) (it:I) (body:Ss)
 |forT (ts:Ac Ag) (it:I) (body:Ss)
 |whl (c:E) (body:Ss)
 /-- raise C(e,..) -/
 |rais (c:Ag) (as:Es)
 /-- try: body except C as x: h -/
 |tryx (body:Ss) (c:Ag) (x:Ag) (h:Ss)
 /-- .. except C as x: h,except C' as x: h',else: els -/
 |try2 (body:Ss) (c:Ag) (x:Ag) (h:Ss) (c':Ag) (h' els:Ss)
 /-- x.append(e),x.extend(e),x.insert(k,e),x.reverse(),x.clear() -/
 |app (i:Ag) (e:E)|ext (i:Ag) (e:E)|ins (i:Ag) (k e:E)|rev (i:Ag)|clr (i:Ag)
 /-- d[k]=e,d.setdefault(k,e) -/
 |dput (i:Ag) (k e:E)|dsd (i:Ag) (k e:E)
 /-- x[k]=e -/
 |put (i:Ag) (k e:E)
 /-- x[k],x[l]=x[l],x[k] -/
 |swp (i k l:Ag)
 /-- x.append(y.pop(e)) -/
 |apop (j i:Ag) (e:E)
 |brk|cont
 /-- nothing: from here on x is no longer changed -/
 |rel (i:Ag)
inductive Ss where
 |nil|cons (s:S) (ss:Ss)
end
inductive O where
 |next (Y:Rho)|ret (d:D) (fr:Aj)|brk (Y:Rho)|cont (Y:Rho)|exn (x:Ex) (Y:Rho)|bad
 deriving Inhabited
noncomputable def O.of{α:Type}(Y:Rho)(r:R α)(f:α->O):O:=match r with
  |.ok a=>f a
  |.exn x=>.exn x Y
  |.bad=>.bad
@[simp]theorem O.of_ok(Y:Rho)(a:α)(f:α->O):O.of Y (.ok a) f=f a:=rfl
@[simp]theorem O.of_exn(Y:Rho)(x:Ex)(f:α->O):O.of Y (.exn x:R α) f=.exn x Y:=rfl
@[simp]theorem O.of_bad(Y:Rho)(f:α->O):O.of Y (.bad:R α) f=.bad:=rfl
noncomputable def FQ(Z:Gam)(Y:Rho)(i:I):R (Ac D):=evI Z Y i
noncomputable def D6(Y:Rho)(i:Ag):R (Ac D):=match Y[i]? with
  |some (Ab (.lst xs,Aa))=>.ok xs
  |_=>.bad
noncomputable def SU(Y:Rho)(i:Ag):R (Ac (Ac Ae×D)):=match Y[i]? with
  |some (Ab (.dic xs,Aa))=>.ok xs
  |_=>.bad
noncomputable def XH(d:D):R (Ac Ae):=match Ke d with
  |some k=>.ok k
  |none=>.bad
noncomputable def Xq:Ag:=4096
noncomputable def O.seq(o:O)(f:Rho->O):O:=match o with
  |.next Y=>f Y
  |.ret d b=>.ret d b
  |.brk Y=>.brk Y
  |.cont Y=>.cont Y
  |.exn x Y=>.exn x Y
  |.bad=>.bad
noncomputable def O.turn(o:O)(f:Rho->O):O:=match o with
  |.next Y=>f Y
  |.cont Y=>f Y
  |.brk Y=>.next Y
  |.ret d b=>.ret d b
  |.exn x Y=>.exn x Y
  |.bad=>.bad
noncomputable def CG(body:D->Rho->O):Ac D->Rho->O
 |[],Y=>.next Y
 |x::xs,Y=>(body x Y).turn (CG body xs)
noncomputable def Sd(c:Rho->R Aj)(body:Rho->O):Ag->Rho->O
 |0,_=>.bad
 |n+1,Y=>O.of Y (c Y) λb=>if b=Aa then (body Y).turn (Sd c body n) else .next Y
noncomputable def Xm(Y:Rho)(k:Ag):R Ae:=(Gw Y k).bind Gb
noncomputable def cN(Y:Rho)(d:D)(i k l:Ag):O:=match d with
  |.tup [x,y]=>O.of Y (D6 Y i) λxs=>O.of Y (Xm Y k) λa=>O.of Y (Xm Y l) λb=>match plD xs.length a,plD xs.length b with
    |some m,Ab n=>.next (Y.set i (Ab (.lst ((xs.set m x).set n y),Aa)))
    |_,_=>.bad
  |_=>.bad
noncomputable def apD(Y:Rho)(j i:Ag)(ys xs:Ac D)(n:Ae):O:=match plD xs.length n with
  | some m=>(match xs[m]? with
    |some d=>if (j != i&&(DR xs.length&&DR (ys.length+1)))=Aa then .next ((Y.set i (Ab (.lst (xs.eraseIdx m),Aa))).set j (Ab (.lst (ys++[d]),Aa))) else .bad
    | none=>.bad)
  |none=>.bad
noncomputable def hdO(i:Ag)(y:Ex)(Y':Rho)(fh:Rho->O):O:=match fh (Y'.set i (Ab (.exc y.c y.fs,Ad))) with
  |.next Y''=>.next (Y''.set i Af)
  |.ret d f=>.ret d f
  |_=>.bad
mutual
noncomputable def evS(Z:Gam)(Y:Rho):S->O
  |.pass=>.next Y
  | .asg i fresh e=>O.of Y (evE Z Y e) λd=>if fresh=Aa then (if Eg Z e=Aa then (match d with
      |.lst xs=>.next (Y.set i (Ab (.lst xs,Aa)))
      |.dic xs=>.next (Y.set i (Ab (.dic xs,Aa)))
      | _=>.bad) else .bad) else .next (Y.set i (Ab (d,Ad)))
  |.asgT ts e=>O.of Y (evE Z Y e) λd=>O.of Y (IP ts d Y) λY'=>.next Y'
  |.expr e=>O.of Y (evE Z Y e) λ_=>.next Y
  |.ret e=>O.of Y (top Y e (evE Z Y e)) λd=>.ret d (Eg Z e||(match e with | .var i=>(match Y[i]? with|some (Ab (_,o))=>o|_=>Ad)|_=>Ad))
  |.retN=>.ret .non Ad
  |.ife c a b=>O.of Y ((top Y c (evE Z Y c)).bind Cu) λk=>if k=Aa then evSs Z Y a else evSs Z Y b
  |.fors t it body=>O.of Y (FQ Z Y it) λxs=>CG (λx Y'=>evSs Z (Y'.set t (Ab (x,Ad))) body) xs Y
  |.forT ts it body=>O.of Y (FQ Z Y it) λxs=>CG (λx Y'=>O.of Y' (F8 ts x Y') λY''=>evSs Z Y'' body) xs Y
  |.whl c body=>Sd (λY'=>(top Y' c (evE Z Y' c)).bind Cu) (λY'=>evSs Z Y' body) Xq Y
  |.rais c as=>O.of Y (noX (evA Z Y as)) λxs=>O.of Y (Z.xn c xs) λx=>.exn x Y
  |.tryx body c x h=>match evSs Z Y body with
      | .exn y Y'=>if (Z.up y.c).contains c=Aa then (match evSs Z (Y'.set x (Ab (.exc y.c y.fs,Ad))) h with
          |.next Y''=>.next (Y''.set x Af)
          |.ret d f=>.ret d f
          | _=>.bad) else .bad
      |o=>o
  |.try2 body c x h c' h' els=>match evSs Z Y body with
      |.exn y Y'=>if (Z.up y.c).contains c=Aa then hdO x y Y' (λr=>evSs Z r h) else if (Z.up y.c).contains c'=Aa then hdO x y Y' (λr=>evSs Z r h') else .bad
      |.next Y'=>evSs Z Y' els
      |o=>o
  |.app i e=>O.of Y (D6 Y i) λxs=>O.of Y (evE Z Y e) λd=>if DR (xs.length+1)=Aa then .next (Y.set i (Ab (.lst (xs++[d]),Aa))) else .bad
  |.ext i e=>O.of Y (D6 Y i) λxs=>O.of Y (evE Z Y e) λd=>O.of Y (LS d) λys=>if DR (xs.length+ys.length)=Aa then .next (Y.set i (Ab (.lst (xs++ys),Aa))) else .bad
  |.ins i k e=>O.of Y (D6 Y i) λxs=>O.of Y ((top Y k (evE Z Y k)).bind Gb) λj=>O.of Y (evE Z Y e) λd=>if (DR (xs.length+1)&&decide (0<=j)&&decide (j<=xs.length))=Aa then .next (Y.set i (Ab (.lst (xs.take j.toNat++d::xs.drop j.toNat),Aa))) else .bad
  |.rev i=>O.of Y (D6 Y i) λxs=>.next (Y.set i (Ab (.lst xs.reverse,Aa)))
  |.clr i=>O.of Y (D6 Y i) λ_=>.next (Y.set i (Ab (.lst [],Aa)))
  |.dput i k e=>O.of Y (evE Z Y e) λd=>O.of Y (SU Y i) λxs=>O.of Y ((evE Z Y k).bind XH) λj=>if DR (xs.length+1)=Aa then .next (Y.set i (Ab (.dic (Ws xs j d),Aa))) else .bad
  |.dsd i k e=>O.of Y (SU Y i) λxs=>O.of Y ((evE Z Y k).bind XH) λj=>O.of Y (evE Z Y e) λd=>if DR (xs.length+1)=Aa then .next (Y.set i (Ab (.dic (if (xs.any λp=>p.1==j)=Aa then xs else Ws xs j d),Aa))) else .bad
  |.put i k e=>O.of Y (evE Z Y e) λd=>O.of Y (D6 Y i) λxs=>O.of Y ((top Y k (evE Z Y k)).bind Gb) λj=>match plD xs.length j with
      |some n=>.next (Y.set i (Ab (.lst (xs.set n d),Aa)))
      |none=>.bad
  |.swp i k l=>O.of Y (evE Z Y (.tup (.cons (.idx (.var i) (.var l)) (.cons (.idx (.var i) (.var k)) .nil)))) λd=>cN Y d i k l
  |.apop j i e=>O.of Y (D6 Y j) λys=>O.of Y (D6 Y i) λxs=>O.of Y (evE Z Y e) λd=>O.of Y (Gb d) λn=>apD Y j i ys xs n
  |.brk=>.brk Y
  |.cont=>.cont Y
  |.rel i=>match Y[i]? with
      |some (Ab (d,Aa))=>.next (Y.set i (Ab (d,Ad)))
      |_=>.next Y
noncomputable def evSs(Z:Gam)(Y:Rho):Ss->O
 |.nil=>.next Y
 |.cons s ss=>(evS Z Y s).seq λY'=>evSs Z Y' ss
end
structure Df where
 n:Ag
 fr:Aj
 body:Ss
noncomputable def BG(n:Ag)(ds:Ac D):Rho:=ds.map (λd=>Ab (d,Ad))++Hj (n-ds.length) Af
noncomputable def isL:D->Aj
 |.lst _=>Aa
 |.dic _=>Aa
 |_=>Ad
noncomputable def O.ans(fr:Aj)(o:O):R D:=match o with
  |.ret d b=>if (fr&&(!b&&isL d))=Aa then .bad else .ok d
  |.next _=>if fr=Aa then .bad else .ok .non
  |.exn x _=>.exn x
  |_=>.bad
noncomputable def Df.run(Z:Gam)(f:Df)(ds:Ac D):R D:=(evSs Z (BG f.n ds) f.body).ans f.fr
structure Prg where
 xs:Aj
 defs:Ag->Df
 G:Ag->D
 up:Ag->Ac Ag
 xn:Ag->Ac D->R Ex
noncomputable def HQ(xs:Aj)(r:R D):R D:=match xs with
  |true=>r
  |false=>noX r
noncomputable def gam(P:Prg):Ag->Gam
 |0=>⟨λ_ _=>.bad,P.G,P.up,λi=>(P.defs i).fr,P.xn⟩
 |n+1=>⟨λi ds=>HQ P.xs ((P.defs i).run (gam P n) ds),P.G,P.up,λi=>(P.defs i).fr,P.xn⟩
end Ov
end
section
namespace Ov
open PySem
variable{α:Type}
section
variable(Z:Gam)(Y:Rho)
@[simp]theorem ZAq:evE Z Y .non=.ok .non:=rfl
@[simp]theorem ZCf(b):evE Z Y (.bl b)=.ok (.bl b):=rfl
@[simp]theorem ZAu(b):evE Z Y (.int b)=.ok (.int b):=rfl
@[simp]theorem ZAp(b):evE Z Y (.str b)=.ok (.str b):=rfl
@[simp]theorem ZAo(i):evE Z Y (.var i)=Gw Y i:=rfl
@[simp]theorem ZwZ(i):evE Z Y (.glob i)=.ok (Z.G i):=rfl
@[simp]theorem sH(op a b):evE Z Y (.bin op a b)=(top Y a (evE Z Y a)).bind λx=>(top Y b (evE Z Y b)).bind λy=>C4 op x y:=rfl
@[simp]theorem ZCb(op a):evE Z Y (.un op a)=(top Y a (evE Z Y a)).bind λx=>unD op x:=rfl
@[simp]theorem ZCe(a):evE Z Y (.no a)=(top Y a (evE Z Y a)).bind λx=>(D7 x).bind λb=>.ok (.bl (!b)):=rfl
@[simp]theorem ZAx(es):evE Z Y (.and es)=evN Z Y es:=rfl
@[simp]theorem ZCd(es):evE Z Y (.or es)=evO Z Y es:=rfl
@[simp]theorem ZAl(e):evN Z Y (.cons e .nil)=evE Z Y e:=rfl
@[simp]theorem ZwU(e e' es):evN Z Y (.cons e (.cons e' es))=(evE Z Y e).bind λx=>(D7 x).bind λc=>if c=Aa then evN Z Y (.cons e' es) else .ok (.bl Ad):=rfl
@[simp]theorem ZAk(e):evO Z Y (.cons e .nil)=evE Z Y e:=rfl
@[simp]theorem ZwT(e e' es):evO Z Y (.cons e (.cons e' es))=(evE Z Y e).bind λx=>(D7 x).bind λc=>if c=Aa then .ok (.bl Aa) else evO Z Y (.cons e' es):=rfl
@[simp]theorem sG(op a b):evE Z Y (.cmp op a b)=(top Y a (evE Z Y a)).bind λx=>(top Y b (evE Z Y b)).bind λy=>B4 op x y:=rfl
@[simp]theorem Zw2(op op' a b c):evE Z Y (.cmp2 op op' a b c)=(top Y a (evE Z Y a)).bind λx=>(top Y b (evE Z Y b)).bind λy=>(B4 op x y).bind λz=>(D7 z).bind λk=>if k=Aa then (top Y c (evE Z Y c)).bind λu=>B4 op' y u else .ok (.bl Ad):=rfl
@[simp]theorem ZAs(c a b):evE Z Y (.ite c a b)=(top Y c (evE Z Y c)).bind λx=>(Cu x).bind λk=>if k=Aa then evE Z Y a else evE Z Y b:=rfl
@[simp]theorem Zw3(f as):evE Z Y (.call f as)=(evB Z Y as).bind λxs=>(Z.F f xs).bind λd=>if IR Y as=Aa then .ok d else if Fw (Z.fr f) d=Aa then .ok d else .bad:=rfl
@[simp]theorem zC(f as):evE Z Y (.bi f as)=(evB Z Y as).bind λxs=>biD f xs:=rfl
@[simp]theorem ZAt(a ks):evE Z Y (.isi a ks)=(top Y a (evE Z Y a)).bind λx=>Ep Z.up ks x:=rfl
@[simp]theorem ZAv(a i):evE Z Y (.idx a i)=(top Y a (evE Z Y a)).bind λx=>(top Y i (evE Z Y i)).bind λy=>CJ x y:=rfl
@[simp]theorem ZCc(a lo hi):evE Z Y (.sl a lo hi)=(top Y a (evE Z Y a)).bind λx=>(top Y lo (evE Z Y lo)).bind λl=>(slE lo l).bind λl'=>(top Y hi (evE Z Y hi)).bind λh=>(slE hi h).bind λh'=>slD x l' h':=rfl
@[simp]theorem sF(es):evE Z Y (.tup es)=(evA Z Y es).bind λxs=>.ok (.tup xs):=rfl
@[simp]theorem ZAr(es):evE Z Y (.lst es)=(evA Z Y es).bind λxs=>.ok (.lst xs):=rfl
noncomputable def cG(Z:Gam)(Y:Rho)(t:Ag)(c:E):D->R Aj:=λx=>(top (Y.set t (Ab (x,Ad))) c (evE Z (Y.set t (Ab (x,Ad))) c)).bind Cu
noncomputable def cF(Z:Gam)(Y:Rho)(t:Ag)(elt:E):D->R D:=λx=>evE Z (Y.set t (Ab (x,Ad))) elt
noncomputable def mkL(r:R (Ac D)):R D:=(noX r).bind λys=>.ok (.lst ys)
@[simp]theorem ZBK(ys):mkL (.ok ys)=.ok (.lst ys):=rfl
@[simp]theorem Zw1(elt t it c):evE Z Y (.comp elt t it c)=(evI Z Y it).bind λxs=>mkL (Ce (cG Z Y t c) (cF Z Y t elt) xs):=rfl
noncomputable def cGT(Z:Gam)(Y:Rho)(ts:Ac Ag)(c:E):D->R Aj:=λx=>(F8 ts x Y).bind λY'=>(top Y' c (evE Z Y' c)).bind Cu
noncomputable def cFT(Z:Gam)(Y:Rho)(ts:Ac Ag)(elt:E):D->R D:=λx=>(F8 ts x Y).bind λY'=>evE Z Y' elt
@[simp]theorem Zu8(elt ts it c):evE Z Y (.compT elt ts it c)=(evI Z Y it).bind λxs=>mkL (Ce (cGT Z Y ts c) (cFT Z Y ts elt) xs):=rfl
@[simp]theorem ZwY(it):evE Z Y (.tupI it)=(evI Z Y it).bind λxs=>.ok (.tup xs):=rfl
@[simp]theorem Zw0:evE Z Y .dnew=.ok (.dic []):=rfl
@[simp]theorem ZAw(o f):evE Z Y (.fld o f)=(top Y o (evE Z Y o)).bind λx=>MV x f:=rfl
@[simp]theorem ZAz:evA Z Y .nil=.ok []:=rfl
@[simp]theorem Va(e es):evA Z Y (.cons e es)=(evE Z Y e).bind λx=>(evA Z Y es).bind λxs=>.ok (x::xs):=rfl
@[simp]theorem ZAy:evB Z Y .nil=.ok []:=rfl
@[simp]theorem Qz(e es):evB Z Y (.cons e es)=(top Y e (evE Z Y e)).bind λx=>(evB Z Y es).bind λxs=>.ok (x::xs):=rfl
@[simp]theorem ZDn(a):evI Z Y (.e a)=(evE Z Y a).bind Ci:=rfl
@[simp]theorem VS(a):evI Z Y (.rng a)=(top Y a (evE Z Y a)).bind λx=>(Gb x).bind λj=>DJ 0 j:=rfl
@[simp]theorem lP(a b):evI Z Y (.rng2 a b)=(top Y a (evE Z Y a)).bind λx=>(top Y b (evE Z Y b)).bind λy=>(Gb x).bind λi=>(Gb y).bind λj=>DJ i j:=rfl
@[simp]theorem ZAm(a b):evI Z Y (.zip a b)=(evE Z Y a).bind λx=>(evE Z Y b).bind λy=>(Ci x).bind λxs=>(Ci y).bind λys=>.ok (Gx xs ys):=rfl
@[simp]theorem ZwX(a b c):evI Z Y (.zip3 a b c)=(evE Z Y a).bind λx=>(evE Z Y b).bind λy=>(evE Z Y c).bind λz=>LU x y z:=rfl
@[simp]theorem ZAn(a):evI Z Y (.enm a)=(evE Z Y a).bind λx=>(Ci x).bind λxs=>.ok (EK 0 xs):=rfl
@[simp]theorem ZwV(a b):FQ Z Y (.zip a b)=evI Z Y (.zip a b):=rfl
@[simp]theorem Zu7(a b c):FQ Z Y (.zip3 a b c)=evI Z Y (.zip3 a b c):=rfl
@[simp]theorem ZwW(a):FQ Z Y (.enm a)=evI Z Y (.enm a):=rfl
@[simp]theorem ZCa(a):FQ Z Y (.e a)=(evE Z Y a).bind Ci:=rfl
@[simp]theorem U_9(a):FQ Z Y (.rng a)=evI Z Y (.rng a):=rfl
@[simp]theorem gY(a b):FQ Z Y (.rng2 a b)=evI Z Y (.rng2 a b):=rfl
variable(r:R D)
@[simp]theorem Zxy(i):top Y (.var i) r=Dp Y i:=rfl
@[simp]theorem ZxA:top Y .non r=r:=rfl
@[simp]theorem ZBe(b):top Y (.bl b) r=r:=rfl
@[simp]theorem ZxE(b):top Y (.int b) r=r:=rfl
@[simp]theorem Zxz(b):top Y (.str b) r=r:=rfl
@[simp]theorem Zwc(b):top Y (.glob b) r=r:=rfl
@[simp]theorem pC(op a b):top Y (.bin op a b) r=r:=rfl
@[simp]theorem ZBa(op a):top Y (.un op a) r=r:=rfl
@[simp]theorem ZBd(a):top Y (.no a) r=r:=rfl
@[simp]theorem ZxI(a):top Y (.and a) r=r:=rfl
@[simp]theorem ZBc(a):top Y (.or a) r=r:=rfl
@[simp]theorem ZxH(op a b):top Y (.cmp op a b) r=r:=rfl
@[simp]theorem Zwf(op op' a b c):top Y (.cmp2 op op' a b c) r=r:=rfl
@[simp]theorem ZxC(a b c):top Y (.ite a b c) r=r:=rfl
@[simp]theorem Zwg(a b):top Y (.call a b) r=r:=rfl
@[simp]theorem WJ(a b):top Y (.bi a b) r=r:=rfl
@[simp]theorem ZxD(a b):top Y (.isi a b) r=r:=rfl
@[simp]theorem ZxF(a b):top Y (.idx a b) r=r:=rfl
@[simp]theorem ZBb(a b c):top Y (.sl a b c) r=r:=rfl
@[simp]theorem pB(a):top Y (.tup a) r=r:=rfl
@[simp]theorem ZxB(a):top Y (.lst a) r=r:=rfl
@[simp]theorem Zwe(a b c d):top Y (.comp a b c d) r=r:=rfl
@[simp]theorem ZxG(a b):top Y (.fld a b) r=r:=rfl
@[simp]theorem ZsB(a b c d):top Y (.compT a b c d) r=r:=rfl
@[simp]theorem Zwb(a):top Y (.tupI a) r=r:=rfl
@[simp]theorem Zwd:top Y .dnew r=r:=rfl
end
@[simp]theorem Zsp(x:D×Aj)(Y:Rho):Dp (Ab x::Y) 0=.ok x.1:=rfl
@[simp]theorem Zsq(x:D)(Y:Rho):Gw (Ab (x,Ad)::Y) 0=.ok x:=rfl
@[simp]theorem ZrY(x:Sl)(Y:Rho)(i:Ag)[NeZero i]:Dp (x::Y) i=Dp Y (i-1):=by
 obtain⟨j,rfl⟩:∃ j,i=j+1:=⟨i-1,by have:=L8 i;omega⟩
 rfl
@[simp]theorem ZrZ(x:Sl)(Y:Rho)(i:Ag)[NeZero i]:Gw (x::Y) i=Gw Y (i-1):=by
 obtain⟨j,rfl⟩:∃ j,i=j+1:=⟨i-1,by have:=L8 i;omega⟩
 rfl
noncomputable def shV(Y:Rho)(i:Ag):Aj:=match Y[i]? with
    |some (Ab (_,Aa))=>Ad
    |_=>Aa
@[simp]theorem Zwk(x:D)(b:Aj)(Y:Rho):shV (Ab (x,b)::Y) 0=!b:=by cases b<;>rfl
@[simp]theorem ZsW(Y:Rho):shV (Af::Y) 0=Aa:=rfl
@[simp]theorem ZsX(x:Sl)(Y:Rho)(i:Ag)[NeZero i]:shV (x::Y) i=shV Y (i-1):=by
 obtain⟨j,rfl⟩:∃ j,i=j+1:=⟨i-1,by have:=L8 i;omega⟩
 rfl
section
variable(Y:Rho)
@[simp]theorem Zx9(i):shE Y (.var i)=shV Y i:=rfl
@[simp]theorem Zyc:shE Y .non=Aa:=rfl
@[simp]theorem ZBu(b):shE Y (.bl b)=Aa:=rfl
@[simp]theorem Zyg(b):shE Y (.int b)=Aa:=rfl
@[simp]theorem Zyb(b):shE Y (.str b)=Aa:=rfl
@[simp]theorem Zwn(b):shE Y (.glob b)=Aa:=rfl
@[simp]theorem Zyk(op a b):shE Y (.bin op a b)=Aa:=rfl
@[simp]theorem ZBq(op a):shE Y (.un op a)=Aa:=rfl
@[simp]theorem ZBt(a):shE Y (.no a)=Aa:=rfl
@[simp]theorem Zyl(a):shE Y (.and a)=Aa:=rfl
@[simp]theorem ZBs(a):shE Y (.or a)=Aa:=rfl
@[simp]theorem Zyj(op a b):shE Y (.cmp op a b)=Aa:=rfl
@[simp]theorem Zwq(op op' a b c):shE Y (.cmp2 op op' a b c)=Aa:=rfl
@[simp]theorem Zye(a b c):shE Y (.ite a b c)=Aa:=rfl
@[simp]theorem Zwr(a b):shE Y (.call a b)=Aa:=rfl
@[simp]theorem ZBv(a b):shE Y (.bi a b)=Aa:=rfl
@[simp]theorem Zyf(a b):shE Y (.isi a b)=Aa:=rfl
@[simp]theorem Zyh(a b):shE Y (.idx a b)=Aa:=rfl
@[simp]theorem ZBr(a b c):shE Y (.sl a b c)=Aa:=rfl
@[simp]theorem Zya(a):shE Y (.tup a)=Aa:=rfl
@[simp]theorem Zyd(a):shE Y (.lst a)=Aa:=rfl
@[simp]theorem Zwp(a b c d):shE Y (.comp a b c d)=Aa:=rfl
@[simp]theorem ZsY(a b c d):shE Y (.compT a b c d)=Aa:=rfl
@[simp]theorem Zwm(a):shE Y (.tupI a)=Aa:=rfl
@[simp]theorem Zwo:shE Y .dnew=Aa:=rfl
@[simp]theorem Zyi(a b):shE Y (.fld a b)=Aa:=rfl
@[simp]theorem Zwl:IR Y .nil=Aa:=rfl
@[simp]theorem gX(e es):IR Y (.cons e es)=(shE Y e&&IR Y es):=rfl
end
@[simp]theorem Zr5(Y:Rho):ER [] [] Y=Ab Y:=rfl
@[simp]theorem ZoY(t ts d ds)(Y:Rho):ER (t::ts) (d::ds) Y=ER ts ds (Y.set t (Ab (d,Ad))):=rfl
@[simp]theorem hV(ts ds)(Y:Rho):IP ts (.lst ds) Y=match ER ts ds Y with
  |some Y'=>.ok Y'
  |none=>.bad:=rfl
@[simp]theorem ZvJ(ts ds)(Y:Rho):IP ts (.tup ds) Y=F8 ts (.tup ds) Y:=rfl
@[simp]theorem TU(ts ds)(Y:Rho):F8 ts (.tup ds) Y=match ER ts ds Y with
  |some Y'=>.ok Y'
  |none=>.bad:=rfl
@[simp]theorem Zxd{β:Type}(c:Prop)[GU c](a b:R α)(f:α->R β):(if c then a else b).bind f=if c then a.bind f else b.bind f:=by split<;>rfl
@[simp]theorem ZBH(Y:Rho)(c:Prop)[GU c](a b:R α)(f:α->O):O.of Y (if c then a else b) f=if c then O.of Y a f else O.of Y b f:=by split<;>rfl
@[simp]theorem Zzs{β:Type}(Y:Rho)(a:R α)(g:α->R β)(f:β->O):O.of Y (a.bind g) f=O.of Y a λx=>O.of Y (g x) f:=by cases a<;>rfl
@[simp]theorem Zyn(c:Prop)[GU c](a b:O)(f:Rho->O):O.seq (if c then a else b) f=if c then a.seq f else b.seq f:=by split<;>rfl
@[simp]theorem Zv1(c:Prop)[GU c](a b:O)(f:Rho->O):O.turn (if c then a else b) f=if c then a.turn f else b.turn f:=by split<;>rfl
@[simp]theorem ZAR(fr:Aj)(c:Prop)[GU c](a b:O):O.ans fr (if c then a else b)=if c then a.ans fr else b.ans fr:=by split<;>rfl
@[simp]theorem Zws(Y f):O.seq (.next Y) f=f Y:=rfl
@[simp]theorem Zym(d b f):O.seq (.ret d b) f=.ret d b:=rfl
@[simp]theorem Zyp(Y f):O.seq (.brk Y) f=.brk Y:=rfl
@[simp]theorem Zwt(Y f):O.seq (.cont Y) f=.cont Y:=rfl
@[simp]theorem Zyo(x Y f):O.seq (.exn x Y) f=.exn x Y:=rfl
@[simp]theorem Zyq(f):O.seq .bad f=.bad:=rfl
@[simp]theorem Zsx(Y f):O.turn (.next Y) f=f Y:=rfl
@[simp]theorem Zv0(d b f):O.turn (.ret d b) f=.ret d b:=rfl
@[simp]theorem Zv3(Y f):O.turn (.brk Y) f=.next Y:=rfl
@[simp]theorem Zsy(Y f):O.turn (.cont Y) f=f Y:=rfl
@[simp]theorem Zv2(x Y f):O.turn (.exn x Y) f=.exn x Y:=rfl
@[simp]theorem Zv4(f):O.turn .bad f=.bad:=rfl
@[simp]theorem Zxf(Y):O.ans Ad (.next Y)=.ok .non:=rfl
@[simp]theorem ZAQ(d b):O.ans Ad (.ret d b)=.ok d:=rfl
@[simp]theorem Zxe(d b):O.ans Aa (.ret d b)=if (!b&&isL d)=Aa then .bad else .ok d:=rfl
@[simp]theorem ZzX(d):isL (.lst d)=Aa:=rfl
@[simp]theorem ZzW(d):isL (.tup d)=Ad:=rfl
@[simp]theorem ZzY(d):isL (.int d)=Ad:=rfl
@[simp]theorem ZAS(fr x Y):O.ans fr (.exn x Y)=.exn x:=rfl
@[simp]theorem ZAT(fr):O.ans fr .bad=.bad:=rfl
@[simp]theorem ZCo(i j:Ae):C4 .Add (.int i) (.int j)=.ok (.int (i+j)):=rfl
@[simp]theorem ZBk(i j:Ae):C4 .Sub (.int i) (.int j)=.ok (.int (i-j)):=rfl
@[simp]theorem ag(i j:Ae):C4 .Mult (.int i) (.int j)=if (F9 i j||Fm i j)=Aa then .ok (.int (i*j)) else .bad:=rfl
@[simp]theorem rY(i j:Ae):C4 .FloorDiv (.int i) (.int j)=if 0<j/\j<1073741824 then .ok (.int (i/j)) else .bad:=rfl
@[simp]theorem ah(i j:Ae):C4 .Mod (.int i) (.int j)=if 0<j then .ok (.int (i%j)) else .bad:=rfl
@[simp]theorem xQ(i j:Ae):C4 .Pow (.int i) (.int j)=if (0<=j/\j<=1000000)/\(-(18446744073709551616:Ae)<i/\i<18446744073709551616) then .ok (.int (i ^ j.toNat)) else .bad:=rfl
@[simp]theorem WC(x y:Ak):C4 .Add (.str x) (.str y)=if DR (x.length+y.length)=Aa then .ok (.str (x++y)) else .bad:=rfl
@[simp]theorem WD(x y:Ac D):C4 .Add (.lst x) (.lst y)=if DR (x.length+y.length)=Aa then .ok (.lst (x++y)) else .bad:=rfl
@[simp]theorem WB(x y:Ac D):C4 .Add (.tup x) (.tup y)=if (!x.isEmpty&&DR (x.length+y.length))=Aa then .ok (.tup (x++y)) else .bad:=rfl
@[simp]theorem ZC0(i:Ae):unD .USub (.int i)=.ok (.int (-i)):=rfl
@[simp]theorem aZ(x y:D):B4 .Eq x y=if (flD 5 x&&flD 5 y)=Aa then .ok (.bl (eqD x y)) else .bad:=rfl
@[simp]theorem ki(x y:D):B4 .NotEq x y=if (flD 5 x&&flD 5 y)=Aa then .ok (.bl (!eqD x y)) else .bad:=rfl
@[simp]theorem ZC1(i j:Ae):B4 .Lt (.int i) (.int j)=.ok (.bl (decide (i<j))):=rfl
@[simp]theorem ZC6(i j:Ae):B4 .LtE (.int i) (.int j)=.ok (.bl (decide (i<=j))):=rfl
@[simp]theorem ZDi(i j:Ae):B4 .Gt (.int i) (.int j)=.ok (.bl (decide (j<i))):=rfl
@[simp]theorem ZDj(i j:Ae):B4 .GtE (.int i) (.int j)=.ok (.bl (decide (j<=i))):=rfl
@[simp]theorem dJ(x:D)(ys:Ac D):B4 .In x (.lst ys)=if (flD 5 x&&ys.all (flD 5))=Aa then .ok (.bl (ys.any λy=>eqD y x)) else .bad:=rfl
@[simp]theorem dI(x:D)(ys:Ac D):B4 .In x (.tup ys)=if (flD 5 x&&ys.all (flD 5))=Aa then .ok (.bl (ys.any λy=>eqD y x)) else .bad:=rfl
@[simp]theorem mj(x:D)(ys:Ac D):B4 .NotIn x (.lst ys)=if (flD 5 x&&ys.all (flD 5))=Aa then .ok (.bl (!ys.any λy=>eqD y x)) else .bad:=rfl
@[simp]theorem mh(x:D)(ys:Ac D):B4 .NotIn x (.tup ys)=if (flD 5 x&&ys.all (flD 5))=Aa then .ok (.bl (!ys.any λy=>eqD y x)) else .bad:=rfl
@[simp]theorem ZBX:B4 .Is .non .non=.ok (.bl Aa):=rfl
@[simp]theorem ZBZ(i):B4 .Is (.int i) .non=.ok (.bl Ad):=rfl
@[simp]theorem ZBW(i):B4 .Is (.tup i) .non=.ok (.bl Ad):=rfl
@[simp]theorem ZBY(i):B4 .Is (.lst i) .non=.ok (.bl Ad):=rfl
@[simp]theorem ZC9(a b):B4 .Is (.bl a) (.bl b)=.ok (.bl (a==b)):=rfl
@[simp]theorem ZBU(a b):B4 .IsNot (.bl a) (.bl b)=.ok (.bl (!(a==b))):=rfl
@[simp]theorem ZzM:B4 .IsNot .non .non=.ok (.bl Ad):=rfl
@[simp]theorem ZzO(i):B4 .IsNot (.int i) .non=.ok (.bl Aa):=rfl
@[simp]theorem ZzL(i):B4 .IsNot (.tup i) .non=.ok (.bl Aa):=rfl
@[simp]theorem ZzN(i):B4 .IsNot (.lst i) .non=.ok (.bl Aa):=rfl
@[simp]theorem ZAF(i j:Ae):eqD (.int i) (.int j)=(i==j):=rfl
@[simp]theorem ZCg(i j:Aj):eqD (.bl i) (.bl j)=(i==j):=rfl
@[simp]theorem ZAC(i j:Ak):eqD (.str i) (.str j)=(i==j):=rfl
@[simp]theorem ZAB(i j:Ac D):eqD (.tup i) (.tup j)=eqDs i j:=rfl
@[simp]theorem ZAE(i j:Ac D):eqD (.lst i) (.lst j)=eqDs i j:=rfl
@[simp]theorem ZAD:eqD .non .non=Aa:=rfl
@[simp]theorem ZqT(i):eqD .non (.int i)=Ad:=rfl
@[simp]theorem ZqU(i):eqD (.int i) .non=Ad:=rfl
@[simp]theorem Zw4:eqDs [] []=Aa:=rfl
@[simp]theorem PX(x y:D)(xs ys:Ac D):eqDs (x::xs) (y::ys)=(eqD x y&&eqDs xs ys):=rfl
@[simp]theorem ZAc(n)(i:Ae):flD n (.int i)=Aa:=by cases n<;>rfl
@[simp]theorem ZB9(n)(i:Aj):flD n (.bl i)=Aa:=by cases n<;>rfl
@[simp]theorem ZAa(n)(i:Ak):flD n (.str i)=Aa:=by cases n<;>rfl
@[simp]theorem ZAb(n):flD n .non=Aa:=by cases n<;>rfl
@[simp]theorem ZwB(i):flD 5 (.tup i)=i.all (flD 4):=rfl
@[simp]theorem ZwG(i):flD 5 (.lst i)=i.all (flD 4):=rfl
@[simp]theorem ZwC(i):flD 4 (.tup i)=i.all (flD 3):=rfl
@[simp]theorem ZwH(i):flD 4 (.lst i)=i.all (flD 3):=rfl
@[simp]theorem ZwD(i):flD 3 (.tup i)=i.all (flD 2):=rfl
@[simp]theorem ZwI(i):flD 3 (.lst i)=i.all (flD 2):=rfl
@[simp]theorem ZwE(i):flD 2 (.tup i)=i.all (flD 1):=rfl
@[simp]theorem ZwJ(i):flD 2 (.lst i)=i.all (flD 1):=rfl
@[simp]theorem ZwF(i):flD 1 (.tup i)=i.all (flD 0):=rfl
@[simp]theorem ZwK(i):flD 1 (.lst i)=i.all (flD 0):=rfl
@[simp]theorem Zxw(b):Cu (.bl b)=.ok b:=rfl
@[simp]theorem Zv8(i):Cu (.int i)=.ok (i != 0):=rfl
@[simp]theorem Zv7(i):Cu (.lst i)=.ok (!i.isEmpty):=rfl
@[simp]theorem Zv5(i):Cu (.tup i)=.ok (!i.isEmpty):=rfl
@[simp]theorem Zv6:Cu .non=.ok Ad:=rfl
@[simp]theorem Zxx(b):ES (.bl b)=.ok b:=rfl
@[simp]theorem Zwa(i):ES (.int i)=.ok (i != 0):=rfl
@[simp]theorem Zv9:ES .non=.ok Ad:=rfl
@[simp]theorem ZvR:HK []=.ok Aa:=rfl
@[simp]theorem PL(x r):HK (x::r)=(ES x).bind λb=>(HK r).bind λc=>.ok (b&&c):=rfl
@[simp]theorem ZvQ:Gv []=.ok Ad:=rfl
@[simp]theorem TX(x r):Gv (x::r)=(ES x).bind λb=>(Gv r).bind λc=>.ok (b||c):=rfl
@[simp]theorem ZAG(b)(d):HQ b (.ok d)=.ok d:=by cases b<;>rfl
@[simp]theorem Zw6(b):HQ b .bad=.bad:=by cases b<;>rfl
@[simp]theorem Zw5(x):HQ Aa (.exn x)=.exn x:=rfl
@[simp]theorem Zsc(r):HQ Ad r=noX r:=rfl
@[simp]theorem Zzt(a:α):noX (.ok a)=.ok a:=rfl
@[simp]theorem Zzv:noX (.bad:R α)=.bad:=rfl
@[simp]theorem Zzu(x):noX (.exn x:R α)=.bad:=rfl
@[simp]theorem ZAO(b):D7 (.bl b)=.ok b:=rfl
@[simp]theorem Qd(b):Gb (.int b)=.ok b:=rfl
@[simp]theorem Ug(b):LS (.lst b)=.ok b:=rfl
@[simp]theorem ZvL(b):Ci (.lst b)=.ok b:=rfl
@[simp]theorem ZvK(b):Ci (.tup b)=.ok b:=rfl
@[simp]theorem k7(xs i):CJ (.lst xs) (.int i)=EJ xs i:=rfl
@[simp]theorem k6(xs i):CJ (.tup xs) (.int i)=EJ xs i:=rfl
@[simp]theorem ZC3(xs):biD .len [.lst xs]=.ok (.int xs.length):=rfl
@[simp]theorem ZC2(xs):biD .len [.tup xs]=.ok (.int xs.length):=rfl
@[simp]theorem ZDu(i):biD .abs [.int i]=.ok (.int (if i<0 then -i else i)):=rfl
@[simp]theorem ZBN(i j):biD .max [.int i,.int j]=.ok (.int (if i<j then j else i)):=rfl
@[simp]theorem ZBL(i j):biD .min [.int i,.int j]=.ok (.int (if j<i then j else i)):=rfl
@[simp]theorem ZDb(i):biD .int [.int i]=.ok (.int i):=rfl
@[simp]theorem ZDc(i):biD .int [.bl i]=.ok (.int (b2i i)):=rfl
@[simp]theorem ZBS(i):biD .list [.lst i]=.ok (.lst i):=rfl
@[simp]theorem ZBR(i):biD .list [.tup i]=.ok (.lst i):=rfl
@[simp]theorem Zxv(i):biD .tuple [.lst i]=.ok (.tup i):=rfl
@[simp]theorem Zxu(i):biD .tuple [.tup i]=.ok (.tup i):=rfl
@[simp]theorem bJ(i):biD .all [.lst i]=(HK i).bind λb=>.ok (.bl b):=rfl
@[simp]theorem ZDt(i):biD .any [.lst i]=(Gv i).bind λb=>.ok (.bl b):=rfl
@[simp]theorem ZDs(i):biD .any [.tup i]=(Gv i).bind λb=>.ok (.bl b):=rfl
@[simp]theorem ZCQ(i):biD .sum [.lst i]=(HM 0 i).bind λb=>.ok (.int b):=rfl
@[simp]theorem ZCP(i):biD .sum [.tup i]=(HM 0 i).bind λb=>.ok (.int b):=rfl
@[simp]theorem Zwi(i):biD .sorted [.lst i]=(VH i).bind λb=>.ok (.lst b):=rfl
@[simp]theorem ZCR(xs k):biD .stp [.lst xs,.int k]=.ok (.lst (Tb k.toNat xs)):=rfl
@[simp]theorem ZCV(xs):biD .rvs [.lst xs]=.ok (.lst xs.reverse):=rfl
@[simp]theorem ZBP(xs):biD .lset [.lst xs]=XC xs:=rfl
@[simp]theorem ZBf(x y):biD .tmin [x,y]=mmD Ad x y:=rfl
@[simp]theorem ZCA(x y):biD .tlt [x,y]=S7 x y:=rfl
@[simp]theorem ZBg(x y):biD .tmax [x,y]=mmD Aa x y:=rfl
@[simp]theorem ZAH(xs x):biD .count [.lst xs,x]=if (flD 5 x&&xs.all (flD 5))=Aa then .ok (.int ((xs.filter λy=>eqD y x).length:Ag)) else .bad:=rfl
@[simp]theorem cP(xs lo hi):slD (.tup xs) lo hi=if (Hb xs.length 0 lo==0&&Hb xs.length xs.length hi==xs.length)=Aa then .bad else .ok (.tup (KZ xs lo hi)):=rfl
@[simp]theorem ZDE(xs lo hi):slD (.lst xs) lo hi=.ok (.lst (KZ xs lo hi)):=rfl
@[simp]theorem Zx4(d):slE .non d=.ok Af:=rfl
@[simp]theorem Zx5(k i):slE (.int k) (.int i)=.ok (Ab i):=rfl
@[simp]theorem Zx3(k i):slE (.var k) (.int i)=.ok (Ab i):=rfl
@[simp]theorem Zx6(op a b i):slE (.bin op a b) (.int i)=.ok (Ab i):=rfl
@[simp]theorem ZBn(op a i):slE (.un op a) (.int i)=.ok (Ab i):=rfl
@[simp]theorem ZBo(b as i):slE (.bi b as) (.int i)=.ok (Ab i):=rfl
@[simp]theorem ZzR(up ks):Ep up ks .non=if ks.any Er=Aa then .bad else .ok (.bl (ks.any λk=>kiD up k .non)):=rfl
@[simp]theorem ZBV(up ks b):Ep up ks (.bl b)=if ks.any Er=Aa then .bad else .ok (.bl (ks.any λk=>kiD up k (.bl b))):=rfl
@[simp]theorem ZzT(up ks b):Ep up ks (.int b)=if ks.any Er=Aa then .bad else .ok (.bl (ks.any λk=>kiD up k (.int b))):=rfl
@[simp]theorem ZzQ(up ks b):Ep up ks (.str b)=if ks.any Er=Aa then .bad else .ok (.bl (ks.any λk=>kiD up k (.str b))):=rfl
@[simp]theorem ZzP(up ks b):Ep up ks (.tup b)=if ks.any Er=Aa then .bad else .ok (.bl (ks.any λk=>kiD up k (.tup b))):=rfl
@[simp]theorem ZzS(up ks b):Ep up ks (.lst b)=if ks.any Er=Aa then .bad else .ok (.bl (ks.any λk=>kiD up k (.lst b))):=rfl
@[simp]theorem ZzU(up ks c f):Ep up ks (.exc c f)=if ks.all Er=Aa then .ok (.bl (ks.any λk=>kiD up k (.exc c f))) else .bad:=rfl
@[simp]theorem Zxa(c):Er (.cls c)=Aa:=rfl
@[simp]theorem Zvk:Er .verr=Aa:=rfl
@[simp]theorem Zw9:Er .int=Ad:=rfl
@[simp]theorem Zvm:Er .bool=Ad:=rfl
@[simp]theorem Zw8:Er .str=Ad:=rfl
@[simp]theorem Zvl:Er .list=Ad:=rfl
@[simp]theorem Zsd:Er .tuple=Ad:=rfl
@[simp]theorem Zr8(up i):kiD up .int (.int i)=Aa:=rfl
@[simp]theorem Zr7(up):kiD up .int .non=Ad:=rfl
@[simp]theorem Zqj(up i):kiD up .bool (.int i)=Ad:=rfl
@[simp]theorem Zr6(up i):kiD up .int (.tup i)=Ad:=rfl
@[simp]theorem Zsa(up i):kiD up .bool (.bl i)=Aa:=rfl
@[simp]theorem Zqi(up):kiD up .bool .non=Ad:=rfl
@[simp]theorem Zqh(up i):kiD up .list (.lst i)=Aa:=rfl
@[simp]theorem Znz(up i):kiD up .tuple (.tup i)=Aa:=rfl
@[simp]theorem ZnA(up):kiD up .tuple .non=Ad:=rfl
@[simp]theorem Zr9(up c k f):kiD up (.cls c) (.exc k f)=(up k).contains c:=rfl
@[simp]theorem Zqg(up k f):kiD up .verr (.exc k f)=Aa:=rfl
theorem lI(xs:Ac D)(k:Ag)(h:k<xs.length):EJ xs (k:Ae)=.ok (xs[k]):=by
 unfold EJ plD;have h1:(0:Ae)<=k:=Int.natCast_nonneg k;have h2:(k:Ae)<(xs.length:Ag):=by omega
 rw[AI h1,AI h2];simp[h]
theorem UC{xs:Ac D}{i:Ae}{d:D}(h0:0<=i)(h:xs[i.toNat]?=Ab d):EJ xs i=.ok d:=by
 unfold EJ plD;obtain⟨h1,_⟩:=Bh.mp h;rw[AI h0,AI (by omega)]
 dsimp only;rw[h]
section
variable(Z:Gam)(Y:Rho)
@[simp]theorem ZwL:evSs Z Y .nil=.next Y:=rfl
noncomputable def Hr(Z:Gam)(ss:Ss)(o:O):O:=o.seq λY'=>evSs Z Y' ss
@[simp]theorem J3(s ss):evSs Z Y (.cons s ss)=Hr Z ss (evS Z Y s):=rfl
@[simp]theorem tF(ss):Hr Z ss (.next Y)=evSs Z Y ss:=rfl
@[simp]theorem ZB3(ss d b):Hr Z ss (.ret d b)=.ret d b:=rfl
@[simp]theorem ZB6(ss):Hr Z ss (.brk Y)=.brk Y:=rfl
@[simp]theorem Zz6(ss):Hr Z ss (.cont Y)=.cont Y:=rfl
@[simp]theorem ZB5(ss x):Hr Z ss (.exn x Y)=.exn x Y:=rfl
@[simp]theorem ZB7(ss):Hr Z ss .bad=.bad:=rfl
@[simp]theorem ZB4(ss)(c:Prop)[GU c](a b:O):Hr Z ss (if c then a else b)=if c then Hr Z ss a else Hr Z ss b:=by split<;>rfl
@[simp]theorem zL(o:O):Hr Z .nil o=o:=by cases o<;>rfl
noncomputable def Br(Z:Gam)(t:Ag)(body:Ss):D->Rho->O:=λx Y'=>evSs Z (Y'.set t (Ab (x,Ad))) body
noncomputable def whC(Z:Gam)(c:E):Rho->R Aj:=λY'=>(top Y' c (evE Z Y' c)).bind Cu
noncomputable def whB(Z:Gam)(body:Ss):Rho->O:=λY'=>evSs Z Y' body
noncomputable def SL(Z:Gam)(t:Ag)(body:Ss)(Y:Rho)(r:R (Ac D)):O:=O.of Y r λxs=>CG (Br Z t body) xs Y
@[simp]theorem NS(t body xs):SL Z t body Y (.ok xs)=CG (Br Z t body) xs Y:=rfl
@[simp]theorem ZwP:evS Z Y .pass=.next Y:=rfl
@[simp]theorem ZAi(i e):evS Z Y (.asg i Ad e)=O.of Y (evE Z Y e) λd=>.next (Y.set i (Ab (d,Ad))):=rfl
@[simp]theorem ZwQ(e):evS Z Y (.expr e)=O.of Y (evE Z Y e) λ_=>.next Y:=rfl
@[simp]theorem sD(e):evS Z Y (.ret e)=O.of Y (top Y e (evE Z Y e)) λd=>.ret d (Eg Z e||(match e with | .var i=>(match Y[i]? with|some (Ab (_,o))=>o|_=>Ad)|_=>Ad)):=rfl
@[simp]theorem ZwN:evS Z Y .retN=.ret .non Ad:=rfl
@[simp]theorem ZAf(c a b):evS Z Y (.ife c a b)=O.of Y ((top Y c (evE Z Y c)).bind Cu) λk=>if k=Aa then evSs Z Y a else evSs Z Y b:=rfl
@[simp]theorem NG(t it body):evS Z Y (.fors t it body)=SL Z t body Y (FQ Z Y it):=rfl
noncomputable def D0(Z:Gam)(ts:Ac Ag)(body:Ss):D->Rho->O:=λx Y'=>O.of Y' (F8 ts x Y') λY''=>evSs Z Y'' body
noncomputable def Xs(Z:Gam)(ts:Ac Ag)(body:Ss)(Y:Rho)(r:R (Ac D)):O:=O.of Y r λxs=>CG (D0 Z ts body) xs Y
@[simp]theorem Qv(t body xs):Xs Z t body Y (.ok xs)=CG (D0 Z t body) xs Y:=rfl
@[simp]theorem Qy(t it body):evS Z Y (.forT t it body)=Xs Z t body Y (FQ Z Y it):=rfl
@[simp]theorem ZwS(ts e):evS Z Y (.asgT ts e)=O.of Y (evE Z Y e) λd=>O.of Y (IP ts d Y) λY'=>.next Y':=rfl
theorem lO(i e):evS Z Y (.asg i Aa e)=O.of Y (evE Z Y e) λd=>if Eg Z e=Aa then (match d with
      |.lst xs=>.next (Y.set i (Ab (.lst xs,Aa)))
      |.dic xs=>.next (Y.set i (Ab (.dic xs,Aa)))
      | _=>.bad) else .bad:=rfl
noncomputable def setF(Y:Rho)(i:Ag):D->O
 |.lst xs=>.next (Y.set i (Ab (.lst xs,Aa)))
 |.dic xs=>.next (Y.set i (Ab (.dic xs,Aa)))
 |_=>.bad
@[simp]theorem ZBw(i xs):setF Y i (.lst xs)=.next (Y.set i (Ab (.lst xs,Aa))):=rfl
@[simp]theorem ZBx(i xs):setF Y i (.dic xs)=.next (Y.set i (Ab (.dic xs,Aa))):=rfl
@[simp]theorem iO(i e):evS Z Y (.asg i Aa e)=O.of Y (evE Z Y e) λd=>if Eg Z e=Aa then setF Y i d else .bad:=by
 rw[lO]
 congr 1
@[simp]theorem ZAj(i e):evS Z Y (.app i e)=O.of Y (D6 Y i) λxs=>O.of Y (evE Z Y e) λd=>if DR (xs.length+1)=Aa then .next (Y.set i (Ab (.lst (xs++[d]),Aa))) else .bad:=rfl
@[simp]theorem sE(i e):evS Z Y (.ext i e)=O.of Y (D6 Y i) λxs=>O.of Y (evE Z Y e) λd=>O.of Y (LS d) λys=>if DR (xs.length+ys.length)=Aa then .next (Y.set i (Ab (.lst (xs++ys),Aa))) else .bad:=rfl
@[simp]theorem ZAe(i):evS Z Y (.rev i)=O.of Y (D6 Y i) λxs=>.next (Y.set i (Ab (.lst xs.reverse,Aa))):=rfl
@[simp]theorem ZAg(i):evS Z Y (.clr i)=O.of Y (D6 Y i) λ_=>.next (Y.set i (Ab (.lst [],Aa))):=rfl
@[simp]theorem lL(body c x h):evS Z Y (.tryx body c x h)=match evSs Z Y body with
      | .exn y Y'=>if (Z.up y.c).contains c=Aa then (match evSs Z (Y'.set x (Ab (.exc y.c y.fs,Ad))) h with
          |.next Y''=>.next (Y''.set x Af)
          |.ret d f=>.ret d f
          | _=>.bad) else .bad
      |o=>o:=rfl
@[simp]theorem ZwM(body c x h c' h' els):evS Z Y (.try2 body c x h c' h' els)=match evSs Z Y body with
      |.exn y Y'=>if (Z.up y.c).contains c=Aa then hdO x y Y' (λr=>evSs Z r h) else if (Z.up y.c).contains c'=Aa then hdO x y Y' (λr=>evSs Z r h') else .bad
      |.next Y'=>evSs Z Y' els
      |o=>o:=rfl
@[simp]theorem ZAd(c body):evS Z Y (.whl c body)=Sd (whC Z c) (whB Z body) Xq Y:=rfl
@[simp]theorem ZwO(c as):evS Z Y (.rais c as)=O.of Y (noX (evA Z Y as)) λxs=>O.of Y (Z.xn c xs) λx=>.exn x Y:=rfl
@[simp]theorem ZAh:evS Z Y .brk=.brk Y:=rfl
@[simp]theorem ZwR:evS Z Y .cont=.cont Y:=rfl
end
end Ov
namespace Ov
open PySem
theorem PM(lo:Ae)(n:Ag):(D5 lo n).length=n:=by simp[D5]
theorem lH{lo:Ae}{n i:Ag}{x:D}(h:(D5 lo n)[i]?=Ab x):i<n/\x=.int (lo+(i:Ae)):=by
 have hl:=(Bh.mp h).1;rw[PM]at hl;unfold D5 at h;rw[E8,List.getElem?_range hl]at h;cases h;exact⟨hl,rfl⟩
noncomputable def Ss.take:Ag->Ss->Ss
 |0,_=>.nil
 |_,.nil=>.nil
 |n+1,.cons s ss=>.cons s (ss.take n)
noncomputable def Ss.drop:Ag->Ss->Ss
 |0,ss=>ss
 |_,.nil=>.nil
 |n+1,.cons _ ss=>ss.drop n
end Ov
end
section
namespace Ov
noncomputable def xfD:Ag->D->Aj
 |0,.int i=>decide (0<=i)&&decide (i<100)
 |n+1,.tup ds=>DG ds.length 8&&ds.all (xfD n)
 |_,_=>Ad
noncomputable def mkX(c:Ag)(f:PySem.Str):Ac D->R Ex
 |[d]=>if (xfD 1 d||xfD 2 d)=Aa then .ok ⟨c,[(f,d)]⟩ else .bad
 |_=>.bad
end Ov
end
section
namespace OvC
open PySem Ov PyProof.Rows
variable{j:Ae}
noncomputable abbrev scr(ns:Ac Ae):D:=.lst (ns.map .int)
noncomputable abbrev sh(d:D):Sl:=Ab (d,Ad)
noncomputable abbrev si(i:Ae):Sl:=Ab (.int i,Ad)
theorem four{P:Ag->Prop}(h0:P 0)(h1:P 1)(h2:P 2)(h3:P 3):P (j%4).toNat:=by
 have:(j%4).toNat=0\/(j%4).toNat=1\/(j%4).toNat=2\/(j%4).toNat=3:=by omega
 rcases this with e|e|e|e<;>rw[e]<;>assumption
def P4(p:Ae):Prop:=p=3\/p=5\/p=7\/p=11
theorem P4.pos{p}(h:P4 p):0<p:=by rcases h with rfl|rfl|rfl|rfl<;>decide
theorem P4.lo{p}(h:P4 p):3<=p:=by rcases h with rfl|rfl|rfl|rfl<;>decide
theorem P4.hi{p}(h:P4 p):p<=11:=by rcases h with rfl|rfl|rfl|rfl<;>decide
theorem LA{i:Ae}(h0:-18446744073709551616<i)(h1:i<18446744073709551616):F9 i j=Aa:=by simp[F9];left;exact⟨h0,h1⟩
theorem V9{i:Ae}(h0:-18446744073709551616<j)(h1:j<18446744073709551616):F9 i j=Aa:=by simp[F9];right;exact⟨h0,h1⟩
noncomputable def Rc:Df:=⟨2,Ad,(.cons (.ret (.bin .Mod (.var 1) (.var 0))) .nil)⟩
def Io(Z:Gam):Prop:=∀ p n:Ae,0<p->Z.F 1 [.int p,.int n]=.ok (.int (n%p))
theorem yO(Z:Gam)(p n:Ae)(h:0<p):Rc.run Z [.int p,.int n]=.ok (.int (n%p)):=by simp[Rc,Df.run,BG,h]
end OvC
end
namespace Ov
open PySem PySem.Spec PyProof.Rows L2
variable{A B:Al->Prop}{H H' H1 H0:Hp}{a b l q:Al}{xs:Ac V}{v:V}{d:D}{Rp Rq:Hp->V->D->Prop}{r:R D}{Q:VK}{X:Cx}{e c tg iter elt:Ao}{Y:Rho}{i n j k t':Ag}{x:Ex}{U:L2.St}{g:D->D->R D}{op:DC}{K:Fg}{pI:Pn}{s:Ar}{items2 its ys us items:A8 Ai}{h h' h2:AC}{u y f0:Ai}{its2:Ac Ai}{es ifs:Ac Ao}{fs fi:Rho->R (Ac D)}{Q':Ap Ae->Hp->Prop}{p pos' p2 pos pos2 tpos:AO}{T:DB}{f fc:Rho->R Aj}{α:Type}{Fz:Al->HO->Prop}{D':Ends}{as:D->Rho->R Rho}{up:Ag->Ac Ag}{prog P:AV}{w:AF}{o o1:C9}{scope:Cz}{env:CN}{cl:Ac (Ak×Al)}{N':Ac Ak}{ts:Ac Ag}{fp:Ac Al}{tt:TT}{te:TE}{J:It}{wi:TI}{P1 P2:Ag->Ai->Prop}{S1 S2:Ag->AC->Prop}{t f1:Aj}{ta:TA}{ps:Ac (Al×Ac V)}
abbrev ClA:=Ag->Ap Al
variable{CL:ClA}
def KL(K:Fg)(a:Al)(xs:Ac V):Prop:=∃(o:C9)(its:A8 Ai)(n:Ag),K.lookup a=Ab o/\o.cls=.type "list"/\o.dict=Af/\o.data=.seq its n/\its.size<=sizeLine/\Bo xs its.toList
def KT(K:Fg)(a:Al)(xs:Ac V):Prop:=∃(o:C9)(its:A8 Ai)(n:Ag),K.lookup a=Ab o/\o.cls=.type "tuple"/\o.data=.seq its n/\its.size<=sizeLine/\Bo xs its.toList
section
variable(K:Fg)(CL:ClA)(H:Hp)(A:Al->Prop)
mutual
def Rep:V->D->Prop
 |v,.non=>v=.non
 |v,.bl b=>v=.bl b
 |v,.int i=>v=.int i
 |v,.str x=>v=.str x
 |v,.tup ds=>∃ a xs,v=.ref a/\(¬ A a\/KT K a xs)/\SqT K H a xs/\Reps xs ds
 |v,.lst ds=>∃ a xs,v=.ref a/\(¬ A a\/KL K a xs)/\SqL K H a xs/\Reps xs ds
 |v,.obj c fs=>∃ a C dx vs,v=.ref a/\¬ A a/\CL c=Ab C/\H a=Ab (.ins C dx vs)/\Repf vs fs
 |_,.dic _=>Bl
 |v,.exc c fs=>∃ a C φ,v=.ref a/\¬ A a/\CL c=Ab C/\H a=Ab (.ext φ)/\(∀ h,φ h->∃ o,h.get? a=Ab o/\o.cls=.ref C)/\(fs=[]\/∃ dx vs,¬ A dx/\H dx=Ab (.xd vs)/\Repf vs fs/\∀ h,φ h->∃ o,h.get? a=Ab o/\o.dict=Ab dx/\∃ us,o.data=.fields us)
def Reps:Ac V->Ac D->Prop
 |[],[]=>Ii
 |v::vs,d::ds=>Rep v d/\Reps vs ds
 |_,_=>Bl
def Repf:Ac (Ak×V)->Ac (Ak×D)->Prop
 |[],[]=>Ii
 |v::vs,d::ds=>Repp v d/\Repf vs ds
 |_,_=>Bl
def Repp:Ak×V->Ak×D->Prop
 |v,(n,d)=>v.1=n/\Rep v.2 d
end
def Dl(v:V)(d:D):Prop:=Rep K CL H A v d\/∃ a xs ds,v=.ref a/\d=.lst ds/\H a=Ab (.lst xs)/\Reps K CL H A xs ds
end
def Kp(A:Al->Prop)(H H':Hp):Prop:=∀ b o,H b=Ab o->¬ A b->H' b=Ab o
def AOk(H:Hp)(A:Al->Prop):Prop:=∀ a,A a->∃ xs,H a=Ab (.lst xs)
theorem Kp.of(h:AH H H'):Kp A H H':=λb o e _=>h b o e
theorem AOk.same(h:AOk H A)(s:AH H H'):AOk H' A:=λa ha=>let ⟨xs,e⟩:=h a ha;⟨xs,s _ _ e⟩
theorem AOk.new{p:Al}(h:AOk H A)(e:H p=Af):¬ A p:=λha=>by
 obtain⟨xs,q⟩:=h p ha;rw[e]at q;cases q
section
variable{K:Fg}{CL:ClA}{H H':Hp}{A B:Al->Prop}
theorem Xi{u:HO}(k:Kp A H H')(na:¬ A a)(h:Rd H a u):Rd H' a u:=by
 rcases h with h|⟨o,h⟩
 .exact .inl (k _ _ h na)
 .exact .inr ⟨o,k _ _ h na⟩
theorem Oa(k:Kp A H H')(na:¬ A a\/KL K a xs)(h:SqL K H a xs):SqL K H' a xs:=na.elim (λna=>h.imp (Xi k na) id) .inr
theorem N9(k:Kp A H H')(na:¬ A a\/KT K a xs)(h:SqT K H a xs):SqT K H' a xs:=na.elim (λna=>h.imp (Xi k na) id) .inr
mutual
theorem Rep.kp(k:Kp A H H'):∀{v:V}(d:D),Rep K CL H A v d->Rep K CL H' A v d
 |_,.non,h=>h
 |_,.bl _,h=>h
 |_,.int _,h=>h
 |_,.str _,h=>h
 |_,.dic _,h=>h.elim
 |_,.tup ds,h=>by
  obtain⟨a,xs,e,na,s,r⟩:=h;exact⟨a,xs,e,na,by first|exact N9 k na s|exact Oa k na s,Reps.kp k ds r⟩
 |_,.lst ds,h=>by
  obtain⟨a,xs,e,na,s,r⟩:=h;exact⟨a,xs,e,na,by first|exact N9 k na s|exact Oa k na s,Reps.kp k ds r⟩
 |_,.obj c fs,h=>by
  obtain⟨a,C,dx,vs,e,na,c,s,r⟩:=h;exact⟨a,C,dx,vs,e,na,c,k _ _ s na,Repf.kp k fs r⟩
 |_,.exc c fs,h=>by
  obtain⟨a,C,φ,e,na,c,s,p,q⟩:=h;refine⟨a,C,φ,e,na,c,k _ _ s na,p,q.imp id ?_⟩;rintro⟨dx,vs,nx,s2,r,z⟩;exact⟨dx,vs,nx,k _ _ s2 nx,Repf.kp k fs r,z⟩
theorem Reps.kp(k:Kp A H H'):∀{vs:Ac V}(ds:Ac D),Reps K CL H A vs ds->Reps K CL H' A vs ds
 |[],[],h=>h
 |_::_,d::ds,h=>⟨Rep.kp k d h.1,Reps.kp k ds h.2⟩
 |[],_::_,h=>h.elim
 |_::_,[],h=>h.elim
theorem Repf.kp(k:Kp A H H'):∀{vs:Ac (Ak×V)}(ds:Ac (Ak×D)),Repf K CL H A vs ds->Repf K CL H' A vs ds
 |[],[],h=>h
 |_::_,d::ds,h=>⟨Repp.kp k d h.1,Repf.kp k ds h.2⟩
 |[],_::_,h=>h.elim
 |_::_,[],h=>h.elim
theorem Repp.kp(k:Kp A H H'):∀{v:Ak×V}(d:Ak×D),Repp K CL H A v d->Repp K CL H' A v d
 |_,(_,d),h=>⟨h.1,Rep.kp k d h.2⟩
end
mutual
theorem Rep.sub(k:∀ a,B a->A a):∀{v:V}(d:D),Rep K CL H A v d->Rep K CL H B v d
 |_,.non,h=>h
 |_,.bl _,h=>h
 |_,.int _,h=>h
 |_,.str _,h=>h
 |_,.dic _,h=>h.elim
 |_,.tup ds,h=>by
  obtain⟨a,xs,e,na,s,r⟩:=h;exact⟨a,xs,e,na.imp (λna z=>na (k _ z)) id,s,Reps.sub k ds r⟩
 |_,.lst ds,h=>by
  obtain⟨a,xs,e,na,s,r⟩:=h;exact⟨a,xs,e,na.imp (λna z=>na (k _ z)) id,s,Reps.sub k ds r⟩
 |_,.obj c fs,h=>by
  obtain⟨a,C,dx,vs,e,na,c,s,r⟩:=h;exact⟨a,C,dx,vs,e,λz=>na (k _ z),c,s,Repf.sub k fs r⟩
 |_,.exc c fs,h=>by
  obtain⟨a,C,φ,e,na,c,s,p,q⟩:=h;refine⟨a,C,φ,e,λz=>na (k _ z),c,s,p,q.imp id ?_⟩
  rintro⟨dx,vs,nx,s2,r,z⟩;exact⟨dx,vs,λz=>nx (k _ z),s2,Repf.sub k fs r,z⟩
theorem Reps.sub(k:∀ a,B a->A a):∀{vs:Ac V}(ds:Ac D),Reps K CL H A vs ds->Reps K CL H B vs ds
 |[],[],h=>h
 |_::_,d::ds,h=>⟨Rep.sub k d h.1,Reps.sub k ds h.2⟩
 |[],_::_,h=>h.elim
 |_::_,[],h=>h.elim
theorem Repf.sub(k:∀ a,B a->A a):∀{vs:Ac (Ak×V)}(ds:Ac (Ak×D)),Repf K CL H A vs ds->Repf K CL H B vs ds
 |[],[],h=>h
 |_::_,d::ds,h=>⟨Repp.sub k d h.1,Repf.sub k ds h.2⟩
 |[],_::_,h=>h.elim
 |_::_,[],h=>h.elim
theorem Repp.sub(k:∀ a,B a->A a):∀{v:Ak×V}(d:Ak×D),Repp K CL H A v d->Repp K CL H B v d
 |_,(_,d),h=>⟨h.1,Rep.sub k d h.2⟩
end
mutual
theorem Rep.wide(hp:∀ a,B a->A a\/H a=Af):∀{v:V}(d:D),Rep K CL H A v d->Rep K CL H B v d
 |_,.non,h=>h
 |_,.bl _,h=>h
 |_,.int _,h=>h
 |_,.str _,h=>h
 |_,.dic _,h=>h.elim
 |_,.tup ds,h=>by
  obtain⟨a,xs,e,na,s,r⟩:=h;refine⟨a,xs,e,?_,s,Reps.wide hp ds r⟩;rcases s with s|s
  .refine na.imp (λna z=>(hp _ z).elim na λe=>?_) id
   rcases s with s|⟨o,s⟩<;>rw[e]at s<;>cases s
  .exact .inr s
 |_,.lst ds,h=>by
  obtain⟨a,xs,e,na,s,r⟩:=h;refine⟨a,xs,e,?_,s,Reps.wide hp ds r⟩;rcases s with s|s
  .refine na.imp (λna z=>(hp _ z).elim na λe=>?_) id
   rcases s with s|⟨o,s⟩<;>rw[e]at s<;>cases s
  .exact .inr s
 |_,.obj c fs,h=>by
  obtain⟨a,C,dx,vs,e,na,c,s,r⟩:=h;exact⟨a,C,dx,vs,e,(λz=>(hp _ z).elim na λe=>by rw[e]at s;cases s),c,s,Repf.wide hp fs r⟩
 |_,.exc c fs,h=>by
  obtain⟨a,C,φ,e,na,c,s,p,q⟩:=h;refine⟨a,C,φ,e,(λz=>(hp _ z).elim na λe=>by rw[e]at s;cases s),c,s,p,q.imp id ?_⟩
  rintro⟨dx,vs,nx,s2,r,z⟩;exact⟨dx,vs,(λz=>(hp _ z).elim nx λe=>by rw[e]at s2;cases s2),s2,Repf.wide hp fs r,z⟩
theorem Reps.wide(hp:∀ a,B a->A a\/H a=Af):∀{vs:Ac V}(ds:Ac D),Reps K CL H A vs ds->Reps K CL H B vs ds
 |[],[],h=>h
 |_::_,d::ds,h=>⟨Rep.wide hp d h.1,Reps.wide hp ds h.2⟩
 |[],_::_,h=>h.elim
 |_::_,[],h=>h.elim
theorem Repf.wide(hp:∀ a,B a->A a\/H a=Af):∀{vs:Ac (Ak×V)}(ds:Ac (Ak×D)),Repf K CL H A vs ds->Repf K CL H B vs ds
 |[],[],h=>h
 |_::_,d::ds,h=>⟨Repp.wide hp d h.1,Repf.wide hp ds h.2⟩
 |[],_::_,h=>h.elim
 |_::_,[],h=>h.elim
theorem Repp.wide(hp:∀ a,B a->A a\/H a=Af):∀{v:Ak×V}(d:Ak×D),Repp K CL H A v d->Repp K CL H B v d
 |_,(_,d),h=>⟨h.1,Rep.wide hp d h.2⟩
end
theorem Rep.same(s:AH H H')(h:Rep K CL H A v d):Rep K CL H' A v d:=Rep.kp (Kp.of s) d h
theorem Reps.same{v:Ac V}{d:Ac D}(s:AH H H')(h:Reps K CL H A v d):Reps K CL H' A v d:=Reps.kp (Kp.of s) d h
theorem Dl.same{v:V}{d:D}(s:AH H H')(h:Dl K CL H A v d):Dl K CL H' A v d:=by
 rcases h with h|⟨a,xs,ds,e,e2,q,r⟩
 .exact .inl (h.same s)
 .exact .inr ⟨a,xs,ds,e,e2,s _ _ q,r.same s⟩
theorem Reps.length:∀{vs:Ac V}{ds:Ac D},Reps K CL H A vs ds->vs.length=ds.length
 |[],[],_=>rfl
 |_::_,_::_,h=>congrArg (· + 1) (Reps.length h.2)
 |[],_::_,h=>h.elim
 |_::_,[],h=>h.elim
theorem Reps.append:∀{vs ws:Ac V}{ds es:Ac D},Reps K CL H A vs ds->Reps K CL H A ws es->Reps K CL H A (vs++ws) (ds++es)
 |[],_,[],_,_,h=>h
 |_::_,_,_::_,_,h,g=>⟨h.1,Reps.append h.2 g⟩
 |[],_,_::_,_,h,_=>h.elim
 |_::_,_,[],_,h,_=>h.elim
theorem Reps.get:∀{vs:Ac V}{ds:Ac D}{i:Ag}{d:D},Reps K CL H A vs ds->ds[i]?=Ab d->∃ v,vs[i]?=Ab v/\Rep K CL H A v d
 |[],[],_,_,_,e=>by simp at e
 |v::_,_::_,0,_,h,e=>by simp at e;subst e;exact⟨v,rfl,h.1⟩
 |_::_,_::_,i+1,_,h,e=>by
  obtain⟨v,q,r⟩:=Reps.get (i:=i) h.2 (by simpa using e)
  exact⟨v,by simpa using q,r⟩
 |[],_::_,_,_,h,_=>h.elim
 |_::_,[],_,_,h,_=>h.elim
theorem Reps.take:∀{vs:Ac V}{ds:Ac D}(n:Ag),Reps K CL H A vs ds->Reps K CL H A (vs.take n) (ds.take n)
 |_,_,0,_=>trivial
 |[],[],_+1,_=>trivial
 |_::_,_::_,n+1,h=>⟨h.1,Reps.take n h.2⟩
 |[],_::_,_+1,h=>h.elim
 |_::_,[],_+1,h=>h.elim
theorem Reps.drop:∀{vs:Ac V}{ds:Ac D}(n:Ag),Reps K CL H A vs ds->Reps K CL H A (vs.drop n) (ds.drop n)
 |_,_,0,h=>h
 |[],[],_+1,_=>trivial
 |_::_,_::_,n+1,h=>Reps.drop n h.2
 |[],_::_,_+1,h=>h.elim
 |_::_,[],_+1,h=>h.elim
theorem Reps.set{x:V}{e:D}(r:Rep K CL H A x e):∀{vs:Ac V}{ds:Ac D}(n:Ag),Reps K CL H A vs ds->Reps K CL H A (vs.set n x) (ds.set n e)
 |[],[],_,_=>trivial
 |_::_,_::_,0,h=>⟨r,h.2⟩
 |_::_,_::_,n+1,h=>⟨h.1,Reps.set r n h.2⟩
 |[],_::_,_,h=>h.elim
 |_::_,[],_,h=>h.elim
end
structure Good (K:Fg) (CL:ClA) (A:Al->Prop) (Y:Rho) (U:L2.St) (H:Hp):Prop where
 sh:∀(i:Ag)(d:D),Y[i]?=Ab (Ab (d,Ad))->∃ v,U[i]?=Ab (Ab v)/\Rep K CL H A v d
 ow:∀(i:Ag)(d:D),Y[i]?=Ab (Ab (d,Aa))->∃ a xs ds,U[i]?=Ab (Ab (.ref a))/\d=.lst ds/\A a/\H a=Ab (.lst xs)/\Reps K CL H A xs ds
 len:Y.length=U.length
theorem Good.same{K:Fg}{CL:ClA}{A:Al->Prop}{Y:Rho}{U:L2.St}{H H':Hp}(g:Good K CL A Y U H)(s:AH H H'):Good K CL A Y U H':=
 ⟨λi d e=>let ⟨v,q,r⟩:=g.sh i d e;⟨v,q,r.same s⟩,λi d e=>let ⟨a,xs,ds,q,z,na,h,r⟩:=g.ow i d e;⟨a,xs,ds,q,z,na,s _ _ h,r.same s⟩,g.len⟩
abbrev XW:=Ex->Hp->Prop
variable{W:XW}
def Bq(Rp:Hp->V->D->Prop)(W:XW)(H:Hp)(r:R D)(Q:VK):Prop:=match r with
  |.ok d=>∀ v H',AH H H'->Rp H' v d->Q v H'
  |.exn x=>∀ H',AH H H'->W x H'
  |.bad=>Bl
def Ip(Rp:Hp->Ac V->Ac D->Prop)(W:XW)(H:Hp)(r:R (Ac D))(Q:Ac V->Hp->Prop):Prop:=match r with
  |.ok d=>∀ v H',AH H H'->Rp H' v d->Q v H'
  |.exn x=>∀ H',AH H H'->W x H'
  |.bad=>Bl
def DF(W:XW)(H:Hp)(r:R Aj)(Q:Aj->Hp->Prop):Prop:=match r with
  |.ok b=>∀ H',AH H H'->Q b H'
  |.exn x=>∀ H',AH H H'->W x H'
  |.bad=>Bl
theorem Bq.same(s:AH H H')(h:Bq Rp W H r Q):Bq Rp W H' r Q:=by
 cases r with
 |ok d=>exact λv H2 s2 q=>h v H2 (s.trans s2) q
 |exn x=>exact λH2 s2=>h H2 (s.trans s2)
 |bad=>exact h
theorem DF.same{r:R Aj}{Q:Aj->Hp->Prop}(s:AH H H')(h:DF W H r Q):DF W H' r Q:=by
 cases r with
 |ok d=>exact λH2 s2=>h H2 (s.trans s2)
 |exn x=>exact λH2 s2=>h H2 (s.trans s2)
 |bad=>exact h
theorem Bq.bind{f:D->R D}{Q':VK}(h:Bq Rq W H (r.bind f) Q)(k:∀ d v H',r=.ok d->AH H H'->Rp H' v d->Bq Rq W H' (f d) Q->Q' v H'):Bq Rp W H r Q':=by
 cases r with
 |ok d=>exact λv H2 s2 q=>k d v H2 rfl s2 q (Bq.same s2 h)
 |exn x=>exact h
 |bad=>exact h
section
variable(X:Cx)(CL:ClA)(W:XW)
def SE(e:Ao)(f:Rho->R D):Prop:=∀ A,PE X e (λU H Q=>AOk H A/\∃ Y,Good X.K CL A Y U H/\Bq (λH=>Rep X.K CL H A) W H (f Y) Q)
def ST(e:Ao)(f:Rho->R D):Prop:=∀ A,PE X e (λU H Q=>AOk H A/\∃ Y,Good X.K CL A Y U H/\Bq (λH=>Dl X.K CL H A) W H (f Y) Q)
def SB(e:Ao)(f:Rho->R Aj):Prop:=∀ A,PT X e (λU H Q=>AOk H A/\∃ Y,Good X.K CL A Y U H/\DF W H (f Y) Q)
def SA(es:Ac Ao)(f:Rho->R (Ac D)):Prop:=∀ A,PA X es (λU H Q=>AOk H A/\∃ Y,Good X.K CL A Y U H/\Ip (λH=>Reps X.K CL H A) W H (f Y) Q)
end
theorem PE.weak{t t':TE}(h:PE X e t)(k:∀ U H Q,t' U H Q->t U H Q):PE X e t':=λpI s U H Q I q=>h pI s U H Q I (k _ _ _ q)
theorem PT.weak{t t':TT}(h:PT X e t)(k:∀ U H Q,t' U H Q->t U H Q):PT X e t':=λpI s U H Q I q=>h pI s U H Q I (k _ _ _ q)
theorem PA.weak{e:Ac Ao}{t t':TA}(h:PA X e t)(k:∀ U H Q,t' U H Q->t U H Q):PA X e t':=λpos pI s U H Q I q=>h pos pI s U H Q I (k _ _ _ q)
noncomputable def OpD(X:Cx)(CL:ClA)(W:XW)(f:Ai->Ai->Hl Ai)(g:D->D->R D):Prop:=
 ∀ A,OpR X f (λx y H Q=>AOk H A/\∃ dx dy,Dl X.K CL H A x dx/\Dl X.K CL H A y dy/\Bq (λH=>Rep X.K CL H A) W H (g dx dy) Q)
section
variable{X:Cx}{CL:ClA}{W:XW}{a b c:Ao}{fa fb fc:Rho->R D}{pos:AO}
theorem SE.st(h:SE X CL W a fa):ST X CL W a fa:=λA=>PE.weak (h A) λU H Q ⟨hA,Y,g,p⟩=>⟨hA,Y,g,by
 cases e:fa Y with
 |ok d=>rw[e]at p;exact λv H' s r=>p v H' s (.inl r)
 |exn x=>rw[e]at p;exact p
 | bad=>rw[e]at p;exact p⟩
theorem SE.congr{f g:Rho->R D}(h:SE X CL W a f)(e:∀ Y,g Y=f Y):SE X CL W a g:=λA=>PE.weak (h A) λU H Q ⟨hA,Y,q,p⟩=>⟨hA,Y,q,by rw[<-e];exact p⟩
theorem Oi(h:PE X a (tC v))(r:∀ H A,AOk H A->Rep X.K CL H A v d):SE X CL W a (λ_=>.ok d):=λA=>PE.weak h λU H Q ⟨hA,Y,g,p⟩=>p v H (AH.refl H) (r H A hA)
theorem vE{i j}:SE X CL W (.Constant (.int i) j pos) (λ_=>.ok (.int i)):=Oi xX λ_ _ _=>rfl
theorem Xg{b j}:SE X CL W (.Constant (.bool b) j pos) (λ_=>.ok (.bl b)):=Oi lr λ_ _ _=>rfl
theorem uW{j}:SE X CL W (.Constant .none j pos) (λ_=>.ok .non):=Oi xV λ_ _ _=>rfl
theorem WR{x j}:SE X CL W (.Constant (.str x) j pos) (λ_=>.ok (.str x)):=Oi WX λ_ _ _=>rfl
theorem oZ(h:Gw Y i=.ok d):Y[i]?=Ab (Ab (d,Ad)):=by
 unfold Gw at h;split at h
 .rename_i e;cases h;exact e
 .cases h
theorem U_7(h:Dp Y i=.ok d):∃ o,Y[i]?=Ab (Ab (d,o)):=by
 unfold Dp at h;split at h
 .rename_i e;cases h;exact⟨_,e⟩
 .cases h
theorem kP(h:Gw Y i=.exn x):Bl:=by
 unfold Gw at h;split at h<;>cases h
theorem U_0(h:Dp Y i=.exn x):Bl:=by
 unfold Dp at h;split at h<;>cases h
theorem wG(h:PE X a (GR i)):SE X CL W a (λY=>Gw Y i):=λA=>PE.weak h λU H Q ⟨hA,Y,g,p⟩=>by
 dsimp only at p;cases e:Gw Y i with
 |ok d=>
  rw[e]at p;obtain⟨v,q,r⟩:=g.sh i d (oZ e);exact⟨v,q,p v H (AH.refl H) r⟩
 |exn x=>exact(kP e).elim
 |bad=>rw[e]at p;exact p.elim
theorem LF(h:PE X a (GR i)):ST X CL W a (λY=>Dp Y i):=λA=>PE.weak h λU H Q ⟨hA,Y,g,p⟩=>by
 dsimp only at p;cases e:Dp Y i with
 |ok d=>
  rw[e]at p;obtain⟨o,e⟩:=U_7 e;cases o with
  |false=>
   obtain⟨v,q,r⟩:=g.sh i d e;exact⟨v,q,p v H (AH.refl H) (.inl r)⟩
  |true=>
   obtain⟨x,xs,ds,q,rfl,ha,hh,r⟩:=g.ow i d e;exact⟨_,q,p _ H (AH.refl H) (.inr ⟨x,xs,ds,rfl,rfl,hh,r⟩)⟩
 |exn x=>exact(U_0 e).elim
 |bad=>rw[e]at p;exact p.elim
theorem op2(h:AOk H A/\∃ Y,Good X.K CL A Y U H/\Bq Rq W H ((fa Y).bind λx=>(fb Y).bind λy=>g x y) Q):AOk H A/\∃ Y,Good X.K CL A Y U H/\Bq (λH=>Dl X.K CL H A) W H (fa Y) (λx H1=>AOk H1 A/\∃ Y,Good X.K CL A Y U H1/\Bq (λH=>Dl X.K CL H A) W H1 (fb Y) (λy H2=>AOk H2 A/\∃ dx dy,Dl X.K CL H2 A x dx/\Dl X.K CL H2 A y dy/\Bq Rq W H2 (g dx dy) Q)):=by
 obtain⟨hA,Y,gd,p⟩:=h;refine⟨hA,Y,gd,Bq.bind p λdx x H1 _ s1 r1 p1=>⟨hA.same s1,Y,gd.same s1,Bq.bind p1 λdy y H2 _ s2 r2 p2=>⟨(hA.same s1).same s2,dx,dy,r1.same s2,r2,p2⟩⟩⟩
theorem QV{op:F3}(ho:OpD X CL W (CB op) g)(ha:ST X CL W a fa)(hb:ST X CL W b fb):SE X CL W (.BinOp a op b pos) (λY=>(fa Y).bind λx=>(fb Y).bind λy=>g x y):=
 λA=>PE.weak (Xf (ho A) (ha A) (hb A)) λU H Q h=>op2 h
theorem vH(ho:OpD X CL W (CZ op) g)(ha:ST X CL W a fa)(hb:ST X CL W b fb)(hm:HE op b=Ad):SE X CL W (.Compare a [op] [b] pos) (λY=>(fa Y).bind λx=>(fb Y).bind λy=>g x y):=
 λA=>PE.weak (pS (ho A) (ha A) (hb A) hm) λU H Q h=>op2 h
theorem Dl.int_of{i:Ae}(h:Dl K CL H A v (.int i)):v=.int i:=by
 rcases h with h|⟨_,_,_,_,e,_⟩
 .exact h
 .cases e
theorem Dl.str_of{i:Ak}(h:Dl K CL H A v (.str i)):v=.str i:=by
 rcases h with h|⟨_,_,_,_,e,_⟩
 .exact h
 .cases e
theorem Dl.bl_of{i:Aj}(h:Dl K CL H A v (.bl i)):v=.bl i:=by
 rcases h with h|⟨_,_,_,_,e,_⟩
 .exact h
 .cases e
theorem Dl.non_of(h:Dl K CL H A v .non):v=.non:=by
 rcases h with h|⟨_,_,_,_,e,_⟩
 .exact h
 .cases e
theorem Dl.lst_of{ds:Ac D}(h:Dl K CL H A v (.lst ds)):∃ a xs,v=.ref a/\SqL K H a xs/\Reps K CL H A xs ds:=by
 rcases h with ⟨a,xs,e,_,s,r⟩|⟨a,xs,es,rfl,e,s,r⟩
 .exact⟨a,xs,e,s,r⟩
 .cases e;exact⟨a,xs,rfl,SqL.of s,r⟩
theorem Dl.tup_of{ds:Ac D}(h:Dl K CL H A v (.tup ds)):∃ a xs,v=.ref a/\(¬ A a\/KT K a xs)/\SqT K H a xs/\Reps K CL H A xs ds:=by
 rcases h with ⟨a,xs,e,n,s,r⟩|⟨_,_,_,_,e,_⟩
 .exact⟨a,xs,e,n,s,r⟩
 .cases e
theorem pM{i j:Ae}(h:F9 i j=Aa):OZ i j:=by
 unfold F9 at h;simp only[CU,An,A2]at h;unfold OZ;omega
theorem V5{a:Ae}(h:a.natAbs<2 ^ 2000):YL a<=2 ^ 20:=by
 unfold YL;split
 .omega
 .rename_i hz;have h0:a.natAbs≠0:=by intro z;exact hz (by rw[Int.natAbs_eq_zero.mp z];rfl)
  have:=(Nat.log2_lt h0).mpr h;omega
theorem pL{i j:Ae}(h:(F9 i j||Fm i j)=Aa):Md i j:=by
 rcases Bool.or_eq_true_iff.mp h with h|h
 .exact(pM h).ok
 .unfold Fm at h;rw[An,A2,A2]at h;exact .of_bits (V5 h.1) (V5 h.2)
theorem qA:OpR X (CB .Mult) (rI Md λi j=>.int (i*j)):=opI λ_ _ _ _ _ _ _ hc q=>mul_int q hc
theorem Jl(h:DR n=Aa):n<=sizeLine:=by
 unfold DR at h;rw[DA];have:=Fe h;omega
theorem V8{p:Al}{ds:Ac D}(hA:AOk H A)(hp:H p=Af)(r:Reps K CL H A xs ds):Rep K CL (upd H p (.lst xs)) A (.ref p) (.lst ds):=
 ⟨p,xs,rfl,.inl (hA.new hp),SqL.of F7,r.same λb o e=>by rw[BQ (Gr e hp)];exact e⟩
theorem Lz{p:Al}{ds:Ac D}(hA:AOk H A)(hp:H p=Af)(r:Reps K CL H A xs ds):Rep K CL (upd H p (.tup xs)) A (.ref p) (.tup ds):=
 ⟨p,xs,rfl,.inl (hA.new hp),SqT.of F7,r.same λb o e=>by rw[BQ (Gr e hp)];exact e⟩
theorem GL{p:Al}(h:H p=Af)(o:HO):AH H (upd H p o):=λb u q=>by rw[BQ (Gr q h)];exact q
def ky(K:Fg):R2:=λx y H Q=>∃ l b xs zs,x=.ref l/\y=.ref b/\SqL K H l xs/\SqL K H b zs/\xs.length+zs.length<=sizeLine/\∀ p,H p=Af->Q (.ref p) (upd H p (.lst (xs++zs)))
end
section
variable{X:Cx}{CL:ClA}{W:XW}
theorem Vx:OpR X (CB .Add) (ky X.K):=by
 intro pI s U H x y v u Q I rx ry h;obtain⟨l,b,xs,zs,rfl,rfl,hH,hB,hz,q⟩:=h;cases rx;cases ry;obtain⟨its,r,⟨o,n,e,c,dd,dt⟩,z⟩:=I.list hH;obtain⟨its2,r2,⟨o2,n2,e2,c2,dd2,dt2⟩,z2⟩:=I.list hB;have hl:=r.length;have hl2:=r2.length;obtain⟨cls,dd0,data,sl⟩:=o;obtain⟨cls2,dd02,data2,sl2⟩:=o2;simp only at c dd dt c2 dd2 dt2;subst c dd dt c2 dd2 dt2;have ea:its.toArray++its2.toArray=(its++its2).toArray:=by simp
 refine JR ⟨_,e,rfl⟩ ⟨_,e2,rfl⟩ noFill_list_add seq_list_add PySem.F.slot_list_add PySem.F.entry_list_add (PySem.F.args_list_add_2 _ _) (list_addW l b its.toArray its2.toArray n n2 Af Af sl sl2 (by simp;omega)) ⟨e,e2,?_⟩
 rw[ea];exact⟨.ref _,_,I.lnew (t':=s.toks) (r.append r2) (by rw[BJ];omega),rfl,q _ I.fresh⟩
theorem Vw:OpD X CL W (CB .Add) (C4 .Add):=by
 intro A pI s U H x y v u Q I rx ry ⟨hA,dx,dy,hx,hy,p⟩;cases dx with
 |int i=>
  cases dy with
  |int j=>
   have ex:=hx.int_of;have ey:=hy.int_of
   subst ex ey;exact xB pI s U H _ _ v u Q I rx ry ⟨i,j,rfl,rfl,p _ H (AH.refl H) rfl⟩
  |_=>exact p.elim
 |str i=>
  cases dy with
  |str j=>
   have ex:=hx.str_of;have ey:=hy.str_of
   subst ex ey;simp only[WC]at p;split at p
   .rename_i h;exact fG pI s U H _ _ v u Q I rx ry ⟨i,j,rfl,rfl,Jl h,p _ H (AH.refl H) rfl⟩
   .exact p.elim
  |_=>exact p.elim
 |lst ds=>
  cases dy with
  |lst es=>
   obtain⟨a,xs,rfl,s1,r1⟩:=hx.lst_of;obtain⟨b,ys,rfl,s2,r2⟩:=hy.lst_of;simp only[WD]at p;split at p
   .rename_i h;refine Vx pI s U H _ _ v u Q I rx ry ⟨a,b,xs,ys,rfl,rfl,s1,s2,by rw[r1.length,r2.length];exact Jl h,λq hq=>?_⟩
    exact p _ _ (GL hq _) (V8 hA hq (r1.append r2))
   .exact p.elim
  |_=>exact p.elim
 |tup ds=>
  cases dy with
  |tup es=>
   obtain⟨a,xs,rfl,na1,s1,r1⟩:=hx.tup_of;obtain⟨b,ys,rfl,_,s2,r2⟩:=hy.tup_of;simp only[WB]at p;split at p
   .rename_i h;simp only[An]at h;refine qC pI s U H _ _ v u Q I rx ry ⟨a,b,xs,ys,rfl,rfl,s1,s2,?_,by rw[r1.length,r2.length];exact Jl h.2,λhy0=>?_,λ_ q hq=>?_⟩
    .rintro rfl;cases ds with
     |nil=>cases h.1
     |cons _ _=>exact r1.elim
    .subst hy0;cases es with
     |nil=>rw[C8]at p;exact p _ H (AH.refl H) ⟨a,xs,rfl,na1,s1,r1⟩
     |cons _ _=>exact r2.elim
    .exact p _ _ (GL hq _) (Lz hA hq (r1.append r2))
   .exact p.elim
  |_=>exact p.elim
 |_=>exact p.elim
theorem NP{op:F3}{C:Ae->Ae->Prop}{g:Ae->Ae->Ae}(ho:OpR X (CB op) (rI C λi j=>.int (g i j)))(hg:∀ dx dy,(∃ i j,dx=.int i/\dy=.int j/\((C i j/\C4 op dx dy=.ok (.int (g i j)))\/C4 op dx dy=.bad))\/C4 op dx dy=.bad):OpD X CL W (CB op) (C4 op):=by
 intro A pI s U H x y v u Q I rx ry ⟨hA,dx,dy,hx,hy,p⟩;rcases hg dx dy with ⟨i,j,rfl,rfl,⟨c,e⟩|e⟩|e
 .have ex:=hx.int_of;have ey:=hy.int_of
  subst ex ey;rw[e]at p;exact ho pI s U H _ _ v u Q I rx ry ⟨i,j,rfl,rfl,c,p _ H (AH.refl H) rfl⟩
 .rw[e]at p;exact p.elim
 .rw[e]at p;exact p.elim
theorem pV:OpD X CL W (CB .Sub) (C4 .Sub):=by
 intro A pI s U H x y v u Q I rx ry ⟨hA,dx,dy,hx,hy,p⟩;cases dx with
 |int i=>
  cases dy with
  |int j=>
   have ex:=hx.int_of;have ey:=hy.int_of
   subst ex ey;exact wX pI s U H _ _ v u Q I rx ry ⟨i,j,rfl,rfl,p _ H (AH.refl H) rfl⟩
  |_=>exact p.elim
 |_=>exact p.elim
theorem pX:OpD X CL W (CB .Mult) (C4 .Mult):=NP qA λdx dy=>by
 cases dx with
 |int i=>
  cases dy with
  |int j=>
   refine .inl ⟨i,j,rfl,rfl,?_⟩;rw[ag];split
   .rename_i h;exact .inl ⟨pL h,rfl⟩
   .exact .inr rfl
  |_=>exact .inr rfl
 |_=>exact .inr rfl
theorem lZ:OpD X CL W (CB .FloorDiv) (C4 .FloorDiv):=NP qB λdx dy=>by
 cases dx with
 |int i=>
  cases dy with
  |int j=>
   refine .inl ⟨i,j,rfl,rfl,?_⟩;rw[rY];split
   .rename_i h;exact .inl ⟨h,rfl⟩
   .exact .inr rfl
  |_=>exact .inr rfl
 |_=>exact .inr rfl
theorem pY:OpD X CL W (CB .Mod) (C4 .Mod):=NP wZ λdx dy=>by
 cases dx with
 |int i=>
  cases dy with
  |int j=>
   refine .inl ⟨i,j,rfl,rfl,?_⟩;rw[ah];split
   .rename_i h;exact .inl ⟨h,rfl⟩
   .exact .inr rfl
  |_=>exact .inr rfl
 |_=>exact .inr rfl
theorem pW:OpD X CL W (CB .Pow) (C4 .Pow):=NP wY λdx dy=>by
 cases dx with
 |int i=>
  cases dy with
  |int j=>
   refine .inl ⟨i,j,rfl,rfl,?_⟩;rw[xQ];split
   .rename_i h;exact .inl ⟨⟨h.1.1,h.1.2,by omega⟩,rfl⟩
   .exact .inr rfl
  |_=>exact .inr rfl
 |_=>exact .inr rfl
theorem QH(op:F3):OpD X CL W (CB op) (C4 op):=by
 cases op with
 |Add=>exact Vw
 |Sub=>exact pV
 |Mult=>exact pX
 |FloorDiv=>exact lZ
 |Mod=>exact pY
 |Pow=>exact pW
 |_=>
  intro A pI s U H x y v u Q I rx ry ⟨hA,dx,dy,hx,hy,p⟩;exact p.elim
noncomputable abbrev A0:Al->Prop:=λ_=>Bl
theorem Dl.plain(h:Dl K CL H A v d):Rep K CL H A0 v d:=by
 rcases h with h|⟨a,xs,ds,rfl,rfl,e,r⟩
 .exact Rep.sub (λ_ z=>z.elim) d h
 .exact⟨a,xs,rfl,.inl λz=>z.elim,SqL.of e,Reps.sub (λ_ z=>z.elim) ds r⟩
mutual
theorem lR:∀(n:Ag)(d:D),flD n d=Aa->eqD d d=Aa
 |_,.non,_=>rfl
 |_,.bl b,_=>by simp
 |_,.int i,_=>by simp
 |_,.str x,_=>by simp
 |n+1,.tup ds,h=>by
  show eqDs ds ds=Aa;exact eqDs_refl n ds h
 |n+1,.lst ds,h=>by
  show eqDs ds ds=Aa;exact eqDs_refl n ds h
 |0,.tup ds,h=>by cases h
 |0,.lst ds,h=>by cases h
 |n,.obj _ _,h=>by cases n<;>cases h
 |n,.exc _ _,h=>by cases n<;>cases h
 |n,.dic _,h=>by cases n<;>cases h
theorem eqDs_refl:∀(n:Ag)(ds:Ac D),ds.all (flD n)=Aa->eqDs ds ds=Aa
 |_,[],_=>rfl
 |n,d::ds,h=>by
  simp only[GE,An]at h;simp only[PX,An];exact⟨lR n d h.1,eqDs_refl n ds h.2⟩
end
theorem TY{ys:Ac V}(I:Inv X pI U H s)(h:SqL X.K H a xs)(h':SqT X.K H a ys):Bl:=by
 obtain⟨its,r,⟨o,n,e,c,_,_⟩,_⟩:=I.list h;obtain⟨its',r',⟨o',e',c',_⟩,_⟩:=I.tuple h';rw[e]at e';cases e';rw[c]at c'
 injection c' with z
 exact absurd z (by decide)
mutual
theorem NO{pI:Pn}{U:L2.St}{H:Hp}{s:Ar}(I:Inv X pI U H s):∀(n:Ag)(d e:D){v:V},flD n d=Aa->flD n e=Aa->Rep X.K CL H A0 v d->Rep X.K CL H A0 v e->d=e
 |n,.tup ds,e,v,hd,he,r,q=>by
  obtain⟨a,xs,rfl,_,s1,r1⟩:=r;cases e with
  |tup es=>
   obtain⟨b,ys,e,_,s2,r2⟩:=q;cases e;have z:=I.tuple_inj s1 s2;subst z;cases n with
   |zero=>cases hd
   |succ n=>rw[reps_inj I n ds es hd he r1 r2]
  |lst es=>
   obtain⟨b,ys,e,_,s2,r2⟩:=q;cases e;exact(TY I s2 s1).elim
  |obj=>cases n<;>cases he
  |exc=>cases n<;>cases he
  |dic=>cases n<;>cases he
  |_=>cases q
 |n,.lst ds,e,v,hd,he,r,q=>by
  obtain⟨a,xs,rfl,_,s1,r1⟩:=r;cases e with
  |lst es=>
   obtain⟨b,ys,e,_,s2,r2⟩:=q;cases e;have z:=I.list_inj s1 s2;subst z;cases n with
   |zero=>cases hd
   |succ n=>rw[reps_inj I n ds es hd he r1 r2]
  |tup es=>
   obtain⟨b,ys,e,_,s2,r2⟩:=q;cases e;exact(TY I s1 s2).elim
  |obj=>cases n<;>cases he
  |exc=>cases n<;>cases he
  |dic=>cases n<;>cases he
  |_=>cases q
 |n,.obj _ _,e,v,hd,he,r,q=>by cases n<;>cases hd
 |n,.exc _ _,e,v,hd,he,r,q=>by cases n<;>cases hd
 |n,.dic _,e,v,hd,he,r,q=>by cases n<;>cases hd
 |n,.non,e,v,hd,he,r,q=>by
  cases r;cases e with
  |tup=>obtain⟨_,_,z,_⟩:=q;cases z
  |lst=>obtain⟨_,_,z,_⟩:=q;cases z
  |obj=>cases n<;>cases he
  |exc=>cases n<;>cases he
  |dic=>cases n<;>cases he
  |_=>cases q<;>rfl
 |n,.bl b,e,v,hd,he,r,q=>by
  cases r;cases e with
  |tup=>obtain⟨_,_,z,_⟩:=q;cases z
  |lst=>obtain⟨_,_,z,_⟩:=q;cases z
  |obj=>cases n<;>cases he
  |exc=>cases n<;>cases he
  |dic=>cases n<;>cases he
  |_=>cases q<;>rfl
 |n,.int b,e,v,hd,he,r,q=>by
  cases r;cases e with
  |tup=>obtain⟨_,_,z,_⟩:=q;cases z
  |lst=>obtain⟨_,_,z,_⟩:=q;cases z
  |obj=>cases n<;>cases he
  |exc=>cases n<;>cases he
  |dic=>cases n<;>cases he
  |_=>cases q<;>rfl
 |n,.str b,e,v,hd,he,r,q=>by
  cases r;cases e with
  |tup=>obtain⟨_,_,z,_⟩:=q;cases z
  |lst=>obtain⟨_,_,z,_⟩:=q;cases z
  |obj=>cases n<;>cases he
  |exc=>cases n<;>cases he
  |dic=>cases n<;>cases he
  |_=>cases q<;>rfl
theorem reps_inj{pI:Pn}{U:L2.St}{H:Hp}{s:Ar}(I:Inv X pI U H s):∀(n:Ag)(ds es:Ac D){xs:Ac V},ds.all (flD n)=Aa->es.all (flD n)=Aa->Reps X.K CL H A0 xs ds->Reps X.K CL H A0 xs es->ds=es
 |_,[],[],_,_,_,_,_=>rfl
 |n,d::ds,e::es,x::xs,hd,he,r,q=>by
  simp only[GE,An]at hd he;rw[NO I n d e hd.1 he.1 r.1 q.1,reps_inj I n ds es hd.2 he.2 r.2 q.2]
 |_,[],_::_,[],_,_,_,q=>q.elim
 |_,[],_::_,_::_,_,_,r,_=>r.elim
 |_,_::_,[],[],_,_,r,_=>r.elim
 |_,_::_,[],_::_,_,_,_,q=>q.elim
 |_,_::_,_::_,[],_,_,r,_=>r.elim
end
theorem Mt:∀{ds es:Ac D},ds.length≠es.length->eqDs ds es=Ad
 |[],[],h=>absurd rfl h
 |[],_::_,_=>rfl
 |_::_,[],_=>rfl
 |d::ds,e::es,h=>by
  simp only[PX,Mt (ds:=ds) (es:=es) (by simpa using h),Gd]
theorem Tx(n:Ag)(f:Ag->Aj):(Bm (n+1)).all f=(f 0&&(Bm n).all λj=>f (j+1)):=by
 rw[EZ,GE,Yb];rfl
theorem Mu:∀{ds es:Ac D},ds.length=es.length->eqDs ds es=(Bm ds.length).all λj=>eqD (ds.getD j .non) (es.getD j .non)
 |[],[],_=>rfl
 |d::ds,e::es,h=>by
  rw[PX,Mu (ds:=ds) (es:=es) (by simpa using h),Bz,Tx]
  rfl
 |[],_::_,h=>by cases h
 |_::_,[],h=>by cases h
theorem KJ{ds:Ac D}{its:Ac Ai}(r:Reps K CL H A0 xs ds)(rv:Bo xs its)(h:j<its.length):∃ x,Rep K CL H A0 x (ds.getD j .non)/\BU x its[j]:=by
 have e1:=rv.length;have e2:=r.length;have hd:ds[j]?=Ab (ds.getD j .non):=by
  rw[Eb,CS (by omega)];rfl
 obtain⟨x,hx,q⟩:=r.get hd;obtain⟨u,hu,ru⟩:=rv.get hx;refine⟨x,q,?_⟩;rw[CS h]at hu;cases hu;exact ru
theorem KB{ds:Ac D}(h:ds.all (flD n)=Aa)(j:Ag):flD n (ds.getD j .non)=Aa:=by
 rw[Eb];cases e:ds[j]? with
 |none=>cases n<;>rfl
 |some d=>exact List.all_eq_true.mp h d (DM e)
def C5(B:A9)(s:Ar)(u t:Ai)(k:Aj):Prop:=K3 B s u t k/\G2 B s u t k/\JN B s u t (!k)
section
variable{B:A9}{s:Ar}
open SeqAt
theorem j4:C5 B s .none .none Aa:=⟨RcAt.none_none,EqAt.same _,RcNeAt.none_none⟩
theorem gu(a b:Aj):C5 B s (.bool a) (.bool b) (a==b):=⟨RcAt.bool_bool _ _,EqAt.bool_bool _ _,RcNeAt.bool_bool _ _⟩
theorem j7(b:Aj):C5 B s .none (.bool b) Ad:=⟨RcAt.none_bool _,EqAt.none_bool _,RcNeAt.none_bool _⟩
theorem jl(b:Aj):C5 B s (.bool b) .none Ad:=⟨RcAt.bool_none _,EqAt.bool_none _,RcNeAt.bool_none _⟩
theorem jh(a:Ae)(t:Di)(b:Ae)(u:Di):C5 B s (.int a t) (.int b u) (a==b):=⟨RcAt.int_int _ _ _ _,EqAt.int_int _ _ _ _,RcNeAt.int_int _ _ _ _⟩
theorem ig(a:Ak)(t:Di)(b:Ak)(u:Di):C5 B s (.str a t) (.str b u) (a==b):=⟨RcAt.str_str _ _ _ _,EqAt.str_str _ _ _ _,RcNeAt.str_str _ _ _ _⟩
theorem je(a:Ae)(t:Di)(b:Ak)(u:Di):C5 B s (.int a t) (.str b u) Ad:=⟨RcAt.int_str _ _ _ _,EqAt.int_str _ _ _ _,RcNeAt.int_str _ _ _ _⟩
theorem io(a:Ak)(t:Di)(b:Ae)(u:Di):C5 B s (.str a t) (.int b u) Ad:=⟨RcAt.str_int _ _ _ _,EqAt.str_int _ _ _ _,RcNeAt.str_int _ _ _ _⟩
theorem j6(b:Ae)(u:Di):C5 B s .none (.int b u) Ad:=⟨RcAt.none_int _ _,EqAt.none_int _ _,RcNeAt.none_int _ _⟩
theorem jf(b:Ae)(u:Di):C5 B s (.int b u) .none Ad:=⟨RcAt.int_none _ _,EqAt.int_none _ _,RcNeAt.int_none _ _⟩
theorem j3(b:Ak)(u:Di):C5 B s .none (.str b u) Ad:=⟨RcAt.none_str _ _,EqAt.none_str _ _,RcNeAt.none_str _ _⟩
theorem ij(b:Ak)(u:Di):C5 B s (.str b u) .none Ad:=⟨RcAt.str_none _ _,EqAt.str_none _ _,RcNeAt.str_none _ _⟩
theorem gr(a:Aj)(b:Ae)(u:Di):C5 B s (.bool a) (.int b u) (b2i a==b):=⟨RcAt.bool_int _ _ _,EqAt.bool_int _ _ _,RcNeAt.bool_int _ _ _⟩
theorem ji(a:Aj)(b:Ae)(u:Di):C5 B s (.int b u) (.bool a) (b==b2i a):=⟨RcAt.int_bool _ _ _,EqAt.int_bool _ _ _,RcNeAt.int_bool _ _ _⟩
theorem jk(a:Aj)(b:Ak)(u:Di):C5 B s (.bool a) (.str b u) Ad:=⟨RcAt.bool_str _ _ _,EqAt.bool_str _ _ _,RcNeAt.bool_str _ _ _⟩
theorem iq(a:Aj)(b:Ak)(u:Di):C5 B s (.str b u) (.bool a) Ad:=⟨RcAt.str_bool _ _ _,EqAt.str_bool _ _ _,RcNeAt.str_bool _ _ _⟩
variable{l:Al}{items:A8 Ai}
theorem ja(h:s.heap.IsList l items)(hu:B.units<CA):C5 B s (.ref l) .none Ad:=⟨RcAt.list_none h hu,EqAt.list_none h hu,RcNeAt.list_none h hu⟩
theorem j5(h:s.heap.IsList l items)(hu:B.units<CA):C5 B s .none (.ref l) Ad:=⟨RcAt.none_list h hu,EqAt.none_list h hu,RcNeAt.none_list h hu⟩
theorem jc(b:Aj)(h:s.heap.IsList l items)(hu:B.units<CA):C5 B s (.ref l) (.bool b) Ad:=⟨RcAt.list_bool b h hu,EqAt.list_bool b h hu,RcNeAt.list_bool b h hu⟩
theorem jm(b:Aj)(h:s.heap.IsList l items)(hu:B.units<CA):C5 B s (.bool b) (.ref l) Ad:=⟨RcAt.bool_list b h hu,EqAt.bool_list b h hu,RcNeAt.bool_list b h hu⟩
theorem jb(b:Ae)(u:Di)(h:s.heap.IsList l items)(hu:B.units<CA):C5 B s (.ref l) (.int b u) Ad:=⟨RcAt.list_int b u h hu,EqAt.list_int b u h hu,RcNeAt.list_int b u h hu⟩
theorem jg(b:Ae)(u:Di)(h:s.heap.IsList l items)(hu:B.units<CA):C5 B s (.int b u) (.ref l) Ad:=⟨RcAt.int_list b u h hu,EqAt.int_list b u h hu,RcNeAt.int_list b u h hu⟩
theorem j9(b:Ak)(u:Di)(h:s.heap.IsList l items)(hu:B.units<CA):C5 B s (.ref l) (.str b u) Ad:=⟨RcAt.list_str b u h hu,EqAt.list_str b u h hu,RcNeAt.list_str b u h hu⟩
theorem im(b:Ak)(u:Di)(h:s.heap.IsList l items)(hu:B.units<CA):C5 B s (.str b u) (.ref l) Ad:=⟨RcAt.str_list b u h hu,EqAt.str_list b u h hu,RcNeAt.str_list b u h hu⟩
theorem js(h:s.heap.IsTuple l items)(hu:B.units<CA):C5 B s (.ref l) .none Ad:=⟨RcAt.tuple_none h hu,EqAt.tuple_none h hu,RcNeAt.tuple_none h hu⟩
theorem ir(h:s.heap.IsTuple l items)(hu:B.units<CA):C5 B s .none (.ref l) Ad:=⟨RcAt.none_tuple h hu,EqAt.none_tuple h hu,RcNeAt.none_tuple h hu⟩
theorem jv(b:Aj)(h:s.heap.IsTuple l items)(hu:B.units<CA):C5 B s (.ref l) (.bool b) Ad:=⟨RcAt.tuple_bool b h hu,EqAt.tuple_bool b h hu,RcNeAt.tuple_bool b h hu⟩
theorem jj(b:Aj)(h:s.heap.IsTuple l items)(hu:B.units<CA):C5 B s (.bool b) (.ref l) Ad:=⟨RcAt.bool_tuple b h hu,EqAt.bool_tuple b h hu,RcNeAt.bool_tuple b h hu⟩
theorem ju(b:Ae)(u:Di)(h:s.heap.IsTuple l items)(hu:B.units<CA):C5 B s (.ref l) (.int b u) Ad:=⟨RcAt.tuple_int b u h hu,EqAt.tuple_int b u h hu,RcNeAt.tuple_int b u h hu⟩
theorem jd(b:Ae)(u:Di)(h:s.heap.IsTuple l items)(hu:B.units<CA):C5 B s (.int b u) (.ref l) Ad:=⟨RcAt.int_tuple b u h hu,EqAt.int_tuple b u h hu,RcNeAt.int_tuple b u h hu⟩
theorem jr(b:Ak)(u:Di)(h:s.heap.IsTuple l items)(hu:B.units<CA):C5 B s (.ref l) (.str b u) Ad:=⟨RcAt.tuple_str b u h hu,EqAt.tuple_str b u h hu,RcNeAt.tuple_str b u h hu⟩
theorem jw(b:Ak)(u:Di)(h:s.heap.IsTuple l items)(hu:B.units<CA):C5 B s (.str b u) (.ref l) Ad:=⟨RcAt.str_tuple b u h hu,EqAt.str_tuple b u h hu,RcNeAt.str_tuple b u h hu⟩
theorem j8(h:s.heap.IsList l items)(h2:s.heap.IsTuple b items2)(hu:B.units<CA):C5 B s (.ref l) (.ref b) Ad:=⟨RcAt.list_tuple h h2 hu,EqAt.list_tuple h h2 hu,RcNeAt.list_tuple h h2 hu⟩
theorem jt(h:s.heap.IsTuple l items)(h2:s.heap.IsList b items2)(hu:B.units<CA):C5 B s (.ref l) (.ref b) Ad:=⟨RcAt.tuple_list h h2 hu,EqAt.tuple_list h h2 hu,RcNeAt.tuple_list h h2 hu⟩
end
end
section
variable{X:Cx}{CL:ClA}{W:XW}
theorem IK(x:PlainL h a its):h.IsList a its:=let ⟨o,n,e,c,_,d⟩:=x;⟨o,e,c,n,d⟩
def eA(X:Cx)(CL:ClA)(H:Hp)(s:Ar)(d:D)(u:Ai):Prop:=match d with
  |.non=>u=.none
  |.bl b=>u=.bool b
  |.int i=>∃ t,u=.int i t
  |.str x=>∃ t,u=.str x t
  |.tup ds=>∃ a xs its,u=.ref a/\Reps X.K CL H A0 xs ds/\Bo xs its/\s.heap.IsTuple a its.toArray
  |.lst ds=>∃ a xs its,u=.ref a/\Reps X.K CL H A0 xs ds/\Bo xs its/\s.heap.IsList a its.toArray
  |_=>Bl
theorem VL(I:Inv X pI U H s)(hd:flD n d=Aa)(r:Rep X.K CL H A0 v d)(q:BU v u):eA X CL H s d u:=by
 cases d with
 |non=>cases r;exact q
 |bl b=>cases r;exact q
 |int b=>cases r;exact q
 |str b=>cases r;exact q
 |tup ds=>
  obtain⟨a,xs,rfl,_,sq,r⟩:=r;obtain⟨its,rv,p,_⟩:=I.tuple sq;cases q;exact⟨a,xs,its,rfl,r,rv,p⟩
 |lst ds=>
  obtain⟨a,xs,rfl,_,sq,r⟩:=r;obtain⟨its,rv,p,_⟩:=I.list sq;cases q;exact⟨a,xs,its,rfl,r,rv,IK p⟩
 |obj=>cases n<;>cases hd
 |exc=>cases n<;>cases hd
 |dic=>cases n<;>cases hd
theorem mZ{B:A9}{its:Ac Ai}{ds es:Ac D}(hl:s.heap.IsList l its.toArray)(hb:s.heap.IsList b its2.toArray)(e1:its.length=ds.length)(e2:its2.length=es.length)(hu:B.units<CA)(hs:l=b->eqDs ds es=Aa)(he:∀ j (h1:j<its.length) (h2:j<its2.length),G2 B.in1 s its[j] its2[j] (eqD (ds.getD j .non) (es.getD j .non))):C5 B s (.ref l) (.ref b) (eqDs ds es):=by
 have rc:K3 B s (.ref l) (.ref b) (eqDs ds es):=by
  by_cases hz:its.length=its2.length
  .have q:=SeqAt.RcAt.lists (e:=λj=>eqD (ds.getD j .non) (es.getD j .non)) hl hb (by simpa using hz) hu (λj h1 h2=>by simpa using he j (by simpa using h1) (by simpa using h2))
   rw[Mu (by omega)]
   have e:its.toArray.size=ds.length:=by simpa using e1
   rw[e]at q;exact q
  .rw[Mt (by omega)]
   exact SeqAt.RcAt.lists_lengths hl hb (by simpa using hz) hu
 have ne:JN B s (.ref l) (.ref b) (!eqDs ds es):=by
  by_cases hz:its.length=its2.length
  .have q:=SeqAt.RcNeAt.lists (e:=λj=>eqD (ds.getD j .non) (es.getD j .non)) hl hb (by simpa using hz) hu (λj h1 h2=>by simpa using he j (by simpa using h1) (by simpa using h2))
   rw[Mu (by omega)]
   have e:its.toArray.size=ds.length:=by simpa using e1
   rw[e]at q;exact q
  .rw[Mt (by omega)]
   exact SeqAt.RcNeAt.lists_lengths hl hb (by simpa using hz) hu
 refine⟨rc,?_,ne⟩;by_cases hlb:l=b
 .rw[hs hlb,hlb];exact ZN _
 .exact ZM hlb rc
theorem mY{B:A9}{its:Ac Ai}{ds es:Ac D}(hl:s.heap.IsTuple l its.toArray)(hb:s.heap.IsTuple b its2.toArray)(e1:its.length=ds.length)(e2:its2.length=es.length)(hu:B.units<CA)(hs:l=b->eqDs ds es=Aa)(he:∀ j (h1:j<its.length) (h2:j<its2.length),G2 B.in1 s its[j] its2[j] (eqD (ds.getD j .non) (es.getD j .non))):C5 B s (.ref l) (.ref b) (eqDs ds es):=by
 have rc:K3 B s (.ref l) (.ref b) (eqDs ds es):=by
  have q:=SeqAt.RcAt.tuples (e:=λj=>eqD (ds.getD j .non) (es.getD j .non)) hl hb hu (λj h1 h2=>by simpa using he j (by simpa using h1) (by simpa using h2))
  have e:its.toArray.size=ds.length:=by simpa using e1
  have e':its2.toArray.size=es.length:=by simpa using e2
  rw[e,e']at q;by_cases hz:ds.length=es.length
  .rw[Mu hz];rw[hz,YA,EM,XY]at q;rw[hz];exact q
  .rw[Mt hz];rw[Dt.mpr hz,Gd]at q;exact q
 have ne:JN B s (.ref l) (.ref b) (!eqDs ds es):=by
  have q:=SeqAt.RcNeAt.tuples (e:=λj=>eqD (ds.getD j .non) (es.getD j .non)) hl hb hu (λj h1 h2=>by simpa using he j (by simpa using h1) (by simpa using h2))
  have e:its.toArray.size=ds.length:=by simpa using e1
  have e':its2.toArray.size=es.length:=by simpa using e2
  rw[e,e']at q;by_cases hz:ds.length=es.length
  .rw[Mu hz];rw[hz,YA,EM,XY]at q;rw[hz];exact q
  .rw[Mt hz];rw[Dt.mpr hz,Gd]at q;exact q
 refine⟨rc,?_,ne⟩;by_cases hlb:l=b
 .rw[hs hlb,hlb];exact ZN _
 .exact ZM hlb rc
theorem MF{pI:Pn}{U:L2.St}{H:Hp}{s:Ar}(I:Inv X pI U H s):∀(n:Ag)(d e:D)(v w':V)(u t:Ai)(B:A9),flD n d=Aa->flD n e=Aa->Rep X.K CL H A0 v d->Rep X.K CL H A0 w' e->BU v u->BU w' t->B.units+n<CA->C5 B s u t (eqD d e)
  |n,d,e,v,w',u,t,B,hd,he,r,q,rv,rw',hu=>by
    have hu0:B.units<CA:=by omega
    have sd:=VL I hd r rv;have se:=VL I he q rw'
    match d,e,sd,se with
    |.non,.non,s1,s2=>cases s1;cases s2;exact j4
    |.non,.bl b,s1,s2=>cases s1;cases s2;exact j7 b
    |.non,.int b,s1,s2=>cases s1;obtain⟨_,rfl⟩:=s2;exact j6 b _
    |.non,.str b,s1,s2=>cases s1;obtain⟨_,rfl⟩:=s2;exact j3 b _
    |.non,.tup es,s1,s2=>cases s1;obtain⟨_,_,_,rfl,_,_,p⟩:=s2;exact ir p hu0
    |.non,.lst es,s1,s2=>cases s1;obtain⟨_,_,_,rfl,_,_,p⟩:=s2;exact j5 p hu0
    |.bl a,.non,s1,s2=>cases s1;cases s2;exact jl a
    |.bl a,.bl b,s1,s2=>cases s1;cases s2;exact gu a b
    |.bl a,.int b,s1,s2=>cases s1;obtain⟨_,rfl⟩:=s2;exact gr a b _
    |.bl a,.str b,s1,s2=>cases s1;obtain⟨_,rfl⟩:=s2;exact jk a b _
    |.bl a,.tup es,s1,s2=>cases s1;obtain⟨_,_,_,rfl,_,_,p⟩:=s2;exact jj a p hu0
    |.bl a,.lst es,s1,s2=>cases s1;obtain⟨_,_,_,rfl,_,_,p⟩:=s2;exact jm a p hu0
    |.int a,.non,s1,s2=>obtain⟨_,rfl⟩:=s1;cases s2;exact jf a _
    |.int a,.bl b,s1,s2=>obtain⟨_,rfl⟩:=s1;cases s2;exact ji b a _
    |.int a,.int b,s1,s2=>obtain⟨_,rfl⟩:=s1;obtain⟨_,rfl⟩:=s2;exact jh a _ b _
    |.int a,.str b,s1,s2=>obtain⟨_,rfl⟩:=s1;obtain⟨_,rfl⟩:=s2;exact je a _ b _
    |.int a,.tup es,s1,s2=>obtain⟨_,rfl⟩:=s1;obtain⟨_,_,_,rfl,_,_,p⟩:=s2;exact jd a _ p hu0
    |.int a,.lst es,s1,s2=>obtain⟨_,rfl⟩:=s1;obtain⟨_,_,_,rfl,_,_,p⟩:=s2;exact jg a _ p hu0
    |.str a,.non,s1,s2=>obtain⟨_,rfl⟩:=s1;cases s2;exact ij a _
    |.str a,.bl b,s1,s2=>obtain⟨_,rfl⟩:=s1;cases s2;exact iq b a _
    |.str a,.int b,s1,s2=>obtain⟨_,rfl⟩:=s1;obtain⟨_,rfl⟩:=s2;exact io a _ b _
    |.str a,.str b,s1,s2=>obtain⟨_,rfl⟩:=s1;obtain⟨_,rfl⟩:=s2;exact ig a _ b _
    |.str a,.tup es,s1,s2=>obtain⟨_,rfl⟩:=s1;obtain⟨_,_,_,rfl,_,_,p⟩:=s2;exact jw a _ p hu0
    |.str a,.lst es,s1,s2=>obtain⟨_,rfl⟩:=s1;obtain⟨_,_,_,rfl,_,_,p⟩:=s2;exact im a _ p hu0
    |.tup ds,.non,s1,s2=>cases s2;obtain⟨_,_,_,rfl,_,_,p⟩:=s1;exact js p hu0
    |.tup ds,.bl b,s1,s2=>cases s2;obtain⟨_,_,_,rfl,_,_,p⟩:=s1;exact jv b p hu0
    |.tup ds,.int b,s1,s2=>obtain⟨_,rfl⟩:=s2;obtain⟨_,_,_,rfl,_,_,p⟩:=s1;exact ju b _ p hu0
    |.tup ds,.str b,s1,s2=>obtain⟨_,rfl⟩:=s2;obtain⟨_,_,_,rfl,_,_,p⟩:=s1;exact jr b _ p hu0
    |.tup ds,.lst es,s1,s2=>obtain⟨_,_,_,rfl,_,_,p⟩:=s1;obtain⟨_,_,_,rfl,_,_,p2⟩:=s2;exact jt p p2 hu0
    |.lst ds,.non,s1,s2=>cases s2;obtain⟨_,_,_,rfl,_,_,p⟩:=s1;exact ja p hu0
    |.lst ds,.bl b,s1,s2=>cases s2;obtain⟨_,_,_,rfl,_,_,p⟩:=s1;exact jc b p hu0
    |.lst ds,.int b,s1,s2=>obtain⟨_,rfl⟩:=s2;obtain⟨_,_,_,rfl,_,_,p⟩:=s1;exact jb b _ p hu0
    |.lst ds,.str b,s1,s2=>obtain⟨_,rfl⟩:=s2;obtain⟨_,_,_,rfl,_,_,p⟩:=s1;exact j9 b _ p hu0
    |.lst ds,.tup es,s1,s2=>obtain⟨_,_,_,rfl,_,_,p⟩:=s1;obtain⟨_,_,_,rfl,_,_,p2⟩:=s2;exact j8 p p2 hu0
    |.tup ds,.tup es,s1,s2=>
      match n,hd,he,hu with
      |n+1,hd,he,hu=>
        obtain⟨a,xs,its,rfl,r1,v1,p1⟩:=s1;obtain⟨b,ys,its2,rfl,r2,v2,p2⟩:=s2;have l1:=v1.length;have l2:=r1.length;have l3:=v2.length;have l4:=r2.length
        refine mY p1 p2 (by omega) (by omega) hu0 (λhab=>?_) λj h1 h2=>?_
        · have e1:v=.ref a:=BU.inj rv rfl;have e2:w'=.ref b:=BU.inj rw' rfl;subst e1 e2 hab;have z:=NO I (n+1) _ _ hd he r q
          injection z with z
          rw[z];exact eqDs_refl n es he
        · obtain⟨x,rx,qx⟩:=KJ r1 v1 h1;obtain⟨y,ry,qy⟩:=KJ r2 v2 h2;exact(MF I n _ _ x y _ _ B.in1 (KB hd j) (KB he j) rx ry qx qy (by show B.units+1+n<CA;omega)).2.1
    |.lst ds,.lst es,s1,s2=>
      match n,hd,he,hu with
      |n+1,hd,he,hu=>
        obtain⟨a,xs,its,rfl,r1,v1,p1⟩:=s1;obtain⟨b,ys,its2,rfl,r2,v2,p2⟩:=s2;have l1:=v1.length;have l2:=r1.length;have l3:=v2.length;have l4:=r2.length
        refine mZ p1 p2 (by omega) (by omega) hu0 (λhab=>?_) λj h1 h2=>?_
        · have e1:v=.ref a:=BU.inj rv rfl;have e2:w'=.ref b:=BU.inj rw' rfl;subst e1 e2 hab;have z:=NO I (n+1) _ _ hd he r q
          injection z with z
          rw[z];exact eqDs_refl n es he
        · obtain⟨x,rx,qx⟩:=KJ r1 v1 h1;obtain⟨y,ry,qy⟩:=KJ r2 v2 h2;exact(MF I n _ _ x y _ _ B.in1 (KB hd j) (KB he j) rx ry qx qy (by show B.units+1+n<CA;omega)).2.1
    |.obj _ _,_,s1,_=>exact s1.elim
    |.exc _ _,_,s1,_=>exact s1.elim
    |.dic _,_,s1,_=>exact s1.elim
    |_,.obj _ _,_,s2=>exact s2.elim
    |_,.exc _ _,_,s2=>exact s2.elim
    |_,.dic _,_,s2=>exact s2.elim
end
section
variable{X:Cx}{CL:ClA}{W:XW}
theorem NX(I:Inv X pI U H s){ds:Ac D}{its:Ac Ai}(B:A9)(hd:flD n d=Aa)(hs:ds.all (flD n)=Aa)(r:Reps X.K CL H A0 xs ds)(rv:Bo xs its)(q:Rep X.K CL H A0 v d)(qv:BU v u)(hu:B.units+n<CA):∃ e:Ai->Aj,(∀ y,y∈its.toArray->G2 B s y u (e y))/\its.toArray.any e=ds.any λy=>eqD y d:=by
 have l1:=rv.length;have l2:=r.length
 have key:∀ y,y∈its->∃ k:Aj,G2 B s y u k/\∀ j (h:j<its.length),its[j]=y->eqD (ds.getD j .non) d=k:=λy hy=>by
  obtain⟨j,hj,rfl⟩:=Ds hy;obtain⟨x,rx,qx⟩:=KJ r rv hj;refine⟨eqD (ds.getD j .non) d,(MF I n _ _ x v _ _ B (KB hs j) hd rx q qx qv hu).2.1,λj' hj' e=>?_⟩
  obtain⟨x',rx',qx'⟩:=KJ r rv hj';rw[e]at qx';have z:=BU.inj qx qx';subst z;rw[NO I n _ _ (KB hs j') (KB hs j) rx' rx]
 have key2:∀ y,∃ k:Aj,y∈its->G2 B s y u k/\∀ j (h:j<its.length),its[j]=y->eqD (ds.getD j .non) d=k:=λy=>by
  by_cases hy:y∈its
  .obtain⟨k,hk⟩:=key y hy;exact⟨k,λ_=>hk⟩
  .exact⟨Aa,λh=>absurd h hy⟩
 refine⟨λy=>XZ (key2 y),λy hy=>(Fa (key2 y) (by simpa using hy)).1,?_⟩
 rw[DL];simp only[List.any_toArray,Ez];constructor
 .rintro⟨y,hy,hk⟩;obtain⟨j,hj,rfl⟩:=Ds hy;have z:=(Fa (key2 its[j]) hy).2 j hj rfl;rw[hk]at z;refine⟨ds.getD j .non,?_,z⟩;rw[Eb,CS (by omega)]
  exact EB _
 .rintro⟨y,hy,hk⟩;obtain⟨j,hj,rfl⟩:=Ds hy;have hj':j<its.length:=by omega
  refine⟨its[j],EB _,?_⟩;have z:=(Fa (key2 its[j]) (EB _)).2 j hj' rfl;rw[<-z,Eb,CS hj];exact hk
theorem NC{g:Ae->Ae->Aj}(ho:OpR X (CZ op) (rI0 λi j=>.bl (g i j)))(hg:∀ dx dy,(∃ i j,dx=.int i/\dy=.int j/\B4 op dx dy=.ok (.bl (g i j)))\/B4 op dx dy=.bad):OpD X CL W (CZ op) (B4 op):=by
 intro A pI s U H x y v u Q I rx ry ⟨hA,dx,dy,hx,hy,p⟩;rcases hg dx dy with ⟨i,j,rfl,rfl,e⟩|e
 .have ex:=hx.int_of;have ey:=hy.int_of
  subst ex ey;rw[e]at p;exact ho pI s U H _ _ v u Q I rx ry ⟨i,j,rfl,rfl,p _ H (AH.refl H) rfl⟩
 .rw[e]at p;exact p.elim
theorem Wl{x:V}(h:Dl X.K CL H A x d)(hd:d≠.non):x≠.non:=by
 rintro rfl;have h:=h.plain;cases d with
 |non=>exact hd rfl
 |tup=>obtain⟨_,_,e,_⟩:=h;cases e
 |lst=>obtain⟨_,_,e,_⟩:=h;cases e
 |obj=>obtain⟨_,_,_,_,e,_⟩:=h;cases e
 |exc=>obtain⟨_,_,_,e,_⟩:=h;cases e
 |dic=>exact h.elim
 |_=>cases h
theorem Ly(hu:X.A.units+64<CA)(op:DC):OpD X CL W (CZ op) (B4 op):=by
 cases op with
 |Eq=>
  intro A pI s U H x y v u Q I rx ry ⟨hA,dx,dy,hx,hy,p⟩;rw[aZ]at p;split at p
  .rename_i h;simp only[An]at h;exact(MF I 5 dx dy x y v u X.A h.1 h.2 hx.plain hy.plain rx ry (by omega)).1 X.prog X.w X.xe _ ⟨.bl _,H,I,rfl,p _ H (AH.refl H) rfl⟩
  .exact p.elim
 |NotEq=>
  intro A pI s U H x y v u Q I rx ry ⟨hA,dx,dy,hx,hy,p⟩;rw[ki]at p;split at p
  .rename_i h;simp only[An]at h;exact(MF I 5 dx dy x y v u X.A h.1 h.2 hx.plain hy.plain rx ry (by omega)).2.2 X.prog X.w X.xe _ ⟨.bl _,H,I,rfl,p _ H (AH.refl H) rfl⟩
  .exact p.elim
 |Lt=>
  refine NC m6 λdx dy=>?_
  cases dx with
  |int i=>
   cases dy with
   |int j=>exact .inl ⟨i,j,rfl,rfl,rfl⟩
   |_=>exact .inr rfl
  |_=>exact .inr rfl
 |LtE=>
  refine NC m7 λdx dy=>?_
  cases dx with
  |int i=>
   cases dy with
   |int j=>exact .inl ⟨i,j,rfl,rfl,rfl⟩
   |_=>exact .inr rfl
  |_=>exact .inr rfl
 |Gt=>
  refine NC m8 λdx dy=>?_
  cases dx with
  |int i=>
   cases dy with
   |int j=>exact .inl ⟨i,j,rfl,rfl,rfl⟩
   |_=>exact .inr rfl
  |_=>exact .inr rfl
 |GtE=>
  refine NC m9 λdx dy=>?_
  cases dx with
  |int i=>
   cases dy with
   |int j=>exact .inl ⟨i,j,rfl,rfl,rfl⟩
   |_=>exact .inr rfl
  |_=>exact .inr rfl
 |In=>
  intro A pI s U H x y v u Q I rx ry ⟨hA,dx,dy,hx,hy,p⟩;cases dy with
  |lst es=>
   rw[dJ]at p;split at p
   .rename_i h;simp only[An]at h;obtain⟨a,xs,e,_,sq,r⟩:=hy.plain;subst e;cases ry;obtain⟨its,rv,pl,_⟩:=I.list sq;obtain⟨e,he,ha⟩:=NX I (n:=5) X.A.in1 h.1 h.2 r rv hx.plain rx (by show X.A.units+1+5<CA;omega)
    refine SeqAt.in_listAt e (IK pl) he ?_;rw[ha];exact⟨.bl _,H,I,rfl,p _ H (AH.refl H) rfl⟩
   .exact p.elim
  |tup es=>
   rw[dI]at p;split at p
   .rename_i h;simp only[An]at h;obtain⟨a,xs,e,_,sq,r⟩:=hy.plain;subst e;cases ry;obtain⟨its,rv,pl,_⟩:=I.tuple sq;obtain⟨e,he,ha⟩:=NX I (n:=5) X.A.in1 h.1 h.2 r rv hx.plain rx (by show X.A.units+1+5<CA;omega)
    refine SeqAt.in_tupleAt e pl he ?_;rw[ha];exact⟨.bl _,H,I,rfl,p _ H (AH.refl H) rfl⟩
   .exact p.elim
  |dic kvs=>exact hy.plain.elim
  |_=>exact p.elim
 |NotIn=>
  intro A pI s U H x y v u Q I rx ry ⟨hA,dx,dy,hx,hy,p⟩;cases dy with
  |lst es=>
   rw[mj]at p;split at p
   .rename_i h;simp only[An]at h;obtain⟨a,xs,e,_,sq,r⟩:=hy.plain;subst e;cases ry;obtain⟨its,rv,pl,_⟩:=I.list sq;obtain⟨e,he,ha⟩:=NX I (n:=5) X.A.in1 h.1 h.2 r rv hx.plain rx (by show X.A.units+1+5<CA;omega)
    refine SeqAt.notIn_listAt e (IK pl) he ?_;rw[ha];exact⟨.bl _,H,I,rfl,p _ H (AH.refl H) rfl⟩
   .exact p.elim
  |tup es=>
   rw[mh]at p;split at p
   .rename_i h;simp only[An]at h;obtain⟨a,xs,e,_,sq,r⟩:=hy.plain;subst e;cases ry;obtain⟨its,rv,pl,_⟩:=I.tuple sq;obtain⟨e,he,ha⟩:=NX I (n:=5) X.A.in1 h.1 h.2 r rv hx.plain rx (by show X.A.units+1+5<CA;omega)
    refine SeqAt.notIn_tupleAt e pl he ?_;rw[ha];exact⟨.bl _,H,I,rfl,p _ H (AH.refl H) rfl⟩
   .exact p.elim
  |_=>exact p.elim
 |Is=>
  intro A pI s U H x y v u Q I rx ry ⟨hA,dx,dy,hx,hy,p⟩;cases dy with
  |non=>
   have ey:=hy.non_of;subst ey;refine xA pI s U H _ _ v u Q I rx ry ⟨rfl,?_⟩;cases dx with
   |non=>
    have ex:=hx.non_of;subst ex;exact p _ H (AH.refl H) rfl
   |exc=>exact p.elim
   |dic=>exact p.elim
   |_=>rw[Cp (Wl hx (by simp))];exact p _ H (AH.refl H) rfl
  |bl b=>
   cases dx with
   |bl a=>
    have ey:=hy.bl_of;have ex:=hx.bl_of;subst ex ey;cases rx;cases ry;refine wpAny_is_plain rfl ⟨.bl (a==b),H,I,?_,p _ H (AH.refl H) rfl⟩;cases a<;>cases b<;>rfl
   |_=>exact p.elim
  |_=>cases dx<;>exact p.elim
 |IsNot=>
  intro A pI s U H x y v u Q I rx ry ⟨hA,dx,dy,hx,hy,p⟩;cases dy with
  |non=>
   have ey:=hy.non_of;subst ey;refine pZ pI s U H _ _ v u Q I rx ry ⟨rfl,?_⟩;cases dx with
   |non=>
    have ex:=hx.non_of;subst ex;exact p _ H (AH.refl H) rfl
   |exc=>exact p.elim
   |dic=>exact p.elim
   |_=>rw[Cp (Wl hx (by simp))];exact p _ H (AH.refl H) rfl
  |bl b=>
   cases dx with
   |bl a=>
    have ey:=hy.bl_of;have ex:=hx.bl_of;subst ex ey;cases rx;cases ry;refine wpAny_isNot_plain rfl ⟨.bl (!(a==b)),H,I,?_,p _ H (AH.refl H) rfl⟩;cases a<;>cases b<;>rfl
   |_=>exact p.elim
  |_=>cases dx<;>exact p.elim
end
section
variable{X:Cx}{CL:ClA}{W:XW}{a b c:Ao}{fa fb fc:Rho->R D}{pos:AO}
theorem DF.bind{f:D->R Aj}{Q:Aj->Hp->Prop}{Q':VK}(h:DF W H (r.bind f) Q)(k:∀ d v H',r=.ok d->AH H H'->Rp H' v d->DF W H' (f d) Q->Q' v H'):Bq Rp W H r Q':=by
 cases r with
 |ok d=>exact λv H2 s2 q=>k d v H2 rfl s2 q (DF.same s2 h)
 |exn x=>exact h
 |bad=>exact h
theorem DF.bindB{r:R Aj}{f:Aj->R Aj}{Q:Aj->Hp->Prop}{Q':Aj->Hp->Prop}(h:DF W H (r.bind f) Q)(k:∀ b H',r=.ok b->AH H H'->DF W H' (f b) Q->Q' b H'):DF W H r Q':=by
 cases r with
 |ok d=>exact λH2 s2=>k d H2 rfl s2 (DF.same s2 h)
 |exn x=>exact h
 |bad=>exact h
theorem Ip.bind{Rp:Hp->Ac V->Ac D->Prop}{r:R (Ac D)}{f:Ac D->R D}{Q':Ac V->Hp->Prop}(h:Bq Rq W H (r.bind f) Q)(k:∀ d v H',r=.ok d->AH H H'->Rp H' v d->Bq Rq W H' (f d) Q->Q' v H'):Ip Rp W H r Q':=by
 cases r with
 |ok d=>exact λv H2 s2 q=>k d v H2 rfl s2 q (Bq.same s2 h)
 |exn x=>exact h
 |bad=>exact h
theorem uX(ha:ST X CL W a fa):SE X CL W (.UnaryOp .USub a pos) (λY=>(fa Y).bind λx=>unD .USub x):=λA=>PE.weak (lj wQ (ha A)) λU H Q ⟨hA,Y,g,p⟩=>⟨hA,Y,g,Bq.bind p λd v H1 _ s1 r1 p1=>by
 cases d with
 |int i=>
  have e:=r1.int_of;subst e;exact⟨i,rfl,p1 _ H1 (AH.refl H1) rfl⟩
 | _=>exact p1.elim⟩
theorem Nw{f:Aj->R D}(h:Bq Rq W H ((D7 d).bind f) Q):∃ c,d=.bl c/\Bq Rq W H (f c) Q:=by
 cases d with
 |bl c=>exact⟨c,rfl,h⟩
 |_=>exact h.elim
theorem WS(ha:ST X CL W a fa):SE X CL W (.UnaryOp .Not a pos) (λY=>(fa Y).bind λx=>(D7 x).bind λb=>.ok (.bl (!b))):=λA=>PE.weak (xU (ha A)) λU H Q ⟨hA,Y,g,p⟩=>⟨hA,Y,g,Bq.bind p λd v H1 _ s1 r1 p1=>by
 obtain⟨c,rfl,p2⟩:=Nw p1;exact⟨c,r1.bl_of,p2 _ H1 (AH.refl H1) rfl⟩⟩
theorem QU{op}(ha:SE X CL W a fa):SE X CL W (.BoolOp op [a] pos) fa:=λA=>xT (ha A)
theorem WT{rest:Ac Ao}(ha:SE X CL W a fa)(hb:SE X CL W (.BoolOp .And (b::rest) pos) fb):SE X CL W (.BoolOp .And (a::b::rest) pos) (λY=>(fa Y).bind λx=>(D7 x).bind λc=>if c=Aa then fb Y else .ok (.bl Ad)):=
 λA=>PE.weak (wV (ha A) (hb A)) λU H Q ⟨hA,Y,g,p⟩=>⟨hA,Y,g,Bq.bind p λd v H1 _ s1 r1 p1=>by
  obtain⟨c,rfl,p2⟩:=Nw p1;refine⟨c,r1,?_⟩;cases c with
  |true=>exact⟨hA.same s1,Y,g.same s1,p2⟩
  | false=>exact p2 _ H1 (AH.refl H1) rfl⟩
theorem jp{rest:Ac Ao}(ha:SE X CL W a fa)(hb:SE X CL W (.BoolOp .Or (b::rest) pos) fb):SE X CL W (.BoolOp .Or (a::b::rest) pos) (λY=>(fa Y).bind λx=>(D7 x).bind λc=>if c=Aa then .ok (.bl Aa) else fb Y):=
 λA=>PE.weak (ll (ha A) (hb A)) λU H Q ⟨hA,Y,g,p⟩=>⟨hA,Y,g,Bq.bind p λd v H1 _ s1 r1 p1=>by
  obtain⟨c,rfl,p2⟩:=Nw p1;refine⟨c,r1,?_⟩;cases c with
  |false=>exact⟨hA.same s1,Y,g.same s1,p2⟩
  | true=>exact p2 _ H1 (AH.refl H1) rfl⟩
theorem jJ{op':DC}(hu:X.A.units+64<CA)(ha:ST X CL W a fa)(hb:ST X CL W b fb)(hc:ST X CL W c fc)(hm:JS [op,op'] [b,c]=Ad):SE X CL W (.Compare a [op,op'] [b,c] pos) (λY=>(fa Y).bind λx=>(fb Y).bind λy=>(B4 op x y).bind λz=>(D7 z).bind λk=>if k=Aa then (fc Y).bind λu=>B4 op' y u else .ok (.bl Ad)):=
 λA=>PE.weak (jA (Ly hu op A) (Ly hu op' A) (ha A) (hb A) (hc A) hm) λU H Q ⟨hA,Y,g,p⟩=>⟨hA,Y,g,Bq.bind p λdx x H1 _ s1 r1 p1=>⟨hA.same s1,Y,g.same s1,Bq.bind p1 λdy y H2 _ s2 r2 p2=>
  ⟨(hA.same s1).same s2,dx,dy,r1.same s2,r2,Bq.bind p2 λdz z H3 _ s3 r3 p3=>by
   obtain⟨k,rfl,p4⟩:=Nw p3;refine⟨k,r3,?_⟩;cases k with
   |false=>exact p4 _ H3 (AH.refl H3) rfl
   | true=>exact⟨((hA.same s1).same s2).same s3,Y,((g.same s1).same s2).same s3,Bq.bind p4 λdu u H4 _ s4 r4 p5=>⟨(((hA.same s1).same s2).same s3).same s4,dy,du,(r2.same s3).same s4,r4,p5⟩⟩⟩⟩⟩
theorem rR{xs:Ac D}{i:Ae}(h:EJ xs i=.ok d):∃ k,plD xs.length i=Ab k/\xs[k]?=Ab d:=by
 unfold EJ at h;split at h
 .rename_i k e;split at h
  .rename_i d' e';cases h;exact⟨k,e,e'⟩
  .cases h
 .cases h
theorem NE{xs:Ac D}{i:Ae}(h:EJ xs i=.exn x):Bl:=by
 unfold EJ at h;split at h
 .split at h<;>cases h
 .cases h
theorem V6{ds:Ac D}{i:Ae}(r:Reps K CL H A xs ds)(h:EJ ds i=.ok d):∃ v,atI xs i=Ab v/\Rep K CL H A v d:=by
 obtain⟨k,e,q⟩:=rR h;obtain⟨v,hv,rv⟩:=r.get q;refine⟨v,?_,rv⟩;unfold atI;have:ixN xs.length i=Ab k:=by rw[r.length];exact e
 rw[this];exact hv
theorem vF(hs:QQ b)(ha:ST X CL W a fa)(hb:ST X CL W b fb):SE X CL W (.Subscript a b pos) (λY=>(fa Y).bind λx=>(fb Y).bind λy=>CJ x y):=
 λA=>PE.weak (lq (r:=λx y H Q=>SR X.K x y H Q\/SQ X.K x y H Q) (sQ.or zF) (ha A) (hb A) hs) λU H Q h=>by
  obtain⟨hA,Y,g,h⟩:=op2 h;refine⟨hA,Y,g,?_⟩;cases e:fa Y with
  |bad=>rw[e]at h;exact h
  |exn x=>rw[e]at h;exact h
  |ok dx0=>
   rw[e]at h;intro x H1 s1 r1;obtain⟨hA1,Y1,g1,h1⟩:=h x H1 s1 r1;refine⟨hA1,Y1,g1,?_⟩;cases e1:fb Y1 with
   |bad=>rw[e1]at h1;exact h1
   |exn x=>rw[e1]at h1;exact h1
   |ok dy0=>
    rw[e1]at h1;intro y H2 s2 r2;obtain⟨hA2,dx,dy,rx,ry,p⟩:=h1 y H2 s2 r2;cases dy with
    |int i=>
     have ey:=ry.int_of;subst ey;cases dx with
     |lst ds=>
      obtain⟨q,xs,rfl,sq,r⟩:=rx.lst_of;rw[k7]at p;cases e2:EJ ds i with
      |ok d=>
       rw[e2]at p;obtain⟨v,hv,rv⟩:=V6 r e2;exact .inl ⟨q,xs,i,v,rfl,rfl,sq,hv,p v H2 (AH.refl H2) rv⟩
      |exn x=>exact(NE e2).elim
      |bad=>rw[e2]at p;exact p.elim
     |tup ds=>
      obtain⟨q,xs,rfl,_,sq,r⟩:=rx.tup_of;rw[k6]at p;cases e2:EJ ds i with
      |ok d=>
       rw[e2]at p;obtain⟨v,hv,rv⟩:=V6 r e2;exact .inr ⟨q,xs,i,v,rfl,rfl,sq,hv,p v H2 (AH.refl H2) rv⟩
      |exn x=>exact(NE e2).elim
      |bad=>rw[e2]at p;exact p.elim
     |dic=>exact rx.plain.elim
     |_=>exact p.elim
    |_=>cases dx<;>first|exact p.elim|exact rx.plain.elim
theorem WU:SA X CL W [] (λ_=>.ok []):=λA=>PA.weak Gs λU H Q ⟨hA,Y,g,p⟩=>p [] H (AH.refl H) trivial
theorem Vo(ha:SE X CL W a fa)(hs:SA X CL W es fs)(hst:Ax (a::es) X.env=(Ad,eval a X.env)::Ax es X.env):SA X CL W (a::es) (λY=>(fa Y).bind λx=>(fs Y).bind λxs=>.ok (x::xs)):=
 λA=>PA.weak (Ee (ha A) (hs A) hst) λU H Q ⟨hA,Y,g,p⟩=>by
  dsimp only at p;refine⟨hA,Y,g,?_⟩;cases e:fa Y with
  |bad=>rw[e]at p;exact p
  |exn x=>rw[e]at p;exact p
  |ok d=>
   rw[e]at p;intro v H1 s1 r1;refine⟨hA.same s1,Y,g.same s1,?_⟩;cases e1:fs Y with
   |bad=>rw[R.bind_ok,e1]at p;exact p
   |exn x=>rw[R.bind_ok,e1]at p;exact λH2 s2=>p H2 (s1.trans s2)
   |ok ds=>
    rw[R.bind_ok,e1]at p;exact λvs H2 s2 r2=>p (v::vs) H2 (s1.trans s2) ⟨r1.same s2,r2⟩
theorem WQ(hs:SA X CL W es fs)(hz:∀ Y ds,fs Y=.ok ds->ds.length<=100000):SE X CL W (.Tuple es k pos) (λY=>(fs Y).bind λxs=>.ok (.tup xs)):=
 λA=>PE.weak (WW (hs A)) λU H Q ⟨hA,Y,g,p⟩=>⟨hA,Y,g,Ip.bind p λds vs H1 e s1 r1 p1=>⟨by
  rw[r1.length,DA];have:=hz Y ds e;omega,λq hq=>p1 _ _ (GL hq _) (Lz (hA.same s1) hq r1)⟩⟩
def KR(W:XW)(H:Hp)(r:R (Ap Ae))(Q:Ap Ae->Hp->Prop):Prop:=match r with
  |.ok o=>∀ H',AH H H'->Q o H'
  |.exn x=>∀ H',AH H H'->W x H'
  |.bad=>Bl
theorem KR.bind{r:R (Ap Ae)}{f:Ap Ae->R D}(h:Bq Rq W H (r.bind f) Q)(k:∀ o H',r=.ok o->AH H H'->Bq Rq W H' (f o) Q->Q' o H'):KR W H r Q':=by
 cases r with
 |ok d=>exact λH2 s2=>k d H2 rfl s2 (Bq.same s2 h)
 |exn x=>exact h
 |bad=>exact h
def SO(X:Cx)(CL:ClA)(W:XW)(e:Ap Ao)(f:Rho->R (Ap Ae)):Prop:=∀ A,PO X e (λU H Q=>AOk H A/\∃ Y,Good X.K CL A Y U H/\KR W H (f Y) Q)
theorem PO.weak{e:Ap Ao}{t t':TO}(h:PO X e t)(k:∀ U H Q,t' U H Q->t U H Q):PO X e t':=λpI s U H Q I q=>h pI s U H Q I (k _ _ _ q)
theorem oB:SO X CL W Af (λ_=>.ok Af):=λA=>PO.weak rG λU H Q ⟨hA,Y,g,p⟩=>p H (AH.refl H)
theorem oA(ha:ST X CL W a fa):SO X CL W (Ab a) (λY=>(fa Y).bind λd=>(Gb d).bind λi=>.ok (Ab i)):=λA=>PO.weak (rF (ha A)) λU H Q ⟨hA,Y,g,p⟩=>by
 dsimp only at p;refine⟨hA,Y,g,?_⟩;cases e:fa Y with
 |bad=>rw[e]at p;exact p
 |exn x=>rw[e]at p;exact p
 |ok d=>
  rw[e]at p;intro v H1 s1 r1;cases d with
  |int i=>exact⟨i,r1.int_of,p H1 s1⟩
  |_=>exact p.elim
theorem VV{ds:Ac D}(lo hi:Ap Ae)(r:Reps K CL H A xs ds):Reps K CL H A (Kh xs lo hi) (KZ ds lo hi):=by
 unfold Kh KZ;have e:∀ d o,HT.sIx xs.length d o=Hb ds.length d o:=λd o=>by rw[r.length];cases o<;>rfl
 rw[e,e,r.length];exact(r.drop _).take _
end
section
variable{X:Cx}{CL:ClA}{W:XW}{a b c:Ao}{fa fb fc:Rho->R D}{pos:AO}
def Hq(K:Fg)(CL:ClA)(H:Hp)(A:Al->Prop):Ac V->Ac D->Prop
 |[],[]=>Ii
 |v::vs,d::ds=>Dl K CL H A v d/\Hq K CL H A vs ds
 |_,_=>Bl
theorem Hq.same{K:Fg}{H H':Hp}{A:Al->Prop}(s:AH H H'):∀{vs:Ac V}{ds:Ac D},Hq K CL H A vs ds->Hq K CL H' A vs ds
 |[],[],h=>h
 |_::_,_::_,h=>⟨h.1.same s,Hq.same s h.2⟩
 |[],_::_,h=>h.elim
 |_::_,[],h=>h.elim
theorem Hq.one{vs:Ac V}(h:Hq K CL H A vs [d]):∃ v,vs=[v]/\Dl K CL H A v d:=by
 cases vs with
 |nil=>exact h.elim
 |cons v vs=>
  cases vs with
  |nil=>exact⟨v,rfl,h.1⟩
  |cons=>exact h.2.elim
def SAT(X:Cx)(CL:ClA)(W:XW)(es:Ac Ao)(f:Rho->R (Ac D)):Prop:=∀ A,PA X es (λU H Q=>AOk H A/\∃ Y,Good X.K CL A Y U H/\Ip (λH=>Hq X.K CL H A) W H (f Y) Q)
theorem mW:SAT X CL W [] (λ_=>.ok []):=λA=>PA.weak Gs λU H Q ⟨hA,Y,g,p⟩=>p [] H (AH.refl H) trivial
theorem jL(ha:ST X CL W a fa)(hs:SAT X CL W es fs)(hst:Ax (a::es) X.env=(Ad,eval a X.env)::Ax es X.env):SAT X CL W (a::es) (λY=>(fa Y).bind λx=>(fs Y).bind λxs=>.ok (x::xs)):=
 λA=>PA.weak (Ee (ha A) (hs A) hst) λU H Q ⟨hA,Y,g,p⟩=>by
  dsimp only at p;refine⟨hA,Y,g,?_⟩;cases e:fa Y with
  |bad=>rw[e]at p;exact p
  |exn x=>rw[e]at p;exact p
  |ok d=>
   rw[e]at p;intro v H1 s1 r1;refine⟨hA.same s1,Y,g.same s1,?_⟩;cases e1:fs Y with
   |bad=>rw[R.bind_ok,e1]at p;exact p
   |exn x=>rw[R.bind_ok,e1]at p;exact λH2 s2=>p H2 (s1.trans s2)
   |ok ds=>
    rw[R.bind_ok,e1]at p;exact λvs H2 s2 r2=>p (v::vs) H2 (s1.trans s2) ⟨r1.same s2,r2⟩
def KS(X:Cx)(CL:ClA)(W:XW)(f:Ai)(g:Ac D->R D):Prop:=∀ A,J7 X f (λxs H Q=>AOk H A/\∃ ds,Hq X.K CL H A xs ds/\Bq (λH=>Rep X.K CL H A) W H (g ds) Q)
theorem N2{x:Ak}{id:DB}{g:Ac D->R D}(hc:KS X CL W (.builtin id) g)(hg:Gl X x)(hm:X.mg x=Af)(hv:Dz x=Ab (.builtin id))(ha:SAT X CL W (e::es) fs)(hn:x≠"__name__")(hdb:(x==("__debug__" : Ak))=Ad)(he:Ax (e::es) X.env=(Ad,eval e X.env)::Ax es X.env)(hpl:∀ pos,(Cd pos (Ax es X.env)).any (·.1)=Ad):SE X CL W (.Call (.Name x p) (e::es) [] pos) (λY=>(fs Y).bind g):=λA=>PE.weak (Mr (hc A) hg hm hv (ha A) hn hdb he (hpl _)) λU H Q ⟨hA,Y,gd,q⟩=>⟨hA,Y,gd,Ip.bind q λds vs H1 _ s1 r1 p1=>⟨hA.same s1,ds,r1,p1⟩⟩
theorem xZ{x:Ak}{g:Ac D->R D}(hc:KS X CL W (.type T) g)(hg:Gl X x)(hm:X.mg x=Af)(hv:Dz x=Ab (.type T))(ha:SAT X CL W (e::es) fs)(hn:x≠"__name__")(hdb:(x==("__debug__" : Ak))=Ad)(he:Ax (e::es) X.env=(Ad,eval e X.env)::Ax es X.env)(hpl:∀ pos,(Cd pos (Ax es X.env)).any (·.1)=Ad):SE X CL W (.Call (.Name x p) (e::es) [] pos) (λY=>(fs Y).bind g):=λA=>PE.weak (Ut (hc A) hg hm hv (ha A) hn hdb he (hpl _)) λU H Q ⟨hA,Y,gd,q⟩=>⟨hA,Y,gd,Ip.bind q λds vs H1 _ s1 r1 p1=>⟨hA.same s1,ds,r1,p1⟩⟩
theorem bj:KS X CL W (.builtin "len") (biD .len):=by
  intro A pI s U H xs us Q I r ⟨hA,ds,rs,p⟩
  match ds,rs,p with
  |[.lst es],rs,p=>
    obtain⟨v,rfl,rv⟩:=rs.one;obtain⟨q,ys,rfl,sq,ry⟩:=rv.lst_of;exact Tu pI s U H _ us Q I r ⟨q,ys,rfl,.inl sq,p _ H (AH.refl H) (by rw[ry.length];rfl)⟩
  |[.tup es],rs,p=>
    obtain⟨v,rfl,rv⟩:=rs.one;obtain⟨q,ys,rfl,_,sq,ry⟩:=rv.tup_of;exact Tu pI s U H _ us Q I r ⟨q,ys,rfl,.inr sq,p _ H (AH.refl H) (by rw[ry.length];rfl)⟩
  |[.str x],rs,p=>
    obtain⟨v,rfl,rv⟩:=rs.one;have e:=rv.str_of;subst e;have p':Bq (λH=>Rep X.K CL H A) W H (if DR x.length=Aa then .ok (.int x.length) else .bad) Q:=p
    split at p'
    · rename_i h;exact eS pI s U H _ us Q I r ⟨x,rfl,Jl h,p' _ H (AH.refl H) rfl⟩
    · exact p'.elim
  |[],_,p=>exact p.elim
  |[.non],_,p=>exact p.elim
  |[.bl _],_,p=>exact p.elim
  |[.int _],_,p=>exact p.elim
  |[.obj _ _],_,p=>exact p.elim
  |[.exc _ _],_,p=>exact p.elim
  |[.dic _],rs,p=>first|exact p.elim|(obtain⟨v,rfl,rv⟩:=rs.one;exact rv.plain.elim)
  |x::_::_,_,p=>cases x<;>exact p.elim
theorem kR:KS X CL W (.type "tuple") (biD .tuple):=by
  intro A pI s U H xs us Q I r ⟨hA,ds,rs,p⟩
  match ds,rs,p with
  |[.lst es],rs,p=>
    obtain⟨v,rfl,rv⟩:=rs.one;obtain⟨q,ys,rfl,sq,ry⟩:=rv.lst_of;exact Tw pI s U H _ us Q I r ⟨q,ys,rfl,.inl ⟨sq,λl hl=>p _ _ (GL hl _) (Lz hA hl ry)⟩⟩
  |[.tup es],rs,p=>
    obtain⟨v,rfl,rv⟩:=rs.one;obtain⟨q,ys,rfl,na,sq,ry⟩:=rv.tup_of;exact Tw pI s U H _ us Q I r ⟨q,ys,rfl,.inr ⟨sq,p _ H (AH.refl H) ⟨q,ys,rfl,na,sq,ry⟩⟩⟩
  |[],_,p=>exact p.elim
  |[.non],_,p=>exact p.elim
  |[.bl _],_,p=>exact p.elim
  |[.int _],_,p=>exact p.elim
  |[.str _],_,p=>exact p.elim
  |[.obj _ _],_,p=>exact p.elim
  |[.exc _ _],_,p=>exact p.elim
  |[.dic _],rs,p=>first|exact p.elim|(obtain⟨v,rfl,rv⟩:=rs.one;exact rv.plain.elim)
  |x::_::_,_,p=>cases x<;>exact p.elim
end
section
variable{X:Cx}{CL:ClA}{W:XW}{a b c:Ao}{fa fb fc:Rho->R D}{pos:AO}
theorem SB.congr{g:Rho->R Aj}(h:SB X CL W a f)(e:∀ Y,g Y=f Y):SB X CL W a g:=λA=>PT.weak (h A) λU H Q ⟨hA,Y,q,p⟩=>⟨hA,Y,q,by rw[<-e];exact p⟩
theorem yB(ha:SB X CL W a f):SB X CL W (.UnaryOp .Not a pos) (λY=>(f Y).bind λb=>.ok (!b)):=λA=>PT.weak (xL (ha A)) λU H Q ⟨hA,Y,g,p⟩=>⟨hA,Y,g,DF.bindB p λb H1 _ s1 p1=>p1 H1 (AH.refl H1)⟩
def SW(X:Cx)(CL:ClA)(W:XW)(e:Ao)(f:Rho->R Aj):Prop:=∀ A,PW X e (λU H Q=>AOk H A/\∃ Y,Good X.K CL A Y U H/\DF W H (f Y) Q)
theorem PW.weak{t t':TT}(h:PW X e t)(k:∀ U H Q,t' U H Q->t U H Q):PW X e t':=λwh pI s U H Q I q=>h wh pI s U H Q I (k _ _ _ q)
theorem SW.sb(h:SW X CL W a f):SB X CL W a f:=λA=>PW.pt (h A)
theorem SW.congr{g:Rho->R Aj}(h:SW X CL W a f)(e:∀ Y,g Y=f Y):SW X CL W a g:=λA=>PW.weak (h A) λU H Q ⟨hA,Y,q,p⟩=>⟨hA,Y,q,by rw[<-e];exact p⟩
theorem nK(ha:SB X CL W a f):SW X CL W (.BoolOp .And [a] pos) f:=λA=>qY (ha A)
theorem vO(ha:SB X CL W a f):SW X CL W (.BoolOp .Or [a] pos) f:=λA=>xJ (ha A)
theorem vP{g:Rho->R Aj}{rest:Ac Ao}(ha:SB X CL W a f)(hb:SW X CL W (.BoolOp .And (b::rest) pos) g):SW X CL W (.BoolOp .And (a::b::rest) pos) (λY=>(f Y).bind λc=>if c=Aa then g Y else .ok Ad):=
 λA=>PW.weak (xK (ha A) (hb A)) λU H Q ⟨hA,Y,gd,p⟩=>⟨hA,Y,gd,DF.bindB p λc H1 _ s1 p1=>by
  cases c with
  |true=>exact⟨hA.same s1,Y,gd.same s1,p1⟩
  | false=>exact p1 H1 (AH.refl H1)⟩
theorem fj{g:Rho->R Aj}{rest:Ac Ao}(ha:SB X CL W a f)(hb:SW X CL W (.BoolOp .Or (b::rest) pos) g):SW X CL W (.BoolOp .Or (a::b::rest) pos) (λY=>(f Y).bind λc=>if c=Aa then .ok Aa else g Y):=
 λA=>PW.weak (lc (ha A) (hb A)) λU H Q ⟨hA,Y,gd,p⟩=>⟨hA,Y,gd,DF.bindB p λc H1 _ s1 p1=>by
  cases c with
  |false=>exact⟨hA.same s1,Y,gd.same s1,p1⟩
  | true=>exact p1 H1 (AH.refl H1)⟩
theorem yC(ho:OpD X CL W (CZ op) g)(ha:ST X CL W a fa)(hb:ST X CL W b fb)(hm:HE op b=Ad):SB X CL W (.Compare a [op] [b] pos) (λY=>(fa Y).bind λx=>(fb Y).bind λy=>(g x y).bind D7):=
 λA=>PT.weak (rB (ho A) (ha A) (hb A) hm) λU H Q ⟨hA,Y,gd,p⟩=>⟨hA,Y,gd,DF.bind p λdx x H1 _ s1 r1 p1=>⟨hA.same s1,Y,gd.same s1,DF.bind p1 λdy y H2 _ s2 r2 p2=>
  ⟨(hA.same s1).same s2,dx,dy,r1.same s2,r2,DF.bind p2 λdz z H3 _ s3 r3 p3=>by
   cases dz with
   |bl k=>exact⟨k,r3,p3 H3 (AH.refl H3)⟩
   | _=>exact p3.elim⟩⟩⟩
theorem jK{op':DC}(hu:X.A.units+64<CA)(ha:ST X CL W a fa)(hb:ST X CL W b fb)(hc:ST X CL W c fc)(hm:JS [op,op'] [b,c]=Ad):SB X CL W (.Compare a [op,op'] [b,c] pos) (λY=>(fa Y).bind λx=>(fb Y).bind λy=>(B4 op x y).bind λz=>(D7 z).bind λk=>if k=Aa then (fc Y).bind λu=>(B4 op' y u).bind D7 else .ok Ad):=
  λA=>PT.weak (iT (Ly hu op A) (Ly hu op' A) (ha A) (hb A) (hc A) hm) λU H Q ⟨hA,Y,g,p⟩=>⟨hA,Y,g,DF.bind p λdx x H1 _ s1 r1 p1=>⟨hA.same s1,Y,g.same s1,DF.bind p1 λdy y H2 _ s2 r2 p2=>
    ⟨(hA.same s1).same s2,dx,dy,r1.same s2,r2,DF.bind p2 λdz z H3 _ s3 r3 p3=>by
      cases dz with
      |bl k=>
        refine⟨k,r3,?_⟩;cases k with
        |false=>exact⟨Ad,rfl,p3 H3 (AH.refl H3)⟩
        | true=>exact⟨((hA.same s1).same s2).same s3,Y,((g.same s1).same s2).same s3,DF.bind p3 λdu u H4 _ s4 r4 p5=>⟨(((hA.same s1).same s2).same s3).same s4,dy,du,(r2.same s3).same s4,r4,DF.bind p5 λdv v H5 _ s5 r5 p6=>by
            cases dv with
            |bl k'=>exact⟨k',r5,p6 H5 (AH.refl H5)⟩
            | _=>exact p6.elim⟩⟩
      | _=>exact p3.elim⟩⟩⟩
theorem yA(ha:ST X CL W a fa)(he:∀ whole,Ja a X.env whole=(do let v <-whole;standAt a.pos;holding [v] (truthy v))):SB X CL W a (λY=>(fa Y).bind Cu):=
 λA=>PT.weak (iS (ha A) he) λU H Q ⟨hA,Y,g,p⟩=>⟨hA,Y,g,DF.bind p λd v H1 _ s1 r1 p1=>by
  cases d with
  |non=>
   have e:=r1.non_of;subst e;exact⟨Ad,rfl,p1 H1 (AH.refl H1)⟩
  |bl b=>
   have e:=r1.bl_of;subst e;exact⟨b,rfl,p1 H1 (AH.refl H1)⟩
  |int i=>
   have e:=r1.int_of;subst e;exact⟨_,rfl,p1 H1 (AH.refl H1)⟩
  |str x=>
   have e:=r1.str_of;subst e;have p2:DF W H1 (if DR x.length=Aa then .ok (x.length != 0) else .bad) Q:=p1
   split at p2
   .rename_i h;refine⟨_,⟨Jl h,rfl⟩,?_⟩;have e:((x.length:Ae) != 0)=(x.length != 0):=by
     rw[DL];simp
    rw[e];exact p2 H1 (AH.refl H1)
   .exact p2.elim
  |tup ds=>
   obtain⟨q,xs,rfl,_,sq,r⟩:=r1.tup_of;refine⟨_,.inr (.inl ⟨xs,sq,rfl⟩),?_⟩;have e:xs.isEmpty=ds.isEmpty:=by
    have:=r.length;cases xs<;>cases ds<;>first|rfl|cases this
   rw[e];exact p1 H1 (AH.refl H1)
  |lst ds=>
   obtain⟨q,xs,rfl,sq,r⟩:=r1.lst_of;refine⟨_,.inl ⟨xs,sq,rfl⟩,?_⟩;have e:xs.isEmpty=ds.isEmpty:=by
    have:=r.length;cases xs<;>cases ds<;>first|rfl|cases this
   rw[e];exact p1 H1 (AH.refl H1)
  | _=>exact p1.elim⟩
noncomputable def dY(K:Fg)(CL:ClA)(H:Hp)(A:Al->Prop)(cls:Ai)(dx:Ap Al)(x:Ex):Prop:=
 ∃ C,CL x.c=Ab C/\cls=.ref C/\(x.fs=[]\/∃ d vs,dx=Ab d/\¬ A d/\H d=Ab (.xd vs)/\Repf K CL H A vs x.fs)
def GQ(K:Fg)(CL:ClA)(H:Hp)(cls:Ai)(dx:Ap Al)(x:Ex):Prop:=∀ A,AOk H A->dY K CL H A cls dx x
end
def B6(B:Al->Prop)(Y:Rho)(U:L2.St):Al->Prop:=λa=>B a\/∃(j:Ag)(d:D),Y[j]?=Ab (Ab (d,Aa))/\U[j]?=Ab (Ab (.ref a))
structure Sx (K:Fg) (CL:ClA) (Fz:Al->HO->Prop) (B:Al->Prop) (Y:Rho) (U:L2.St) (H:Hp):Prop where
 good:Good K CL (B6 B Y U) Y U H
 aok:AOk H (B6 B Y U)
 new:∀(j:Ag)(d:D)(a:Al),Y[j]?=Ab (Ab (d,Aa))->U[j]?=Ab (Ab (.ref a))->(∀ o,¬ Fz a o)/\¬ B a
 dis:∀(i j:Ag)(d e:D)(a:Al),Y[i]?=Ab (Ab (d,Aa))->Y[j]?=Ab (Ab (e,Aa))->U[i]?=Ab (Ab (.ref a))->U[j]?=Ab (Ab (.ref a))->i=j
 same:∀ b o,Fz b o->H b=Ab o
 len:Y.length=U.length
def Cj(K:Fg)(CL:ClA)(Fz:Al->HO->Prop)(B:Al->Prop)(W:XW)(o:O)(D:Ends):Prop:=match o with
  |.next Y=>∀ U H,Sx K CL Fz B Y U H->D.nx U H
  |.brk Y=>∀ U H,Sx K CL Fz B Y U H->D.bk U H
  |.cont Y=>∀ U H,Sx K CL Fz B Y U H->D.ct U H
  |.ret d fr=>∀ v H,(∀ b o,Fz b o->H b=Ab o)->Rep K CL H B v d->(fr=Aa->∀ ds,d=.lst ds->∃ a xs,v=.ref a/\(∀ o,¬ Fz a o)/\H a=Ab (.lst xs)/\Reps K CL H (λb=>B b\/b=a) xs ds)->D.rt v H
  |.exn x _=>∀ H,(∀ b o,Fz b o->H b=Ab o)->W x H
  |.bad=>Bl
section
variable{K:Fg}{CL:ClA}{Fz Fy:Al->HO->Prop}{B:Al->Prop}{Y:Rho}{U:L2.St}{H H':Hp}
theorem Sx.mono(k:∀ b o,Fz b o->Fy b o)(x:Sx K CL Fy B Y U H):Sx K CL Fz B Y U H:=⟨x.good,x.aok,λj d a h1 h2=>⟨λo z=>(x.new j d a h1 h2).1 o (k _ _ z),(x.new j d a h1 h2).2⟩,x.dis,λb o z=>x.same b o (k _ _ z),x.len⟩
theorem Sx.grow(x:Sx K CL Fz B Y U H)(s:AH H H'):Sx K CL Fz B Y U H':=⟨x.good.same s,x.aok.same s,x.new,x.dis,λb o z=>s _ _ (x.same b o z),x.len⟩
theorem CI{l:Ac α}{v:α}(h:i≠j):(l.set i v)[j]?=l[j]?:=by rw[GV h]
theorem Hm{l:Ac α}{v w':α}(h:(l.set i v)[i]?=Ab w'):w'=v:=by
 rw[Gj]at h;cases e:l[i]? with
 |none=>rw[e]at h;cases h
 |some x=>rw[e]at h;cases h;rfl
theorem Sx.set(x:Sx K CL Fz B Y U H){v:V}{d:D}(i:Ag)(r:Rep K CL H (B6 B Y U) v d):Sx K CL Fz B (Y.set i (Ab (d,Ad))) (U.set i (Ab v)) H:=by
 have own:∀(j:Ag)(e:D),(Y.set i (Ab (d,Ad)))[j]?=Ab (Ab (e,Aa))->i≠j/\Y[j]?=Ab (Ab (e,Aa)):=λj e h=>by
  by_cases hj:i=j
  .subst hj;have:=Hm h;cases this
  .exact⟨hj,by rw[CI hj]at h;exact h⟩
 have sub:∀ a,B6 B (Y.set i (Ab (d,Ad))) (U.set i (Ab v)) a->B6 B Y U a:=λa h=>by
  rcases h with h|⟨j,e,h1,h2⟩
  .exact .inl h
  .obtain⟨hj,h1⟩:=own j e h1;rw[CI hj]at h2;exact .inr ⟨j,e,h1,h2⟩
 refine⟨⟨λj e h=>?_,λj e h=>?_,by rw[Bp,Bp];exact x.len⟩,λa h=>x.aok a (sub a h),λj e a h1 h2=>?_,λj k e f a h1 h2 h3 h4=>?_,x.same,by rw[Bp,Bp];exact x.len⟩
 .by_cases hj:i=j
  .subst hj;have e1:=Hm h;cases e1;refine⟨v,?_,Rep.sub sub _ r⟩;have hl:i<U.length:=by
    rw[<-x.len];have:=(Bh.mp h).1;simpa using this
   rw[Dx hl]
  .rw[CI hj]at h;obtain⟨w',q,rw'⟩:=x.good.sh j e h;exact⟨w',by rw[CI hj];exact q,Rep.sub sub _ rw'⟩
 .obtain⟨hj,h1⟩:=own j e h;obtain⟨a,xs,ds,q,z,ha,hh,rr⟩:=x.good.ow j e h1;exact⟨a,xs,ds,by rw[CI hj];exact q,z,.inr ⟨j,e,h,by rw[CI hj];exact q⟩,hh,Reps.sub sub _ rr⟩
 .obtain⟨hj,h1⟩:=own j e h1;rw[CI hj]at h2;exact x.new j e a h1 h2
 .obtain⟨hj,h1⟩:=own j e h1;obtain⟨hk,h2⟩:=own k f h2;rw[CI hj]at h3;rw[CI hk]at h4;exact x.dis j k e f a h1 h2 h3 h4
end
section
variable{X:Cx}{CL:ClA}{W:XW}{pos:AO}{e:Ao}{fe:Rho->R D}
def SS(X:Cx)(CL:ClA)(W:XW)(st:AY)(f:Rho->O):Prop:=∀ Fz B,PS X st (λD U H=>∃ Y,Sx X.K CL Fz B Y U H/\Cj X.K CL Fz B W (f Y) D)
def SSs(X:Cx)(CL:ClA)(W:XW)(st:Ac AY)(f:Rho->O):Prop:=∀ Fz B,PSs X st (λD U H=>∃ Y,Sx X.K CL Fz B Y U H/\Cj X.K CL Fz B W (f Y) D)
theorem PS.weak{e:AY}{t t':TS}(h:PS X e t)(k:∀ D U H,t' D U H->t D U H):PS X e t':=λpI s U H D I q=>h pI s U H D I (k _ _ _ q)
theorem PSs.weak{e:Ac AY}{t t':TS}(h:PSs X e t)(k:∀ D U H,t' D U H->t D U H):PSs X e t':=λpI s U H D I q=>h pI s U H D I (k _ _ _ q)
theorem Cj.ex{f:D->O}(x:Sx X.K CL Fz B Y U H)(h:Cj X.K CL Fz B W (O.of Y r f) D')(k:∀ d v H',r=.ok d->AH H H'->Rp H' v d->Sx X.K CL Fz B Y U H'->Cj X.K CL Fz B W (f d) D'->Q v H'):Bq Rp W H r Q:=by
 cases r with
 |ok d=>exact λv H' s r=>k d v H' rfl s r (x.grow s) h
 |exn y=>exact λH' s=>h H' λb o z=>s _ _ (x.same b o z)
 |bad=>exact h
theorem Cj.exB{r:R Aj}{f:Aj->O}{Q:Aj->Hp->Prop}(x:Sx X.K CL Fz B Y U H)(h:Cj X.K CL Fz B W (O.of Y r f) D')(k:∀ b H',r=.ok b->AH H H'->Sx X.K CL Fz B Y U H'->Cj X.K CL Fz B W (f b) D'->Q b H'):DF W H r Q:=by
 cases r with
 |ok d=>exact λH' s=>k d H' rfl s (x.grow s) h
 |exn y=>exact λH' s=>h H' λb o z=>s _ _ (x.same b o z)
 |bad=>exact h
theorem nX(he:SE X CL W e fe)(hs:Dd e Af pos.line X.env=pure Ad):SS X CL W (.Expr e pos) (λY=>O.of Y (fe Y) λ_=>.next Y):=λFz B pI s U H D I ⟨Y,x,p⟩=>
 KD (he (B6 B Y U)) hs pI s U H D I ⟨x.aok,Y,x.good,Cj.ex x p λd v H' _ s r x' q=>q U H' x'⟩
theorem vW{n:Ak}(hN:X.N.Nodup)(hi:X.N[i]?=Ab n)(hx:Loc X.env.scope n)(he:SE X CL W e fe)(hs:Dd e (Ab (.Name n pos')) pos.line X.env=pure Ad)(hf:X.fn n=Aa\/X.env.scope.names.lookup n=Ab .local):SS X CL W (.Assign [.Name n pos'] e pos) (λY=>O.of Y (fe Y) λd=>.next (Y.set i (Ab (d,Ad)))):=λFz B pI s U H D I ⟨Y,x,p⟩=>
 N5 hN hi hx (he (B6 B Y U)) hs hf pI s U H D I ⟨x.aok,Y,x.good,Cj.ex x p λd v H' _ s r x' q=>q _ H' (x'.set i r)⟩
theorem nS(he:SE X CL W e fe):SS X CL W (.Return (Ab e) pos) (λY=>O.of Y (fe Y) λd=>.ret d Ad):=λFz B pI s U H D I ⟨Y,x,p⟩=>
 QZ (he (B6 B Y U)) pI s U H D I ⟨x.aok,Y,x.good,Cj.ex x p λd v H' _ s r x' q=>q v H' x'.same (Rep.sub (λa h=>.inl h) _ r) λz=>nomatch z⟩
theorem gh{a b:Ac AY}{fa fb:Rho->O}(hc:SB X CL W c fc)(ha:SSs X CL W a fa)(hb:SSs X CL W b fb):SS X CL W (.If c a b pos) (λY=>O.of Y (fc Y) λk=>if k=Aa then fa Y else fb Y):=λFz B pI s U H D I ⟨Y,x,p⟩=>
 lg (hc (B6 B Y U)) (ha Fz B) (hb Fz B) pI s U H D I ⟨x.aok,Y,x.good,Cj.exB x p λk H' _ s x' q=>by
  cases k with
  |true=>exact⟨Y,x',q⟩
  | false=>exact⟨Y,x',q⟩⟩
theorem VF:SSs X CL W [] (λY=>.next Y):=λFz B=>PSs.weak rC λD U H ⟨Y,x,p⟩=>p U H x
theorem QC{st:AY}{rest:Ac AY}{f g:Rho->O}(h1:SS X CL W st f)(h2:SSs X CL W rest g):SSs X CL W (st::rest) (λY=>(f Y).seq g):=λFz B=>PSs.weak (UJ (h1 Fz B) (h2 Fz B)) λD U H ⟨Y,x,p⟩=>⟨Y,x,by
 dsimp only at p;cases e:f Y with
 |next Y'=>rw[e]at p;exact λU' H' x'=>⟨Y',x',p⟩
 |ret d b=>rw[e]at p;exact p
 |brk Y'=>rw[e]at p;exact p
 |cont Y'=>rw[e]at p;exact p
 |exn y Y'=>rw[e]at p;exact p
 | bad=>rw[e]at p;exact p⟩
end
def Jx(K:Fg)(CL:ClA)(A:Al->Prop)(ds:Ac D)(J:It)(H1:Hp):Prop:=∀ H,Kp A H1 H->∀ i:Ag,(ds.length<=i->J.stop i H)/\∀ d,ds[i]?=Ab d->J.go i H/\∀ x H',J.yld i H x H'->AH H H'/\∀ B,(∀ a,B a->A a\/H1 a=Af)->AOk H B->Rep K CL H' B x d
def Fv(K:Fg)(CL:ClA)(A:Al->Prop)(W:XW)(H:Hp)(r:R (Ac D))(Q:It->Hp->Prop):Prop:=match r with
  |.ok ds=>∀ J H',AH H H'->Jx K CL A ds J H'->ds.length<=sizeLine->Q J H'
  |.exn x=>∀ H',AH H H'->W x H'
  |.bad=>Bl
def SI(X:Cx)(CL:ClA)(W:XW)(tg iter:Ao)(f:Rho->R (Ac D)):Prop:=∀ A,PI X tg iter (λU H R=>AOk H A/\∃ Y,Good X.K CL A Y U H/\Fv X.K CL A W H (f Y) R)
theorem PI.weak{t t':TI}(h:PI X tg e t)(k:∀ U H Q,t' U H Q->t U H Q):PI X tg e t':=λpI s U H Q I q=>h pI s U H Q I (k _ _ _ q)
section
variable{X:Cx}{CL:ClA}{W:XW}{pos p:AO}{tg e a b:Ao}{fe fa fb:Rho->R D}
theorem Fv.ex{f:D->R (Ac D)}{Q:It->Hp->Prop}{Q':VK}(h:Fv X.K CL A W H (r.bind f) Q)(k:∀ d v H',r=.ok d->AH H H'->Rp H' v d->Fv X.K CL A W H' (f d) Q->Q' v H'):Bq Rp W H r Q':=by
  cases r with
  | ok d=>exact λv H' s q=>k d v H' rfl s q (by
      have h':Fv X.K CL A W H (f d) Q:=h;cases e:f d with
      |ok ds=>rw[e]at h';exact λJ H2 s2 y z=>h' J H2 (s.trans s2) y z
      |exn y=>rw[e]at h';exact λH2 s2=>h' H2 (s.trans s2)
      | bad=>rw[e]at h';exact h')
  |exn y=>exact h
  |bad=>exact h
theorem Mi{x:V}(r:Rep K CL H1 A x d)(k:Kp A H1 H)(hB:∀ a,B a->A a\/H1 a=Af):Rep K CL H B x d:=by
 have r1:Rep K CL H1 (λa=>A a\/B a) x d:=Rep.wide (λa ha=>ha.elim .inl (hB a)) _ r
 have r2:Rep K CL H (λa=>A a\/B a) x d:=Rep.kp (λb o e na=>k b o e λz=>na (.inl z)) _ r1
 exact Rep.sub (λa ha=>.inr ha) _ r2
theorem fZ{ds:Ac D}(na:¬ A q\/KL K q xs)(s:SqL K H q xs)(r:Reps K CL H A xs ds):Jx K CL A ds (Itl K q) H:=λH' k i=>by
 have s':=Oa k na s;refine⟨λh=>⟨xs,s',by rw[r.length];exact h⟩,λd hd=>?_⟩
 obtain⟨v,hv,rv⟩:=r.get hd;exact⟨⟨xs,v,s',hv⟩,λx H2 ⟨e,y⟩=>by
  subst e;have:=y xs s';rw[hv]at this;cases this;exact⟨AH.refl _,λB hB _=>Mi rv k hB⟩⟩
theorem kJ{ds:Ac D}(na:¬ A q\/KT K q xs)(s:SqT K H q xs)(r:Reps K CL H A xs ds):Jx K CL A ds (Itt K q) H:=λH' k i=>by
 have s':=N9 k na s;refine⟨λh=>⟨xs,s',by rw[r.length];exact h⟩,λd hd=>?_⟩
 obtain⟨v,hv,rv⟩:=r.get hd;exact⟨⟨xs,v,s',hv⟩,λx H2 ⟨e,y⟩=>by
  subst e;have:=y xs s';rw[hv]at this;cases this;exact⟨AH.refl _,λB hB _=>Mi rv k hB⟩⟩
theorem UZ(lo:Ae)(n:Ag):Jx K CL A (D5 lo n) (Itr lo n) H:=λH' k i=>by
 refine⟨λh=>by rw[PM]at h;exact h,λd hd=>?_⟩
 obtain⟨h1,rfl⟩:=lH hd;exact⟨h1,λx H2 ⟨e,y⟩=>by
  subst e y;exact⟨AH.refl _,λ_ _ _=>rfl⟩⟩
theorem xS{l:Ao}{tl:TE}(hl:PE X l tl):PI X tg l (λU H R=>tl U H λx H1=>(∃ a,x=.ref a/\(∃ xs,SqL X.K H1 a xs/\(xs.length<=sizeLine->R (Itl X.K a) H1)))\/∃ a,x=.ref a/\(∃ xs,SqT X.K H1 a xs/\(xs.length<=sizeLine->R (Itt X.K a) H1))):=by
 intro pI s U H R I h;refine thn (hl pI s U H _ I h) λv s1 ⟨x,H1,I1,r1,q1⟩=>?_
 rcases q1 with ⟨a,e,xs,hq,q⟩|⟨a,e,xs,hq,q⟩
 .subst e;cases r1;obtain⟨its,rv,p,hz⟩:=I1.list hq;refine Ej p.isList ?_;refine⟨s1.heap.objs.size,[s1.heap.objs.size],_,_,H1,rfl,I1.kept (t':=s1.toks) λb o e=>As _ e,gP a _,⟨_,Az _ rfl,rfl,rfl⟩,λb hb=>?_,q hz⟩
  have e:b=s1.heap.objs.size:=by simpa using hb
  subst e;exact I1.fpOk (A7 _) (I1.hok.fresh (A7 _))
 .subst e;cases r1;obtain⟨its,rv,p,hz⟩:=I1.tuple hq;refine F6 (show s1.heap.IsTuple a its.toArray from p) ?_
  refine⟨s1.heap.objs.size,[s1.heap.objs.size],_,_,H1,rfl,I1.kept (t':=s1.toks) λb o e=>As _ e,gB a _,⟨_,Az _ rfl,rfl,rfl⟩,λb hb=>?_,q hz⟩
  have e:b=s1.heap.objs.size:=by simpa using hb
  subst e;exact I1.fpOk (A7 _) (I1.hok.fresh (A7 _))
theorem cQ(he:SE X CL W e fe):SI X CL W tg e (λY=>(fe Y).bind Ci):=λA=>PI.weak (xS (he A)) λU H R ⟨hA,Y,g,p⟩=>⟨hA,Y,g,Fv.ex p λd v H1 _ s1 r1 p1=>by
 cases d with
 |lst ds=>
  obtain⟨q,xs,rfl,na,sq,r⟩:=r1;exact .inl ⟨q,rfl,xs,sq,λhz=>p1 _ H1 (AH.refl H1) (fZ na sq r) (by rw[<-r.length];exact hz)⟩
 |tup ds=>
  obtain⟨q,xs,rfl,na,sq,r⟩:=r1;exact .inr ⟨q,rfl,xs,sq,λhz=>p1 _ H1 (AH.refl H1) (kJ na sq r) (by rw[<-r.length];exact hz)⟩
 | _=>exact p1.elim⟩
theorem Uq{lo hi:Ae}{ds:Ac D}(h:DJ lo hi=.ok ds):(-(2 ^ 62)<=lo/\lo<2 ^ 62)/\(-(2 ^ 62)<=hi/\hi<2 ^ 62)/\ds=D5 lo (hi-lo).toNat/\(D5 lo (hi-lo).toNat).length<=sizeLine:=by
 unfold DJ at h;split at h
 .rename_i q;cases h;exact⟨by omega,by omega,rfl,by rw[PM,DA];omega⟩
 .cases h
theorem TM{lo hi:Ae}(h:DJ lo hi=.exn x):Bl:=by
 unfold DJ at h;split at h<;>cases h
theorem wF(ha:ST X CL W a fa)(hg:Gl X "range")(hm:X.mg "range" = Af)(hs:Ax [a] X.env=[(Ad,eval a X.env)]):SI X CL W tg (.Call (.Name "range" p) [a] [] pos) (λY=>(fa Y).bind λx=>(Gb x).bind λj=>DJ 0 j):=
 λA=>PI.weak (gO hg hm (Ee (ha A) Gs hs) hs) λU H R ⟨hA,Y,g,q⟩=>⟨hA,Y,g,Fv.ex q λd v H1 _ s1 r1 p1=>by
  cases d with
  |int j=>
   have e:=r1.int_of;subst e;have p2:Fv X.K CL A W H1 (DJ 0 j) R:=p1;cases e2:DJ 0 j with
   |ok ds=>
    rw[e2]at p2;obtain⟨_,h2,rfl,hz⟩:=Uq e2;exact⟨j,rfl,h2.1,h2.2,p2 _ H1 (AH.refl H1) (by rw[Int.sub_zero];exact UZ 0 j.toNat) hz⟩
   |exn y=>exact(TM e2).elim
   |bad=>rw[e2]at p2;exact p2.elim
  | _=>exact p1.elim⟩
theorem oF(ha:ST X CL W a fa)(hb:ST X CL W b fb)(hg:Gl X "range")(hm:X.mg "range" = Af)(hs:Ax [a,b] X.env=[(Ad,eval a X.env),(Ad,eval b X.env)])(hs2:Ax [b] X.env=[(Ad,eval b X.env)]):
  SI X CL W tg (.Call (.Name "range" p) [a,b] [] pos) (λY=>(fa Y).bind λx=>(fb Y).bind λy=>(Gb x).bind λi=>(Gb y).bind λj=>DJ i j):=
 λA=>PI.weak (gN hg hm (Ee (ha A) (Ee (hb A) Gs hs2) (by rw[hs,hs2])) hs hs2) λU H R ⟨hA,Y,g,q⟩=>⟨hA,Y,g,Fv.ex q λd v H1 _ s1 r1 p1=>⟨hA.same s1,Y,g.same s1,Fv.ex p1 λd2 v2 H2 _ s2 r2 p2=>by
  cases d with
  |int i=>
   cases d2 with
   |int j=>
    have e:=r1.int_of;have e':=r2.int_of
    subst e e';have p3:Fv X.K CL A W H2 (DJ i j) R:=p2;cases e2:DJ i j with
    |ok ds=>
     rw[e2]at p3;obtain⟨h1,h2,rfl,hz⟩:=Uq e2;exact⟨i,j,rfl,⟨h1.1,h1.2,h2.1,h2.2⟩,p3 _ H2 (AH.refl H2) (UZ _ _) hz⟩
    |exn y=>exact(TM e2).elim
    |bad=>rw[e2]at p3;exact p3.elim
   |_=>exact p2.elim
  | _=>exact p2.elim⟩⟩
theorem Cj.exI{r:R (Ac D)}{f:Ac D->O}{Q:It->Hp->Prop}(x:Sx X.K CL Fz B Y U H)(h:Cj X.K CL Fz B W (O.of Y r f) D')(k:∀ ds J H',r=.ok ds->AH H H'->Jx X.K CL A ds J H'->ds.length<=sizeLine->Sx X.K CL Fz B Y U H'->Cj X.K CL Fz B W (f ds) D'->Q J H'):Fv X.K CL A W H r Q:=by
 cases r with
 |ok d=>exact λJ H' s y z=>k d J H' rfl s y z (x.grow s) h
 |exn y=>exact λH' s=>h H' λb o z=>s _ _ (x.same b o z)
 |bad=>exact h
theorem Cj.turn{Fy:Al->HO->Prop}{o:O}{g:Rho->O}{N:L2.St->Hp->Prop}(hf:∀ b q,Fz b q->Fy b q)(h:Cj K CL Fz B W (o.turn g) D')(k:∀ Y' U' H',Sx K CL Fy B Y' U' H'->Cj K CL Fz B W (g Y') D'->N U' H'):Cj K CL Fy B W o {D' with nx:=N,ct:=N,bk:=D'.nx}:=by
 cases o with
 |next Y'=>exact λU' H' x=>k Y' U' H' x h
 |cont Y'=>exact λU' H' x=>k Y' U' H' x h
 |brk Y'=>exact λU' H' x=>h U' H' (x.mono hf)
 |ret d b=>exact λv H' s r n=>h v H' (λb o z=>s b o (hf b o z)) r λz ds e=>let ⟨a,xs,h1,h2,h3⟩:=n z ds e;⟨a,xs,h1,λo q=>h2 o (hf a o q),h3⟩
 |exn y Y'=>exact λH' s=>h H' (λb o z=>s b o (hf b o z))
 |bad=>exact h
noncomputable def Ga(ts:Ac Ag)(Y:Rho):Rho:=ts.foldl (λY t=>Y.set t Af) Y
def GT(K:Fg)(CL:ClA)(as:D->Rho->R Rho)(g:TG):Prop:=∀ Fz B Y U H v d Y' Q,Sx K CL Fz B Y U H->Rep K CL H (B6 B Y U) v d->as d Y=.ok Y'->(∀ U',Sx K CL Fz B Y' U' H->Q U' H)->g v U H Q
theorem tE(i:Ag):GT K CL (λd Y=>.ok (Y.set i (Ab (d,Ad)))) (FP i):=λFz B Y U H v d Y' Q x r e k=>by
 cases e;exact k _ (x.set i r)
theorem Rm{K:Fg}{Fz:Al->HO->Prop}{B:Al->Prop}{H:Hp}:∀(ts:Ac Ag)(ds:Ac D)(vs:Ac V)(Y Y':Rho)(U:L2.St)(Q:L2.St->Hp->Prop),Sx K CL Fz B Y U H->Reps K CL H (B6 B Y U) vs ds->ER ts ds Y=Ab Y'->(∀ U',Sx K CL Fz B Y' U' H->Q U' H)->(ts.foldr (λt u=>Iq (FP t) u) Ix) vs U H Q
 |[],[],[],Y,Y',U,Q,x,_,e,k=>by
  cases e;exact⟨rfl,k U x⟩
 |t::ts,d::ds,v::vs,Y,Y',U,Q,x,r,e,k=>by
  refine⟨v,vs,rfl,Rm ts ds vs _ Y' _ Q (x.set t r.1) (Reps.sub (λa ha=>?_) ds r.2) e k⟩
  rcases ha with ha|⟨j,c,h1,h2⟩
  .exact .inl ha
  .by_cases hj:t=j
   .subst hj;have:=Hm h1;cases this
   .rw[CI hj]at h1 h2;exact .inr ⟨j,c,h1,h2⟩
 |[],_::_,_,_,_,_,_,_,_,e,_=>by cases e
 |_::_,[],_,_,_,_,_,_,_,e,_=>by cases e
 |[],[],_::_,_,_,_,_,_,r,_,_=>r.elim
 |_::_,_::_,[],_,_,_,_,_,r,_,_=>r.elim
theorem Nn:∀(ts:Ac Ag)(ds:Ac D)(Y Y':Rho),ER ts ds Y=Ab Y'->ds.length=ts.length
 |[],[],_,_,_=>rfl
 |_::ts,_::ds,_,_,e=>congrArg (· + 1) (Nn ts ds _ _ e)
 |[],_::_,_,_,e=>by cases e
 |_::_,[],_,_,e=>by cases e
theorem Wn(ts:Ac Ag):GT K CL (F8 ts) (L6 K ts.length (ts.foldr (λt u=>Iq (FP t) u) Ix)):=λFz B Y U H v d Y' Q x r e k=>by
 cases d with
 |tup ds=>
  obtain⟨a,xs,rfl,na,sq,rs⟩:=r;rw[TU]at e;cases e2:ER ts ds Y with
  |none=>rw[e2]at e;cases e
  |some Y2=>
   rw[e2]at e;cases e;exact⟨a,xs,rfl,sq,by rw[rs.length];exact Nn _ _ _ _ e2,Rm ts ds xs Y _ U Q x rs e2 k⟩
 |_=>cases e
theorem WO{body:Ac AY}{fbd:Rho->O}{g:TG}(hp:F4 (model X.prog X.w) X.A X.env X.xe)(hc:X.calm=Aa)(hGT:GT X.K CL as g)(hg:PG X tg g)(hit:SI X CL W tg iter fi)(hb:SSs X CL W body fbd)(hs:∀ x,Do iter X.env x=pure x)(hax:∀ d Y x,as d Y≠.exn x):SS X CL W (.For tg iter body [] pos) (λY=>O.of Y (fi Y) λxs=>CG (λx Y'=>O.of Y' (as x Y') fbd) xs Y):=λFz B pI s U H D I ⟨Y,x,p⟩=>by
 refine xM hp hc (hit (B6 B Y U)) hg (tb:=λD U H=>∃ Fy,(λD U H=>∃ Y,Sx X.K CL Fy B Y U H/\Cj X.K CL Fy B W (fbd Y) D) D U H) (λpI s U H D I ⟨Fy,q⟩=>hb Fy B pI s U H D I q) hs pI s U H D I ⟨x.aok,Y,x.good,Cj.exI x p λds J H1 _ s1 y _ x1 q=>?_⟩
 let Fy:Al->HO->Prop:=λb o=>H1 b=Ab o/\¬ ∃(j:Ag)(d:Ov.D),Y[j]?=Ab (Ab (d,Aa))/\U[j]?=Ab (Ab (.ref b))
 have hfy:∀ b o,Fz b o->Fy b o:=λb o z=>⟨x1.same b o z,λ⟨j,d,h1,h2⟩=>(x1.new j d b h1 h2).1 o z⟩
 have xy:Sx X.K CL Fy B Y U H1:=⟨x1.good,x1.aok,λj d a h1 h2=>⟨λo z=>z.2 ⟨j,d,h1,h2⟩,(x1.new j d a h1 h2).2⟩,x1.dis,λb o z=>z.1,x1.len⟩
 refine⟨λk m U' H'=>m=ds.length-k/\k<=ds.length/\∃ Y',Sx X.K CL Fy B Y' U' H'/\Cj X.K CL Fz B W (CG (λx Y'=>O.of Y' (as x Y') fbd) (ds.drop k) Y') D,⟨ds.length,by simp,Gz _,Y,xy,q⟩,?_⟩
 rintro k m U' H' ⟨rfl,hk,Y',x',q'⟩;have kp:Kp (B6 B Y U) H1 H':=λb o e na=>x'.same b o ⟨e,λz=>na (.inr z)⟩
 obtain⟨yst,ygo⟩:=y H' kp k;by_cases hlt:k<ds.length
 .have hd:ds[k]?=Ab ds[k]:=CS hlt;obtain⟨hgo,hyl⟩:=ygo _ hd;refine .inr ⟨hgo,λU'' H''=>∃ Y'',Sx X.K CL Fy B Y'' U'' H''/\Cj X.K CL Fz B W (CG (λx Y'=>O.of Y' (as x Y') fbd) (ds.drop (k+1)) Y'') D,λU'' H'' z=>⟨ds.length-(k+1),by omega,rfl,hlt,z⟩,λv H2 hv=>?_⟩
  obtain⟨e2,rv⟩:=hyl v H2 hv;rw[FS hlt]at q';have q2:Cj X.K CL Fz B W ((O.of Y' (as ds[k] Y') fbd).turn (CG (λx Y'=>O.of Y' (as x Y') fbd) (ds.drop (k+1)))) D:=q'
  have rv':Rep X.K CL H2 (B6 B Y' U') v ds[k]:=rv _ (λa ha=>by
    rcases ha with ha|⟨j,d,h1,h2⟩
    .exact .inl (.inl ha)
    .cases e:H1 a with
     |none=>exact .inr rfl
     |some o=>
      by_cases ho:∃(j:Ag)(d:Ov.D),Y[j]?=Ab (Ab (d,Aa))/\U[j]?=Ab (Ab (.ref a))
      .exact .inl (.inr ho)
      .exact absurd ⟨e,ho⟩ ((x'.new j d a h1 h2).1 o)) x'.aok
  cases ea:as ds[k] Y' with
  |bad=>rw[ea]at q2;exact q2.elim
  |exn z=>exact absurd ea (hax _ _ z)
  |ok Y2=>
   rw[ea,O.of_ok]at q2;exact hGT Fy B Y' U' H2 v ds[k] Y2 _ (x'.grow e2) rv' ea λU3 x3=>⟨Fy,Y2,x3,Cj.turn hfy q2 λY3 U3 H3 x3 q3=>⟨Y3,x3,q3⟩⟩
 .have hk':ds.length<=k:=by omega
  rw[Ye hk']at q';exact .inl ⟨yst hk',q' U' H' (x'.mono hfy)⟩
end
section
variable{X:Cx}{CL:ClA}{W:XW}{a b c:Ao}{fa fb fc:Rho->R D}{pos:AO}
noncomputable def tyK:Ki->Ap DB
 |.int=>Ab "int"
 |.bool=>Ab "bool"
 |.str=>Ab "str"
 |.list=>Ab "list"
 |.tuple=>Ab "tuple"
 |_=>Af
noncomputable def Q0:D->Aj
 |.obj _ _=>Ad
 |.exc _ _=>Ad
 |.dic _=>Ad
 |_=>Aa
theorem zG{k:Ki}{Q:Vq}{E:Vq}(I:Inv X pI U H s)(r:Dl X.K CL H A v d)(q:BU v u)(hT:tyK k=Ab T)(hd:Q0 d=Aa)(h:∀ s',Inv X pI U H s'->Q (.bool (kiD up k d)) s'):
  Au (model X.prog X.w) X.A (call (.builtin "isinstance") [u,.type T]) Q E s:=by
 have r':=r.plain;have it:=λt=>h _ (I.tok t)
 cases d with
 |obj=>cases hd
 |exc=>cases hd
 |dic=>cases hd
 |non=>
  cases r';cases q;cases k<;>simp only[tyK]at hT<;>cases hT
  .exact IsiPair.NoneType_int (it _)
  .exact IsiPair.NoneType_bool (it _)
  .exact IsiPair.NoneType_str (it _)
  .exact IsiPair.NoneType_list (it _)
  .exact IsiPair.NoneType_tuple (it _)
 |bl b=>
  cases r';cases q;cases k<;>simp only[tyK]at hT<;>cases hT
  .exact IsiPair.bool_int (h _ I)
  .exact IsiPair.bool_bool (h _ I)
  .exact IsiPair.bool_str (it _)
  .exact IsiPair.bool_list (it _)
  .exact IsiPair.bool_tuple (it _)
 |int i=>
  cases r';obtain⟨t,rfl⟩:=q;cases k<;>simp only[tyK]at hT<;>cases hT
  .exact IsiPair.int_int (h _ I)
  .exact IsiPair.int_bool (it _)
  .exact IsiPair.int_str (it _)
  .exact IsiPair.int_list (it _)
  .exact IsiPair.int_tuple (it _)
 |str x=>
  cases r';obtain⟨t,rfl⟩:=q;cases k<;>simp only[tyK]at hT<;>cases hT
  .exact IsiPair.str_int (it _)
  .exact IsiPair.str_bool (it _)
  .exact IsiPair.str_str (h _ I)
  .exact IsiPair.str_list (it _)
  .exact IsiPair.str_tuple (it _)
 |tup ds=>
  obtain⟨p,xs,rfl,_,sq,rr⟩:=r';obtain⟨its,rv,pt,_⟩:=I.tuple sq;cases q;have pt':s.heap.IsTuple p its.toArray:=pt;cases k<;>simp only[tyK]at hT<;>cases hT
  .exact IsiPair.isTuple_int pt' (λ_ _ e=>e) (it _)
  .exact IsiPair.isTuple_bool pt' (λ_ _ e=>e) (it _)
  .exact IsiPair.isTuple_str pt' (λ_ _ e=>e) (it _)
  .exact IsiPair.isTuple_list pt' (λ_ _ e=>e) (it _)
  .exact IsiPair.isTuple_tuple pt' (λ_ _ e=>e) (h _ I)
 |lst ds=>
  obtain⟨p,xs,rfl,_,sq,rr⟩:=r';obtain⟨its,rv,pl,_⟩:=I.list sq;cases q;have pt':s.heap.IsList p its.toArray:=IK pl;cases k<;>simp only[tyK]at hT<;>cases hT
  .exact IsiPair.isList_int pt' (λ_ _ e=>e) (it _)
  .exact IsiPair.isList_bool pt' (λ_ _ e=>e) (it _)
  .exact IsiPair.isList_str pt' (λ_ _ e=>e) (it _)
  .exact IsiPair.isList_list pt' (λ_ _ e=>e) (h _ I)
  .exact IsiPair.isList_tuple pt' (λ_ _ e=>e) (it _)
theorem iF{k:Ki}(hT:tyK k=Ab T)(p:Bq Rp W H (Ep up [k] d) Q):Q0 d=Aa/\Bq Rp W H (.ok (.bl (kiD up k d))) Q:=by
 cases k<;>simp only[tyK]at hT<;>cases hT<;>cases d<;>first|exact p.elim|exact⟨rfl,by simpa using p⟩
theorem vC{k:Ki}{x:Ak}(hT:tyK k=Ab T)(hg:Gl X "isinstance")(hm:X.mg "isinstance" = Af)(hg2:Gl X x)(hm2:X.mg x=Af)(hv:Dz x=Ab (.type T))(hn:x≠"__name__")(hdb:(x==("__debug__" : Ak))=Ad)(ha:ST X CL W a fa)(he:Ax [a,.Name x p2] X.env=(Ad,eval a X.env)::Ax [.Name x p2] X.env):SE X CL W (.Call (.Name "isinstance" p) [a,.Name x p2] [] pos) (λY=>(fa Y).bind λx=>Ep up [k] x):=λA=>
 PE.weak (Mr (r:=λxs H Q=>∃ y d,xs=[y,.ty T]/\Dl X.K CL H A y d/\Q0 d=Aa/\Q (.bl (kiD up k d)) H) (λpI s U H xs us Q I r ⟨y,d,e,ry,hd,q⟩=>by
   subst e;obtain⟨u,w',rfl,r1,r2⟩:=MR r;cases r2;exact zG I ry r1 hT hd λs' I'=>⟨.bl _,H,I',rfl,q⟩)
  hg hm G0 (Ee (ha A) (Ee (Vv (v:=.ty T) hg2 hm2 hv rfl hn hdb) Gs rfl) he) (by decide) (by decide) he rfl) λU H Q ⟨hA,Y,g,q⟩=>⟨hA,Y,g,Bq.bind q λd v H1 _ s1 r1 p1=>by
   obtain⟨hd,p2⟩:=iF hT p1;exact⟨v,d,rfl,r1,hd,p2 _ H1 (AH.refl H1) rfl⟩⟩
theorem QE{b:Aj}{A':A9}{E:Vq}{Q:Aj->Ar->Prop}(r:Rep X.K CL H A v d)(q:BU v u)(h:ES d=.ok b)(hq:Q b s):Au (model prog w) A' (truthy u) Q E s:=by
 cases d with
 |non=>
  cases r;cases q;cases h;exact truthy_none hq
 |bl k=>
  cases r;cases q;cases h;exact C1 hq
 |int i=>
  cases r;obtain⟨t,rfl⟩:=q;cases h;exact truthy_int hq
 |_=>cases h
theorem Tz:∀{ds:Ac D}{b:Aj},HK ds=.ok b->(∀ j,j<ds.length->∃ c,ES (ds.getD j .non)=.ok c)/\b=(Bm ds.length).all λj=>match ES (ds.getD j .non) with
  |.ok c=>c
  |_=>Ad
 |[],b,h=>by cases h;exact⟨λj hj=>absurd hj (GY _),rfl⟩
 |d::ds,b,h=>by
  rw[PL]at h;cases e:ES d with
  |bad=>rw[e]at h;cases h
  |exn x=>rw[e]at h;cases h
  |ok c=>
   rw[e,R.bind_ok]at h;cases e2:HK ds with
   |bad=>rw[e2]at h;cases h
   |exn x=>rw[e2]at h;cases h
   |ok c2=>
    rw[e2,R.bind_ok]at h;cases h;obtain⟨h1,h2⟩:=Tz e2;refine⟨λj hj=>?_,?_⟩
    .cases j with
     |zero=>exact⟨c,e⟩
     |succ j=>exact h1 j (by simpa using hj)
    .rw[Bz,Tx,h2];show (c&&_)=((match ES d with | .ok c=>c|_=>Ad)&&_)
     rw[e];rfl
theorem TD:∀{ds:Ac D}{b:Aj},Gv ds=.ok b->(∀ j,j<ds.length->∃ c,ES (ds.getD j .non)=.ok c)/\b=(Bm ds.length).any λj=>match ES (ds.getD j .non) with
  |.ok c=>c
  |_=>Ad
 |[],b,h=>by cases h;exact⟨λj hj=>absurd hj (GY _),rfl⟩
 |d::ds,b,h=>by
  rw[TX]at h;cases e:ES d with
  |bad=>rw[e]at h;cases h
  |exn x=>rw[e]at h;cases h
  |ok c=>
   rw[e,R.bind_ok]at h;cases e2:Gv ds with
   |bad=>rw[e2]at h;cases h
   |exn x=>rw[e2]at h;cases h
   |ok c2=>
    rw[e2,R.bind_ok]at h;cases h;obtain⟨h1,h2⟩:=TD e2;refine⟨λj hj=>?_,?_⟩
    .cases j with
     |zero=>exact⟨c,e⟩
     |succ j=>exact h1 j (by simpa using hj)
    .rw[Bz,EZ,GF,JI,h2];show (c||_)=((match ES d with | .ok c=>c|_=>Ad)||_)
     rw[e];rfl
theorem U_2:∀(ds:Ac D)(a z:Ae),HM a ds=.ok z->(∀ j,j<ds.length->∃ i,ds.getD j .non=.int i)/\z=a+JU (λj=>match ds.getD j .non with
  |.int i=>i
  | _=>0) ds.length
 |[],a,z,h=>by cases h;exact⟨λj hj=>absurd hj (GY _),by simp[JU]⟩
 |.int i::ds,a,z,h=>by
  obtain⟨h1,h2⟩:=U_2 ds (a+i) z h;refine⟨λj hj=>?_,?_⟩
  .cases j with
   |zero=>exact⟨i,rfl⟩
   |succ j=>exact h1 j (by simpa using hj)
  .have key:∀ n,JU (λj=>match (D.int i::ds).getD j .non with | .int i=>i|_=>0) (n+1)=i+JU (λj=>match ds.getD j .non with | .int i=>i|_=>0) n:=by
    intro n
    induction n with
    |zero=>show (0:Ae)+i=i+0;omega
    |succ n ih=>
     show JU _ (n+1)+(match ds.getD n .non with | .int i=>i|_=>0)=i+(JU _ n+(match ds.getD n .non with | .int i=>i|_=>0))
     rw[ih];omega
   rw[h2,Bz,key];omega
 |.non::_,_,_,h=>by cases h
 |.bl _::_,_,_,h=>by cases h
 |.str _::_,_,_,h=>by cases h
 |.tup _::_,_,_,h=>by cases h
 |.lst _::_,_,_,h=>by cases h
 |.obj _ _::_,_,_,h=>by cases h
 |.exc _ _::_,_,_,h=>by cases h
 |.dic _::_,_,_,h=>by cases h
theorem MB{ds:Ac D}{its:Ac Ai}(r:Reps X.K CL H A0 xs ds)(rv:Bo xs its){v:Ai}(h:its.toArray[j]?=Ab v):j<ds.length/\∃ x,Rep X.K CL H A0 x (ds.getD j .non)/\BU x v:=by
 have h':its[j]?=Ab v:=by simpa using h
 obtain⟨hj,e⟩:=Bh.mp h';obtain⟨x,rx,q⟩:=KJ r rv hj;have l1:=rv.length;have l2:=r.length
 exact⟨by omega,x,rx,by rw[<-e];exact q⟩
theorem MT(k:∀ b q,b∉[h.objs.size]->(h.push o).get? b=Ab q->h'.get? b=Ab q):∀ b q,h.get? b=Ab q->h'.get? b=Ab q:=λb q e=>k b q (by
 intro z;have:=BN.mp z;rw[this]at e;exact absurd (AB e) (Bt _)) (As _ e)
theorem bo(hc:X.calm=Aa):KS X CL W (.builtin "all") (biD .all):=by
  intro A pI s U H xs us Q I r ⟨hA,ds,rs,p⟩
  match ds,rs,p with
  |[.lst es],rs,p=>
    obtain⟨v,rfl,rv⟩:=rs.one;obtain⟨q,ys,e,_,sq,ry⟩:=rv.plain;subst e;obtain⟨u,rfl,ru⟩:=IL r;cases ru;rw[bJ]at p;cases e1:HK es with
    |bad=>rw[e1]at p;exact p.elim
    |exn x=>
      exfalso
      have:∀(es:Ac D) x,HK es≠.exn x:=by
        intro es
        induction es with
        |nil=>intro x h;cases h
        |cons d ds ih=>
          intro x h;rw[PL]at h;cases e:ES d with
          |bad=>rw[e]at h;cases h
          |exn y=>cases d<;>cases e
          |ok c=>
            rw[e,R.bind_ok]at h;cases e2:HK ds with
            |bad=>rw[e2]at h;cases h
            |exn y=>exact ih y e2
            |ok c2=>rw[e2]at h;cases h
      exact this es x e1
    |ok b=>
      rw[e1,R.bind_ok]at p;obtain⟨h1,h2⟩:=Tz e1;obtain⟨its,rvv,pl,_⟩:=I.list sq;have hlt:q<s.heap.objs.size:=by obtain⟨o,n,e,_⟩:=pl;exact AB e
      have hl:its.toArray.size=es.length:=by rw[AJ,<-rvv.length,ry.length]
      refine call_all_walk (Ej (IK pl) ⟨s.heap.objs.size,_,_,_,_,_,(λj=>match ES (es.getD j .non) with | .ok c=>c|_=>Ad),rfl,K6 (A:=X.A.in1) (I.ok.hd hc) s.heap.objs.size q (A4 hlt) its.toArray,⟨⟨_,Az _ rfl,rfl,rfl⟩,(IK pl).push _⟩,λj v s' Q' E' hv hQ=>?_,λh' tk k=>?_⟩)
      · obtain⟨hj,x,rx,qx⟩:=MB ry rvv hv;obtain⟨c,ec⟩:=h1 j hj;exact QE rx qx ec (by dsimp only at hQ;rw[ec]at hQ;exact hQ)
      · rw[hl,<-h2];exact⟨.bl b,H,I.kept (MT k),rfl,p _ H (AH.refl H) rfl⟩
  |[],_,p=>exact p.elim
  |[.non],_,p=>exact p.elim
  |[.bl _],_,p=>exact p.elim
  |[.int _],_,p=>exact p.elim
  |[.str _],_,p=>exact p.elim
  |[.tup _],_,p=>exact p.elim
  |[.obj _ _],_,p=>exact p.elim
  |[.exc _ _],_,p=>exact p.elim
  |[.dic _],_,p=>exact p.elim
  |x::_::_,_,p=>cases x<;>exact p.elim
theorem VM(hc:X.calm=Aa){ys:Ac V}{es:Ac D}(I:Inv X pI U H s)(sq:SqL X.K H q ys\/SqT X.K H q ys)(ry:Reps X.K CL H A0 ys es)(p:Bq (λH=>Rep X.K CL H A) W H ((Gv es).bind λb=>.ok (.bl b)) Q):Au (model X.prog X.w) X.A (call (.builtin "any") [.ref q]) (EP X pI U Q) X.xe s:=by
 cases e1:Gv es with
 |bad=>rw[e1]at p;exact p.elim
 |exn x=>
  exfalso
  clear p
  have:∀(es:Ac D) x,Gv es≠.exn x:=by
   intro es
   induction es with
   |nil=>intro x h;cases h
   |cons d ds ih=>
    intro x h;rw[TX]at h;cases e:ES d with
    |bad=>rw[e]at h;cases h
    |exn y=>cases d<;>cases e
    |ok c=>
     rw[e,R.bind_ok]at h;cases e2:Gv ds with
     |bad=>rw[e2]at h;cases h
     |exn y=>exact ih y e2
     |ok c2=>rw[e2]at h;cases h
  exact this es x e1
 |ok b=>
  rw[e1,R.bind_ok]at p;obtain⟨h1,h2⟩:=TD e1;rcases sq with sq|sq
  .obtain⟨its,rvv,pl,_⟩:=I.list sq;have hlt:q<s.heap.objs.size:=by obtain⟨o,n,e,_⟩:=pl;exact AB e
   have hl:its.toArray.size=es.length:=by rw[AJ,<-rvv.length,ry.length]
   refine call_any_walk (Ej (IK pl) ⟨s.heap.objs.size,_,_,_,_,_,(λj=>match ES (es.getD j .non) with | .ok c=>c|_=>Ad),rfl,K6 (A:=X.A.in1) (I.ok.hd hc) s.heap.objs.size q (A4 hlt) its.toArray,⟨⟨_,Az _ rfl,rfl,rfl⟩,(IK pl).push _⟩,λj v s' Q' E' hv hQ=>?_,λh' tk k=>?_⟩)
   .obtain⟨hj,x,rx,qx⟩:=MB ry rvv hv;obtain⟨c,ec⟩:=h1 j hj;exact QE rx qx ec (by dsimp only at hQ;rw[ec]at hQ;exact hQ)
   .rw[hl,<-h2];exact⟨.bl b,H,I.kept (MT k),rfl,p _ H (AH.refl H) rfl⟩
  .obtain⟨its,rvv,pl,_⟩:=I.tuple sq;have pl':s.heap.IsTuple q its.toArray:=pl;have hlt:q<s.heap.objs.size:=by obtain⟨o,e,_⟩:=pl';exact AB e
   have hl:its.toArray.size=es.length:=by rw[AJ,<-rvv.length,ry.length]
   refine call_any_walk (F6 pl' ⟨s.heap.objs.size,_,_,_,_,_,(λj=>match ES (es.getD j .non) with | .ok c=>c|_=>Ad),rfl,aE (A:=X.A.in1) (I.ok.hd hc) s.heap.objs.size q (A4 hlt) its.toArray,⟨⟨_,Az _ rfl,rfl,rfl⟩,pl'.push _⟩,λj v s' Q' E' hv hQ=>?_,λh' tk k=>?_⟩)
   .obtain⟨hj,x,rx,qx⟩:=MB ry rvv hv;obtain⟨c,ec⟩:=h1 j hj;exact QE rx qx ec (by dsimp only at hQ;rw[ec]at hQ;exact hQ)
   .rw[hl,<-h2];exact⟨.bl b,H,I.kept (MT k),rfl,p _ H (AH.refl H) rfl⟩
theorem bn(hc:X.calm=Aa):KS X CL W (.builtin "any") (biD .any):=by
  intro A pI s U H xs us Q I r ⟨hA,ds,rs,p⟩
  match ds,rs,p with
  |[.lst es],rs,p=>
    obtain⟨v,rfl,rv⟩:=rs.one;obtain⟨q,ys,e,_,sq,ry⟩:=rv.plain;subst e;obtain⟨u,rfl,ru⟩:=IL r;cases ru;exact VM hc I (.inl sq) ry p
  |[.tup es],rs,p=>
    obtain⟨v,rfl,rv⟩:=rs.one;obtain⟨q,ys,e,_,sq,ry⟩:=rv.plain;subst e;obtain⟨u,rfl,ru⟩:=IL r;cases ru;exact VM hc I (.inr sq) ry p
  |[],_,p=>exact p.elim
  |[.non],_,p=>exact p.elim
  |[.bl _],_,p=>exact p.elim
  |[.int _],_,p=>exact p.elim
  |[.str _],_,p=>exact p.elim
  |[.obj _ _],_,p=>exact p.elim
  |[.exc _ _],_,p=>exact p.elim
  |[.dic _],_,p=>exact p.elim
  |x::_::_,_,p=>cases x<;>exact p.elim
theorem VD(hc:X.calm=Aa){ys:Ac V}{es:Ac D}(I:Inv X pI U H s)(sq:SqL X.K H q ys\/SqT X.K H q ys)(ry:Reps X.K CL H A0 ys es)(p:Bq (λH=>Rep X.K CL H A) W H ((HM 0 es).bind λb=>.ok (.int b)) Q):Au (model X.prog X.w) X.A (call (.builtin "sum") [.ref q]) (EP X pI U Q) X.xe s:=by
 cases e1:HM 0 es with
 |bad=>rw[e1]at p;exact p.elim
 |exn x=>
  exfalso
  have:∀(es:Ac D)(a:Ae) x,HM a es≠.exn x:=by
   intro es
   induction es with
   |nil=>intro a x h;cases h
   |cons d ds ih=>
    intro a x h;cases d<;>first|exact ih _ _ h|cases h
  exact this es 0 x e1
 |ok z=>
  rw[e1,R.bind_ok]at p;obtain⟨h1,h2⟩:=U_2 es 0 z e1;rw[Ew]at h2;rcases sq with sq|sq
  .obtain⟨its,rvv,pl,_⟩:=I.list sq;have hlt:q<s.heap.objs.size:=by obtain⟨o,n,e,_⟩:=pl;exact AB e
   have hl:its.toArray.size=es.length:=by rw[AJ,<-rvv.length,ry.length]
   refine aG (Ej (IK pl) ⟨s.heap.objs.size,_,_,_,_,_,(λj=>match es.getD j .non with | .int i=>i|_=>0),rfl,K6 (A:=X.A.in1) (I.ok.hd hc) s.heap.objs.size q (A4 hlt) its.toArray,⟨⟨_,Az _ rfl,rfl,rfl⟩,(IK pl).push _⟩,λb hb=>?_,λj v hv=>?_,λh' tk t' k=>?_⟩)
   .show b<(s.heap.push _).objs.size;rw[BF];rcases At.mp hb with rfl|hb
    .exact GK _
    .rw[BN.mp hb];exact DS hlt
   .obtain⟨hj,x,rx,qx⟩:=MB ry rvv hv;obtain⟨i,ei⟩:=h1 j hj;rw[ei]at rx;dsimp only;rw[ei];cases rx;exact qx
   .rw[hl,<-h2];exact⟨.int z,H,I.kept (MT k),⟨_,rfl⟩,p _ H (AH.refl H) rfl⟩
  .obtain⟨its,rvv,pl,_⟩:=I.tuple sq;have pl':s.heap.IsTuple q its.toArray:=pl;have hlt:q<s.heap.objs.size:=by obtain⟨o,e,_⟩:=pl';exact AB e
   have hl:its.toArray.size=es.length:=by rw[AJ,<-rvv.length,ry.length]
   refine aG (F6 pl' ⟨s.heap.objs.size,_,_,_,_,_,(λj=>match es.getD j .non with | .int i=>i|_=>0),rfl,aE (A:=X.A.in1) (I.ok.hd hc) s.heap.objs.size q (A4 hlt) its.toArray,⟨⟨_,Az _ rfl,rfl,rfl⟩,pl'.push _⟩,λb hb=>?_,λj v hv=>?_,λh' tk t' k=>?_⟩)
   .show b<(s.heap.push _).objs.size;rw[BF];rcases At.mp hb with rfl|hb
    .exact GK _
    .rw[BN.mp hb];exact DS hlt
   .obtain⟨hj,x,rx,qx⟩:=MB ry rvv hv;obtain⟨i,ei⟩:=h1 j hj;rw[ei]at rx;dsimp only;rw[ei];cases rx;exact qx
   .rw[hl,<-h2];exact⟨.int z,H,I.kept (MT k),⟨_,rfl⟩,p _ H (AH.refl H) rfl⟩
theorem dh(hc:X.calm=Aa):KS X CL W (.builtin "sum") (biD .sum):=by
  intro A pI s U H xs us Q I r ⟨hA,ds,rs,p⟩
  match ds,rs,p with
  |[.lst es],rs,p=>
    obtain⟨v,rfl,rv⟩:=rs.one;obtain⟨q,ys,e,_,sq,ry⟩:=rv.plain;subst e;obtain⟨u,rfl,ru⟩:=IL r;cases ru;exact VD hc I (.inl sq) ry p
  |[.tup es],rs,p=>
    obtain⟨v,rfl,rv⟩:=rs.one;obtain⟨q,ys,e,_,sq,ry⟩:=rv.plain;subst e;obtain⟨u,rfl,ru⟩:=IL r;cases ru;exact VD hc I (.inr sq) ry p
  |[],_,p=>exact p.elim
  |[.non],_,p=>exact p.elim
  |[.bl _],_,p=>exact p.elim
  |[.int _],_,p=>exact p.elim
  |[.str _],_,p=>exact p.elim
  |[.obj _ _],_,p=>exact p.elim
  |[.exc _ _],_,p=>exact p.elim
  |[.dic _],_,p=>exact p.elim
  |x::_::_,_,p=>cases x<;>exact p.elim
end
section
variable(K:Fg)(CL:ClA)
def aY(H0:Hp)(A:Al->Prop)(H:Hp)(v:V)(d:D):Prop:=∀ ds,d=.lst ds->∃ a xs,v=.ref a/\H0 a=Af/\H a=Ab (.lst xs)/\Reps K CL H (λb=>A b\/b=a) xs ds
def EI(fr:Aj)(H0:Hp)(A:Al->Prop)(H:Hp)(v:V)(d:D):Prop:=Rep K CL H A v d/\(fr=Aa->aY K CL H0 A H v d)
end
section
variable{X:Cx}{CL:ClA}{W:XW}{a b c:Ao}{fa fb fc:Rho->R D}{pos:AO}
def SC(X:Cx)(CL:ClA)(W:XW)(fr:Aj)(e:Ao)(f:Rho->R D):Prop:=∀ A,PE X e (λU H Q=>AOk H A/\∃ Y,Good X.K CL A Y U H/\Bq (EI X.K CL fr H A) W H (f Y) Q)
theorem SC.se{fr:Aj}(h:SC X CL W fr a fa):SE X CL W a fa:=λA=>PE.weak (h A) λU H Q ⟨hA,Y,g,p⟩=>⟨hA,Y,g,by
 cases e:fa Y with
 |ok d=>rw[e]at p;exact λv H' s r=>p v H' s r.1
 |exn x=>rw[e]at p;exact p
 | bad=>rw[e]at p;exact p⟩
theorem SE.sc(h:SE X CL W a fa):SC X CL W Ad a fa:=λA=>PE.weak (h A) λU H Q ⟨hA,Y,g,p⟩=>⟨hA,Y,g,by
 cases e:fa Y with
 |ok d=>rw[e]at p;exact λv H' s r=>p v H' s ⟨r,λz=>nomatch z⟩
 |exn x=>rw[e]at p;exact p
 | bad=>rw[e]at p;exact p⟩
theorem SC.congr{fr:Aj}{f g:Rho->R D}(h:SC X CL W fr a f)(e:∀ Y,g Y=f Y):SC X CL W fr a g:=λA=>PE.weak (h A) λU H Q ⟨hA,Y,q,p⟩=>⟨hA,Y,q,by rw[<-e];exact p⟩
theorem Ln{p:Al}{ds:Ac D}(s:AH H0 H)(hA:AOk H A)(hp:H p=Af)(r:Reps K CL H A xs ds):EI K CL Aa H0 A (upd H p (.lst xs)) (.ref p) (.lst ds):=
 ⟨V8 hA hp r,λ_ ds' e=>by
  cases e;exact⟨p,xs,rfl,s.free hp,F7,(Reps.wide (λa ha=>ha.imp id λe=>by rw[e];exact hp) _ r).same (GL hp _)⟩⟩
theorem Vp{fr:Aj}(r:Rep K CL H A v d)(h:∀ ds,d≠.lst ds):EI K CL fr H0 A H v d:=⟨r,λ_ ds e=>absurd e (h ds)⟩
theorem Q7(hs:SA X CL W es fs)(hz:∀ Y ds,fs Y=.ok ds->ds.length<=100000):SC X CL W Aa (.List es pos) (λY=>(fs Y).bind λxs=>.ok (.lst xs)):=
 λA=>PE.weak (xW (hs A)) λU H Q ⟨hA,Y,g,p⟩=>⟨hA,Y,g,Ip.bind p λds vs H1 e s1 r1 p1=>⟨by
  rw[r1.length,DA];have:=hz Y ds e;omega,λq hq=>p1 _ _ (GL hq _) (Ln s1 (hA.same s1) hq r1)⟩⟩
theorem Bq.bindF{fr:Aj}{f:D->R D}{Q':VK}(h:Bq (EI K CL fr H A) W H (r.bind f) Q)(k:∀ d v H',r=.ok d->AH H H'->Rp H' v d->Bq (EI K CL fr H A) W H' (f d) Q->Q' v H'):Bq Rp W H r Q':=by
 cases r with
 |ok d=>exact λv H2 s2 q=>k d v H2 rfl s2 q (Bq.same s2 h)
 |exn x=>exact h
 |bad=>exact h
theorem Ip.bindF{Rp:Hp->Ac V->Ac D->Prop}{r:R (Ac D)}{f:Ac D->R D}{Q':Ac V->Hp->Prop}(h:Bq Rq W H (r.bind f) Q)(k:∀ d v H',r=.ok d->AH H H'->Rp H' v d->Bq Rq W H' (f d) Q->Q' v H'):Ip Rp W H r Q':=by
 cases r with
 |ok d=>exact λv H2 s2 q=>k d v H2 rfl s2 q (Bq.same s2 h)
 |exn x=>exact h
 |bad=>exact h
theorem KR.bindF{r:R (Ap Ae)}{f:Ap Ae->R D}(h:Bq Rq W H (r.bind f) Q)(k:∀ o H',r=.ok o->AH H H'->Bq Rq W H' (f o) Q->Q' o H'):KR W H r Q':=by
 cases r with
 |ok d=>exact λH2 s2=>k d H2 rfl s2 (Bq.same s2 h)
 |exn x=>exact h
 |bad=>exact h
theorem dk{lo hi:Ap Ao}{fl fh:Rho->R (Ap Ae)}(ha:ST X CL W a fa)(hl:SO X CL W lo fl)(hh:SO X CL W hi fh):SC X CL W Aa (.Subscript a (.Slice lo hi Af p2) pos) (λY=>(fa Y).bind λx=>(fl Y).bind λl=>(fh Y).bind λh=>slD x l h):=
 λA=>PE.weak (iW (r:=λx l h H Q=>SN X.K x l h H Q\/SM X.K x l h H Q) (λpI s U H x v vl vu lo hi sl Q I rx hs pl pu h=>h.elim (oC pI s U H x v vl vu lo hi sl Q I rx hs pl pu) (wB pI s U H x v vl vu lo hi sl Q I rx hs pl pu)) (ha A) (hl A) (hh A)) λU H Q ⟨hA,Y,g,p⟩=>⟨hA,Y,g,Bq.bindF p λdx x H1 _ s1 r1 p1=>⟨hA.same s1,Y,g.same s1,KR.bindF p1 λl H2 _ s2 p2=>⟨(hA.same s1).same s2,Y,(g.same s1).same s2,KR.bindF p2 λh H3 _ s3 p3=>by
  cases dx with
  |lst ds=>
   obtain⟨q,xs,rfl,sq,r⟩:=((r1.same s2).same s3).lst_of;exact .inl ⟨q,xs,rfl,sq,λt ht=>p3 _ _ (GL ht _) (Ln ((s1.trans s2).trans s3) (((hA.same s1).same s2).same s3) ht (VV l h r))⟩
  |tup ds=>
   obtain⟨q,xs,rfl,_,sq,r⟩:=((r1.same s2).same s3).tup_of;rw[cP]at p3;split at p3
   .exact p3.elim
   .rename_i hw;refine .inr ⟨q,xs,rfl,sq,?_,λt ht=>p3 _ _ (GL ht _) (Vp (Lz (((hA.same s1).same s2).same s3) ht (VV l h r)) (by intro _ z;cases z))⟩
    rintro⟨h1,h2⟩;refine hw ?_;have e:∀ d o,HT.sIx xs.length d o=Hb ds.length d o:=λd o=>by rw[r.length];cases o<;>rfl
    rw[e]at h1 h2;rw[r.length]at h2;simp[h1,h2]
  | _=>exact p3.elim⟩⟩⟩
noncomputable def OpN(X:Cx)(CL:ClA)(W:XW)(f:Ai->Ai->Hl Ai)(g:D->D->R D):Prop:=
 ∀ A H0,OpR X f (λx y H Q=>AH H0 H/\AOk H A/\∃ dx dy,Dl X.K CL H A x dx/\Dl X.K CL H A y dy/\Bq (EI X.K CL Aa H0 A) W H (g dx dy) Q)
theorem pU:OpN X CL W (CB .Add) (C4 .Add):=by
 intro A H0 pI s U H x y v u Q I rx ry ⟨s0,hA,dx,dy,hx,hy,p⟩;have key:(∀ ds,dx≠.lst ds)->EP X pI U Q=EP X pI U Q->Au (model X.prog X.w) X.A (CB .Add v u) (EP X pI U Q) X.xe s:=λhd _=>by
  refine Vw (W:=W) A pI s U H x y v u Q I rx ry ⟨hA,dx,dy,hx,hy,?_⟩;cases e:C4 .Add dx dy with
  |bad=>rw[e]at p;exact p
  |exn x=>rw[e]at p;exact p
  |ok d=>
   rw[e]at p;refine λv' H' s' r'=>p v' H' s' (Vp r' λds z=>?_)
   subst z;cases dx with
   |lst ds=>exact hd _ rfl
   |tup xs=>
    cases dy with
    |tup ys=>rw[WB]at e;split at e<;>cases e
    |_=>cases e
   |str xs=>
    cases dy with
    |str ys=>rw[WC]at e;split at e<;>cases e
    |_=>cases e
   |int i=>cases dy<;>cases e
   |_=>cases e
 cases dx with
 |lst ds=>
  cases dy with
  |lst es=>
   obtain⟨a,xs,rfl,s1,r1⟩:=hx.lst_of;obtain⟨b,ys,rfl,s2,r2⟩:=hy.lst_of;simp only[WD]at p;split at p
   .rename_i h;refine Vx pI s U H _ _ v u Q I rx ry ⟨a,b,xs,ys,rfl,rfl,s1,s2,by rw[r1.length,r2.length];exact Jl h,λq hq=>?_⟩
    exact p _ _ (GL hq _) (Ln s0 hA hq (r1.append r2))
   .exact p.elim
  |_=>exact p.elim
 |_=>exact key (by intro _ z;cases z) rfl
theorem wA(ha:ST X CL W a fa)(hb:ST X CL W b fb):SC X CL W Aa (.BinOp a .Add b pos) (λY=>(fa Y).bind λx=>(fb Y).bind λy=>C4 .Add x y):=
 λA pI s U H Q I h=>by
  obtain⟨hA,Y,g,p⟩:=h;exact Xf (pU (W:=W) A H) (ha A) (hb A) pI s U H Q I ⟨hA,Y,g,Bq.bindF p λdx x H1 _ s1 r1 p1=>⟨hA.same s1,Y,g.same s1,Bq.bind (Rq:=EI X.K CL Aa H A) p1 λdy y H2 _ s2 r2 p2=>⟨s1.trans s2,(hA.same s1).same s2,dx,dy,r1.same s2,r2,p2⟩⟩⟩
def XQ(X:Cx)(CL:ClA)(W:XW)(f:Ai)(g:Ac D->R D):Prop:=∀ A H0,J7 X f (λxs H Q=>AH H0 H/\AOk H A/\∃ ds,Hq X.K CL H A xs ds/\Bq (EI X.K CL Aa H0 A) W H (g ds) Q)
theorem rK:XQ X CL W (.type "list") (biD .list):=by
  intro A H0 pI s U H xs us Q I r ⟨s0,hA,ds,rs,p⟩
  match ds,rs,p with
  |[.lst es],rs,p=>
    obtain⟨v,rfl,rv⟩:=rs.one;obtain⟨q,ys,rfl,sq,ry⟩:=rv.lst_of;exact Tt pI s U H _ us Q I r ⟨q,ys,rfl,.inl sq,λl hl=>p _ _ (GL hl _) (Ln s0 hA hl ry)⟩
  |[.tup es],rs,p=>
    obtain⟨v,rfl,rv⟩:=rs.one;obtain⟨q,ys,rfl,_,sq,ry⟩:=rv.tup_of;exact Tt pI s U H _ us Q I r ⟨q,ys,rfl,.inr sq,λl hl=>p _ _ (GL hl _) (Ln s0 hA hl ry)⟩
  |[],_,p=>exact p.elim
  |[.non],_,p=>exact p.elim
  |[.bl _],_,p=>exact p.elim
  |[.int _],_,p=>exact p.elim
  |[.str _],_,p=>exact p.elim
  |[.obj _ _],_,p=>exact p.elim
  |[.exc _ _],_,p=>exact p.elim
  |[.dic _],_,p=>exact p.elim
  |x::_::_,_,p=>cases x<;>exact p.elim
theorem vZ{x:Ak}{g:Ac D->R D}(hc:XQ X CL W (.type T) g)(hg:Gl X x)(hm:X.mg x=Af)(hv:Dz x=Ab (.type T))(ha:SAT X CL W (e::es) fs)(hn:x≠"__name__")(hdb:(x==("__debug__" : Ak))=Ad)(he:Ax (e::es) X.env=(Ad,eval e X.env)::Ax es X.env)(hpl:∀ pos,(Cd pos (Ax es X.env)).any (·.1)=Ad):SC X CL W Aa (.Call (.Name x p) (e::es) [] pos) (λY=>(fs Y).bind g):=λA pI s U H Q I ⟨hA,Y,gd,q⟩=>
 Ut (hc A H) hg hm hv (ha A) hn hdb he (hpl _) pI s U H Q I ⟨hA,Y,gd,Ip.bindF q λds vs H1 _ s1 r1 p1=>⟨s1,hA.same s1,ds,r1,p1⟩⟩
mutual
theorem Rz{K:Fg}{H:Hp}{A:Al->Prop}(hA:AOk H A):∀(n:Ag)(d:D){v:V},nlD n d=Aa->Rep K CL H A0 v d->Rep K CL H A v d
 |_,.non,_,_,h=>h
 |_,.bl _,_,_,h=>h
 |_,.int _,_,_,h=>h
 |_,.str _,_,_,h=>h
 |0,.tup _,_,hn,_=>by cases hn
 |n+1,.tup ds,_,hn,h=>by
  obtain⟨a,xs,e,_,s,r⟩:=h;refine⟨a,xs,e,?_,s,nls_up hA n ds hn r⟩;rcases s with s|s
  .refine .inl λz=>?_
   obtain⟨ys,q⟩:=hA a z;rcases s with s|⟨o,s⟩<;>rw[q]at s<;>cases s
  .exact .inr s
 |n,.lst _,_,hn,_=>by cases n<;>cases hn
 |n,.obj _ _,_,hn,_=>by cases n<;>cases hn
 |n,.exc _ _,_,hn,_=>by cases n<;>cases hn
 |n,.dic _,_,hn,_=>by cases n<;>cases hn
theorem nls_up{K:Fg}{H:Hp}{A:Al->Prop}(hA:AOk H A):∀(n:Ag)(ds:Ac D){vs:Ac V},ds.all (nlD n)=Aa->Reps K CL H A0 vs ds->Reps K CL H A vs ds
 |_,[],[],_,h=>h
 |n,d::ds,_::_,hn,h=>by
  simp only[GE,An]at hn;exact⟨Rz hA n d hn.1 h.1,nls_up hA n ds hn.2 h.2⟩
 |_,[],_::_,_,h=>h.elim
 |_,_::_,[],_,h=>h.elim
end
theorem Ww{fr:Aj}(hA0:AOk H0 A)(s:AH H0 H)(hc:Fw fr d=Aa)(r:EI K CL fr H0 A0 H v d):EI K CL fr H0 A H v d:=by
 have hA:=hA0.same s;cases d with
 |lst ds=>
  have hc':(fr&&ds.all (nlD 5))=Aa:=hc;rw[An]at hc';obtain⟨a,xs,e,h0,h1,rs⟩:=r.2 hc'.1 ds rfl;have hA2:AOk H (λb=>A b\/b=a):=λb hb=>hb.elim (hA b) λe=>by rw[e];exact⟨xs,h1⟩
  have rs':=nls_up hA2 5 ds hc'.2 (Reps.sub (λ_ z=>z.elim) _ rs)
  refine⟨⟨a,xs,e,.inl (hA0.new h0),SqL.of h1,Reps.sub (λ_ z=>.inl z) _ rs'⟩,λ_ ds' e'=>?_⟩
  cases e';exact⟨a,xs,e,h0,h1,rs'⟩
 |_=>exact⟨Rz hA 5 _ hc r.1,λ_ _ z=>nomatch z⟩
def spD(K:Fg)(CL:ClA)(n:Ag)(fr:Aj)(F:Ac D->R D):Sp:=λvs H Q E=>∃(ds:Ac D)(A:Al->Prop),vs.length=n/\AOk H A/\Reps K CL H A vs ds/\(match F ds with
  |.ok d=>∀ v H',AH H H'->EI K CL fr H A H' v d->Q v H'
  |.exn x=>∀ cls dx H',AH H H'->GQ K CL H' cls dx x->E cls dx H'
  | .bad=>Bl)
def EKW(K:Fg)(CL:ClA)(A:Al->Prop)(W:XW):XK:=λcls dx H'=>∃ x,GQ K CL H' cls dx x/\W x H'
theorem Hq.plain{K:Fg}{H:Hp}{A:Al->Prop}:∀{vs:Ac V}{ds:Ac D},Hq K CL H A vs ds->Reps K CL H A0 vs ds
 |[],[],h=>trivial
 |_::_,_::_,h=>⟨h.1.plain,Hq.plain h.2⟩
 |[],_::_,h=>h.elim
 |_::_,[],h=>h.elim
theorem mV{CX:CXT}{fr:Aj}{f:Al}{fd:Cf}{ps:Ac Ak}{F:Ac D->R D}{x:Ak}{ft:Rho->R (Ac D)}{sh:Rho->Aj}(G:FnOk X.prog X.w X.K X.mg X.base CX k f fd ps (spD X.K CL n fr F))(hr:Room k X.A)(hg:Gl X x)(hm:X.mg x=Ab (.ref f))(hk:CT X.K (.ref f)=Aa)(hb:G9 X.K fd ps [])(hx:∀ A,LJ CX X (EKW X.K CL A W))(ha:SA X CL W (e::es) fs)(hat:SAT X CL W (e::es) ft)(hst:∀ Y,sh Y=Aa->ft Y=fs Y)(hn:∀ Y ds,ft Y=.ok ds->ds.length=n)(hdb:(x==("__debug__" : Ak))=Ad)(he:Ax (e::es) X.env=(Ad,eval e X.env)::Ax es X.env)(hpl:∀ pos,(Cd pos (Ax es X.env)).any (·.1)=Ad):SC X CL W fr (.Call (.Name x p) (e::es) [] pos) (λY=>(ft Y).bind λds=>(F ds).bind λd=>if sh Y=Aa then .ok d else if Fw fr d=Aa then .ok d else .bad):=λA pI s U H Q I ⟨hA,Y,gd,q⟩=>by
 dsimp only at q;by_cases hs:sh Y=Aa
 .rw[hst Y hs]at q;refine Vu G hr hg hm hk hb .nil (hx A) (ha A) hdb he (hpl _) pI s U H Q I ⟨hA,Y,gd,?_⟩;cases e1:fs Y with
  |bad=>rw[e1]at q;exact q
  |exn y=>rw[e1]at q;exact q
  |ok ds=>
   rw[e1]at q;intro vs H1 s1 r1;refine⟨ds,A,by rw[C8,r1.length];exact hn Y ds (by rw[hst Y hs];exact e1),hA.same s1,by rw[C8];exact r1,?_⟩
   have q':Bq (EI X.K CL fr H A) W H ((F ds).bind λd=>if sh Y=Aa then .ok d else if Fw fr d=Aa then .ok d else .bad) Q:=q
   cases e2:F ds with
   |ok d=>
    rw[e2,R.bind_ok,AI hs]at q';exact λv H2 s2 r2=>q' v H2 (s1.trans s2) ⟨r2.1,λz ds' e'=>let ⟨a,xs,z1,z2,z3⟩:=r2.2 z ds' e';⟨a,xs,z1,s1.free z2,z3⟩⟩
   |exn y=>rw[e2]at q';exact λcls dx H2 s2 xr=>⟨y,xr,q' H2 (s1.trans s2)⟩
   |bad=>rw[e2]at q';exact q'.elim
 .refine Vu G hr hg hm hk hb .nil (hx A0) (hat A) hdb he (hpl _) pI s U H Q I ⟨hA,Y,gd,?_⟩;cases e1:ft Y with
  |bad=>rw[e1]at q;exact q
  |exn y=>rw[e1]at q;exact q
  |ok ds=>
   rw[e1]at q;intro vs H1 s1 r1;refine⟨ds,A0,by rw[C8,r1.plain.length];exact hn Y ds e1,λ_ z=>z.elim,by rw[C8];exact r1.plain,?_⟩
   have q':Bq (EI X.K CL fr H A) W H ((F ds).bind λd=>if sh Y=Aa then .ok d else if Fw fr d=Aa then .ok d else .bad) Q:=q
   cases e2:F ds with
   |ok d=>
    rw[e2,R.bind_ok,AT hs]at q';split at q'
    .rename_i hc;exact λv H2 s2 r2=>q' v H2 (s1.trans s2) (Ww hA (s1.trans s2) hc ⟨r2.1,λz ds' e'=>let ⟨a,xs,z1,z2,z3⟩:=r2.2 z ds' e';⟨a,xs,z1,s1.free z2,z3⟩⟩)
    .exact q'.elim
   |exn y=>rw[e2]at q';exact λcls dx H2 s2 xr=>⟨y,xr,q' H2 (s1.trans s2)⟩
   |bad=>rw[e2]at q';exact q'.elim
end
theorem PF(env:CN):∀(ns:Ac (Ak×EG))(acc:Ac (Ak×Al)),(∀ x∈ns,x.2=.free->∃ c,env.cells.lookup x.1=Ab c)->(∀ x c,acc.lookup x=Ab c->env.cells.lookup x=Ab c) ->
  ∃ cl,(forIn ns acc fun(x:Ak×EG)(cs:Ac (Ak×Al))=>(if (x.2==.free)=Aa then do let c <-cellOf env x.1;pure (EW ((x.1,c)::cs)) else pure (EW cs):Hl (ForInStep (Ac (Ak×Al)))))=pure cl /\
   (∀ x c,cl.lookup x=Ab c->env.cells.lookup x=Ab c)/\(∀ x,((x,Ed)∈ns\/∃ c,acc.lookup x=Ab c)->∃ c,cl.lookup x=Ab c)
 |[],acc,_,h2=>⟨acc,by rw[DV],h2,λx hx=>hx.elim (λz=>nomatch z) id⟩
 |(n,k)::r,acc,h1,h2=>by
  rw[D8];by_cases hk:k=.free
  .subst hk;obtain⟨c,hc⟩:=h1 (n,.free) AE rfl;obtain⟨cl,e,p,q⟩:=PF env r ((n,c)::acc) (λx hx=>h1 x (Ay _ hx)) (λx d hd=>by
    rw[BX]at hd;split at hd
    .rename_i hx;cases hd;rw[eq_of_beq hx];exact hc
    .exact h2 x d hd)
   refine⟨cl,?_,p,λx hx=>q x ?_⟩
   .have e1:cellOf env n=pure c:=by unfold cellOf;dsimp only at hc;rw[hc]
    rw[AI (by rfl),e1]
    exact e
   .rcases hx with hx|⟨d,hd⟩
    .rcases At.mp hx with z|z
     .cases z;exact .inr ⟨c,by simp[BX]⟩
     .exact .inl z
    .by_cases hxn:x=n
     .exact .inr ⟨c,by subst hxn;simp[BX]⟩
     .exact .inr ⟨d,by rw[BX];rw[Dt.mpr hxn];exact hd⟩
  .obtain⟨cl,e,p,q⟩:=PF env r acc (λx hx=>h1 x (Ay _ hx)) h2
   refine⟨cl,?_,p,λx hx=>q x ?_⟩
   .rw[AT (by simpa using hk)]
    exact e
   .rcases hx with hx|hx
    .rcases At.mp hx with z|z
     .cases z;exact absurd rfl hk
     .exact .inl z
    .exact .inr hx
theorem TR(h:∀ x∈scope.names,x.2=.free->∃ c,env.cells.lookup x.1=Ab c):∃ cl,closureFor scope env=pure cl/\(∀ x c,cl.lookup x=Ab c->env.cells.lookup x=Ab c)/\∀ x,(x,Ed)∈scope.names->∃ c,cl.lookup x=Ab c:=by
 obtain⟨cl,e,p,q⟩:=PF env scope.names [] h (λx c z=>by simp at z)
 refine⟨cl,?_,p,λx hx=>q x (.inl hx)⟩
 unfold closureFor
 first
  |exact e
  |(simp only[bind_pure];exact e)
  |(rw[show (forIn scope.names ([]:Ac (Ak×Al)) _:Hl _)=pure cl from e];rfl)
theorem P5:∀(names:Ac (Ak×EG))(h:AC)(acc:Ac (Ak×Al))(x:Ak)(c:Al),(Dr h.objs.size names acc).lookup x=Ab c->acc.lookup x=Ab c\/((x,B8)∈names/\h.objs.size<=c/\(HC h names).IsCell c Af)
 |[],_,_,_,_,e=>.inl e
 |(n,k)::r,h,acc,x,c,e=>by
  unfold Dr at e;unfold HC;by_cases hk:(k==B8)=Aa
  .rw[AI hk]at e ⊢;have hs:h.objs.size+1=(h.push { cls:=.type "cell",data:=.cell Af }).objs.size:=(BF ..).symm;rw[hs]at e;rcases P5 r _ _ x c e with q|⟨q1,q2,q3⟩
   .rw[BX]at q;cases hx:x==n with
    |true=>
     rw[hx]at q;cases q;refine .inr ⟨?_,A7 _,?_⟩
     .rw[eq_of_beq hx,eq_of_beq hk];exact AE
     .exact⟨_,IC r _ _ _ (Az _ rfl),rfl⟩
    |false=>rw[hx]at q;exact .inl q
   .exact .inr ⟨Ay _ q1,by omega,q3⟩
  .rw[AT hk]at e ⊢;rcases P5 r h acc x c e with q|⟨q1,q2,q3⟩
   .exact .inl q
   .exact .inr ⟨Ay _ q1,q2,q3⟩
theorem P6:∀(names:Ac (Ak×EG))(h:AC)(acc:Ac (Ak×Al)),(∀ x y c,acc.lookup x=Ab c->acc.lookup y=Ab c->x=y)->(∀ x c,acc.lookup x=Ab c->c<h.objs.size)->∀ x y c,(Dr h.objs.size names acc).lookup x=Ab c->(Dr h.objs.size names acc).lookup y=Ab c->x=y
 |[],_,_,i,_,x,y,c,e1,e2=>i x y c e1 e2
 |(n,k)::r,h,acc,i,b,x,y,c,e1,e2=>by
  unfold Dr at e1 e2;by_cases hk:(k==B8)=Aa
  .rw[AI hk]at e1 e2;have hs:h.objs.size+1=(h.push { cls:=.type "cell",data:=.cell Af }).objs.size:=(BF ..).symm;rw[hs]at e1 e2;have look:∀ z d,Gy z ((n,h.objs.size)::acc)=Ab d->(z=n/\d=h.objs.size)\/(z≠n/\acc.lookup z=Ab d):=λz d q=>by
    rw[BX]at q;cases hx:z==n with
    |true=>rw[hx]at q;cases q;exact .inl ⟨eq_of_beq hx,rfl⟩
    |false=>rw[hx]at q;exact .inr ⟨λe=>by rw[e]at hx;simp at hx,q⟩
   refine P6 r _ _ (λz z' d q q'=>?_) (λz d q=>?_) x y c e1 e2
   .rcases look z d q with ⟨rfl,q1⟩|⟨_,q1⟩<;>rcases look z' d q' with ⟨rfl,q2⟩|⟨_,q2⟩
    .rfl
    .exact absurd (b _ _ q2) (by rw[q1];exact Bt _)
    .exact absurd (b _ _ q1) (by rw[q2];exact Bt _)
    .exact i _ _ _ q1 q2
   .rw[<-hs];rcases look z d q with ⟨_,q1⟩|⟨_,q1⟩
    .rw[q1];exact GK _
    .exact DS (b _ _ q1)
  .rw[AT hk]at e1 e2;exact P6 r h acc i b x y c e1 e2
theorem PH:∀(names:Ac (Ak×EG))(n:Ag)(acc:Ac (Ak×Al))(x:Ak),(x,B8)∉names->(Dr n names acc).lookup x=acc.lookup x
 |[],_,_,_,_=>rfl
 |(m,k)::r,n,acc,x,hx=>by
  unfold Dr;have hr:(x,B8)∉r:=λz=>hx (Ay _ z)
  by_cases hk:(k==B8)=Aa
  .rw[AI hk,PH r _ _ x hr,BX];cases q:x==m with
   |true=>exact absurd (by rw[eq_of_beq q,eq_of_beq hk];exact AE) hx
   |false=>rfl
  .rw[AT hk];exact PH r n acc x hr
theorem P7(n0:Ag):∀(names:Ac (Ak×EG))(n:Ag)(acc:Ac (Ak×Al))(x:Ak),n0<=n->((x,B8)∈names\/∃ c,acc.lookup x=Ab c/\n0<=c)->∃ c,(Dr n names acc).lookup x=Ab c/\n0<=c
 |[],_,_,_,_,h=>h.elim (λz=>nomatch z) id
 |(m,k)::r,n,acc,x,hn,h=>by
  unfold Dr;by_cases hk:(k==B8)=Aa
  .rw[AI hk];refine P7 n0 r _ _ x (by omega) ?_
   by_cases hx:(x==m)=Aa
   .exact .inr ⟨n,by rw[BX,hx],hn⟩
   .rcases h with h|⟨c,h,hc⟩
    .rcases At.mp h with z|z
     .cases z;simp at hx
     .exact .inl z
    .exact .inr ⟨c,by rw[BX];simp only[hx];exact h,hc⟩
  .rw[AT hk];refine P7 n0 r _ _ x hn (h.imp (λh=>?_) id)
   rcases At.mp h with z|z
   .cases z;simp at hk
   .exact z
theorem eI{M:Hu}{A:A9}{E:Vq}{globals:Al}{qual:Ak}{Q:CN->Ar->Prop}(hQ:Q (newEnv scope s.heap.objs.size globals (Dr (s.heap.objs.size+1) scope.names cl) qual Af .none (Ab env) Jj) { s with heap:=HC (s.heap.push { cls:=.type "dict",data:=.dict #[] }) scope.names }):Au M A (Jb scope globals cl [] qual Af .none (Ab env)) Q E s:=by
 simp only[Jb,Option.isSome_some,Fn];refine Ah (wpAny_alloc ?_);refine Ah (wpAny_layCells _ (λname kind cells=>by cases hkc:kind==B8<;>simp[hkc]) _ _ _ _ ?_)
 rw[show ({ s with heap:=s.heap.push { cls:=.type "dict",data:=.dict #[] } }:Ar).heap.objs.size=s.heap.objs.size+1 from BF ..]
 rw[DV];exact Ah (Av (Av hQ))
noncomputable def cxC(X:Cx)(scope:Cz)(cl:Ac (Ak×Al))(C:Al)(N':Ac Ak)(s₀:Ar)(H₀:Hp)(fp:Ac Al):Cx where
 prog:=X.prog
 w:=X.w
 K:=X.K
 mg:=X.mg
 base:=X.base
 A:=X.A
 N:=N'
 s₀:=s₀
 H₀:=H₀
 env:=compEnvC scope cl C X.env
 outer:=X.stack
 stack:=X.stack
 ex:=fp
 fn:=λx=>scope.names.lookup x==Ab B8
 calm:=X.calm
 pn:=[]
 xe:=λ_ _=>Bl
theorem M6{env:CN}:∀{names:Ac (Ak×EG)}{x:Ak}{k:EG},(names.map λ(n,k)=>if (k==Ed&&env.scope.kind==.function&&env.kindOf n==Ab .cell) then (n,B8) else (n,k)).lookup x=Ab k->names.lookup x=Ab k\/(k=.cell/\names.lookup x=Ab .free)
 |[],_,_,h=>by simp at h
 |(n,j)::r,x,k,h=>by
  have ih:=@M6 env r x k;have h':Gy x ((if (j==Ed&&env.scope.kind==.function&&env.kindOf n==Ab .cell)=Aa then (n,B8) else (n,j))::(r.map λ(n,k)=>if (k==Ed&&env.scope.kind==.function&&env.kindOf n==Ab .cell) then (n,B8) else (n,k)))=Ab k:=h
  by_cases hc:(j==Ed&&env.scope.kind==.function&&env.kindOf n==Ab .cell)=Aa
  .rw[AI hc]at h';rw[BX]at h' ⊢;cases hx:x==n with
   |true=>
    rw[hx]at h';cases h';simp only[An]at hc;exact .inr ⟨rfl,by rw[eq_of_beq hc.1.1]⟩
   |false=>rw[hx]at h';exact ih h'
  .rw[AT hc]at h';rw[BX]at h' ⊢;cases hx:x==n with
   |true=>rw[hx]at h';exact .inl h'
   |false=>rw[hx]at h';exact ih h'
structure BlockOk (X:Cx) (scope:Cz) (N':Ac Ak) (ts:Ac Ag):Prop where
 kind:scope.kind=.function
 uniq:∀ y∈scope.names,scope.names.lookup y.1=Ab y.2
 names:∀ y∈scope.names,y.2=.local->scope.names.lookup y.1=Ab .local
 free:∀ y∈scope.names,y.2=.free->X.env.scope.names.lookup y.1=Ab .cell\/X.env.scope.names.lookup y.1=Ab .free
 len:N'.length=X.N.length
 same:∀ i x,N'[i]?=Ab x->scope.names.lookup x=Ab .free->i∉ts->X.N[i]?=Ab x
 loc:∀ i x,N'[i]?=Ab x->(scope.names.lookup x=Ab .local\/scope.names.lookup x=Ab .cell)->i∈ts
structure BCells (X:Cx) (scope:Cz) (cl:Ac (Ak×Al)) (C:Al) (h:AC):Prop where
 own:∀ x c,cl.lookup x=Ab c->X.env.cells.lookup x=Ab c\/(scope.names.lookup x=Ab .cell/\C<c/\h.IsCell c Af)
 inj:∀ x y c,cl.lookup x=Ab c->cl.lookup y=Ab c->x=y
 has:∀ x,scope.names.lookup x=Ab .cell->∃ c,cl.lookup x=Ab c/\C<c
 fr:∀ x,(x,Ed)∈scope.names->∃ c,cl.lookup x=Ab c/\X.env.cells.lookup x=Ab c
section
variable{X:Cx}{pI:Pn}{U:L2.St}{H:Hp}{s:Ar}
noncomputable def hideT(ts:Ac Ag)(U:L2.St):L2.St:=ts.foldl (λU t=>U.set t Af) U
theorem PV:∀(ts:Ac Ag)(U:L2.St),(hideT ts U).length=U.length
 |[],_=>rfl
 |t::ts,U=>by show (hideT ts (U.set t Af)).length=_;rw[PV ts,Bp]
theorem TZ:∀(ts:Ac Ag)(U:L2.St){i:Ag}{v:V},(hideT ts U)[i]?=Ab (Ab v)->U[i]?=Ab (Ab v)/\i∉ts
 |[],_,_,_,h=>⟨h,by simp⟩
 |t::ts,U,i,v,h=>by
  obtain⟨h1,h2⟩:=TZ ts (U.set t Af) (i:=i) (v:=v) h;by_cases e:t=i
  .subst e;have:=Hm h1;cases this
  .rw[CI e]at h1;exact⟨h1,by simp only[At,Dm];exact⟨λz=>e z.symm,h2⟩⟩
theorem fA{tk:Ag}{C:Al}{m:Ak->Ap Ai}(I:Inv X pI U H s)(B:BlockOk X scope N' ts)(hf:∀ b∈fp,Hs X pI H b)(hfo:∀ b∈fp,b<s.heap.objs.size)(hb:BCells X scope cl C h')(hk:∀ b o,s.heap.get? b=Ab o->h'.get? b=Ab o)(hC:s.heap.objs.size<=C)(hn:h'.Ns C m):Inv (cxC X scope cl C N' s H fp) [] (hideT ts U) H {s with heap:=h',toks:=tk}:=by
 have stf:∀ b∈fp,b∉frs X.stack:=λb hb z=>by
  rcases At.mp (I.stkSub b z) with e|e
  .exact(hf b hb).2.1 e
  .exact(hf b hb).2.2.1 e
 have frOf:∀ x,((relabel scope X.env).names.lookup x=Ab .cell\/(relabel scope X.env).names.lookup x=Ab .free)->scope.names.lookup x=Ab .free\/scope.names.lookup x=Ab .cell:=λx hx=>by
  rcases hx with z|z
  .rcases M6 z with z|⟨_,z⟩
   .exact .inr z
   .exact .inl z
  .rcases M6 z with z|⟨z,_⟩
   .exact .inl z
   .cases z
 have gtC:∀ c:Al,C<c->s.heap.objs.size<=c:=λc z=>Cb hC (Ff z)
 have cellK:∀ c v,s.heap.IsCell c v->h'.IsCell c v:=λc v ⟨o,ho,hd⟩=>⟨o,hk _ _ ho,hd⟩
 refine⟨⟨I.ok.mod,B.kind,I.ok.glob,I.ok.blt,hC,hb.inj,λx hx=>?_,λx c h e=>?_,I.ok.hd,I.ok.frames,.inl rfl,λb hbb=>⟨?_,λx c e=>?_⟩,I.bs,Cb I.ok.bsz I.sz,λb o e hbb=>?_,stf,I.stack,I.stkFree⟩,rfl,I.bare,Un.kept hk,⟨m,hn,λi x v h1 h2 h3=>?_⟩,λx c e=>?_,I.hok.fresh hC,λx c e=>(hb.own x c e).elim (I.freeC x c) (λz=>I.hok.fresh (gtC c z.2.1)),λp hp=>absurd (show p∈([]:Pn) from hp) (by simp),I.hok.kept hk,?_⟩
 .rcases frOf x hx with z|z
  .obtain⟨c,q,_⟩:=hb.fr x (C2 z);exact⟨c,q⟩
  .obtain⟨c,q,_⟩:=hb.has x z;exact⟨c,q⟩
 .obtain⟨c',q,z⟩:=hb.has x (eq_of_beq h);have e':cl.lookup x=Ab c:=e;rw[q]at e';cases e';exact gtC _ z
 .intro z;have z':b=C:=z;have:=hfo b hbb;rw[z']at this;exact absurd (AN this hC) (Bt _)
 .rcases hb.own x c e with z|z
  .exact(hf b hbb).2.2.2.2.1 x c z
  .intro q;have:=hfo b hbb;have:=gtC c z.2.1;rw[q]at this;exact absurd ‹b<_› (Ge.mpr this)
 .rcases (hf b hbb).2.2.2.1 with z|z
  .exact I.ok.noex b o e z
  .exact absurd (AN (AB e) (Cb I.ok.bsz z)) (Bt _)
 .obtain⟨h2,hts⟩:=TZ ts U h2;have h3':(relabel scope X.env).names.lookup x=Ab .local\/(relabel scope X.env).names.lookup x=Ab .cell\/(relabel scope X.env).names.lookup x=Ab .free:=h3;have h1':N'[i]?=Ab x:=h1;rcases h3' with z|z
  .rcases M6 z with z|⟨z,_⟩
   .exact absurd (B.loc i x h1' (.inl z)) hts
   .cases z
  .have fr:=(frOf x z).resolve_right λq=>hts (B.loc i x h1' (.inr q))
   have hm:=C2 fr;have hX:=B.same i x h1' fr hts;obtain⟨m0,hn0,hl0⟩:=I.loc;obtain⟨u,ru,lk⟩:=hl0 i x v hX h2 (by
    rcases B.free _ hm rfl with q|q
    .exact .inr (.inl q)
    .exact .inr (.inr q))
   refine⟨u,ru,?_⟩;obtain⟨c,hc,hcX⟩:=hb.fr x hm;rcases lk with ⟨q,_⟩|⟨_,c',hc',hcell⟩
   .have q':X.env.scope.names.lookup x=Ab .local:=q;rcases B.free _ hm rfl with p|p
    .rw[show X.env.scope.names.lookup x=_ from p]at q';cases q'
    .rw[show X.env.scope.names.lookup x=_ from p]at q';cases q'
   .have e:=hcX;rw[hc']at e;cases e;exact .inr ⟨z,c,hc,cellK _ _ hcell⟩
 .rcases hb.own x c e with z|z
  .obtain⟨v,q⟩:=I.cell x c z;exact⟨v,cellK _ _ q⟩
  .exact⟨_,z.2.2⟩
 .show (hideT ts U).length=N'.length;rw[PV,I.len,B.len]
theorem Ua{C D:Al}{s':Ar}{U':L2.St}{pins':Pn}{h'':AC}{ys:Ac Ai}(I:Inv X pI U H s)(hf:∀ b∈fp,Hs X pI H b)(I':Inv (cxC X scope cl C N' s H fp) pins' U' H' s')(hD:s.heap.objs.size<=D)(hDC:D≠C)(hC:s.heap.objs.size<=C)(hd:s'.heap.get? D=Ab { cls:=.type "list",data:=.seq ys.toArray n })(hDn:H' D=Af)(rv:Bo xs ys)(hz:xs.length<=sizeLine)(hs:EF C s'.heap h''):Inv X pI U (upd H' D (.lst xs)) {s' with heap:=h''}:=by
  have u:Un (frs X.stack) fp H H' s.heap s'.heap:=I'.base;have lt:∀ b o,s.heap.get? b=Ab o->b≠C/\b≠D:=λb o e=>⟨λz=>absurd (AN (AB e) (z ▸ hC)) (Bt _),λz=>absurd (AN (AB e) (z ▸ hD)) (Bt _)⟩
  have HD:H D=Af:=I.hok.fresh hD;have hCn:H' C=Af:=I'.free;have kb:∀ b o,b≠C->s'.heap.get? b=Ab o->h''.get? b=Ab o:=λb o hb e=>(hs.2 b hb).trans e
  have u2:Un (frs X.stack) fp H (upd H' D (.lst xs)) s.heap h'':=⟨λb o e q hb hx=>kb b o (lt b o e).1 (u.keep b o e q hb hx),λb o e q hb hx=>by
      obtain⟨sl,e1⟩:=u.slot b o e q hb hx;exact⟨sl,kb b _ (lt b o e).1 e1⟩,λb o e q hx=>by rw[BQ (lt b o e).2];exact u.free b o e q hx,λb o e hx=>by
      obtain⟨o',e1⟩:=u.there b o e hx;exact⟨o',kb b _ (lt b o e).1 e1⟩,λb zs q=>by rw[BQ (Gr q HD)];exact u.tups b zs q,λb o zs q=>by rw[BQ (Gr q HD)];exact u.frzs b o zs q,λb ps q=>by rw[BQ (Gr q HD)];exact u.tbls b ps q⟩
  have hok:HOk X.prog X.w (upd H' D (.lst xs)) h'':=λb o e=>by
    by_cases hb:b=D
    · subst hb;rw[F7]at e;cases e;exact⟨hz,ys,n,rv,kb _ _ hDC hd⟩
    · rw[BQ hb]at e;refine(I'.hok b o e).stay (λc v hc q=>kb c v ?_ q) (λc q=>by rw[BQ (Gr q hDn)];exact q) λc zs q=>by rw[BQ (Gr q hDn)];exact q
      rcases hc with rfl|hc
      · exact Gr e hCn
      · exact Gr hc hCn
  exact I.call' (s':={s' with heap:=h''}) (ch:=fp) I'.os u2 hok I'.bare λb hb=>⟨(hf b hb).2.2.2.1,(hf b hb).2.1,(hf b hb).2.2.2.2.1,(hf b hb).2.2.2.2.2⟩
end
def PTs(X:Cx)(ifs:Ac Ao)(tt:TT):Prop:=∀(pI:Pn)(s:Ar)(U:L2.St)(H:Hp)(Q:Aj->Hp->Prop),Inv X pI U H s->tt U H Q ->
 Au (model X.prog X.w) X.A (forIn ifs Aa λc r=>if r=Aa then do let ok <-Ja c X.env (eval c X.env);pure (EW ok) else pure (EW r)) (TP X pI U Q) X.xe s
theorem rA:PTs X [] (λU H Q=>Q Aa H):=λpI s U H Q I h=>wpAny_tests_nil ⟨H,I,h⟩
theorem qZ{t:TT}(h:PT X c t):PTs X [c] t:=λpI s U H Q I q=>wpAny_tests_one (h pI s U H Q I q)
theorem fO{D:Al}{ys:Ac Ai}{E:Vq}{Q:Vq}(I:Inv X ((D,{ cls:=.type "list",data:=.seq ys.toArray n })::pI) U H s)(hD:X.s₀.heap.objs.size<=D)(hp:∀ p∈X.pn++pI,p.1≠D)(hc:∀ x c,X.env.cells.lookup x=Ab c->c≠D)(hz:ys.length<=sizeLine)(h:∀ s',Inv X ((D,{ cls:=.type "list",data:=.seq (ys++[y]).toArray (n+1) })::pI) U H s'->(∀ b o,b≠D->s.heap.get? b=Ab o->s'.heap.get? b=Ab o)->Q .none s'):Au (model X.prog X.w) X.A (call (.builtin "list.append") [.ref D,y]) Q E s:=by
 obtain⟨e,hn,hL,hfs,_⟩:=I.pin (D,{ cls:=.type "list",data:=.seq ys.toArray n }) (Bw _ AE);refine append_at (hsz:=by rw[AJ];exact hz) e λh' hs hd=>?_
 have hd':h'.get? D=Ab { cls:=.type "list",data:=.seq (ys++[y]).toArray (n+1) }:=by rw[hd];simp
 have kb:∀ b o,b≠D->s.heap.get? b=Ab o->h'.get? b=Ab o:=λb o hb q=>(hs.2 b hb).trans q
 have I0:Inv X pI U H s:=I.pins_of λp hp=>I.pin p (Bw _ (Ay _ hp))
 have I1:Inv X pI U H {s with heap:=h'}:=I0.turned (t':=s.toks) kb hn hL (.inr hD) hc hp
 refine h _ (I1.pins_of λp hp=>?_) kb
 rcases At.mp hp with rfl|hp
 .exact⟨hd',hn,hL,hfs,λv z=>by
   have z':Mc _ _=L9 v:=z;cases z'⟩
 .exact I1.pin p (Bw _ hp)
section
variable{prog:AV}{w:AF}{A:A9}{R:IY->Ar->Prop}{s:Ar}
theorem eZ{target:Ao}{it acc:Ai}(I:Ag->Ar->Prop)(turn:∀ n s,I n s->Au (model prog w) A (Ei it) (λr s₁=>match r with
      |none=>R (.ok .next) s₁
      | some v=>Au (model prog w) A (G4 target it v) (λ_ s₁'=>Au (model prog w) A (assign target env v) (λ_ s₂=>
          Au (model prog w) A (forIn ifs Aa λc r=>if r=Aa then do let ok <-Ja c env (eval c env);pure (EW ok) else pure (EW r)) (λok s₃=>
            if ok=Aa then Au (model prog w) A (eval elt env) (λx s₄=>
              Au (model prog w) A (call (.builtin "list.append") [acc,x]) (λ_ s₅=>∃ m,m<n/\I m s₅) (Jc (model prog w) A env λe s'=>R (.error e) s') s₄) (Jc (model prog w) A env λe s'=>R (.error e) s') s₃
            else ∃ m,m<n/\I m s₃) (Jc (model prog w) A env λe s'=>R (.error e) s') s₂) (Jc (model prog w) A env λe s'=>R (.error e) s') s₁') (Jc (model prog w) A env λe s'=>R (.error e) s') s₁) (Jc (model prog w) A env λe s'=>R (.error e) s') s)(n:Ag)(h:I n s):Fl (model prog w) A (.compLoop (.ListComp elt [⟨target,iter,ifs,0⟩] scope pos) 0 it acc env) R s:=by
  refine codeAny_loop rfl I (λn s hI=>?_) n h
  show Au _ A ((compTurn (.ListComp elt [⟨target,iter,ifs,0⟩] scope pos) 0 it acc env).onRaise (λx=>do HB x env;theTreesLotGoes x)) _ _ s
  refine wpAny_noted ?_;rw[compTurn_list];refine Ah (EV (Ah (Bu (turn n s hI) (λr s₁ h₁=>?_) λ_ _ h'=>h')))
  cases r with
  |none=>exact Av h₁
  |some v=>
    refine Ah (Bu h₁ (λ_ s₁' h₁'=>?_) λ_ _ h'=>h')
    refine Ah (Bu h₁' (λ_ s₂ h₂=>Ah (Bu h₂ (λok s₃ h₃=>?_) λ_ _ h'=>h')) λ_ _ h'=>h')
    cases ok with
    |false=>exact Av ⟨rfl,h₃⟩
    |true=>
      exact Ah (Ah (Bu h₃ (λx s₄ h₄=>Ah (Bu h₄ (λ_ s₅ h₅=>Av (Av ⟨rfl,h₅⟩)) λ_ _ h'=>h')) λ_ _ h'=>h'))
end
def Mq(J:It)(ts:Ac Ag)(g:TG)(tt:TT)(te:TE)(U:L2.St)(H:Hp)(Q:VK):Prop:=∃ W:Ag->Ag->Ac V->L2.St->Hp->Prop,(∃ m,W 0 m [] (hideT ts U) H)/\∀ i m xs U H,W i m xs U H ->
 (J.stop i H/\∀ p,H p=Af->Q (.ref p) (upd H p (.lst xs))) \/
 (J.go i H/\xs.length<sizeLine/\∀ x H',J.yld i H x H'->g x U H' λU2 H2=>tt U2 H2 λb H3=>if b=Aa then te U2 H3 λy H4=>∃ m',m'<m/\W (i+1) m' (xs++[y]) U2 H4 else ∃ m',m'<m/\W (i+1) m' xs U2 H3)
theorem Vd{g:TG}{it:Al}{tn:Ag->AC->Prop}{E:Vq}{RR:Ai->Al->IY->Ar->Prop}(hc:X.calm=Aa)(B:BlockOk X scope N' ts)(I:Inv X pI U H s)(T:Turn X.prog X.w X.K tg J fp it tn)(st:tn 0 s.heap)(hf:∀ b∈fp,Hs X pI H b)(hcl:∀ x c,cl.lookup x=Ab c->X.env.cells.lookup x=Ab c)(hcl2:∀ x,(x,Ed)∈scope.names->∃ c,cl.lookup x=Ab c)(hg:∀ cl C s H,PG (cxC X scope cl C N' s H fp) tg g)(ht:∀ cl C s H,PTs (cxC X scope cl C N' s H fp) ifs tt)(he:∀ cl C s H,PE (cxC X scope cl C N' s H fp) elt te)(h:Mq J ts g tt te U H Q)(hRR:∀ cl D C s' H' U' pins' xs ys n m,Inv (cxC X scope cl C N' s H fp) pins' U' H' s'->s'.heap.get? D=Ab { cls:=.type "list",data:=.seq (F2 ys) n }->H' D=Af->Bo xs ys->xs.length<=sizeLine->s.heap.objs.size<=D->D≠C->s.heap.objs.size<=C->s'.heap.Ns C m->Q (.ref D) (upd H' D (.lst xs))->RR (.ref D) C (.ok .next) s'):Au (model X.prog X.w) X.A (newList []) (λacc s₃=>Au (model X.prog X.w) X.A (Jb scope X.env.globals cl [] X.env.qual Af .none (Ab X.env)) (λcenv s₄=>Fl (model X.prog X.w) X.A (.compStart (.ListComp elt [⟨tg,iter,ifs,0⟩] scope pos) 0 (.ref it) acc {cenv with scope:=relabel scope X.env}) (RR acc cenv.locals) s₄) E s₃) E s:=by
 refine CP (eI ?_);dsimp only;generalize hH2:s.heap.push { cls:=.type "list",dict:=Af,data:=.seq ([]:Ac Ai).toArray }=H2;have hns₁:(HC (H2.push { cls:=.type "dict",data:=.dict #[] }) scope.names).Ns H2.objs.size (λ_=>Af):=(Heap.Ns.new H2 (.type "dict")).keeps (IC _ _)
 have hkp₁:∀ b o,H2.get? b=Ab o->(HC (H2.push { cls:=.type "dict",data:=.dict #[] }) scope.names).get? b=Ab o:=λb o e=>IC _ _ b o (As _ e)
 have hown:=P5 scope.names (H2.push { cls:=.type "dict",data:=.dict #[] }) cl;have hinj:=P6 scope.names (H2.push { cls:=.type "dict",data:=.dict #[] }) cl;rw[BF]at hown hinj;generalize hcl':Dr (H2.objs.size+1) scope.names cl=cl' at hown hinj;have hcf:∀ x,(x,B8)∉scope.names->cl'.lookup x=cl.lookup x:=λx hx=>by rw[<-hcl'];exact PH _ _ _ x hx
 have hch:∀ x,(x,B8)∈scope.names->∃ c,cl'.lookup x=Ab c/\H2.objs.size+1<=c:=λx hx=>by rw[<-hcl'];exact P7 _ _ _ _ x (A7 _) (.inl hx)
 generalize hh₁:HC (H2.push { cls:=.type "dict",data:=.dict #[] }) scope.names=h₁ at hns₁ hkp₁ hown;have hC:H2.objs.size=s.heap.objs.size+1:=by rw[<-hH2,BF]
 have hCle:s.heap.objs.size<=H2.objs.size:=by rw[hC];exact Yx _
 have hDC:s.heap.objs.size≠H2.objs.size:=by rw[hC];exact A4 (GK _)
 have below:∀ b,b<s.heap.objs.size->b≠H2.objs.size:=λb hb=>by rw[hC];exact A4 (DS hb)
 have old:∀ b o,s.heap.get? b=Ab o->h₁.get? b=Ab o:=λb o e=>hkp₁ b o (hH2 ▸ As _ e)
 have hacc:h₁.get? s.heap.objs.size=Ab { cls:=.type "list",data:=.seq ([]:Ac Ai).toArray 0 }:=hkp₁ _ _ (hH2 ▸ Az _ rfl);have clt:∀ x c,cl.lookup x=Ab c->c<s.heap.objs.size:=λx c e=>by
  obtain⟨v,q⟩:=I.cell x c (hcl x c e);exact q.lt
 have bc:BCells X scope cl' H2.objs.size h₁:=by
  refine⟨λx c e=>?_,hinj (λx y c e1 e2=>I.ok.inj x y c (hcl x c e1) (hcl y c e2)) (λx c e=>DS (AN (clt x c e) hCle)),λx hx=>?_,λx hx=>?_⟩
  .rcases hown x c e with q|⟨q1,q2,q3⟩
   .exact .inl (hcl x c q)
   .exact .inr ⟨B.uniq _ q1,q2,q3⟩
  .have hm:=C2 hx;obtain⟨c,e,hc⟩:=hch x hm;exact⟨c,e,hc⟩
  .have hno:(x,B8)∉scope.names:=λz=>by
    have e1:=B.uniq _ hx;have e2:=B.uniq _ z;rw[show scope.names.lookup x=_ from e1]at e2
    cases e2
   obtain⟨c,e⟩:=hcl2 x hx;exact⟨c,by rw[hcf x hno];exact e,hcl x c e⟩
 have hfo:∀ b∈fp,b<s.heap.objs.size:=λb hb=>by
  obtain⟨o,e,_⟩:=T.obj 0 _ st b hb;exact AB e
 generalize hD:s.heap.objs.size=D at *;generalize hC':H2.objs.size=C at *;have I0:Inv (cxC X scope cl' C N' s H fp) [] (hideT ts U) H {s with heap:=h₁,toks:=s.toks+([]:Ac (Ak×Ai)).length}:=fA (tk:=s.toks+([]:Ac (Ak×Ai)).length) I B hf (λb hb=>by rw[hD];exact hfo b hb) bc old (by rw[hD];exact hCle) hns₁
 have nD:H D=Af:=I.hok.fresh (by rw[hD];exact A7 _)
 have noD:∀ b∈fp,b≠D:=λb hb=>A4 (hfo b hb)
 have noC:∀ b∈fp,b≠C:=λb hb=>below b (hfo b hb)
 have stfs:D∉frs X.stack:=λz=>by
  obtain⟨_,o,ho,_⟩:=I.stack.mem z;exact absurd (AB ho) (by rw[hD];exact Bt _)
 have cD:∀ x c,cl'.lookup x=Ab c->c≠D:=λx c e z=>by
  rcases bc.own x c e with q|⟨_,q,_⟩
  .obtain⟨v,q⟩:=I.cell x c q;exact absurd q.lt (by rw[z,hD];exact Bt _)
  .rw[z]at q;exact absurd (AN q hCle) (Bt _)
 have I1:Inv (cxC X scope cl' C N' s H fp) [(D,{ cls:=.type "list",data:=.seq ([]:Ac Ai).toArray 0 })] (hideT ts U) H {s with heap:=h₁,toks:=s.toks+([]:Ac (Ak×Ai)).length}:=I0.pins_of λp hp=>by
  have e:=BN.mp hp;subst e;exact⟨hacc,nD,hDC,stfs,λv z=>by
   have z':Mc _ _=L9 v:=z;cases z'⟩
 have st1:tn 0 h₁:=T.keep _ _ _ st λb _ o e=>old b o e
 obtain⟨W,⟨m0,w0⟩,turn⟩:=h;have fpk:∀{pl:Pn}{H':Hp},(∀ p∈pl,p.1=D)->(∀ b∈fp,H' b=Af)->∀ b∈fp,Hs (cxC X scope cl' C N' s H fp) pl H' b:=λ{pl H'} hp hn b hb=>
  ⟨hn b hb,noC b hb,λz=>by
   rcases At.mp (I.stkSub b z) with e|e
   .exact(hf b hb).2.1 e
   .exact(hf b hb).2.2.1 e,.inl hb,λx c e=>(bc.own x c e).elim ((hf b hb).2.2.2.2.1 x c) (λz q=>absurd (DH hCle z.2.1) (Ge.mpr (by rw[q];exact Ff (hfo b hb)))),λp hp'=>by
   have hp2:p∈pl:=hp';rw[hp p hp2];exact(noD b hb).symm⟩
 have loop:∀ s₃:Ar,s₃={s with heap:=h₁,toks:=s.toks+([]:Ac (Ak×Ai)).length} ->
   Fl (model X.prog X.w) X.A (.compLoop (.ListComp elt [⟨tg,iter,ifs,0⟩] scope pos) 0 (.ref it) (.ref D) (compEnvC scope cl' C X.env)) (RR (.ref D) C) s₃:=by
  rintro s₃ rfl;refine eZ (λk s'=>∃ i U' H' xs ys n,Inv (cxC X scope cl' C N' s H fp) [(D,{ cls:=.type "list",data:=.seq (F2 ys) n })] U' H' s'/\tn i s'.heap/\(∀ b∈fp,H' b=Af)/\Bo xs ys/\xs.length<=sizeLine/\W i k xs U' H') ?_ m0
   ⟨0,_,H,[],[],0,I1,st1,λb hb=>(hf b hb).1,.nil,Gz _,w0⟩
  rintro k s' ⟨i,U',H',xs,ys,n,I',st',fr',rv,hz,w'⟩;have one:∀ p∈[((D,{ cls:=.type "list",data:=.seq (F2 ys) n }):Al×C9)],p.1=D:=λp hp=>by rw[BN.mp hp]
  rcases turn i k xs U' H' w' with ⟨stop,q⟩|⟨go,hlt,step⟩
  .refine Bu (T.done (cxC X scope cl' C N' s H fp) rfl rfl rfl hc i _ s' U' H' (λ_ _=>Bl) I' (fpk one fr') st' stop) (λr s1 ⟨hr,J1⟩=>?_) λ_ _ f=>f.elim
   subst hr;obtain⟨e,hn,_⟩:=J1.pin _ (Bw _ AE);obtain⟨m,hm,_⟩:=J1.loc;exact hRR cl' D C s1 H' U' _ xs ys n m J1 e hn rv hz (A7 _) hDC hCle hm (q D hn)
  .refine Bu (T.item (cxC X scope cl' C N' s H fp) rfl rfl rfl hc i _ s' U' H' (λ_ _=>Bl) I' (fpk one fr') st' go) (λr s1 ⟨u,hr,h4⟩=>?_) λ_ _ f=>f.elim
   subst hr;refine Bu h4 (λ_ s5 ⟨x,H5,I5,r5,y5,st5,fr5⟩=>?_) λ_ _ f=>f.elim
   have I5':=I5.pinned (fpk one fr5) (T.obj _ _ st5);refine Bu (hg cl' C s H _ s5 U' H5 x u _ I5' r5 (step x H5 y5)) (λ_ s6 ⟨U6,H6,I6,q6⟩=>?_) λ_ _ f=>f.elim
   refine Bu (ht cl' C s H _ s6 U6 H6 _ I6 q6) (λok s7 ⟨H7,I7,q7⟩=>?_) λ_ _ f=>f.elim
   have again:∀{s8:Ar}{H8:Hp}{ys':Ac Ai}{n':Ag},Inv (cxC X scope cl' C N' s H fp) ((D,{ cls:=.type "list",data:=.seq (F2 ys') n' })::KN fp s5.heap) U6 H8 s8->Inv (cxC X scope cl' C N' s H fp) [(D,{ cls:=.type "list",data:=.seq (F2 ys') n' })] U6 H8 s8/\tn (i+1) s8.heap/\∀ b∈fp,H8 b=Af:=λ{s8 H8 ys' n'} I8=>
    ⟨I8.pins_of λp hp=>I8.pin p (Bw _ (by rw[BN.mp hp];exact AE)),T.keep _ _ _ st5 λb hb o e=>(I8.pin (b,o) (Bw _ (Ay _ (No hb e)))).1,λb hb=>by
     obtain⟨o,e,d⟩:=T.obj _ _ st5 b hb;exact(I8.pin (b,o) (Bw _ (Ay _ (No hb e)))).2.1⟩
   cases ok with
   |false=>
    rw[AT (by decide)]at q7
    obtain⟨m',hm,w7⟩:=q7;obtain⟨a1,a2,a3⟩:=again I7;rw[AT (by decide)]
    exact⟨m',hm,i+1,U6,H7,xs,ys,n,a1,a2,a3,rv,hz,w7⟩
   |true=>
    rw[AI rfl]at q7;rw[AI rfl];refine Bu (he cl' C s H _ s7 U6 H7 _ I7 q7) (λval s8 ⟨y,H8,I8,r8,m',hm,w8⟩=>?_) λ_ _ f=>f.elim
    have hl:=rv.length;refine fO (X:=cxC X scope cl' C N' s H fp) (ys:=ys) (n:=n) (pI:=KN fp s5.heap) I8 (by show s.heap.objs.size<=D;rw[hD];exact A7 _) (λp hp=>?_) cD (by omega) λs9 I9 kb=>?_
    .have hp2:p∈KN fp s5.heap:=hp;exact noD _ (Uu hp2).1
    .obtain⟨a1,a2,a3⟩:=again I9;exact⟨m',hm,i+1,U6,H8,xs++[y],ys++[val],n+1,a1,a2,a3,rv.append (.cons r8 .nil),by rw[BJ];exact hlt,w8⟩
 exact codeAny_compStart_list (loop _ rfl) (T.self _ 0 _ _ _ st1 (loop _ rfl))
theorem pR{g:TG}(hc:X.calm=Aa)(B:BlockOk X scope N' ts)(hi:PI X tg iter wi)(hg:∀ cl C s H fp,PG (cxC X scope cl C N' s H fp) tg g)(ht:∀ cl C s H fp,PTs (cxC X scope cl C N' s H fp) ifs tt)(he:∀ cl C s H fp,PE (cxC X scope cl C N' s H fp) elt te)(hs:∀ x,Do iter X.env x=pure x):PE X (.ListComp elt [⟨tg,iter,ifs,0⟩] scope pos) (λU H Q=>wi U H λJ H1=>Mq J ts g tt te U H1 Q):=by
 intro pI s U H Q I h;obtain⟨cl,hclos,hcl,hcl2⟩:=TR (scope:=scope) (env:=X.env) λx hx hk=>I.ok.has x.1 ((B.free x hx hk).imp id id)
 rw[eval_ListComp];refine aQ (use:=Af) rfl hs hclos B.kind B.names (thn (hi pI s U H _ I h) λv s1 h1=>thn h1 λitv s2 h2=>?_)
 obtain⟨it,fp,tn,J,H2,e,I2,T,st2,f2,h3⟩:=h2;subst e;refine Vd (RR:=λacc C=>compPost (model X.prog X.w) X.A X.xe Af (EP X pI U Q) acc C) hc B I2 T st2 f2 hcl hcl2 (λcl C s H=>hg cl C s H fp) (λcl C s H=>ht cl C s H fp) (λcl C s H=>he cl C s H fp) h3 λcl' D C s' H' U' pins' xs ys n m I' hd hDn rv hz hD hDC hC hm q=>?_
 exact⟨m,hm,λh'' hs''=>⟨.ref D,_,Ua I2 f2 I' hD hDC hC hd hDn rv hz hs'',rfl,q⟩⟩
theorem rE{n:Ak}{g:TG}(hc:X.calm=Aa)(B:BlockOk X scope N' ts)(hi:PI X tg iter wi)(hg:∀ cl C s H fp,PG (cxC X scope cl C N' s H fp) tg g)(ht:∀ cl C s H fp,PTs (cxC X scope cl C N' s H fp) ifs tt)(he:∀ cl C s H fp,PE (cxC X scope cl C N' s H fp) elt te)(hs:∀ x,Do iter X.env x=pure x)(hN:X.N.Nodup)(hni:X.N[i]?=Ab n)(hx:X.env.scope.names.lookup n=Ab .local)(hsw:Dd (.ListComp elt [⟨tg,iter,ifs,0⟩] scope pos) (Ab (.Name n pos')) pos2.line X.env=pure Aa):PS X (.Assign [.Name n pos'] (.ListComp elt [⟨tg,iter,ifs,0⟩] scope pos) pos2) (OJ (λU H Q=>wi U H λJ H1=>Mq J ts g tt te U H1 Q) (FP i)):=by
 intro pI s U H Dn I h;obtain⟨cl,hclos,hcl,hcl2⟩:=TR (scope:=scope) (env:=X.env) λx hx hk=>I.ok.has x.1 ((B.free x hx hk).imp id id)
 rw[exec_Assign_Name_used _ _ _ _ hsw];refine Ah (EV (Ah ?_));show Au _ X.A (do let _ <-comprehension (.ListComp elt [⟨tg,iter,ifs,0⟩] scope pos) scope X.env _ (newList []) Ad (eval iter X.env) (Ab (assign (.Name n pos') X.env))) _ _ s
 refine Ah (Bu (aQ (use:=Ab (assign (.Name n pos') X.env)) (Q:=λ_ s'=>SP X pI Dn .next s') rfl hs hclos B.kind B.names
  (thn (hi pI s U H _ I h) λv s1 h1=>thn h1 λitv s2 h2=>?_)) (λ_ s' hq=>Av (Av hq)) λ_ _ e=>e)
 obtain⟨it,fp,tn,J,H2,e,I2,T,st2,f2,h3⟩:=h2;subst e;refine Vd (RR:=λacc C=>compPost (model X.prog X.w) X.A X.xe (Ab (assign (.Name n pos') X.env)) (λ_ s'=>SP X pI Dn .next s') acc C) hc B I2 T st2 f2 hcl hcl2 (λcl C s H=>hg cl C s H fp) (λcl C s H=>ht cl C s H fp) (λcl C s H=>he cl C s H fp) h3 λcl' D C s' H' U' pins' xs ys n' m I' hd hDn rv hz hD hDC hC hm q=>?_
 have J0:Inv X pI U (upd H' D (.lst xs)) s':=Ua I2 f2 I' hD hDC hC hd hDn rv hz (ZE ..);refine aP (Uk J0 hN hni (.inl hx) (show BU (.ref D) (.ref D) from rfl) (λs'' J1 ⟨a,sb,ha⟩=>?_) (.inr hx))
 have hC0:X.s₀.heap.objs.size<=C:=Cb I2.sz hC;have hL:C≠X.env.locals:=λz=>absurd (AN I2.lt (z ▸ hC)) (Bt _)
 have hcC:∀ x c,X.env.cells.lookup x=Ab c->c≠C:=λx c e z=>by
  obtain⟨v,q'⟩:=I2.cell x c e;exact absurd (AN q'.lt (by rw[z];exact hC)) (Bt _)
 have hp:∀ p∈X.pn++pI,p.1≠C:=λp hp z=>absurd (AN (AB (I2.pin p hp).1) (by rw[z];exact hC)) (Bt _)
 have hCn:upd H' D (.lst xs) C=Af:=by rw[BQ hDC.symm];exact I'.free
 have hCa:C≠a:=by
  rcases ha with rfl|ha
  .exact hL
  .exact λz=>hcC n a ha z.symm
 refine⟨m,hm.sameBut sb hCa,λh'' hs''=>⟨_,_,J1.turned (t':=s''.toks) (λb o hb e=>(hs''.2 b hb).trans e) hCn hL (.inr hC0) hcC hp,q⟩⟩
theorem Lh:∀(ts:Ac Ag)(Y:Rho)(j:Ag),(Ga ts Y)[j]?=if j∈ts then (Y[j]?).map (λ_=>Af) else Y[j]?
 |[],Y,j=>by simp[Ga]
 |t::ts,Y,j=>by
  show (Ga ts (Y.set t Af))[j]?=_;rw[Lh ts];by_cases h1:j∈ts
  .rw[AI h1,AI (Ay _ h1)];by_cases h2:t=j
   .subst h2;rw[Gj];cases Y[t]?<;>rfl
   .rw[CI h2]
  .rw[AT h1];by_cases h2:t=j
   .subst h2;rw[AI AE,Gj];cases Y[t]?<;>rfl
   .rw[CI h2,AT (by simp only[At,Dm];exact⟨λz=>h2 z.symm,h1⟩)]
theorem Nz:∀(ts:Ac Ag)(Y:Rho),(Ga ts Y).length=Y.length
 |[],_=>rfl
 |t::ts,Y=>by show (Ga ts (Y.set t Af)).length=_;rw[Nz ts,Bp]
theorem PD:∀(ts:Ac Ag)(U:L2.St){i:Ag},i∉ts->(hideT ts U)[i]?=U[i]?
 |[],_,_,_=>rfl
 |t::ts,U,i,h=>by
  simp only[At,Dm]at h;show (hideT ts (U.set t Af))[i]?=_;rw[PD ts _ h.2,CI (λz=>h.1 z.symm)]
theorem Ts:∀(ts:Ac Ag)(ds:Ac D)(Y1 Y2:Rho),Y1.length=Y2.length->(∀ j,j∉ts->Y1[j]?=Y2[j]?)->ER ts ds Y1=ER ts ds Y2
 |[],[],Y1,Y2,hl,h=>congrArg Ab (Yh λj=>h j (by simp))
 |[],_::_,_,_,_,_=>rfl
 |_::_,[],_,_,_,_=>rfl
 |t::ts,d::ds,Y1,Y2,hl,h=>by
  refine Ts ts ds _ _ (by rw[Bp,Bp];exact hl) λj hj=>?_
  by_cases e:t=j
  .subst e;rw[HR,HR,AI rfl,AI rfl,hl]
  .rw[CI e,CI e];exact h j (by simp only[At,Dm];exact⟨λz=>e z.symm,hj⟩)
theorem TF:∀(ts us:Ac Ag)(ds:Ac D)(Y Y':Rho),(∀ t∈ts,t∈us)->ER ts ds Y=Ab Y'->Ga us Y'=Ga us Y
 |[],us,[],Y,Y',_,e=>by cases e;rfl
 |t::ts,us,d::ds,Y,Y',hs,e=>by
  rw[TF ts us ds _ Y' (λu hu=>hs u (Ay _ hu)) e]
  refine Yh λj=>?_
  rw[Lh,Lh];by_cases h:j∈us
  .rw[AI h,AI h,HR];split
   .rename_i e2;subst e2;split
    .rename_i h3;rw[CS h3];rfl
    .rename_i h3;rw[List.getElem?_eq_none (by omega)]
   .rfl
  .rw[AT h,AT h,CI];rintro rfl;exact h (hs _ AE)
 |[],_,_::_,_,_,_,e=>by cases e
 |_::_,_,[],_,_,_,e=>by cases e
section
variable{K:Fg}{CL:ClA}{A:Al->Prop}{Y Y':Rho}{U:L2.St}{H:Hp}
theorem Good.less(g:Good K CL A Y U H)(hl:Y'.length=Y.length)(h:∀(i:Ag)(d:D)(o:Aj),Y'[i]?=Ab (Ab (d,o))->Y[i]?=Ab (Ab (d,o))):Good K CL A Y' U H:=⟨λi d e=>g.sh i d (h i d Ad e),λi d e=>g.ow i d (h i d Aa e),hl.trans g.len⟩
theorem Good.put(g:Good K CL A Y U H)(t:Ag)(r:Rep K CL H A v d):Good K CL A (Y.set t (Ab (d,Ad))) (U.set t (Ab v)) H:=by
 refine⟨λj e h=>?_,λj e h=>?_,by rw[Bp,Bp];exact g.len⟩
 .by_cases hj:t=j
  .subst hj;have e1:=Hm h;cases e1;have hl:t<U.length:=by
    rw[<-g.len];have:=(Bh.mp h).1;simpa using this
   exact⟨v,by rw[Dx hl],r⟩
  .rw[CI hj]at h;obtain⟨w',q,rw'⟩:=g.sh j e h;exact⟨w',by rw[CI hj];exact q,rw'⟩
 .have hj:t≠j:=by
   rintro rfl;have:=Hm h;cases this
  rw[CI hj]at h;obtain⟨a,xs,ds,q,z⟩:=g.ow j e h;exact⟨a,xs,ds,by rw[CI hj];exact q,z⟩
theorem Good.hide(g:Good K CL A Y U H)(ts:Ac Ag):Good K CL A (Ga ts Y) U H:=g.less (Nz _ _) λi d o e=>by
 rw[Lh]at e;split at e
 .cases q:Y[i]? with
  |none=>rw[q]at e;cases e
  |some x=>rw[q]at e;cases e
 .exact e
theorem Good.hideT(g:Good K CL A Y U H)(ts:Ac Ag):Good K CL A (Ga ts Y) (hideT ts U) H:=by
 have key:∀ i x,(Ga ts Y)[i]?=Ab (Ab x)->Y[i]?=Ab (Ab x)/\i∉ts:=λi x e=>by
  rw[Lh]at e;split at e
  .cases q:Y[i]? with
   |none=>rw[q]at e;cases e
   |some x=>rw[q]at e;cases e
  .exact⟨e,by assumption⟩
 refine⟨λi d e=>?_,λi d e=>?_,by rw[Nz,PV];exact g.len⟩
 .obtain⟨e1,e2⟩:=key i _ e;obtain⟨v,q,r⟩:=g.sh i d e1;exact⟨v,by rw[PD _ _ e2];exact q,r⟩
 .obtain⟨e1,e2⟩:=key i _ e;obtain⟨a,xs,ds,q,r⟩:=g.ow i d e1;exact⟨a,xs,ds,by rw[PD _ _ e2];exact q,r⟩
end
def GG(K:Fg)(CL:ClA)(ts:Ac Ag)(as:D->Rho->R Rho)(g:TG):Prop:=∀ A Y U H v d Y' Q,Good K CL A (Ga ts Y) U H->Rep K CL H A v d->as d Y=.ok Y'->(∀ U',Good K CL A Y' U' H->Good K CL A (Ga ts Y) U' H->Q U' H)->g v U H Q
theorem tG(i:Ag):GG K CL [i] (λd Y=>.ok (Y.set i (Ab (d,Ad)))) (FP i):=λA Y U H v d Y' Q g r e k=>by
 cases e;have g2:=g.put i r;have e1:(Ga [i] Y).set i (Ab (d,Ad))=Y.set i (Ab (d,Ad)):=by
  show (Y.set i Af).set i (Ab (d,Ad))=_;rw[Yr]
 rw[e1]at g2;refine k _ g2 ?_;have:=g2.hide [i];have e2:Ga [i] (Y.set i (Ab (d,Ad)))=Ga [i] Y:=by
  show (Y.set i _).set i Af=Y.set i Af;rw[Yr]
 rw[e2]at this;exact this
theorem Wd{K:Fg}{CL:ClA}{A:Al->Prop}{H:Hp}:∀(ts:Ac Ag)(ds:Ac D)(vs:Ac V)(Y Y':Rho)(U:L2.St)(Q:L2.St->Hp->Prop),Good K CL A Y U H->Reps K CL H A vs ds->ER ts ds Y=Ab Y'->(∀ U',Good K CL A Y' U' H->Q U' H)->(ts.foldr (λt u=>Iq (FP t) u) Ix) vs U H Q
 |[],[],[],Y,Y',U,Q,x,_,e,k=>by
  cases e;exact⟨rfl,k U x⟩
 |t::ts,d::ds,v::vs,Y,Y',U,Q,x,r,e,k=>⟨v,vs,rfl,Wd ts ds vs _ Y' _ Q (x.put t r.1) r.2 e k⟩
 |[],_::_,_,_,_,_,_,_,_,e,_=>by cases e
 |_::_,[],_,_,_,_,_,_,_,e,_=>by cases e
 |[],[],_::_,_,_,_,_,_,r,_,_=>r.elim
 |_::_,_::_,[],_,_,_,_,_,r,_,_=>r.elim
theorem zO(ts:Ac Ag):GG K CL ts (F8 ts) (L6 K ts.length (ts.foldr (λt u=>Iq (FP t) u) Ix)):=λA Y U H v d Y' Q g r e k=>by
 cases d with
 |tup ds=>
  obtain⟨a,xs,rfl,na,sq,rs⟩:=r;rw[TU]at e;cases e2:ER ts ds Y with
  |none=>rw[e2]at e;cases e
  |some Y2=>
   rw[e2]at e;cases e;have e3:ER ts ds (Ga ts Y)=Ab Y':=by
    rw[<-e2];exact Ts ts ds _ _ (Nz _ _) λj hj=>by rw[Lh,AT hj]
   refine⟨a,xs,rfl,sq,by rw[rs.length];exact Nn _ _ _ _ e2,Wd ts ds xs _ Y' U Q g rs e3 λU' g'=>k U' g' ?_⟩
   have:=g'.hide ts;rw[TF ts ts ds Y Y' (λ_ h=>h) e2]at this
   exact this
 |_=>cases e
noncomputable abbrev W0:XW:=λ_ _=>Bl
def STs(X:Cx)(CL:ClA)(ifs:Ac Ao)(f:Rho->R Aj):Prop:=∀ A,PTs X ifs (λU H Q=>AOk H A/\∃ Y,Good X.K CL A Y U H/\DF W0 H (f Y) Q)
theorem nM:STs X CL [] (λ_=>.ok Aa):=λA pI s U H Q I ⟨hA,Y,g,p⟩=>rA pI s U H Q I (p H (AH.refl H))
theorem nL(h:SB X CL W0 c f):STs X CL [c] f:=λA pI s U H Q I q=>qZ (h A) pI s U H Q I q
section
variable{X:Cx}{CL:ClA}{W:XW}{tg iter elt:Ao}{ifs:Ac Ao}{scope:Cz}{pos:AO}{N':Ac Ak}{ts:Ac Ag}{fi:Rho->R (Ac D)}{fc:Rho->R Aj}{fe:Rho->R D}{as:D->Rho->R Rho}{g:TG}
theorem eO{g:D->R Aj}{f:D->R D}{x:D}{xs ys:Ac D}(h:Ce g f (x::xs)=.ok ys):(g x=.ok Ad/\Ce g f xs=.ok ys)\/∃ y r,g x=.ok Aa/\f x=.ok y/\Ce g f xs=.ok r/\ys=y::r:=by
 unfold Ce at h;cases e:g x with
 |bad=>rw[e]at h;cases h
 |exn z=>rw[e]at h;cases h
 |ok b=>
  rw[e,R.bind_ok]at h;cases b with
  |false=>exact .inl ⟨rfl,h⟩
  |true=>
   rw[AI rfl]at h;cases e2:f x with
   |bad=>rw[e2]at h;cases h
   |exn z=>rw[e2]at h;cases h
   |ok y=>
    rw[e2,R.bind_ok]at h;cases e3:Ce g f xs with
    |bad=>rw[e3]at h;cases h
    |exn z=>rw[e3]at h;cases h
    |ok r=>
     rw[e3,R.bind_ok]at h;cases h;exact .inr ⟨y,r,rfl,rfl,rfl,rfl⟩
theorem Ky{β:Type}{r:R α}{f:α->R β}{b:β}(h:r.bind f=.ok b):∃ a,r=.ok a/\f a=.ok b:=by
 cases r with
 |ok a=>exact⟨a,rfl,h⟩
 |exn x=>cases h
 |bad=>cases h
theorem hG{ds ys:Ac D}(hGG:GG K CL ts as g)(hA:AOk H1 A)(gd:Good K CL A Y U H1)(yl:Jx K CL A ds J H1)(hz:ds.length<=sizeLine)(hcp:Ce (λx=>(as x Y).bind fc) (λx=>(as x Y).bind fe) ds=.ok ys)(q:∀ xs H2,AH H1 H2->Reps K CL H2 A xs ys->∀ p,H2 p=Af->Q (.ref p) (upd H2 p (.lst xs))):Mq J ts g (λU H Q=>AOk H A/\∃ Y,Good K CL A Y U H/\DF W0 H (fc Y) Q) (λU H Q=>AOk H A/\∃ Y,Good K CL A Y U H/\Bq (λH=>Rep K CL H A) W0 H (fe Y) Q) U H1 Q:=by
 refine⟨λi m xs U' H'=>m=ds.length-i/\i<=ds.length/\xs.length<=i/\AH H1 H'/\Good K CL A (Ga ts Y) U' H'/\∃ outs rest,Reps K CL H' A xs outs/\Ce (λx=>(as x Y).bind fc) (λx=>(as x Y).bind fe) (ds.drop i)=.ok rest/\ys=outs++rest,
  ⟨ds.length,by simp,Gz _,A7 _,AH.refl _,gd.hideT ts,[],ys,trivial,hcp,rfl⟩,?_⟩
 rintro i m xs U' H' ⟨rfl,hi,hxl,sm,g',outs,rest,rs,hc,e⟩;obtain⟨yst,ygo⟩:=yl H' (Kp.of sm) i;by_cases hlt:i<ds.length
 .have hd:ds[i]?=Ab ds[i]:=CS hlt;obtain⟨hgo,hyl⟩:=ygo _ hd;refine .inr ⟨hgo,by omega,λx H2 hx=>?_⟩
  obtain⟨s2,rx⟩:=hyl x H2 hx;have rx':=rx A (λa ha=>.inl ha) (hA.same sm)
  rw[FS hlt]at hc;have sm2:=sm.trans s2;rcases eO hc with ⟨h1,h2⟩|⟨y,r,h1,h2,h3,h4⟩
  .obtain⟨Y',ea,ec⟩:=Ky h1;refine hGG A Y U' H2 x ds[i] Y' _ (g'.same s2) rx' ea λU3 g3 g4=>⟨hA.same sm2,Y',g3,?_⟩
   rw[ec];exact λH3 s3=>by
    dsimp only;rw[AT (by decide)]
    exact⟨ds.length-(i+1),by omega,rfl,hlt,by omega,sm2.trans s3,g4.same s3,outs,rest,(rs.same s2).same s3,h2,e⟩
  .obtain⟨Y',ea,ec⟩:=Ky h1;obtain⟨Y2,ea2,ee⟩:=Ky h2;rw[ea]at ea2;cases ea2;refine hGG A Y U' H2 x ds[i] Y' _ (g'.same s2) rx' ea λU3 g3 g4=>⟨hA.same sm2,Y',g3,?_⟩
   rw[ec];exact λH3 s3=>by
    dsimp only;rw[AI rfl];refine⟨(hA.same sm2).same s3,Y',g3.same s3,?_⟩;rw[ee];exact λv H4 s4 r4=>⟨ds.length-(i+1),by omega,rfl,hlt,by rw[BJ,D9];omega,(sm2.trans s3).trans s4,(g4.same s3).same s4,outs++[y],r,(((rs.same s2).same s3).same s4).append ⟨r4,trivial⟩,h3,by rw[e,h4];simp⟩
 .have hk':ds.length<=i:=by omega
  rw[Ye hk']at hc;have hr:rest=[]:=by cases hc;rfl
  subst hr;rw[C8]at e;subst e;exact .inl ⟨yst hk',λp hp=>q xs H' sm rs p hp⟩
theorem Fv.ok_of{r:R (Ac D)}{f:Ac D->R D}{Q':It->Hp->Prop}(h:Bq Rq W H (r.bind f) Q)(k:∀ ds J H',r=.ok ds->AH H H'->Jx K CL A ds J H'->ds.length<=sizeLine->Bq Rq W H' (f ds) Q->Q' J H'):Fv K CL A W H r Q':=by
 cases r with
 |ok d=>exact λJ H2 s2 y z=>k d J H2 rfl s2 y z (Bq.same s2 h)
 |exn x=>exact h
 |bad=>exact h
theorem ac{r:R α}{a:α}(h:noX r=.ok a):r=.ok a:=by
 cases r with
 |ok b=>exact h
 |exn x=>cases h
 |bad=>cases h
theorem T9(hGG:GG X.K CL ts as g)(hA:AOk H A)(gd:Good X.K CL A Y U H)(p:Bq (EI X.K CL Aa H A) W H ((fi Y).bind λxs=>(noX (Ce (λx=>(as x Y).bind fc) (λx=>(as x Y).bind fe) xs)).bind λys=>.ok (.lst ys)) Q):Fv X.K CL A W H (fi Y) (λJ H1=>Mq J ts g (λU H Q=>AOk H A/\∃ Y,Good X.K CL A Y U H/\DF W0 H (fc Y) Q) (λU H Q=>AOk H A/\∃ Y,Good X.K CL A Y U H/\Bq (λH=>Rep X.K CL H A) W0 H (fe Y) Q) U H1 Q):=
 Fv.ok_of p λds J H1 e1 s1 yl hz p1=>by
  cases e2:noX (Ce (λx=>(as x Y).bind fc) (λx=>(as x Y).bind fe) ds) with
  |ok ys=>
   rw[e2]at p1;exact hG hGG (hA.same s1) (gd.same s1) yl hz (ac e2) λxs H2 s2 rs q hq=>p1 _ _ (s2.trans (GL hq _)) (Ln (s1.trans s2) ((hA.same s1).same s2) hq rs)
  |exn x=>rw[e2]at p1;cases hq:Ce (λx=>(as x Y).bind fc) (λx=>(as x Y).bind fe) ds<;>rw[hq]at e2<;>cases e2
  |bad=>rw[e2]at p1;exact p1.elim
theorem mU(hc:X.calm=Aa)(B:BlockOk X scope N' ts)(hi:SI X CL W tg iter fi)(hGG:GG X.K CL ts as g)(hg:∀ cl C s H fp,PG (cxC X scope cl C N' s H fp) tg g)(ht:∀ cl C s H fp,STs (cxC X scope cl C N' s H fp) CL ifs fc)(he:∀ cl C s H fp,SE (cxC X scope cl C N' s H fp) CL W0 elt fe)(hs:∀ x,Do iter X.env x=pure x):SC X CL W Aa (.ListComp elt [⟨tg,iter,ifs,0⟩] scope pos) (λY=>(fi Y).bind λxs=>(noX (Ce (λx=>(as x Y).bind fc) (λx=>(as x Y).bind fe) xs)).bind λys=>.ok (.lst ys)):=λA pI s U H Q I ⟨hA,Y,gd,p⟩=>
 pR hc B (hi A) hg (λcl C s H fp=>ht cl C s H fp A) (λcl C s H fp=>he cl C s H fp A) hs pI s U H Q I ⟨hA,Y,gd,T9 hGG hA gd p⟩
end
section
variable{K:Fg}{CL:ClA}{Fz:Al->HO->Prop}{B:Al->Prop}{Y:Rho}{U:L2.St}{H H':Hp}
theorem Sx.setF(x:Sx K CL Fz B Y U H)(s:AH H H'){ds:Ac D}(h0:H a=Af)(h1:H' a=Ab (.lst xs))(r:Reps K CL H' (λb=>B6 B Y U b\/b=a) xs ds):Sx K CL Fz B (Y.set i (Ab (.lst ds,Aa))) (U.set i (Ab (.ref a))) H':=by
 have nA:¬ B6 B Y U a:=x.aok.new h0;have own:∀(j:Ag)(e:D),(Y.set i (Ab (.lst ds,Aa)))[j]?=Ab (Ab (e,Aa))->(i=j/\e=.lst ds)\/(i≠j/\Y[j]?=Ab (Ab (e,Aa))):=λj e h=>by
  by_cases hj:i=j
  .subst hj;have:=Hm h;cases this;exact .inl ⟨rfl,rfl⟩
  .exact .inr ⟨hj,by rw[CI hj]at h;exact h⟩
 have atI:∀{j:Ag}{y:Sl},(Y.set i (Ab (.lst ds,Aa)))[j]?=Ab y->i=j->(U.set i (Ab (.ref a)))[j]?=Ab (Ab (.ref a)):=λ{j y} h e=>by
  subst e;have hl:i<U.length:=by
   rw[<-x.len];have:=(Bh.mp h).1;simpa using this
  rw[Dx hl]
 have sub:∀ b,B6 B (Y.set i (Ab (.lst ds,Aa))) (U.set i (Ab (.ref a))) b->B6 B Y U b\/b=a:=λb h=>by
  rcases h with h|⟨j,e,h1,h2⟩
  .exact .inl (.inl h)
  .rcases own j e h1 with ⟨hj,_⟩|⟨hj,h1'⟩
   .rw[atI h1 hj]at h2;cases h2;exact .inr rfl
   .rw[CI hj]at h2;exact .inl (.inr ⟨j,e,h1',h2⟩)
 have wide:∀{v:V}{d:D},Rep K CL H (B6 B Y U) v d->Rep K CL H' (B6 B (Y.set i (Ab (.lst ds,Aa))) (U.set i (Ab (.ref a)))) v d:=λr=>(Rep.wide (λb hb=>(sub b hb).imp id λe=>by rw[e];exact h0) _ r).same s
 have wides:∀{v:Ac V}{d:Ac D},Reps K CL H (B6 B Y U) v d->Reps K CL H' (B6 B (Y.set i (Ab (.lst ds,Aa))) (U.set i (Ab (.ref a)))) v d:=λr=>(Reps.wide (λb hb=>(sub b hb).imp id λe=>by rw[e];exact h0) _ r).same s
 refine⟨⟨λj e h=>?_,λj e h=>?_,by rw[Bp,Bp];exact x.len⟩,λb h=>?_,λj e b g1 g2=>?_,λj k e f b g1 g2 g3 g4=>?_,λb o z=>s _ _ (x.same b o z),by rw[Bp,Bp];exact x.len⟩
 .have hj:i≠j:=by
   rintro rfl;have:=Hm h;cases this
  rw[CI hj]at h;obtain⟨w',q,rw'⟩:=x.good.sh j e h;exact⟨w',by rw[CI hj];exact q,wide rw'⟩
 .rcases own j e h with ⟨hj,rfl⟩|⟨hj,h'⟩
  .have q:=atI h hj;exact⟨a,xs,ds,q,rfl,.inr ⟨j,_,h,q⟩,h1,Reps.sub sub _ r⟩
  .obtain⟨b,ys,es,q,z,ha,hh,rr⟩:=x.good.ow j e h';have q':(U.set i (Ab (.ref a)))[j]?=Ab (Ab (.ref b)):=by rw[CI hj];exact q
   exact⟨b,ys,es,q',z,.inr ⟨j,e,h,q'⟩,s _ _ hh,wides rr⟩
 .rcases sub b h with z|z
  .obtain⟨ys,q⟩:=x.aok b z;exact⟨ys,s _ _ q⟩
  .rw[z];exact⟨xs,h1⟩
 .rcases own j e g1 with ⟨hj,_⟩|⟨hj,h'⟩
  .rw[atI g1 hj]at g2;cases g2;refine⟨λo z=>?_,λz=>nA (.inl z)⟩
   have:=x.same a o z;rw[h0]at this;cases this
  .rw[CI hj]at g2;exact x.new j e b h' g2
 .rcases own j e g1 with ⟨hj,_⟩|⟨hj,h'⟩
  .rw[atI g1 hj]at g3;cases g3;rcases own k f g2 with ⟨hk,_⟩|⟨hk,h''⟩
   .exact hj.symm.trans hk
   .rw[CI hk]at g4;exact absurd (.inr ⟨k,f,h'',g4⟩) nA
  .rw[CI hj]at g3;rcases own k f g2 with ⟨hk,_⟩|⟨hk,h''⟩
   .rw[atI g2 hk]at g4;cases g4;exact absurd (.inr ⟨j,e,h',g3⟩) nA
   .rw[CI hk]at g4;exact x.dis j k e f b h' h'' g3 g4
theorem Sx.upd(x:Sx K CL Fz B Y U H){i:Ag}{d:D}{a:Al}{xs:Ac V}{ds:Ac D}(hi:Y[i]?=Ab (Ab (d,Aa)))(ha:U[i]?=Ab (Ab (.ref a)))(r:Reps K CL H (B6 B Y U) xs ds):Sx K CL Fz B (Y.set i (Ab (.lst ds,Aa))) U (L2.upd H a (.lst xs)):=by
 have oa:B6 B Y U a:=.inr ⟨i,d,hi,ha⟩;have hil:i<Y.length:=(Bh.mp hi).1;have get:∀(j:Ag)(e:D),(Y.set i (Ab (.lst ds,Aa)))[j]?=Ab (Ab (e,Aa))↔(i=j/\e=.lst ds)\/(i≠j/\Y[j]?=Ab (Ab (e,Aa))):=λj e=>by
  by_cases hj:i=j
  .subst hj;rw[Dx hil];simp;exact⟨λz=>z.symm,λz=>z.symm⟩
  .rw[CI hj];simp[hj]
 have same:∀ b,B6 B (Y.set i (Ab (.lst ds,Aa))) U b↔B6 B Y U b:=λb=>by
  constructor
  .rintro (h|⟨j,e,h1,h2⟩)
   .exact .inl h
   .rcases (get j e).mp h1 with ⟨rfl,_⟩|⟨_,h1⟩
    .exact .inr ⟨i,d,hi,h2⟩
    .exact .inr ⟨j,e,h1,h2⟩
  .rintro (h|⟨j,e,h1,h2⟩)
   .exact .inl h
   .by_cases hj:i=j
    .subst hj;exact .inr ⟨i,.lst ds,(get i _).mpr (.inl ⟨rfl,rfl⟩),h2⟩
    .exact .inr ⟨j,e,(get j e).mpr (.inr ⟨hj,h1⟩),h2⟩
 have kp:Kp (B6 B Y U) H (L2.upd H a (.lst xs)):=λb o e na=>by
  have hne:b≠a:=by
   rintro rfl;exact na oa
  rw[BQ hne];exact e
 refine⟨⟨λj e h=>?_,λj e h=>?_,by rw[Bp];exact x.len⟩,λb h=>?_,λj e b g1 g2=>?_,λj k e f b g1 g2 g3 g4=>?_,λb o z=>?_,by rw[Bp];exact x.len⟩
 .have hj:i≠j:=by
   rintro rfl;have:=Hm h;cases this
  rw[CI hj]at h;obtain⟨w',q,rw'⟩:=x.good.sh j e h;exact⟨w',q,Rep.sub (λb hb=>(same b).mp hb) _ (Rep.kp kp _ rw')⟩
 .rcases (get j e).mp h with ⟨rfl,rfl⟩|⟨hj,h'⟩
  .exact⟨a,xs,ds,ha,rfl,(same a).mpr oa,F7,Reps.sub (λb hb=>(same b).mp hb) _ (Reps.kp kp _ r)⟩
  .obtain⟨b,ys,es,q,z,hb,hh,rr⟩:=x.good.ow j e h';have hne:b≠a:=λz=>hj (x.dis i j d e a hi h' ha (z ▸ q))
   exact⟨b,ys,es,q,z,(same b).mpr hb,by rw[BQ hne];exact hh,Reps.sub (λb hb=>(same b).mp hb) _ (Reps.kp kp _ rr)⟩
 .obtain⟨ys,q⟩:=x.aok b ((same b).mp h);by_cases e:b=a
  .rw[e];exact⟨xs,F7⟩
  .exact⟨ys,by rw[BQ e];exact q⟩
 .rcases (get j e).mp g1 with ⟨rfl,_⟩|⟨_,h'⟩
  .exact x.new i d b hi g2
  .exact x.new j e b h' g2
 .rcases (get j e).mp g1 with ⟨rfl,_⟩|⟨hj,h'⟩
  .rcases (get k f).mp g2 with ⟨rfl,_⟩|⟨hk,h''⟩
   .rfl
   .exact x.dis i k d f b hi h'' g3 g4
  .rcases (get k f).mp g2 with ⟨rfl,_⟩|⟨hk,h''⟩
   .exact x.dis j i e d b h' hi g3 g4
   .exact x.dis j k e f b h' h'' g3 g4
 .have hne:b≠a:=λe=>(x.new i d a hi ha).1 o (e ▸ z)
  rw[BQ hne];exact x.same b o z
theorem Sx.rel(x:Sx K CL Fz B Y U H)(hi:Y[i]?=Ab (Ab (d,Aa))):Sx K CL Fz B (Y.set i (Ab (d,Ad))) U H:=by
 obtain⟨a,xs,ds,q,rfl,oa,hh,rr⟩:=x.good.ow i d hi;have own:∀(j:Ag)(e:D),(Y.set i (Ab (.lst ds,Ad)))[j]?=Ab (Ab (e,Aa))->i≠j/\Y[j]?=Ab (Ab (e,Aa)):=λj e h=>by
  by_cases hj:i=j
  .subst hj;have:=Hm h;cases this
  .exact⟨hj,by rw[CI hj]at h;exact h⟩
 have sub:∀ b,B6 B (Y.set i (Ab (.lst ds,Ad))) U b->B6 B Y U b:=λb h=>by
  rcases h with h|⟨j,e,h1,h2⟩
  .exact .inl h
  .exact .inr ⟨j,e,(own j e h1).2,h2⟩
 have na:¬ B6 B (Y.set i (Ab (.lst ds,Ad))) U a:=λh=>by
  rcases h with h|⟨j,e,h1,h2⟩
  .exact(x.new i _ a hi q).2 h
  .obtain⟨hj,h1⟩:=own j e h1;exact hj (x.dis i j _ e a hi h1 q h2)
 refine⟨⟨λj e h=>?_,λj e h=>?_,by rw[Bp];exact x.len⟩,λb h=>x.aok b (sub b h),λj e b g1 g2=>x.new j e b (own j e g1).2 g2,λj k e f b g1 g2 g3 g4=>x.dis j k e f b (own j e g1).2 (own k f g2).2 g3 g4,x.same,by rw[Bp];exact x.len⟩
 .by_cases hj:i=j
  .subst hj;have e1:=Hm h;cases e1;exact⟨_,q,a,xs,rfl,.inl na,SqL.of hh,Reps.sub sub _ rr⟩
  .rw[CI hj]at h;obtain⟨w',q',rw'⟩:=x.good.sh j e h;exact⟨w',q',Rep.sub sub _ rw'⟩
 .obtain⟨hj,h'⟩:=own j e h;obtain⟨b,ys,es,q',z,hb,hh',rr'⟩:=x.good.ow j e h';exact⟨b,ys,es,q',z,.inr ⟨j,e,h,q'⟩,hh',Reps.sub sub _ rr'⟩
end
section
variable{X:Cx}{CL:ClA}{W:XW}{pos:AO}{e:Ao}{fe:Rho->R D}{fr:Aj}
theorem Cj.exC{f:D->O}(x:Sx X.K CL Fz B Y U H)(h:Cj X.K CL Fz B W (O.of Y r f) D')(k:∀ d v H',r=.ok d->AH H H'->EI X.K CL fr H A H' v d->Sx X.K CL Fz B Y U H'->Cj X.K CL Fz B W (f d) D'->Q v H'):Bq (EI X.K CL fr H A) W H r Q:=by
 cases r with
 |ok d=>exact λv H' s r=>k d v H' rfl s r (x.grow s) h
 |exn y=>exact λH' s=>h H' λb o z=>s _ _ (x.same b o z)
 |bad=>exact h
def SAs(X:Cx)(CL:ClA)(W:XW)(fr:Aj)(i:Ag)(st:AY)(f:Rho->R D):Prop:=∀ A,PS X st (OJ (λU H Q=>AOk H A/\∃ Y,Good X.K CL A Y U H/\Bq (EI X.K CL fr H A) W H (f Y) Q) (FP i))
theorem SC.sas{n:Ak}(hN:X.N.Nodup)(hi:X.N[i]?=Ab n)(hx:Loc X.env.scope n)(he:SC X CL W fr e fe)(hs:Dd e (Ab (.Name n pos')) pos.line X.env=pure Ad)(hf:X.fn n=Aa\/X.env.scope.names.lookup n=Ab .local):SAs X CL W fr i (.Assign [.Name n pos'] e pos) fe:=
 λA=>N5 hN hi hx (he A) hs hf
theorem jM{n:Ak}{fe:Rho->R D}{g:TG}(hc:X.calm=Aa)(B:BlockOk X scope N' ts)(hi:SI X CL W tg iter fi)(hGG:GG X.K CL ts as g)(hg:∀ cl C s H fp,PG (cxC X scope cl C N' s H fp) tg g)(ht:∀ cl C s H fp,STs (cxC X scope cl C N' s H fp) CL ifs fc)(he:∀ cl C s H fp,SE (cxC X scope cl C N' s H fp) CL W0 elt fe)(hs:∀ x,Do iter X.env x=pure x)(hN:X.N.Nodup)(hni:X.N[i]?=Ab n)(hx:X.env.scope.names.lookup n=Ab .local)(hsw:Dd (.ListComp elt [⟨tg,iter,ifs,0⟩] scope pos) (Ab (.Name n pos')) pos2.line X.env=pure Aa):SAs X CL W Aa i (.Assign [.Name n pos'] (.ListComp elt [⟨tg,iter,ifs,0⟩] scope pos) pos2) (λY=>(fi Y).bind λxs=>(noX (Ce (λx=>(as x Y).bind fc) (λx=>(as x Y).bind fe) xs)).bind λys=>.ok (.lst ys)):=λA pI s U H Dn I ⟨hA,Y,gd,p⟩=>
 rE hc B (hi A) hg (λcl C s H fp=>ht cl C s H fp A) (λcl C s H fp=>he cl C s H fp A) hs hN hni hx hsw pI s U H Dn I ⟨hA,Y,gd,T9 hGG hA gd p⟩
theorem WP{st:AY}(h:SAs X CL W fr i st fe):SS X CL W st (λY=>O.of Y (fe Y) λd=>.next (Y.set i (Ab (d,Ad)))):=λFz B pI s U H D I ⟨Y,x,p⟩=>
 h (B6 B Y U) pI s U H D I ⟨x.aok,Y,x.good,Cj.exC x p λd v H' _ s r x' q=>q _ H' (x'.set i r.1)⟩
theorem VG{st:AY}(h:SAs X CL W Aa i st fe):SS X CL W st (λY=>O.of Y (fe Y) λd=>setF Y i d):=λFz B pI s U H D I ⟨Y,x,p⟩=>
 h (B6 B Y U) pI s U H D I ⟨x.aok,Y,x.good,Cj.exC x p λd v H' _ s r x' q=>by
  cases d with
  |lst ds=>
   obtain⟨a,xs,rfl,h0,h1,rs⟩:=r.2 rfl ds rfl;exact q _ H' (x.setF s h0 h1 rs)
  |dic ds=>exact r.1.elim
  | _=>exact q.elim⟩
theorem nV(he:SC X CL W Aa e fe):SS X CL W (.Return (Ab e) pos) (λY=>O.of Y (fe Y) λd=>.ret d Aa):=λFz B pI s U H D I ⟨Y,x,p⟩=>
 QZ (he (B6 B Y U)) pI s U H D I ⟨x.aok,Y,x.good,Cj.exC x p λd v H' _ s r x' q=>q v H' x'.same (Rep.sub (λa h=>.inl h) _ r.1) λ_ ds e=>by
  obtain⟨a,xs,h0,h1,h2,h3⟩:=r.2 rfl ds e;refine⟨a,xs,h0,λo z=>?_,h2,Reps.sub (λb hb=>hb.imp .inl id) _ h3⟩
  have:=x.same a o z;rw[h1]at this;cases this⟩
noncomputable def Sj(Y:Rho)(i:Ag):Aj:=match Y[i]? with
  |some (Ab (_,o))=>o
  |_=>Ad
theorem nR(he:PE X e (GR i)):SS X CL W (.Return (Ab e) pos) (λY=>O.of Y (Dp Y i) λd=>.ret d (Sj Y i)):=λFz B pI s U H D I ⟨Y,x,p⟩=>
 QZ he pI s U H D I (by
  dsimp only at p;cases e:Dp Y i with
  |bad=>rw[e]at p;exact p.elim
  |exn z=>exact(U_0 e).elim
  |ok d=>
   rw[e]at p;obtain⟨o,e⟩:=U_7 e;have eo:Sj Y i=o:=by unfold Sj;rw[e]
   rw[O.of_ok,eo]at p;cases o with
   |false=>
    obtain⟨v,q,r⟩:=x.good.sh i d e;exact⟨v,q,p v H x.same (Rep.sub (λa h=>.inl h) _ r) λz=>nomatch z⟩
   |true=>
    obtain⟨a,xs,ds,q,rfl,ha,hh,r⟩:=x.good.ow i d e;obtain⟨n1,n2⟩:=x.new i _ a e q;refine⟨_,q,p _ H x.same ⟨a,xs,rfl,.inl n2,SqL.of hh,Reps.sub (λa h=>.inl h) _ r⟩ λ_ ds' e'=>?_⟩
    cases e';exact⟨a,xs,rfl,n1,hh,Reps.sub (λb hb=>hb.elim .inl λz=>z ▸ ha) _ r⟩)
theorem QG{ds:Ac D}(h:D6 Y i=.ok ds):Y[i]?=Ab (Ab (.lst ds,Aa)):=by
 unfold D6 at h;split at h
 .rename_i e;cases h;exact e
 .cases h
theorem Ql(h:D6 Y i=.exn x):Bl:=by
 unfold D6 at h;split at h<;>cases h
variable{o:Ao}{i:Ag}{apos cpos:AO}
theorem vY(ho:PE X o (GR i))(he:SE X CL W e fe)(hbase:FE o "append" X.env (eval o X.env)=eval o X.env)(hfew:((Cd cpos (Ax [e] X.env)).all (λx=>!x.1)&&(Jf cpos (Hv [] X.env)).all (λx=>x.1.isSome)&&decide ([e].length+([]:Ac Eu).length+(if ([]:Ac Eu).isEmpty then 0 else 1)<30))=Aa)(hline:(apos.endLine==cpos.line)=Aa)(hs:Ax [e] X.env=[(Ad,eval e X.env)])(hsw:Dd (.Call (.Attribute o "append" apos) [e] [] cpos) Af pos.line X.env=pure Ad):
  SS X CL W (.Expr (.Call (.Attribute o "append" apos) [e] [] cpos) pos) (λY=>O.of Y (D6 Y i) λxs=>O.of Y (fe Y) λd=>if DR (xs.length+1)=Aa then .next (Y.set i (Ab (.lst (xs++[d]),Aa))) else .bad):=λFz B pI s U H D I ⟨Y,x,p⟩=>by
 refine KD (RD Gm PySem.F.slot_list_append PySem.F.type_list_append iB ho (Ee (he (B6 B Y U)) Gs hs) hbase hfew hline hs rfl) hsw pI s U H D I ?_;dsimp only at p;cases e1:D6 Y i with
 |bad=>rw[e1]at p;exact p.elim
 |exn z=>exact(Ql e1).elim
 |ok ds=>
  rw[e1,O.of_ok]at p;have hi:=QG e1;obtain⟨a,xs,ds',q,e2,ha,hh,r⟩:=x.good.ow i _ hi;cases e2;refine⟨_,q,.inl ⟨rfl,xs,SqL.of hh⟩,x.aok,Y,x.good,Cj.ex x p λd v H' _ s rv x' q'=>?_⟩
  split at q'
  .rename_i hz;refine⟨a,xs,v,rfl,rfl,s _ _ hh,?_,q' _ _ (x'.upd hi q ((r.same s).append ⟨rv,trivial⟩))⟩;have:=Jl hz;rw[r.length];omega
  .exact q'.elim
theorem vX(ho:PE X o (GR i))(he:SC X CL W Aa e fe)(hbase:FE o "extend" X.env (eval o X.env)=eval o X.env)(hfew:((Cd cpos (Ax [e] X.env)).all (λx=>!x.1)&&(Jf cpos (Hv [] X.env)).all (λx=>x.1.isSome)&&decide ([e].length+([]:Ac Eu).length+(if ([]:Ac Eu).isEmpty then 0 else 1)<30))=Aa)(hline:(apos.endLine==cpos.line)=Aa)(hs:Ax [e] X.env=[(Ad,eval e X.env)])(hsw:Dd (.Call (.Attribute o "extend" apos) [e] [] cpos) Af pos.line X.env=pure Ad):
  SS X CL W (.Expr (.Call (.Attribute o "extend" apos) [e] [] cpos) pos) (λY=>O.of Y (D6 Y i) λxs=>O.of Y (fe Y) λd=>O.of Y (LS d) λys=>if DR (xs.length+ys.length)=Aa then .next (Y.set i (Ab (.lst (xs++ys),Aa))) else .bad):=λFz B pI s U H D I ⟨Y,x,p⟩=>by
 refine KD (RD Gm Fh ZD iA ho (Ee (he (B6 B Y U)) Gs hs) hbase hfew hline hs rfl) hsw pI s U H D I ?_;dsimp only at p;cases e1:D6 Y i with
 |bad=>rw[e1]at p;exact p.elim
 |exn z=>exact(Ql e1).elim
 |ok ds=>
  rw[e1,O.of_ok]at p;have hi:=QG e1;obtain⟨a,xs,ds',q,e2,ha,hh,r⟩:=x.good.ow i _ hi;cases e2;refine⟨_,q,.inl ⟨rfl,xs,SqL.of hh⟩,x.aok,Y,x.good,Cj.exC x p λd v H' _ s rv x' q'=>?_⟩
  cases d with
  |lst es=>
   obtain⟨b,ys,rfl,h0,h1,rs⟩:=rv.2 rfl es rfl;rw[Ug,O.of_ok]at q';split at q'
   .rename_i hz;refine⟨a,b,xs,ys,rfl,rfl,s _ _ hh,h1,?_,q' _ _ (x'.upd hi q ((r.same s).append (Reps.sub (λc hc=>.inl hc) _ rs)))⟩
    rw[r.length,rs.length];exact Jl hz
   .exact q'.elim
  |_=>exact q'.elim
theorem nY{as:Ov.D->Rho->R Rho}{g:TG}(hGT:GT X.K CL as g)(hg:PG X tg g)(he:SE X CL W e fe)(hs:JG [tg] e pos.line X.env=pure Ad)(hw:HG [tg] e X.env=pure Af)(h1:(CO [tg] X.env).map (·.2)=[assign tg X.env])(hax:∀ d Y x,as d Y≠.exn x):SS X CL W (.Assign [tg] e pos) (λY=>O.of Y (fe Y) λd=>O.of Y (as d Y) λY'=>.next Y'):=λFz B pI s U H D I ⟨Y,x,p⟩=>
 xN (he (B6 B Y U)) hg hs hw h1 pI s U H D I ⟨x.aok,Y,x.good,Cj.ex x p λd v H' _ s rv x' q'=>by
  cases ea:as d Y with
  |bad=>rw[ea]at q';exact q'.elim
  |exn z=>exact absurd ea (hax _ _ z)
  |ok Y2=>
   rw[ea,O.of_ok]at q';exact hGT Fz B Y U H' v d Y2 _ x' rv ea λU' x3=>q' U' H' x3⟩
theorem nQ{rest:Ac AY}{f:Rho->O}(i:Ag)(h:SSs X CL W rest f):SSs X CL W rest (λY=>(match Y[i]? with
   |some (Ab (d,Aa))=>O.next (Y.set i (Ab (d,Ad)))
   | _=>O.next Y).seq f):=λFz B=>PSs.weak (h Fz B) λD U H ⟨Y,x,p⟩=>by
 dsimp only at p;split at p
 .rename_i d e;exact⟨_,x.rel e,p⟩
 .exact⟨Y,x,p⟩
end
section
variable{X:Cx}{CL:ClA}{W:XW}{pos:AO}{e k o:Ao}{fe fk:Rho->R D}{i:Ag}{apos cpos:AO}
theorem Bo.take{its:Ac Ai}(r:Bo xs its):∀ n,Bo (xs.take n) (its.take n):=by
 induction r with
 |nil=>intro n;simp;exact .nil
 |cons h _ ih=>
  intro n;cases n with
  |zero=>exact .nil
  |succ n=>exact .cons h (ih n)
theorem Bo.drop{its:Ac Ai}(r:Bo xs its):∀ n,Bo (xs.drop n) (its.drop n):=by
 induction r with
 |nil=>intro n;simp;exact .nil
 |cons h t ih=>
  intro n;cases n with
  |zero=>exact .cons h t
  |succ n=>exact ih n
end
section
variable{prog:AV}{w:AF}{A:A9}{E:Vq}{s:Ar}
theorem zY{j t:Al}{x:Ai}{Q:Vq}(st:s.heap.IsTupleIter j t k)(sq:s.heap.IsTuple t its)(at_:its[k]?=Ab x)(go:∀ h2,h2.IsTupleIter j t (k+1)->EF j s.heap h2->Q x {s with heap:=h2}):Au (model prog w) A (A1 (.ref j)) Q E s:=by
 obtain⟨oj,gj,cj,dj⟩:=id st;obtain⟨ot,gt,_,nt,dt⟩:=sq;show Au _ _ (JP _ _ >>= _) _ _ _;refine Ah (Ca st.typeIs Ec (CW Ec st.typeIs Zw ?_ (Zq _)));show Au _ _ (field (.ref j) 0 >>= _) _ _ _;refine Ah (Bk gj dj (x:=.ref t) rfl ?_);show Au _ _ (field (.ref j) 1 >>= _) _ _ _;refine Ah (Bk gj dj (x:=.int k 0) rfl ?_);refine Ah (BY gt dt ?_);simp only[Gn,at_];exact Ah (Gi gj dj (by simp) (Av ⟨x,rfl,Av (go _ ⟨_,B7 _ gj (Fj (DI dj _)),(ZI ..).trans cj,by rw[DI dj];simp[Cr]⟩ (Hi ..))⟩))
theorem gG{j t:Al}{Q:Vq}(calm:A.handled=Af)(st:s.heap.IsTupleIter j t k)(sq:s.heap.IsTuple t its)(at_:its[k]?=Af)(up:∀ h2 e,IF j s.heap h2->(∃ o,h2.get? e=Ab o/\o.cls=.type "StopIteration")->E (.ref e) {s with heap:=h2}):Au (model prog w) A (A1 (.ref j)) Q E s:=by
 obtain⟨oj,gj,cj,dj⟩:=id st;obtain⟨ot,gt,_,nt,dt⟩:=sq;show Au _ _ (JP _ _ >>= _) _ _ _;refine Ah (Ca st.typeIs Ec (CW Ec st.typeIs Zw ?_ (Zq _)));show Au _ _ (field (.ref j) 0 >>= _) _ _ _;refine Ah (Bk gj dj (x:=.ref t) rfl ?_);show Au _ _ (field (.ref j) 1 >>= _) _ _ _;refine Ah (Bk gj dj (x:=.int k 0) rfl ?_);refine Ah (BY gt dt ?_);simp only[Gn,at_];refine Ah (G5 (Ah (Gi gj dj (by simp) ?_)))
 refine Ah ?_;simp only[newExc,newTuple];refine Ah (CP ?_ (by size_fits))
 refine Ah (m:=aJ _ _) (IG (a:=.none) (by first|rfl|(simp only[aJ];rfl)) (CP ?_ (by size_fits)))
 simp only[raiseNew];refine Ah (wpAny_handled ?_)
 first|rw[show A.in1.handled=Af from calm]|rw[calm]
 exact Ah (Av (wpAny_throw (up _ _ (((Hi ..).extBut.push _).push _) ⟨_,Az _ rfl,rfl⟩)))
end
structure Dw (prog:AV) (w:AF) (A:A9) (j:Al) (fp:Ac Al) (n:Ag) (P:Ag->Ai->Prop) (S:Ag->AC->Prop):Prop where
 frame:∀ i h h2,S i h->(∀ c∈fp,∀ o,h.get? c=Ab o->h2.get? c=Ab o)->S i h2
 item:∀ i (s:Ar) (Q:Vq) (E:Vq),i<n->S i s.heap->(∀ x h2 tk,P i x->S (i+1) h2->EF j s.heap h2->Q x {s with heap:=h2,toks:=tk})->Au (model prog w) A (A1 (.ref j)) Q E s
 done:∀ i (s:Ar) (Q:Vq) (E:Vq),n<=i->S i s.heap->(∀ h2 e,IF j s.heap h2->(∃ o,h2.get? e=Ab o/\o.cls=.type "StopIteration")->E (.ref e) {s with heap:=h2})->Au (model prog w) A (A1 (.ref j)) Q E s
def E7(t:Aj)(h:AC)(j l:Al)(i:Ag):Prop:=match t with
  |true=>h.IsTupleIter j l i
  |false=>h.IsListIter j l i
def Cv(t:Aj)(h:AC)(l:Al)(its:A8 Ai):Prop:=match t with
  |true=>h.IsTuple l its
  |false=>h.IsList l its
theorem IM{A:A9}(calm:A.handled=Af)(t:Aj)(j l:Al)(ne:l≠j)(its:A8 Ai):Dw prog w A j [j,l] its.size (λi v=>its[i]?=Ab v) (λi h=>E7 t h j l i/\Cv t h l its):=by
 cases t with
 |true=>exact⟨λ_ _ _ z k=>⟨z.1.at λo e=>k j (by simp) o e,z.2.at λo e=>k l (by simp) o e⟩,λi s Q E hi z q=>zY z.1 z.2 (x:=its[i]) (by simp[hi]) λh2 z2 sb=>q _ h2 s.toks (by simp[hi]) ⟨z2,z.2.extBut sb.extBut ne⟩ sb,λi s Q E hi z q=>gG calm z.1 z.2 (by simp[hi]) q⟩
 |false=>exact⟨λ_ _ _ z k=>⟨z.1.at λo e=>k j (by simp) o e,z.2.at λo e=>k l (by simp) o e⟩,λi s Q E hi z q=>wpAny_nextOf_list_item z.1 z.2 (x:=its[i]) (by simp[hi]) λh2 z2 sb=>q _ h2 s.toks (by simp[hi]) ⟨z2,z.2.extBut sb.extBut ne⟩ sb,λi s Q E hi z q=>wpAny_nextOf_list_end calm z.1 z.2 (by simp[hi]) q⟩
theorem nb1{I l c:Ag}(b:l<I)(h:c∈[I,l])(j:Ag):c≠I+(j+1):=by
 have h':c=I\/c=l:=by simpa using h
 omega
theorem nb2{I l c:Ag}(b:l<I)(h:c∈[I+1,l]):c≠I/\c≠I+3/\c≠I+4:=by
 have h':c=I+1\/c=l:=by simpa using h
 omega
theorem nij{I i j:Ag}(h:i≠j):I+i≠I+j:=by omega
theorem ni0{I i:Ag}(h:i≠0):I+i≠I:=by omega
section
variable{prog:AV}{w:AF}{A:A9}{E:Vq}{s:Ar}
theorem kB{I l1 l2 n1 n2 k:Ag}{a b:Ai}{Q:Vq}(b1:l1<I)(b2:l2<I)(D1:Dw prog w A I [I,l1] n1 P1 S1)(D2:Dw prog w A (I+1) [I+1,l2] n2 P2 S2)(hz:G1 s.heap (I+4) (I+2) (I+3) .none)(hI:Fi s.heap (I+2) (.ref I) (.ref (I+1)))(hO:Fi s.heap (I+3) a b)(g1:S1 k s.heap)(g2:S2 k s.heap)(k1:k<n1)(k2:k<n2)(go:∀ x y h2 tk,P1 k x->P2 k y->G1 h2 (I+4) (I+2) (I+3) (Cr s.heap.objs.size)->Fi h2 (I+3) x y->S1 (k+1) h2->S2 (k+1) h2->Fi h2 s.heap.objs.size x y ->
   (∀ c o,c∉[I,I+1,I+3,I+4]->s.heap.get? c=Ab o->h2.get? c=Ab o)->Q (.ref s.heap.objs.size) {s with heap:=h2,toks:=tk}):Au (model prog w) A (Builtin.«zip.__next__» ⟨[.ref (I+4)],[]⟩) (λfin s'=>∃ v,fin=.done (.ret v)/\Q v s') E s:=by
 refine Ah (m:=field (.ref (I+4)) 2) (Bk hz rfl (x:=.bool Ad) rfl ?_);refine Ah (m:=field (.ref (I+4)) 3) (Bk hz rfl (x:=.ref (I+2)) rfl (Ah (BY hI rfl ?_)));refine Ah (m:=A5 (.ref (I+4))) ?_;simp only[A5];refine Ah (Bk hz rfl (x:=.none) rfl (Av ?_));rw[AI rfl];refine Ah (G5 (Ah (Bk hz rfl (x:=.ref (I+3)) rfl (Ah (B5 hz (by simp) λp1 z1 e1=>Ah ?_)))))
 have z1':G1 p1 (I+4) (I+2) (I+3) .ellipsis:=z1;simp only[GJ,GX,D8,DV];refine Ah (Ah (DU (Ah (m:=A1 (.ref I)) (D1.item k _ _ _ k1 (D1.frame _ _ _ g1 λc hc o q=>e1.extBut c o (nb1 b1 hc 3) q) λx p2 t2 px s2 e2=>Av ?_))))
 have o2:Fi p2 (I+3) a b:=e2.extBut _ _ (ni0 (by decide)) (e1.extBut _ _ (nij (by decide)) hO)
 refine Ah (BY o2 rfl (Ah (G6 o2 λp3 o3 e3=>Ah (GC (Av ?_)))))
 have o3':Fi p3 (I+3) x b:=o3;have g2':S2 k p3:=D2.frame _ _ _ g2 λc hc o q=>e3.extBut c o (nb2 b2 hc).2.1 (e2.extBut c o (nb2 b2 hc).1 (e1.extBut c o (nb2 b2 hc).2.2 q))
 refine Ah (Ah (DU (Ah (m:=A1 (.ref (I+1))) (D2.item k _ _ _ k2 g2' λy p4 t4 py s4 e4=>Av ?_))))
 have o4:Fi p4 (I+3) x b:=e4.extBut _ _ (nij (by decide)) o3'
 refine Ah (BY o4 rfl (Ah (G6 o4 λp5 o5 e5=>Ah (GC (Av (Av ?_))))))
 have o5':Fi p5 (I+3) x y:=o5;have sz:p5.objs.size=s.heap.objs.size:=by rw[e5.1,e4.1,e3.1,e2.1,e1.1]
 have z5:G1 p5 (I+4) (I+2) (I+3) .ellipsis:=e5.extBut _ _ (nij (by decide)) (e4.extBut _ _ (nij (by decide)) (e3.extBut _ _ (nij (by decide)) (e2.extBut _ _ (ni0 (by decide)) z1')))
 refine Ah (BY o5' rfl (Ah (Je ?_)));refine Ah (m:=Da (.ref (I+4)) (.ref p5.objs.size)) ?_;simp only[Da];have z6:G1 (p5.push { cls:=.type "tuple",data:=.seq #[x,y] }) (I+4) (I+2) (I+3) .ellipsis:=As _ z5;refine Ah (B5 z6 (by simp) λp7 z7 e7=>?_)
 have z7':G1 p7 (I+4) (I+2) (I+3) (Cr p5.objs.size):=z7;refine B5 z7' (by simp) λp8 z8 e8=>Av ⟨_,rfl,?_⟩
 have z8':G1 p8 (I+4) (I+2) (I+3) (Cr p5.objs.size):=z8;have lt5:I+4<p5.objs.size:=AB z5;have up:∀ c o,c≠I+4->p5.get? c=Ab o->p8.get? c=Ab o:=λc o nc q=>e8.extBut _ _ nc (e7.extBut _ _ nc (As _ q))
 have t8:Fi p8 p5.objs.size x y:=e8.extBut _ _ (Dy lt5) (e7.extBut _ _ (Dy lt5) (Az _ rfl));have a1:S1 (k+1) p8:=D1.frame _ _ _ s2 λc hc o q=>up c o (nb1 b1 hc 3) (e5.extBut c o (nb1 b1 hc 2) (e4.extBut c o (nb1 b1 hc 0) (e3.extBut c o (nb1 b1 hc 2) q)))
 have a2:S2 (k+1) p8:=D2.frame _ _ _ s4 λc hc o q=>up c o (nb2 b2 hc).2.2 (e5.extBut c o (nb2 b2 hc).2.1 q)
 have kp:∀ c o,c∉[I,I+1,I+3,I+4]->s.heap.get? c=Ab o->p8.get? c=Ab o:=λc o nc q=>by
  simp only[At,AM,BH,Dm]at nc;exact up c o nc.2.2.2 (e5.extBut c o nc.2.2.1 (e4.extBut c o nc.2.1 (e3.extBut c o nc.2.2.1 (e2.extBut c o nc.1 (e1.extBut c o nc.2.2.2 q)))))
 have q:=go x y p8 t4 px py (by rw[<-sz];exact z8') (up _ _ (nij (by decide)) o5') a1 a2 (by rw[<-sz];exact t8) kp
 rw[<-sz]at q;exact q
theorem mO{I l1 l2 n1 n2 k:Ag}{a b:Ai}{Q:Fin->Ar->Prop}(b1:l1<I)(b2:l2<I)(D1:Dw prog w A I [I,l1] n1 P1 S1)(D2:Dw prog w A (I+1) [I+1,l2] n2 P2 S2)(hz:G1 s.heap (I+4) (I+2) (I+3) .none)(hI:Fi s.heap (I+2) (.ref I) (.ref (I+1)))(hO:Fi s.heap (I+3) a b)(g1:S1 k s.heap)(g2:S2 k s.heap)(hk:n1<=k\/(k<n1/\n2<=k))(up:∀ h2 e tk,(∀ c o,c∉[I,I+1,I+3,I+4]->s.heap.get? c=Ab o->h2.get? c=Ab o)->(∃ o,h2.get? e=Ab o/\o.cls=.type "StopIteration")->E (.ref e) {s with heap:=h2,toks:=tk}):Au (model prog w) A (Builtin.«zip.__next__» ⟨[.ref (I+4)],[]⟩) Q E s:=by
 refine Ah (m:=field (.ref (I+4)) 2) (Bk hz rfl (x:=.bool Ad) rfl ?_);refine Ah (m:=field (.ref (I+4)) 3) (Bk hz rfl (x:=.ref (I+2)) rfl (Ah (BY hI rfl ?_)));refine Ah (m:=A5 (.ref (I+4))) ?_;simp only[A5];refine Ah (Bk hz rfl (x:=.none) rfl (Av ?_));rw[AI rfl];refine Ah (G5 (Ah (Bk hz rfl (x:=.ref (I+3)) rfl (Ah (B5 hz (by simp) λp1 z1 e1=>Ah ?_)))))
 have z1':G1 p1 (I+4) (I+2) (I+3) .ellipsis:=z1;simp only[GJ,GX,D8,DV];have g1':S1 k p1:=D1.frame _ _ _ g1 λc hc o q=>e1.extBut c o (nb1 b1 hc 3) q
 rcases hk with k1|⟨k1,k2⟩
 .refine Ah (Ah (DU (Ah (m:=A1 (.ref I)) (D1.done _ _ _ _ k1 g1' λp2 e e2 he=>?_))))
  obtain⟨oe,hoe,hce⟩:=he;have z2:G1 p2 (I+4) (I+2) (I+3) .ellipsis:=e2 _ _ (ni0 (by decide)) z1'
  have ne:e≠I+4:=λx=>by subst x;rw[z2]at hoe;cases hoe;simp at hce
  refine B5 z2 (by simp) λp3 _ e3=>up p3 e s.toks (λc o nc q=>?_) ⟨oe,e3.extBut _ _ ne hoe,hce⟩
  simp only[At,AM,BH,Dm]at nc;exact e3.extBut c o nc.2.2.2 (e2 c o nc.1 (e1.extBut c o nc.2.2.2 q))
 .refine Ah (Ah (DU (Ah (m:=A1 (.ref I)) (D1.item k _ _ _ k1 g1' λx p2 t2 px s2 e2=>Av ?_))))
  have o2:Fi p2 (I+3) a b:=e2.extBut _ _ (ni0 (by decide)) (e1.extBut _ _ (nij (by decide)) hO)
  refine Ah (BY o2 rfl (Ah (G6 o2 λp3 o3 e3=>Ah (GC (Av ?_)))))
  have g2':S2 k p3:=D2.frame _ _ _ g2 λc hc o q=>e3.extBut c o (nb2 b2 hc).2.1 (e2.extBut c o (nb2 b2 hc).1 (e1.extBut c o (nb2 b2 hc).2.2 q))
  refine Ah (Ah (DU (Ah (m:=A1 (.ref (I+1))) (D2.done _ _ _ _ k2 g2' λp4 e e4 he=>?_))))
  obtain⟨oe,hoe,hce⟩:=he;have z4:G1 p4 (I+4) (I+2) (I+3) .ellipsis:=e4 _ _ (nij (by decide)) (e3.extBut _ _ (nij (by decide)) (e2.extBut _ _ (ni0 (by decide)) z1'))
  have ne:e≠I+4:=λx=>by subst x;rw[z4]at hoe;cases hoe;simp at hce
  refine B5 z4 (by simp) λp5 _ e5=>up p5 e t2 (λc o nc q=>?_) ⟨oe,e5.extBut _ _ ne hoe,hce⟩
  simp only[At,AM,BH,Dm]at nc;exact e5.extBut c o nc.2.2.2 (e4 c o nc.2.1 (e3.extBut c o nc.2.2.1 (e2.extBut c o nc.1 (e1.extBut c o nc.2.2.2 q))))
end
def SqX(t:Aj)(K:Fg)(H:Hp)(a:Al)(xs:Ac V):Prop:=match t with
  |true=>SqT K H a xs
  |false=>SqL K H a xs
theorem HI(I:Inv X pI U H s)(h:SqX t X.K H a xs):∃ its:Ac Ai,Bo xs its/\Cv t s.heap a its.toArray/\xs.length<=sizeLine:=by
 cases t with
 |true=>
  obtain⟨its,rv,p,z⟩:=I.tuple h;exact⟨its,rv,p,z⟩
 |false=>
  obtain⟨its,rv,p,z⟩:=I.list h;exact⟨its,rv,p.isList,z⟩
theorem PC{ys:Ac V}(I:Inv X pI U H s)(h:SqX t X.K H a xs)(h2:SqX t X.K H a ys):xs=ys:=by
 cases t with
 |true=>exact I.tuple_inj h h2
 |false=>exact I.list_inj h h2
noncomputable def Itz(K:Fg)(t1 t2:Aj)(a b:Al):It:=
  ⟨λi H=>∃ xs ys x y,SqX t1 K H a xs/\SqX t2 K H b ys/\xs[i]?=Ab x/\ys[i]?=Ab y,
   λi H v H'=>∃ p x y,H p=Af/\v=.ref p/\(∀ xs,SqX t1 K H a xs->xs[i]?=Ab x)/\(∀ ys,SqX t2 K H b ys->ys[i]?=Ab y)/\H'=upd H p (.tup [x,y]),
   λi H=>∃ xs ys,SqX t1 K H a xs/\SqX t2 K H b ys/\(xs.length<=i\/(i<xs.length/\ys.length<=i))⟩
theorem Inv.turnedL(ch:Ac Al)(I:Inv X pI U H s)(k:∀ b o,b∉ch->s.heap.get? b=Ab o->h'.get? b=Ab o)(hf:∀ b∈ch,Hs X pI H b):Inv X pI U H {s with heap:=h',toks:=t'}:=by
 have nit:∀ b u,H b=Ab u->b∉ch:=λb u e z=>by rw[(hf b z).1]at e;cases e
 refine I.step (g':=s.gens) (d':=s.drawn) (ch:=ch) (λb hb=>⟨(hf b hb).2.2.2.1,(hf b hb).2.1,(hf b hb).2.2.2.2.1,(hf b hb).2.2.2.2.2⟩) (λb o _ _ hc e _=>k b o hc e) (λb o _ _ hc e _=>⟨o.slots,k b o hc e⟩) (λ_ _ _ _ n=>n)
  (λb o hc e=>⟨o,k b o hc e⟩) (λ_ _ e=>e) (λ_ _ _ e=>e) (λb ps e=>⟨#[],by rw[e];simp⟩) (λm ⟨o,es,ep,ho,r⟩=>⟨o,es,ep,k _ o (λz=>(hf _ z).2.1 rfl) ho,r⟩) (λb u e=>(I.hok b u e).stay (λc v hc q=>k c v ?_ q) (λ_ q=>q) λ_ _ q=>q) I.bare
 rcases hc with z|z
 .rw[z];exact nit b u e
 .exact nit c _ z
def zTn(t1 t2:Aj)(I l1 l2:Ag)(i:Ag)(h:AC):Prop:=G1 h (I+4) (I+2) (I+3) .none/\Fi h (I+2) (.ref I) (.ref (I+1))/\(∃ a b,Fi h (I+3) a b)/\E7 t1 h I l1 i/\E7 t2 h (I+1) l2 i
noncomputable def zFp(I:Ag):Ac Al:=[I,I+1,I+2,I+3,I+4]
theorem E7.obj{j:Al}(z:E7 t h j l i):∃ o,h.get? j=Ab o/\∀ v,o.data≠.cell v:=by
 cases t with
 |true=>obtain⟨o,e,c,d⟩:=z;exact⟨o,e,λv z=>by rw[d]at z;cases z⟩
 |false=>obtain⟨o,e,c,d⟩:=z;exact⟨o,e,λv z=>by rw[d]at z;cases z⟩
theorem E7.at'{j:Al}(z:E7 t h j l i)(k:∀ o,h.get? j=Ab o->h2.get? j=Ab o):E7 t h2 j l i:=by
 cases t with
 |true=>exact PySem.Heap.IsTupleIter.at z k
 |false=>exact PySem.Heap.IsListIter.at z k
theorem kQ(t1 t2:Aj)(I l1 l2:Ag)(b1:l1<I)(b2:l2<I):Turn P w K (.Tuple es n pos) (Itz K t1 t2 l1 l2) (zFp I) (I+4) (zTn t1 t2 I l1 l2) where
  mem:=by simp[zFp]
  obj:=λi h ⟨z1,z2,⟨a,b,z3⟩,z4,z5⟩ c hc=>by
    simp only[zFp,At,AM,BH]at hc;rcases hc with rfl|rfl|rfl|rfl|rfl
    · exact z4.obj
    · exact z5.obj
    · exact⟨_,z2,λv z=>by cases z⟩
    · exact⟨_,z3,λv z=>by cases z⟩
    · exact⟨_,z1,λv z=>by cases z⟩
  keep:=λi h h2 ⟨z1,z2,⟨a,b,z3⟩,z4,z5⟩ k=>⟨k _ (by simp[zFp]) _ z1,k _ (by simp[zFp]) _ z2,⟨a,b,k _ (by simp[zFp]) _ z3⟩,z4.at' λo e=>k _ (by simp[zFp]) o e,z5.at' λo e=>k _ (by simp[zFp]) o e⟩
  item:=by
    intro X hP hw hK hc i pI s U H E Iv hf ⟨z1,z2,⟨a,b,z3⟩,z4,z5⟩ ⟨xs,ys,x,y,q1,q2,hx,hy⟩;subst hP hw hK;obtain⟨us,rx,sx,_⟩:=HI Iv q1;obtain⟨vs,ry,sy,_⟩:=HI Iv q2;obtain⟨u,hu,ru⟩:=rx.get hx;obtain⟨v,hv,rv⟩:=ry.get hy;have hT:s.TypeIs (.ref (I+4)) "zip" := ⟨_,z1,rfl⟩;have calm:X.A.in1.handled=Af:=Iv.ok.hd hc;show Au _ _ (Ei _) _ _ _;simp only[Ei];refine Ah (FG (Ca hT CF (CW CF hT EE (kB (k:=i) b1 b2 (IM calm t1 I l1 (A4 b1) us.toArray) (IM calm t2 (I+1) l2 (A4 (DS b2)) vs.toArray) z1 z2 z3 ⟨z4,sx⟩ ⟨z5,sy⟩
      (by have:=(Bh.mp hu).1;simpa using this) (by have:=(Bh.mp hv).1;simpa using this) λx' y' h2 tk px py c1 c2 c3 c4 c5 kp=>Av ?_) (Eh _))))
    have ex:x'=u:=by
      have px':us[i]?=Ab x':=by simpa using px
      rw[hu]at px';exact(BM px').symm
    have ey:y'=v:=by
      have py':vs[i]?=Ab y':=by simpa using py
      rw[hv]at py';exact(BM py').symm
    subst ex ey;refine⟨_,rfl,wpAny_letOwnedTupleGo_zip c1 λh3 d1 sb=>?_⟩
    have lt4:I+4<s.heap.objs.size:=AB z1;have kp3:∀ c o,c∉zFp I->s.heap.get? c=Ab o->h3.get? c=Ab o:=λc o nc q=>by
      simp only[zFp,At,AM,BH,Dm]at nc;exact sb.extBut c o nc.2.2.2.2 (kp c o (by simp only[At,AM,BH,Dm];exact⟨nc.1,nc.2.1,nc.2.2.2.1,nc.2.2.2.2⟩) q)
    have nT:∀ c∈zFp I,c≠s.heap.objs.size:=λc hc z=>by
      have:c<=I+4:=by
        simp only[zFp,At,AM,BH]at hc;rcases hc with z|z|z|z|z<;>rw[z]<;>simp
      exact absurd (z ▸ DH this lt4) (Bt _)
    have I1:Inv X pI U (upd H s.heap.objs.size (.tup [x,y])) { s with heap:=s.heap.push { cls:=.type "tuple",data:=.seq #[x',y'] },toks:=s.toks }:=
      Iv.laid (λ_ _ q=>As _ q) (A7 _) ⟨(by decide:2<=sizeLine),[x',y'],.cons ru (.cons rv .nil),⟨_,Az _ rfl,rfl,_,rfl⟩⟩
    have hf':∀ b∈zFp I,Hs X pI (upd H s.heap.objs.size (.tup [x,y])) b:=λb hb=>⟨by rw[BQ (nT b hb)];exact(hf b hb).1,(hf b hb).2⟩
    have I2:Inv X pI U (upd H s.heap.objs.size (.tup [x,y])) {s with heap:=h3,toks:=tk}:=Inv.turnedL (s:={ s with heap:=s.heap.push { cls:=.type "tuple",data:=.seq #[x',y'] },toks:=s.toks }) (zFp I) I1 (λc o nc q=>by
      rcases ZG q with ⟨e1,e2⟩|e1
      · subst e1 e2;exact sb.extBut _ _ (Dy lt4) c5
      · exact kp3 c o nc e1) hf'
    refine⟨.ref s.heap.objs.size,_,I2,rfl,⟨s.heap.objs.size,x,y,Iv.fresh,rfl,λzs hz=>by rw[PC Iv hz q1];exact hx,λzs hz=>by rw[PC Iv hz q2];exact hy,rfl⟩,⟨d1,sb.extBut _ _ (nij (by decide)) (kp _ _ (by simp) z2),⟨_,_,sb.extBut _ _ (nij (by decide)) c2⟩,c3.1.at' λo q=>sb.extBut _ o (DX (ni0 (by decide))) q,c4.1.at' λo q=>sb.extBut _ o (nij (by decide)) q⟩,λb hb=>(hf' b hb).1⟩
  done:=by
    intro X hP hw hK hc i pI s U H E Iv hf ⟨z1,z2,⟨a,b,z3⟩,z4,z5⟩ ⟨xs,ys,q1,q2,hk⟩;subst hP hw hK;obtain⟨us,rx,sx,_⟩:=HI Iv q1;obtain⟨vs,ry,sy,_⟩:=HI Iv q2;have hT:s.TypeIs (.ref (I+4)) "zip" := ⟨_,z1,rfl⟩;have calm:X.A.in1.handled=Af:=Iv.ok.hd hc;have e1:=rx.length;have e2:=ry.length;simp only[Ei];refine Ah (FG (Ca hT CF (CW CF hT EE (mO (k:=i) b1 b2 (IM calm t1 I l1 (A4 b1) us.toArray) (IM calm t2 (I+1) l2 (A4 (DS b2)) vs.toArray) z1 z2 z3 ⟨z4,sx⟩ ⟨z5,sy⟩
      (by simp only[AJ];omega) λh2 e tk kp he=>?_) (Eh _))))
    obtain⟨o,ho,hcl⟩:=he;refine Ah (aR (T := "StopIteration") (b:=Aa) ⟨o,ho,hcl⟩ aK (Av ⟨rfl,Inv.turnedL [I,I+1,I+3,I+4] Iv (λc o nc q=>kp c o nc q) λc hc=>hf c ?_⟩))
    simp only[At,AM,BH]at hc;simp only[zFp,At,AM,BH];rcases hc with rfl|rfl|rfl|rfl<;>simp
  self:=λ_ _ _ _ _ st h=>aV st.1 h
section
variable{prog:AV}{w:AF}{A:A9}{E:Vq}{s:Ar}
noncomputable def itO(t:Aj)(l:Al):C9:=match t with
  |true=>{ cls:=.type "tuple_iterator",data:=.fields #[.ref l,.int 0 0] }
  |false=>{ cls:=.type "list_iterator",data:=.fields #[.ref l,.int 0 0] }
theorem Kd{Q:Vq}(h:Cv t s.heap l its)(q:Q (.ref s.heap.objs.size) {s with heap:=s.heap.push (itO t l)}):Au (model prog w) A (K9 (.ref l)) Q E s:=by
 cases t with
 |true=>exact F6 h q
 |false=>exact Ej h q
theorem Cv.push(z:Cv t h l its)(o:C9):Cv t (h.push o) l its:=by
 cases t with
 |true=>exact PySem.Heap.IsTuple.at z λ_ e=>As _ e
 |false=>exact PySem.Heap.IsList.at z λ_ e=>As _ e
theorem LH{j:Al}(e:h.get? j=Ab (itO t l)):E7 t h j l 0:=by
 cases t with
 |true=>exact⟨_,e,rfl,rfl⟩
 |false=>exact⟨_,e,rfl,rfl⟩
theorem Ls(t:Aj)(l:Al):(itO t l).isFreed=Ad:=by cases t<;>rfl
noncomputable abbrev zh2(t1 t2:Aj)(h:AC)(l1 l2:Al):AC:=(h.push (itO t1 l1)).push (itO t2 l2)
noncomputable abbrev zh3(t1 t2:Aj)(h:AC)(l1 l2:Al):AC:=(zh2 t1 t2 h l1 l2).push { cls:=.type "tuple",data:=.seq #[.ref h.objs.size,.ref (h.push (itO t1 l1)).objs.size] }
noncomputable abbrev zh4(t1 t2:Aj)(h:AC)(l1 l2:Al):AC:=(zh3 t1 t2 h l1 l2).push { cls:=.type "tuple",data:=.seq #[.none,.none] }
noncomputable abbrev zh5(t1 t2:Aj)(h:AC)(l1 l2:Al):AC:=(zh4 t1 t2 h l1 l2).push { cls:=.type "zip",data:=.fields #[.none,.bool Ad,.bool Ad,.ref (zh2 t1 t2 h l1 l2).objs.size,.ref (zh3 t1 t2 h l1 l2).objs.size] }
theorem mM(t1 t2:Aj)(l1 l2:Al)(xs ys:A8 Ai):Meets (Builtin.«zip.__new__» ⟨[.type "zip",.ref l1,.ref l2],[]⟩) (λ_ R s=>Cv t1 s.heap l1 xs/\Cv t2 s.heap l2 ys/\R (.ok (.ret (.ref (zh4 t1 t2 s.heap l1 l2).objs.size))) {s with heap:=zh5 t1 t2 s.heap l1 l2}):=
 .of_wp λprog w A R s h=>by
  obtain⟨hp,g,d,tk,os⟩:=s;obtain⟨a1,a2,q⟩:=h;have hsub:=sub_zip;have L1:Cv t1 (GA ⟨hp,g,d,tk,os⟩) l1 xs:=a1;have L2:Cv t2 (GA ⟨hp.push (itO t1 l1),g,d,tk,os⟩) l2 ys:=a2.push _
  wp_walk using Kd L1,Kd L2
  exact⟨_,rfl,q⟩
theorem kC{t1 t2:Aj}{l1 l2:Al}{xs:A8 Ai}{Q:Vq}(a1:Cv t1 s.heap l1 xs)(a2:Cv t2 s.heap l2 ys)(q:∀ h2,zTn t1 t2 s.heap.objs.size l1 l2 0 h2->(∀ c o,s.heap.get? c=Ab o->h2.get? c=Ab o)->Q (.ref (s.heap.objs.size+4)) {s with heap:=h2}):Au (model prog w) A (call (.type "zip") [.ref l1,.ref l2]) Q E s:=by
 refine JQ Zr (by decide) (F.typeCall_zip_2 _ _) (F.newCall_zip_2 _ _) (λobj=>F.args_object_init_3 obj _ _) Zx (mM t1 t2 l1 l2 xs ys) ⟨a1,a2,?_⟩
 have s1:(s.heap.push (itO t1 l1)).objs.size=s.heap.objs.size+1:=BF ..;have s2:(zh2 t1 t2 s.heap l1 l2).objs.size=s.heap.objs.size+2:=by rw[BF,s1]
 have s3:(zh3 t1 t2 s.heap l1 l2).objs.size=s.heap.objs.size+3:=by rw[BF,s2]
 have s4:(zh4 t1 t2 s.heap l1 l2).objs.size=s.heap.objs.size+4:=by rw[BF,s3]
 have u5:∀ {c o},(zh4 t1 t2 s.heap l1 l2).get? c=Ab o->(zh5 t1 t2 s.heap l1 l2).get? c=Ab o:=λe=>As _ e
 have u4:∀ {c o},(zh3 t1 t2 s.heap l1 l2).get? c=Ab o->(zh5 t1 t2 s.heap l1 l2).get? c=Ab o:=λe=>u5 (As _ e)
 have u3:∀ {c o},(zh2 t1 t2 s.heap l1 l2).get? c=Ab o->(zh5 t1 t2 s.heap l1 l2).get? c=Ab o:=λe=>u4 (As _ e)
 have u2:∀ {c o},(s.heap.push (itO t1 l1)).get? c=Ab o->(zh5 t1 t2 s.heap l1 l2).get? c=Ab o:=λe=>u3 (As _ e)
 have g5:(zh5 t1 t2 s.heap l1 l2).get? (zh4 t1 t2 s.heap l1 l2).objs.size=Ab _:=Az _ rfl;have g4:(zh5 t1 t2 s.heap l1 l2).get? (zh3 t1 t2 s.heap l1 l2).objs.size=Ab _:=u5 (Az _ rfl);have g3:(zh5 t1 t2 s.heap l1 l2).get? (zh2 t1 t2 s.heap l1 l2).objs.size=Ab _:=u4 (Az _ rfl);have g2:(zh5 t1 t2 s.heap l1 l2).get? (s.heap.push (itO t1 l1)).objs.size=Ab _:=u3 (Az _ (Ls _ _));have g1:(zh5 t1 t2 s.heap l1 l2).get? s.heap.objs.size=Ab _:=u2 (Az _ (Ls _ _));show _/\_;rw[s2,s3,s4]at g5;rw[s3]at g4;rw[s1,s2]at g3;rw[s1]at g2;rw[s4];exact⟨⟨_,g5,rfl⟩,q _ ⟨g5,g3,⟨_,_,g4⟩,LH g1,LH g2⟩ λc o e=>u2 (As _ e)⟩
end
def dL(K:Fg)(ta:TA):TI:=λU H R=>ta U H λvs H1=>∃ t1 t2 a b xs ys,vs=[.ref a,.ref b]/\SqX t1 K H1 a xs/\SqX t2 K H1 b ys/\(xs.length<=sizeLine->R (Itz K t1 t2 a b) H1)
theorem Cv.lt(z:Cv t h a its):a<h.objs.size:=by
 cases t with
 |true=>obtain⟨o,e,_⟩:=z;exact AB e
 |false=>obtain⟨o,e,_⟩:=z;exact AB e
theorem xR{a b:Ao}(hg:Gl X "zip")(hm:X.mg "zip" = Af)(ha:PA X [a,b] ta)(hs:Ax [a,b] X.env=[(Ad,eval a X.env),(Ad,eval b X.env)])(hs2:Ax [b] X.env=[(Ad,eval b X.env)]):
  PI X (.Tuple es n tpos) (.Call (.Name "zip" p) [a,b] [] pos) (dL X.K ta):=by
 intro pI s U H R I h;refine K1 (Ju I hg hm YG (Cw (thn (ha pos pI s U H _ I h) λus s1 ⟨vs,H1,I1,r1,q1⟩=>?_) (by rw[hs,hs2]) (by rw[hs2];rfl)))
 obtain⟨t1,t2,c,d,xs,ys,e,sx,sy,q⟩:=q1;subst e;cases r1 with
 |cons r rr=>
  cases rr with
  |cons r' rr=>
   cases rr;cases r;cases r';obtain⟨us,ru,iu,zu⟩:=HI I1 sx;obtain⟨vs,rv,iv,_⟩:=HI I1 sy;refine kC iu iv λh2 z kp=>aV z.1 ?_
   refine⟨s1.heap.objs.size+4,zFp s1.heap.objs.size,_,_,H1,rfl,I1.kept (t':=s1.toks) kp,kQ t1 t2 s1.heap.objs.size c d iu.lt iv.lt,z,λb hb=>?_,q zu⟩
   have hb':s1.heap.objs.size<=b:=by
    simp only[zFp,At,AM,BH]at hb;rcases hb with z|z|z|z|z<;>rw[z]<;>simp
   exact I1.fpOk hb' (I1.hok.fresh hb')
theorem LO{ds:Ac D}(r:Rep K CL H A v d)(e:Ci d=.ok ds):∃ t a xs,v=.ref a/\(∀ H2,Kp A H H2->SqX t K H2 a xs)/\Reps K CL H A xs ds:=by
 cases d with
 |lst es=>
  cases e;obtain⟨q,xs,rfl,na,sq,r⟩:=r;exact⟨Ad,q,xs,rfl,λH2 k=>Oa k na sq,r⟩
 |tup es=>
  cases e;obtain⟨q,xs,rfl,na,sq,r⟩:=r;exact⟨Aa,q,xs,rfl,λH2 k=>N9 k na sq,r⟩
 |_=>cases e
theorem QA:∀(xs ys:Ac D),(Gx xs ys).length=min xs.length ys.length
 |[],_=>by simp[Gx]
 |_::_,[]=>by simp[Gx]
 |x::xs,y::ys=>by
  rw[Gx,Bz,QA xs ys];simp only[Bz];omega
theorem UY:∀(xs ys:Ac D)(i:Ag)(d:D),(Gx xs ys)[i]?=Ab d->∃ x y,xs[i]?=Ab x/\ys[i]?=Ab y/\d=.tup [x,y]
 |[],_,i,d,h=>by simp[Gx]at h
 |_::_,[],i,d,h=>by simp[Gx]at h
 |x::xs,y::ys,0,d,h=>by
  rw[Gx]at h;simp only[EQ,Cc]at h;exact⟨x,y,rfl,rfl,h.symm⟩
 |x::xs,y::ys,i+1,d,h=>by
  rw[Gx]at h;simp only[EO]at h ⊢;exact UY xs ys i d h
theorem kI{t1 t2:Aj}{ys:Ac V}{ds es:Ac D}(s1:∀ H2,Kp A H1 H2->SqX t1 K H2 a xs)(s2:∀ H2,Kp A H1 H2->SqX t2 K H2 b ys)(r1:Reps K CL H1 A xs ds)(r2:Reps K CL H1 A ys es):Jx K CL A (Gx ds es) (Itz K t1 t2 a b) H1:=λH k i=>by
 refine⟨λhi=>⟨xs,ys,s1 H k,s2 H k,?_⟩,λd hd=>?_⟩
 .rw[QA]at hi;rw[r1.length,r2.length];omega
 .obtain⟨x,y,hx,hy,rfl⟩:=UY _ _ _ _ hd;obtain⟨u,hu,ru⟩:=r1.get hx;obtain⟨v,hv,rv⟩:=r2.get hy;refine⟨⟨xs,ys,u,v,s1 H k,s2 H k,hu,hv⟩,?_⟩;rintro w' H' ⟨p,x',y',hp,rfl,c1,c2,rfl⟩;have ex:x'=u:=BM ((c1 xs (s1 H k)).symm.trans hu);have ey:y'=v:=BM ((c2 ys (s2 H k)).symm.trans hv);subst ex ey;have sm:=GL hp (.tup [x',y']);exact⟨sm,λB hB aB=>Lz aB hp ⟨Mi ru k hB,Mi rv k hB,trivial⟩⟩
section
variable{X:Cx}{CL:ClA}{W:XW}{pos p:AO}{a b:Ao}{fa fb:Rho->R D}
theorem wD(ha:SE X CL W a fa)(hb:SE X CL W b fb)(hg:Gl X "zip")(hm:X.mg "zip" = Af)(hs:Ax [a,b] X.env=[(Ad,eval a X.env),(Ad,eval b X.env)])(hs2:Ax [b] X.env=[(Ad,eval b X.env)]):
  SI X CL W (.Tuple es n tpos) (.Call (.Name "zip" p) [a,b] [] pos) (λY=>(fa Y).bind λx=>(fb Y).bind λy=>(Ci x).bind λxs=>(Ci y).bind λys=>.ok (Gx xs ys)):=
 λA=>PI.weak (xR hg hm (Ee (ha A) (Ee (hb A) Gs hs2) (by rw[hs,hs2])) hs hs2) λU H R ⟨hA,Y,g,q⟩=>⟨hA,Y,g,Fv.ex q λd v H1 _ s1 r1 p1=>⟨hA.same s1,Y,g.same s1,Fv.ex p1 λd2 v2 H2 _ s2 r2 p2=>by
  cases e1:Ci d with
  |bad=>rw[e1]at p2;exact p2.elim
  |exn z=>exact absurd e1 (by cases d<;>simp[Ci])
  |ok ds=>
   cases e2:Ci d2 with
   |bad=>rw[e1,e2]at p2;exact p2.elim
   |exn z=>exact absurd e2 (by cases d2<;>simp[Ci])
   |ok es=>
    rw[e1,e2]at p2;obtain⟨t1,c1,xs,rfl,k1,rs1⟩:=LO (r1.same s2) e1;obtain⟨t2,c2,ys,rfl,k2,rs2⟩:=LO r2 e2;refine⟨t1,t2,c1,c2,xs,ys,rfl,k1 H2 (Kp.of (AH.refl H2)),k2 H2 (Kp.of (AH.refl H2)),λhz=>p2 _ H2 (AH.refl H2) (kI k1 k2 rs1 rs2) ?_⟩
    rw[QA,<-rs1.length];omega⟩⟩
end
theorem E7.live{l:Ag}(z:E7 t h j l i):∃ o,h.get? j=Ab o/\∀ v,o.data≠.cell v:=by
 cases t with
 |true=>obtain⟨o,e,c,d⟩:=z;exact⟨o,e,λv z=>by rw[d]at z;cases z⟩
 |false=>obtain⟨o,e,c,d⟩:=z;exact⟨o,e,λv z=>by rw[d]at z;cases z⟩
theorem E7.keep{l:Ag}(z:E7 t h j l i)(k:∀ o,h.get? j=Ab o->h2.get? j=Ab o):E7 t h2 j l i:=by
 cases t with
 |true=>exact PySem.Heap.IsTupleIter.at z k
 |false=>exact PySem.Heap.IsListIter.at z k
theorem cb{A:A9}(calm:A.handled=Af)(t:Aj)(j l:Al)(ne:l≠j)(its:A8 Ai):Draws prog w A j [j,l] its.size (λi v=>its[i]?=Ab v) (λi h=>E7 t h j l i/\Cv t h l its):=
 have d:=IM (prog:=prog) (w:=w) calm t j l ne its
 ⟨λi h z=>let ⟨o,e,_⟩:=z.1.live;⟨o,e⟩,d.frame,d.item,λs Q E h q=>d.done _ s Q E (A7 _) h q⟩
theorem sI{A:A9}(calm:A.handled=Af)(t:Aj)(j l:Al)(ne:l≠j)(its:A8 Ai)(i:Ag)(hi:its.size<=i):Draws prog w A j [j,l] i (λ_ _=>Bl) (λk h=>k=i/\E7 t h j l i/\Cv t h l its):=
 have d:=IM (prog:=prog) (w:=w) calm t j l ne its
 ⟨λ_ h z=>let ⟨o,e,_⟩:=z.2.1.live;⟨o,e⟩,λk h h' z q=>⟨z.1,d.frame i h h' z.2 q⟩,λk s Q E lt z=>absurd z.1 (A4 lt),λs Q E h q=>d.done i s Q E hi h.2 q⟩
noncomputable def Ite(K:Fg)(t:Aj)(a:Al):It:=
 ⟨λi H=>∃ xs x,SqX t K H a xs/\xs[i]?=Ab x,λi H v H'=>∃ p x,H p=Af/\v=.ref p/\(∀ xs,SqX t K H a xs->xs[i]?=Ab x)/\H'=upd H p (.tup [.int i,x]),λi H=>∃ xs,SqX t K H a xs/\xs.length<=i⟩
def eTn(t:Aj)(I l:Ag)(i:Ag)(h:AC):Prop:=(∃ old,IsEnum h (I+1) I i old)/\E7 t h I l i
theorem gQ(t:Aj)(I l:Ag)(b:l<I):Turn P w K (.Tuple es n pos) (Ite K t l) [I,I+1] (I+1) (eTn t I l) where
  mem:=by simp
  obj:=λi h ⟨⟨old,z1⟩,z2⟩ c hc=>by
    simp only[At,AM,BH]at hc;rcases hc with rfl|rfl
    · exact z2.live
    · exact⟨_,z1,λv z=>by cases z⟩
  keep:=λi h h2 ⟨⟨old,z1⟩,z2⟩ k=>⟨⟨old,k _ (by simp) _ z1⟩,z2.keep λo e=>k _ (by simp) o e⟩
  item:=by
    intro X hP hw hK hc i pI s U H E Iv hf ⟨⟨old,z1⟩,z2⟩ ⟨xs,x,q1,hx⟩;subst hP hw hK;obtain⟨us,rx,px,_⟩:=HI Iv q1;obtain⟨u,hu,ru⟩:=rx.get hx;have lu:i<us.toArray.size:=by
      have:=(Bh.mp hu).1;simpa using this
    refine wpAny_pyNext_enum_itemD (cb (A:=X.A.in1) (Iv.ok.hd hc) t I l (A4 b) us.toArray) z1 ⟨z2,px⟩ lu (ni0 (by decide)) (by simp only[At,AM,BH,Dm];exact⟨ni0 (by decide),Dy (AN b (EC _ _))⟩) λu' h2 tk hu' ho it2 hT sz kp=>⟨_,rfl,wpAny_letOwnedTupleGo_enum ho λh3 d1 sb=>?_⟩
    have eu:u'=u:=by
      rw[Yl,hu]at hu';exact(BM hu').symm
    subst eu;have lt:I+1<s.heap.objs.size:=AB z1;have kp3:∀ c o,c∉[I,I+1]->s.heap.get? c=Ab o->h3.get? c=Ab o:=λc o nc q=>by
      simp only[At,AM,BH,Dm]at nc;exact sb.extBut c o nc.2 (kp c o nc.2 nc.1 q)
    have nT:∀ c∈[I,I+1],c≠s.heap.objs.size:=λc hc z=>by
      have:c<=I+1:=by
        simp only[At,AM,BH]at hc;rcases hc with z|z<;>rw[z]<;>simp
      exact absurd (z ▸ DH this lt) (Bt _)
    have I1:Inv X pI U (upd H s.heap.objs.size (.tup [.int i,x])) { s with heap:=s.heap.push { cls:=.type "tuple",data:=.seq #[.int i tk,u'] },toks:=s.toks }:=
      Iv.laid (λ_ _ q=>As _ q) (A7 _) ⟨(by decide:2<=sizeLine),[.int i tk,u'],.cons ⟨_,rfl⟩ (.cons ru .nil),⟨_,Az _ rfl,rfl,_,rfl⟩⟩
    have hf':∀ b∈[I,I+1],Hs X pI (upd H s.heap.objs.size (.tup [.int i,x])) b:=λb hb=>⟨by rw[BQ (nT b hb)];exact(hf b hb).1,(hf b hb).2⟩
    have I2:Inv X pI U (upd H s.heap.objs.size (.tup [.int i,x])) {s with heap:=h3,toks:=tk+1}:=Inv.turnedL (s:={ s with heap:=s.heap.push { cls:=.type "tuple",data:=.seq #[.int i tk,u'] },toks:=s.toks }) [I,I+1] I1 (λc o nc q=>by
      rcases ZG q with ⟨e1,e2⟩|e1
      · subst e1 e2;exact sb.extBut _ _ (Dy lt) hT
      · exact kp3 c o nc e1) hf'
    exact⟨.ref s.heap.objs.size,_,I2,rfl,⟨s.heap.objs.size,x,Iv.fresh,rfl,λzs hz=>by rw[PC Iv hz q1];exact hx,rfl⟩,⟨⟨u',by simpa using d1⟩,it2.1.keep λo q=>sb.extBut _ o (DX (ni0 (by decide))) q⟩,λb hb=>(hf' b hb).1⟩
  done:=by
    intro X hP hw hK hc i pI s U H E Iv hf ⟨⟨old,z1⟩,z2⟩ ⟨xs,q1,hk⟩;subst hP hw hK;obtain⟨us,rx,px,_⟩:=HI Iv q1;have e1:=rx.length;have e2:us.toArray.size<=i:=by rw[AJ,<-e1];exact hk
    refine wpAny_pyNext_enum_endD (sI (A:=X.A.in1) (Iv.ok.hd hc) t I l (A4 b) us.toArray i e2) z1 ⟨rfl,z2,px⟩ λh2 eb=>⟨rfl,Inv.turnedL [I] Iv (t':=s.toks) (λc o nc q=>eb c o (λz=>nc (by simp[z])) q) λc hc=>hf c ?_⟩
    have:c=I:=by simpa using hc
    subst this;simp
  self:=λ_ _ _ _ _ st h=>aU st.1.choose_spec h
section
variable{prog:AV}{w:AF}{A:A9}{E:Vq}{s:Ar}
theorem lT(t:Aj)(l:Al)(xs:A8 Ai):Meets (Builtin.«enumerate.__new__» ⟨[.type "enumerate",.ref l],[]⟩) (λ_ R s=>Cv t s.heap l xs /\
   R (.ok (.ret (.ref (s.heap.push (itO t l)).objs.size))) { s with heap:=(s.heap.push (itO t l)).push { cls:=.type "enumerate",data:=.fields #[.none,.bool Ad,.ref s.heap.objs.size,Cr 0,.none,.none] } }):=
 .of_wp λprog w A R s h=>by
  obtain⟨hp,g,d,tk,os⟩:=s;obtain⟨hl,h⟩:=h;have hsub:=sub_enumerate;have hL:Cv t (GA ⟨hp,g,d,tk,os⟩) l xs:=hl
  wp_walk
  refine wpAny_stack_any λst=>Av ?_
  split
  .rename_i c _ _ _ _ _;cases (c==Gh "enumerate")
   .wp_walk using Kd hL
    exact⟨_,rfl,h⟩
   .wp_walk using Kd hL
    exact⟨_,rfl,h⟩
  .wp_walk using Kd hL
   exact⟨_,rfl,h⟩
theorem gZ{xs:A8 Ai}{Q:Vq}(hL:Cv t s.heap l xs)(h:∀ h',IsEnum h' (s.heap.objs.size+1) s.heap.objs.size 0 .none->E7 t h' s.heap.objs.size l 0->(∀ b o,s.heap.get? b=Ab o->h'.get? b=Ab o)->Q (.ref (s.heap.objs.size+1)) {s with heap:=h'}):
    Au (model prog w) A (call (.type "enumerate") [.ref l]) Q E s:=by
  refine JQ F.called_enumerate (by decide) (F.typeCall_enumerate_1 _) (F.newCall_enumerate_1 _) (λobj=>Zo obj _) F.entry_enumerate_new (lT t l xs) ⟨hL,?_⟩
  have hz:(s.heap.push (itO t l)).objs.size=s.heap.objs.size+1:=BF ..;show _/\_;rw[hz];have he:IsEnum ((s.heap.push (itO t l)).push { cls:=.type "enumerate",data:=.fields #[.none,.bool Ad,.ref s.heap.objs.size,Cr 0,.none,.none] }) (s.heap.objs.size+1) s.heap.objs.size 0 .none:=by
    have:=Az (s.heap.push (itO t l)) (o:={ cls:=.type "enumerate",data:=.fields #[.none,.bool Ad,.ref s.heap.objs.size,Cr 0,.none,.none] }) rfl;rw[hz]at this;exact this
  exact⟨⟨_,he,rfl⟩,h _ he (LH (As _ (Az _ (Ls _ _)))) λb o x=>As _ (As _ x)⟩
end
def dM(K:Fg)(ta:TA):TI:=λU H R=>ta U H λvs H1=>∃ t a xs,vs=[.ref a]/\SqX t K H1 a xs/\(xs.length<=sizeLine->R (Ite K t a) H1)
theorem pP{a:Ao}(hg:Gl X "enumerate")(hm:X.mg "enumerate" = Af)(ha:PA X [a] ta)(hs:Ax [a] X.env=[(Ad,eval a X.env)]):
  PI X (.Tuple es n tpos) (.Call (.Name "enumerate" p) [a] [] pos) (dM X.K ta):=by
 intro pI s U H R I h;refine K1 (Ju I hg hm PyProof.Rows.boot_enumerate (Cw (thn (ha pos pI s U H _ I h) λus s1 ⟨vs,H1,I1,r1,q1⟩=>?_) hs rfl))
 obtain⟨t,c,xs,e,sx,q⟩:=q1;subst e;cases r1 with
 |cons r rr=>
  cases rr;cases r;obtain⟨us,ru,pu,zu⟩:=HI I1 sx;refine gZ pu λh2 z1 z2 kp=>aU z1 ?_
  refine⟨s1.heap.objs.size+1,[s1.heap.objs.size,s1.heap.objs.size+1],_,_,H1,rfl,I1.kept (t':=s1.toks) kp,gQ t s1.heap.objs.size c pu.lt,⟨⟨_,z1⟩,z2⟩,λb hb=>?_,q zu⟩
  have hb':s1.heap.objs.size<=b:=by
   simp only[At,AM,BH]at hb;rcases hb with z|z<;>rw[z]<;>simp
  exact I1.fpOk hb' (I1.hok.fresh hb')
theorem Qi:∀(j:Ae)(xs:Ac D),(EK j xs).length=xs.length
 |_,[]=>rfl
 |j,x::xs=>by rw[EK,Bz,Qi,Bz]
theorem Vb:∀(xs:Ac D)(j:Ae)(i:Ag)(d:D),(EK j xs)[i]?=Ab d->∃ x,xs[i]?=Ab x/\d=.tup [.int (j+i),x]
 |[],j,i,d,h=>by simp[EK]at h
 |x::xs,j,0,d,h=>by
  rw[EK]at h;simp only[EQ,Cc]at h;exact⟨x,rfl,by rw[<-h];simp⟩
 |x::xs,j,i+1,d,h=>by
  rw[EK]at h;simp only[EO]at h ⊢;obtain⟨y,h1,h2⟩:=Vb xs (j+1) i d h;exact⟨y,h1,by rw[h2];congr 3;omega⟩
theorem fU{ds:Ac D}(sq:∀ H2,Kp A H1 H2->SqX t K H2 a xs)(r1:Reps K CL H1 A xs ds):Jx K CL A (EK 0 ds) (Ite K t a) H1:=λH k i=>by
 have s1:=sq H k;refine⟨λhi=>⟨xs,s1,?_⟩,λd hd=>?_⟩
 .rw[Qi]at hi;rw[r1.length];exact hi
 .obtain⟨x,hx,rfl⟩:=Vb _ _ _ _ hd;obtain⟨u,hu,ru⟩:=r1.get hx;refine⟨⟨xs,u,s1,hu⟩,?_⟩;rintro w' H' ⟨p,x',hp,rfl,c1,rfl⟩;have ex:x'=u:=BM ((c1 xs s1).symm.trans hu);subst ex;rw[Ew];exact⟨GL hp (.tup [.int i,x']),λB hB aB=>Lz aB hp ⟨rfl,Mi ru k hB,trivial⟩⟩
section
variable{X:Cx}{CL:ClA}{W:XW}{pos p:AO}{a:Ao}{fa:Rho->R D}
theorem oG(ha:SE X CL W a fa)(hg:Gl X "enumerate")(hm:X.mg "enumerate" = Af)(hs:Ax [a] X.env=[(Ad,eval a X.env)]):
  SI X CL W (.Tuple es n tpos) (.Call (.Name "enumerate" p) [a] [] pos) (λY=>(fa Y).bind λx=>(Ci x).bind λxs=>.ok (EK 0 xs)):=
 λA=>PI.weak (pP hg hm (Ee (ha A) Gs hs) hs) λU H R ⟨hA,Y,g,q⟩=>⟨hA,Y,g,Fv.ex q λd v H1 _ s1 r1 p1=>by
  cases e1:Ci d with
  |bad=>rw[e1]at p1;exact p1.elim
  |exn z=>exact absurd e1 (by cases d<;>simp[Ci])
  |ok ds=>
   rw[e1]at p1;obtain⟨t,c,xs,rfl,k1,rs⟩:=LO r1 e1;exact⟨t,c,xs,rfl,k1 H1 (Kp.of (AH.refl H1)),λhz=>p1 _ H1 (AH.refl H1) (fU k1 rs) (by rw[Qi,<-rs.length];exact hz)⟩⟩
end
noncomputable abbrev E6(h:AC)(z TI TO:Al)(f0 f1:Ai):Prop:=h.get? z=Ab { cls:=.type "zip",dict:=Af,data:=.fields #[f0,f1,.bool Ad,.ref TI,.ref TO],slots:=#[] }
noncomputable abbrev ET(h:AC)(T:Al)(a b c:Ai):Prop:=h.get? T=Ab { cls:=.type "tuple",data:=.seq #[a,b,c] }
section
variable{prog:AV}{w:AF}{A:A9}{E:Vq}{s:Ar}
theorem nb3{I l c:Ag}(b:l<I)(h:c∈[I+j,l])(i:Ag)(hi:i≠j):c≠I+i:=by
 have h':c=I+j\/c=l:=by simpa using h
 omega
theorem UW{z TI TO T1:Ag}{Q:Aj->Ar->Prop}(hz:E6 s.heap z TI TO (Cr T1) (.bool f1))(hT:s.heap.get? T1=Ab o1)(go:∀ h1,E6 h1 z TI TO (Cr T1) (.bool Aa)->(∀ c o,c≠z->s.heap.get? c=Ab o->h1.get? c=Ab o)->h1.objs.size=s.heap.objs.size->Q Ad {s with heap:=h1}):Au (model prog w) A (A5 (.ref z)) Q E s:=by
 simp only[A5];refine Ah (Bk hz rfl (x:=Cr T1) rfl ?_);show Au _ _ (loadIfAlive T1 >>= _) _ _ _;refine Ah (λZ p _=>?_)
 show Au _ _ _ _ _ _;rw[hT];show Au _ _ (field (.ref z) 1 >>= _) _ _ _;refine Ah (Bk hz rfl (x:=.bool f1) rfl ?_);cases f1 with
 |true=>exact Av (go s.heap hz (λ_ _ _ e=>e) rfl)
 |false=>exact Ah (B5 hz (by simp) λh1 z1 sb=>Av (go h1 z1 (λc o nc e=>sb.extBut c o nc e) sb.1))
theorem UX{z TI TO:Ag}{f1:Ai}{Q:Aj->Ar->Prop}(hz:E6 s.heap z TI TO f0 f1)(hf:f0=.none\/∃ T1:Ag,f0=Cr T1/\s.heap.get? T1=Af)(go:Q Aa s):Au (model prog w) A (A5 (.ref z)) Q E s:=by
 simp only[A5];rcases hf with rfl|⟨T1,rfl,hT⟩
 .exact Ah (Bk hz rfl (x:=.none) rfl (Av go))
 .refine Ah (Bk hz rfl (x:=Cr T1) rfl ?_);show Au _ _ (loadIfAlive T1 >>= _) _ _ _;refine Ah (λZ p _=>?_)
  show Au _ _ _ _ _ _;rw[hT];exact Av go
theorem fR{I l1 l2 l3 n1 n2 n3 k T1:Ag}{P3:Ag->Ai->Prop}{S3:Ag->AC->Prop}{Q:Vq}(b1:l1<I)(b2:l2<I)(b3:l3<I)(D1:Dw prog w A (I+0) [I+0,l1] n1 P1 S1)(D2:Dw prog w A (I+1) [I+1,l2] n2 P2 S2)(D3:Dw prog w A (I+2) [I+2,l3] n3 P3 S3)(hz:E6 s.heap (I+5) (I+3) (I+4) (Cr T1) (.bool f1))(hI:ET s.heap (I+3) (.ref (I+0)) (.ref (I+1)) (.ref (I+2)))(hT:s.heap.get? T1=Ab o1)(g1:S1 k s.heap)(g2:S2 k s.heap)(g3:S3 k s.heap)(k1:k<n1)(k2:k<n2)(k3:k<n3)(go:∀ x y u h2 tk,P1 k x->P2 k y->P3 k u->E6 h2 (I+5) (I+3) (I+4) (Cr T1) (.bool Aa)->S1 (k+1) h2->S2 (k+1) h2->S3 (k+1) h2->ET h2 s.heap.objs.size x y u->h2.objs.size=s.heap.objs.size+1 ->
   (∀ c o,c∉[I+0,I+1,I+2,I+5]->s.heap.get? c=Ab o->h2.get? c=Ab o)->Q (.ref s.heap.objs.size) {s with heap:=h2,toks:=tk}):Au (model prog w) A (Builtin.«zip.__next__» ⟨[.ref (I+5)],[]⟩) (λfin s'=>∃ v,fin=.done (.ret v)/\Q v s') E s:=by
 refine Ah (m:=field (.ref (I+5)) 2) (Bk hz rfl (x:=.bool Ad) rfl ?_);refine Ah (m:=field (.ref (I+5)) 3) (Bk hz rfl (x:=.ref (I+3)) rfl (Ah (BY hI rfl ?_)));refine Ah (m:=A5 (.ref (I+5))) (UW hz hT λp1 z1 e1 s1=>?_)
 rw[AT (by decide)]
 refine Ah ?_;simp only[<-XS,D8,DV];have f1':S1 k p1:=D1.frame _ _ _ g1 λc hc o q=>e1 c o (nb3 b1 hc 5 (by decide)) q
 refine Ah (Ah (Co (Ah (m:=A1 (.ref (I+0))) (D1.item k _ _ _ k1 f1' λx p2 t2 px s2 e2=>Av (Av ?_)))))
 have f2':S2 k p2:=D2.frame _ _ _ g2 λc hc o q=>e2.extBut c o (nb3 b2 hc 0 (by decide)) (e1 c o (nb3 b2 hc 5 (by decide)) q)
 refine Ah (Ah (Co (Ah (m:=A1 (.ref (I+1))) (D2.item k _ _ _ k2 f2' λy p3 t3 py s3 e3=>Av (Av ?_)))))
 have f3':S3 k p3:=D3.frame _ _ _ g3 λc hc o q=>e3.extBut c o (nb3 b3 hc 1 (by decide)) (e2.extBut c o (nb3 b3 hc 0 (by decide)) (e1 c o (nb3 b3 hc 5 (by decide)) q))
 refine Ah (Ah (Co (Ah (m:=A1 (.ref (I+2))) (D3.item k _ _ _ k3 f3' λu p4 t4 pu s4 e4=>Av (Av (Av ?_))))))
 refine Ah (Je (hsz:=by show 3<=sizeLine;decide) (Av ⟨_,rfl,?_⟩))
 have sz:p4.objs.size=s.heap.objs.size:=by rw[e4.1,e3.1,e2.1,s1]
 have z4:E6 p4 (I+5) (I+3) (I+4) (Cr T1) (.bool Aa):=e4.extBut _ _ (nij (by decide)) (e3.extBut _ _ (nij (by decide)) (e2.extBut _ _ (nij (by decide)) z1))
 have a1:S1 (k+1) p4:=D1.frame _ _ _ s2 λc hc o q=>e4.extBut c o (nb3 b1 hc 2 (by decide)) (e3.extBut c o (nb3 b1 hc 1 (by decide)) q)
 have a2:S2 (k+1) p4:=D2.frame _ _ _ s3 λc hc o q=>e4.extBut c o (nb3 b2 hc 2 (by decide)) q
 have psh:∀ {c o},p4.get? c=Ab o->(p4.push { cls:=.type "tuple",data:=.seq #[x,y,u] }).get? c=Ab o:=λq=>As _ q
 have q:=go x y u (p4.push { cls:=.type "tuple",data:=.seq #[x,y,u] }) t4 px py pu (psh z4) (D1.frame _ _ _ a1 λc _ o q=>psh q) (D2.frame _ _ _ a2 λc _ o q=>psh q) (D3.frame _ _ _ s4 λc _ o q=>psh q) (by rw[<-sz];exact Az _ rfl) (by rw[BF,sz]) (λc o nc q=>by
  simp only[At,AM,BH,Dm]at nc;exact psh (e4.extBut c o nc.2.2.1 (e3.extBut c o nc.2.1 (e2.extBut c o nc.1 (e1 c o nc.2.2.2 q)))))
 rw[<-sz]at q;exact q
theorem fQ{I l1 n1 k T1:Ag}{Q:Fin->Ar->Prop}(b1:l1<I)(D1:Dw prog w A (I+0) [I+0,l1] n1 P1 S1)(hz:E6 s.heap (I+5) (I+3) (I+4) (Cr T1) (.bool f1))(hI:ET s.heap (I+3) (.ref (I+0)) (.ref (I+1)) (.ref (I+2)))(hT:s.heap.get? T1=Ab o1)(g1:S1 k s.heap)(k1:n1<=k)(up:∀ h2 e,(∀ c o,c∉[I+0,I+5]->s.heap.get? c=Ab o->h2.get? c=Ab o)->(∃ o,h2.get? e=Ab o/\o.cls=.type "StopIteration")->E (.ref e) {s with heap:=h2}):Au (model prog w) A (Builtin.«zip.__next__» ⟨[.ref (I+5)],[]⟩) Q E s:=by
 refine Ah (m:=field (.ref (I+5)) 2) (Bk hz rfl (x:=.bool Ad) rfl ?_);refine Ah (m:=field (.ref (I+5)) 3) (Bk hz rfl (x:=.ref (I+3)) rfl (Ah (BY hI rfl ?_)));refine Ah (m:=A5 (.ref (I+5))) (UW hz hT λp1 z1 e1 s1=>?_)
 rw[AT (by decide)]
 refine Ah ?_;simp only[<-XS,D8,DV];have f1':S1 k p1:=D1.frame _ _ _ g1 λc hc o q=>e1 c o (nb3 b1 hc 5 (by decide)) q
 refine Ah (Ah (Co (Ah (m:=A1 (.ref (I+0))) (D1.done k _ _ _ k1 f1' λp2 e e2 he=>up p2 e (λc o nc q=>?_) he))))
 simp only[At,AM,BH,Dm]at nc;exact e2 c o nc.1 (e1 c o nc.2 q)
theorem kE{I l1 n1 k:Ag}{f1:Ai}{Q:Fin->Ar->Prop}(b1:l1<I)(D1:Dw prog w A (I+0) [I+0,l1] n1 P1 S1)(hz:E6 s.heap (I+5) (I+3) (I+4) f0 f1)(hf:f0=.none\/∃ T1:Ag,f0=Cr T1/\s.heap.get? T1=Af)(hI:ET s.heap (I+3) (.ref (I+0)) (.ref (I+1)) (.ref (I+2)))(g1:S1 k s.heap)(k1:n1<=k)(up:∀ h2 e,(∀ c o,c∉[I+0,I+5]->s.heap.get? c=Ab o->h2.get? c=Ab o)->(∃ o,h2.get? e=Ab o/\o.cls=.type "StopIteration")->E (.ref e) {s with heap:=h2}):Au (model prog w) A (Builtin.«zip.__next__» ⟨[.ref (I+5)],[]⟩) Q E s:=by
 refine Ah (m:=field (.ref (I+5)) 2) (Bk hz rfl (x:=.bool Ad) rfl ?_);refine Ah (m:=field (.ref (I+5)) 3) (Bk hz rfl (x:=.ref (I+3)) rfl (Ah (BY hI rfl ?_)));refine Ah (m:=A5 (.ref (I+5))) (UX hz hf ?_);rw[AI rfl];refine Ah (G5 (Ah (Bk hz rfl (x:=.ref (I+4)) rfl (Ah (B5 hz (by simp) λp1 z1 e1=>Ah ?_)))))
 have z1':E6 p1 (I+5) (I+3) (I+4) .ellipsis f1:=z1;simp only[GJ,GX,D8,DV];have g1':S1 k p1:=D1.frame _ _ _ g1 λc hc o q=>e1.extBut c o (nb3 b1 hc 5 (by decide)) q
 refine Ah (Ah (DU (Ah (m:=A1 (.ref (I+0))) (D1.done _ _ _ _ k1 g1' λp2 e e2 he=>?_))))
 obtain⟨oe,hoe,hce⟩:=he;have z2:E6 p2 (I+5) (I+3) (I+4) .ellipsis f1:=e2 _ _ (nij (by decide)) z1'
 have ne:e≠I+5:=λx=>by subst x;rw[z2]at hoe;cases hoe;simp at hce
 refine B5 z2 (by simp) λp3 _ e3=>up p3 e (λc o nc q=>?_) ⟨oe,e3.extBut _ _ ne hoe,hce⟩
 simp only[At,AM,BH,Dm]at nc;exact e3.extBut c o nc.2 (e2 c o nc.1 (e1.extBut c o nc.2 q))
theorem Q4{T:Al}{a b c x:Ai}{Q:Gp->Ar->Prop}(h:ET s.heap T a b c)(go:∀ h2,h2.get? T=Ab { cls:=.type "tuple",data:=.seq ((#[a,b,c]:A8 Ai).setIfInBounds k x) }->EF T s.heap h2->Q () {s with heap:=h2}):Au (model prog w) A (JV T (·.setIfInBounds k x)) Q E s:=by
 refine F0 h rfl (go _ ?_ (Hi ..)) (by show 3<=sizeLine;decide) (by show ((#[a,b,c]:A8 Ai).setIfInBounds k x).size<=sizeLine+1;rw[Array.size_setIfInBounds];show 3<=sizeLine+1;decide)
 rw[B7 _ h rfl];simp[DD]
theorem fW{I l1 l2 l3 n1 n2 n3 k:Ag}{P3:Ag->Ai->Prop}{S3:Ag->AC->Prop}{a b c f1:Ai}{Q:Vq}(b1:l1<I)(b2:l2<I)(b3:l3<I)(D1:Dw prog w A (I+0) [I+0,l1] n1 P1 S1)(D2:Dw prog w A (I+1) [I+1,l2] n2 P2 S2)(D3:Dw prog w A (I+2) [I+2,l3] n3 P3 S3)(hz:E6 s.heap (I+5) (I+3) (I+4) f0 f1)(hf:f0=.none\/∃ T1:Ag,f0=Cr T1/\s.heap.get? T1=Af)(hI:ET s.heap (I+3) (.ref (I+0)) (.ref (I+1)) (.ref (I+2)))(hO:ET s.heap (I+4) a b c)(g1:S1 k s.heap)(g2:S2 k s.heap)(g3:S3 k s.heap)(k1:k<n1)(k2:k<n2)(k3:k<n3)(go:∀ x y u h2 tk,P1 k x->P2 k y->P3 k u->E6 h2 (I+5) (I+3) (I+4) (Cr s.heap.objs.size) (.bool Ad)->S1 (k+1) h2->S2 (k+1) h2->S3 (k+1) h2->ET h2 s.heap.objs.size x y u->ET h2 (I+4) x y u->h2.objs.size=s.heap.objs.size+1 ->
   (∀ c o,c∉[I+0,I+1,I+2,I+4,I+5]->s.heap.get? c=Ab o->h2.get? c=Ab o)->Q (.ref s.heap.objs.size) {s with heap:=h2,toks:=tk}):Au (model prog w) A (Builtin.«zip.__next__» ⟨[.ref (I+5)],[]⟩) (λfin s'=>∃ v,fin=.done (.ret v)/\Q v s') E s:=by
 refine Ah (m:=field (.ref (I+5)) 2) (Bk hz rfl (x:=.bool Ad) rfl ?_);refine Ah (m:=field (.ref (I+5)) 3) (Bk hz rfl (x:=.ref (I+3)) rfl (Ah (BY hI rfl ?_)));refine Ah (m:=A5 (.ref (I+5))) (UX hz hf ?_);rw[AI rfl];refine Ah (G5 (Ah (Bk hz rfl (x:=.ref (I+4)) rfl (Ah (B5 hz (by simp) λp1 z1 e1=>Ah ?_)))))
 have z1':E6 p1 (I+5) (I+3) (I+4) .ellipsis f1:=z1;simp only[GJ,GX,D8,DV];have f1':S1 k p1:=D1.frame _ _ _ g1 λc hc o q=>e1.extBut c o (nb3 b1 hc 5 (by decide)) q
 refine Ah (Ah (DU (Ah (m:=A1 (.ref (I+0))) (D1.item k _ _ _ k1 f1' λx p2 t2 px s2 e2=>Av ?_))))
 have o2:ET p2 (I+4) a b c:=e2.extBut _ _ (nij (by decide)) (e1.extBut _ _ (nij (by decide)) hO)
 refine Ah (BY o2 rfl (Ah (Q4 o2 λp3 o3 e3=>Ah (GC (Av ?_)))))
 have o3':ET p3 (I+4) x b c:=o3;have f2':S2 k p3:=D2.frame _ _ _ g2 λc hc o q=>e3.extBut c o (nb3 b2 hc 4 (by decide)) (e2.extBut c o (nb3 b2 hc 0 (by decide)) (e1.extBut c o (nb3 b2 hc 5 (by decide)) q))
 refine Ah (Ah (DU (Ah (m:=A1 (.ref (I+1))) (D2.item k _ _ _ k2 f2' λy p4 t4 py s4 e4=>Av ?_))))
 have o4:ET p4 (I+4) x b c:=e4.extBut _ _ (nij (by decide)) o3'
 refine Ah (BY o4 rfl (Ah (Q4 o4 λp5 o5 e5=>Ah (GC (Av ?_)))))
 have o5':ET p5 (I+4) x y c:=o5;have f3':S3 k p5:=D3.frame _ _ _ g3 λc hc o q=>e5.extBut c o (nb3 b3 hc 4 (by decide)) (e4.extBut c o (nb3 b3 hc 1 (by decide)) (e3.extBut c o (nb3 b3 hc 4 (by decide)) (e2.extBut c o (nb3 b3 hc 0 (by decide)) (e1.extBut c o (nb3 b3 hc 5 (by decide)) q))))
 refine Ah (Ah (DU (Ah (m:=A1 (.ref (I+2))) (D3.item k _ _ _ k3 f3' λu p6 t6 pu s6 e6=>Av ?_))))
 have o6:ET p6 (I+4) x y c:=e6.extBut _ _ (nij (by decide)) o5'
 refine Ah (BY o6 rfl (Ah (Q4 o6 λp7 o7 e7=>Ah (GC (Av (Av ?_))))))
 have o7':ET p7 (I+4) x y u:=o7;have sz:p7.objs.size=s.heap.objs.size:=by rw[e7.1,e6.1,e5.1,e4.1,e3.1,e2.1,e1.1]
 have z7:E6 p7 (I+5) (I+3) (I+4) .ellipsis f1:=e7.extBut _ _ (nij (by decide)) (e6.extBut _ _ (nij (by decide)) (e5.extBut _ _ (nij (by decide)) (e4.extBut _ _ (nij (by decide)) (e3.extBut _ _ (nij (by decide)) (e2.extBut _ _ (nij (by decide)) z1')))))
 refine Ah (BY o7' rfl (Ah (Je (hsz:=by show 3<=sizeLine;decide) ?_)))
 refine Ah (m:=Da (.ref (I+5)) (.ref p7.objs.size)) ?_;simp only[Da];have z8:E6 (p7.push { cls:=.type "tuple",data:=.seq #[x,y,u] }) (I+5) (I+3) (I+4) .ellipsis f1:=As _ z7;refine Ah (B5 z8 (by simp) λp9 z9 e9=>?_)
 have z9':E6 p9 (I+5) (I+3) (I+4) (Cr p7.objs.size) f1:=z9;refine B5 z9' (by simp) λpa za ea=>Av ⟨_,rfl,?_⟩
 have za':E6 pa (I+5) (I+3) (I+4) (Cr p7.objs.size) (.bool Ad):=za;have lt5:I+5<p7.objs.size:=AB z7;have up:∀ c o,c≠I+5->p7.get? c=Ab o->pa.get? c=Ab o:=λc o nc q=>ea.extBut _ _ nc (e9.extBut _ _ nc (As _ q))
 have a1:S1 (k+1) pa:=D1.frame _ _ _ s2 λc hc o q=>up c o (nb3 b1 hc 5 (by decide)) (e7.extBut c o (nb3 b1 hc 4 (by decide)) (e6.extBut c o (nb3 b1 hc 2 (by decide)) (e5.extBut c o (nb3 b1 hc 4 (by decide)) (e4.extBut c o (nb3 b1 hc 1 (by decide)) (e3.extBut c o (nb3 b1 hc 4 (by decide)) q)))))
 have a2:S2 (k+1) pa:=D2.frame _ _ _ s4 λc hc o q=>up c o (nb3 b2 hc 5 (by decide)) (e7.extBut c o (nb3 b2 hc 4 (by decide)) (e6.extBut c o (nb3 b2 hc 2 (by decide)) (e5.extBut c o (nb3 b2 hc 4 (by decide)) q)))
 have a3:S3 (k+1) pa:=D3.frame _ _ _ s6 λc hc o q=>up c o (nb3 b3 hc 5 (by decide)) (e7.extBut c o (nb3 b3 hc 4 (by decide)) q)
 have tp:ET pa p7.objs.size x y u:=ea.extBut _ _ (Dy lt5) (e9.extBut _ _ (Dy lt5) (Az _ rfl));have q:=go x y u pa t6 px py pu (by rw[<-sz];exact za') a1 a2 a3 (by rw[<-sz];exact tp) (up _ _ (nij (by decide)) o7') (by rw[ea.1,e9.1,BF,sz]) (λc o nc q=>by
  simp only[At,AM,BH,Dm]at nc;exact up c o nc.2.2.2.2 (e7.extBut c o nc.2.2.2.1 (e6.extBut c o nc.2.2.1 (e5.extBut c o nc.2.2.2.1 (e4.extBut c o nc.2.1 (e3.extBut c o nc.2.2.2.1 (e2.extBut c o nc.1 (e1.extBut c o nc.2.2.2.2 q))))))))
 rw[<-sz]at q;exact q
def Z_3(t1 t2 t3:Aj)(I l1 l2 l3 i:Ag)(h:AC):Prop:=ET h (I+3) (.ref (I+0)) (.ref (I+1)) (.ref (I+2))/\E7 t1 h (I+0) l1 i/\E7 t2 h (I+1) l2 i/\E7 t3 h (I+2) l3 i/\(∃ a b c,ET h (I+4) a b c) /\
 (E6 h (I+5) (I+3) (I+4) .none (.bool Ad)\/∃(T1:Ag)(f1:Aj),E6 h (I+5) (I+3) (I+4) (Cr T1) (.bool f1))
noncomputable def z3w(I:Ag):Ac Al:=[I+0,I+1,I+2,I+4,I+5]
theorem mP{t1 t2 t3:Aj}{I l1 l2 l3 i:Ag}{xs:A8 Ai}{x:Ai}{Q:Ap Ai->Ar->Prop}(calm:A.handled=Af)(b1:l1<I)(b2:l2<I)(b3:l3<I)(z:Z_3 t1 t2 t3 I l1 l2 l3 i s.heap)(q1:Cv t1 s.heap l1 xs)(q2:Cv t2 s.heap l2 ys)(q3:Cv t3 s.heap l3 us)(hx:xs[i]?=Ab x)(hy:ys[i]?=Ab y)(hu:us[i]?=Ab u)(go:∀ h2 tk,Z_3 t1 t2 t3 I l1 l2 l3 (i+1) h2->ET h2 s.heap.objs.size x y u->h2.objs.size=s.heap.objs.size+1->(∀ c o,c∉z3w I->s.heap.get? c=Ab o->h2.get? c=Ab o)->Q (Ab (.ref s.heap.objs.size)) {s with heap:=h2,toks:=tk}):Au (model prog w) A (Ei (.ref (I+5))) Q E s:=by
 obtain⟨zI,i1,i2,i3,zz⟩:=z;have calm':A.in1.handled=Af:=calm;have lt:∀{v:A8 Ai}{k:Ag}{a:Ai},v[k]?=Ab a->k<v.size:=λh=>by
  rw[Array.getElem?_eq_some_iff]at h;exact h.1
 have inj:∀{v:A8 Ai}{k:Ag}{a b:Ai},v[k]?=Ab a->v[k]?=Ab b->b=a:=λh1 h2=>by
  rw[h1]at h2;exact(BM h2).symm
 have d1:=IM (prog:=prog) (w:=w) calm' t1 (I+0) l1 (A4 b1) xs;have d2:=IM (prog:=prog) (w:=w) calm' t2 (I+1) l2 (A4 (AN b2 (EC _ _))) ys;have d3:=IM (prog:=prog) (w:=w) calm' t3 (I+2) l3 (A4 (AN b3 (EC _ _))) us;obtain⟨⟨a,b,c,hO⟩,zz⟩:=zz;have fst:∀{f0 f1:Ai},E6 s.heap (I+5) (I+3) (I+4) f0 f1->(f0=.none\/∃ T1:Ag,f0=Cr T1/\s.heap.get? T1=Af)->Au (model prog w) A (Ei (.ref (I+5))) Q E s:=λhz hf=>by
  have hty:s.TypeIs (.ref (I+5)) "zip" := ⟨_,hz,rfl⟩;simp only[Ei];refine Ah (FG (Ca hty CF (CW CF hty EE (fW (k:=i) b1 b2 b3 d1 d2 d3 hz hf zI hO ⟨i1,q1⟩ ⟨i2,q2⟩ ⟨i3,q3⟩ (lt hx) (lt hy) (lt hu) λx' y' u' h2 tk px py pu c1 c2 c3 c4 c5 c6 c7 kp=>Av ?_) (Eh _))))
  rw[inj hx px,inj hy py,inj hu pu]at c5;exact go h2 tk ⟨kp _ _ (by simp) zI,c2.1,c3.1,c4.1,⟨_,_,_,c6⟩,.inr ⟨_,_,c1⟩⟩ c5 c7 kp
 rcases zz with hz|⟨T1,f1,hz⟩
 .exact fst hz (.inl rfl)
 .cases hT:s.heap.get? T1 with
  |none=>exact fst hz (.inr ⟨T1,rfl,hT⟩)
  |some o1=>
   have hty:s.TypeIs (.ref (I+5)) "zip" := ⟨_,hz,rfl⟩;simp only[Ei];refine Ah (FG (Ca hty CF (CW CF hty EE (fR (k:=i) b1 b2 b3 d1 d2 d3 hz zI hT ⟨i1,q1⟩ ⟨i2,q2⟩ ⟨i3,q3⟩ (lt hx) (lt hy) (lt hu) λx' y' u' h2 tk px py pu c1 c2 c3 c4 c5 c6 kp=>Av ?_) (Eh _))))
   rw[inj hx px,inj hy py,inj hu pu]at c5;exact go h2 tk ⟨kp _ _ (by simp) zI,c2.1,c3.1,c4.1,⟨a,b,c,kp _ _ (by simp) hO⟩,.inr ⟨T1,Aa,c1⟩⟩ c5 c6 (λc o nc q=>kp c o (λh=>nc (by simp only[z3w,At,AM,BH]at h ⊢;rcases h with h|h|h|h<;>simp[h])) q)
theorem wH{t1 t2 t3:Aj}{I l1 l2 l3 i:Ag}{xs:A8 Ai}{Q:Ap Ai->Ar->Prop}(calm:A.handled=Af)(b1:l1<I)(z:Z_3 t1 t2 t3 I l1 l2 l3 i s.heap)(q1:Cv t1 s.heap l1 xs)(hx:xs.size<=i)(go:∀ h2,(∀ c o,c∉z3w I->s.heap.get? c=Ab o->h2.get? c=Ab o)->Q Af {s with heap:=h2}):Au (model prog w) A (Ei (.ref (I+5))) Q E s:=by
 obtain⟨zI,i1,i2,i3,zz⟩:=z;have calm':A.in1.handled=Af:=calm;have d1:=IM (prog:=prog) (w:=w) calm' t1 (I+0) l1 (A4 b1) xs;have go':∀ h2 e,(∀ c o,c∉[I+0,I+5]->s.heap.get? c=Ab o->h2.get? c=Ab o)->(∃ o,h2.get? e=Ab o/\o.cls=.type "StopIteration")->Au (model prog w) A (HU (.ref e) (.type "StopIteration") >>= λb=>if b=Aa then pure Af else throw (.ref e)) Q E {s with heap:=h2}:=λh2 e kp ⟨o,ho,hcl⟩=>
  Ah (aR (T := "StopIteration") (b:=Aa) ⟨o,ho,hcl⟩ aK (Av (go h2 λc o nc q=>kp c o (λh=>nc (by simp only[z3w,At,AM,BH]at h ⊢;rcases h with h|h<;>simp[h])) q)))
 have fin:∀{f0 f1:Ai},E6 s.heap (I+5) (I+3) (I+4) f0 f1->(f0=.none\/∃ T1:Ag,f0=Cr T1/\s.heap.get? T1=Af)->Au (model prog w) A (Ei (.ref (I+5))) Q E s:=λhz hf=>by
  have hty:s.TypeIs (.ref (I+5)) "zip" := ⟨_,hz,rfl⟩;simp only[Ei];exact Ah (FG (Ca hty CF (CW CF hty EE (kE (k:=i) b1 d1 hz hf zI ⟨i1,q1⟩ hx λh2 e kp he=>go' h2 e kp he) (Eh _))))
 obtain⟨_,zz⟩:=zz;rcases zz with hz|⟨T1,f1,hz⟩
 .exact fin hz (.inl rfl)
 .cases hT:s.heap.get? T1 with
  |none=>exact fin hz (.inr ⟨T1,rfl,hT⟩)
  |some o1=>
   have hty:s.TypeIs (.ref (I+5)) "zip" := ⟨_,hz,rfl⟩;simp only[Ei];exact Ah (FG (Ca hty CF (CW CF hty EE (fQ (k:=i) b1 d1 hz zI hT ⟨i1,q1⟩ hx λh2 e kp he=>go' h2 e kp he) (Eh _))))
end
section
variable{prog:AV}{w:AF}{A:A9}{R:IY->Ar->Prop}
def LK(I S:Ag)(xs ys us:A8 Ai)(i:Ag)(acc:A8 Ai)(h:AC):Prop:=acc.size=i/\(∀ j,j<i->∃(a:Ag)(x y u:Ai),acc[j]?=Ab (.ref a)/\xs[j]?=Ab x/\ys[j]?=Ab y/\us[j]?=Ab u/\ET h a x y u/\I+5<a/\a≠S)/\∀(j1 j2 a:Ag),acc[j1]?=Ab (BO a)->acc[j2]?=Ab (BO a)->j1=j2
theorem Cv.at'(z:Cv t h l its)(k:∀ o,h.get? l=Ab o->h2.get? l=Ab o):Cv t h2 l its:=by
 cases t with
 |true=>exact PySem.Heap.IsTuple.at z k
 |false=>exact PySem.Heap.IsList.at z k
theorem OS{I a:Ag}(h:I+5<a):a∉z3w I:=by
 intro z;simp only[z3w,At,AM,BH]at z;rcases z with z|z|z|z|z<;>· rw[z]at h;exact absurd h (Ge.mpr (Hh (by decide) I))
theorem OF{I l:Ag}(h:l<I):l∉z3w I:=by
 intro z;simp only[z3w,At,AM,BH]at z;rcases z with z|z|z|z|z<;>· rw[z]at h;exact absurd h (Ge.mpr (EC I _))
theorem Z_3.at'{t1 t2 t3:Aj}{I l1 l2 l3 i:Ag}{h h2:AC}(z:Z_3 t1 t2 t3 I l1 l2 l3 i h)(k:∀ j,j<=5->∀ o,h.get? (I+j)=Ab o->h2.get? (I+j)=Ab o):Z_3 t1 t2 t3 I l1 l2 l3 i h2:=by
 obtain⟨zI,i1,i2,i3,⟨a,b,c,hO⟩,zz⟩:=z;exact⟨k 3 (by decide) _ zI,i1.at' λo q=>k 0 (by decide) o q,i2.at' λo q=>k 1 (by decide) o q,i3.at' λo q=>k 2 (by decide) o q,⟨a,b,c,k 4 (by decide) _ hO⟩,zz.imp (k 5 (by decide) _) λ⟨T1,f1,hz⟩=>⟨T1,f1,k 5 (by decide) _ hz⟩⟩
theorem mR{t1 t2 t3:Aj}{I l1 l2 l3 n:Ag}{xs:A8 Ai}{res:Ai}(calm:A.handled=Af)(b1:l1<I)(b2:l2<I)(b3:l3<I)(S:Ag)(hS:I+5<S)(n0:0<n)(nn:n<=1000)(e1:xs.size=n)(e2:ys.size=n)(e3:us.size=n):
  ∀(k i:Ag)(s:Ar)(acc:A8 Ai)(c:Ag),n-i=k->i<=n->Z_3 t1 t2 t3 I l1 l2 l3 i s.heap->Cv t1 s.heap l1 xs->Cv t2 s.heap l2 ys->Cv t3 s.heap l3 us ->
  s.heap.get? S=Ab { cls:=.type "list",dict:=Af,data:=.seq acc c,slots:=#[] }->LK I S xs ys us i acc s.heap ->
  (∀ h2 acc2 c2 tk,(∀ d o,d∉z3w I->d≠S->s.heap.get? d=Ab o->h2.get? d=Ab o)->h2.get? S=Ab { cls:=.type "list",dict:=Af,data:=.seq acc2 c2,slots:=#[] }->LK I S xs ys us n acc2 h2->R (.ok (.ret res)) {s with heap:=h2,toks:=tk}) ->
  Fl (model prog w) A (.builtin "list.extend.loop" ⟨[.ref S,.ref (I+5),res],[]⟩) R s:=by
 have calm':A.in1.handled=Af:=calm;intro k
 induction k with
 |zero=>
  intro i s acc c hk hi hz q1 q2 q3 hSo hd hR;have ein:i=n:=Nat.le_antisymm hi (Nat.le_of_sub_eq_zero hk);subst ein;refine EY Zt ?_;rw[Em FK _];refine Ah (m:=Ei (.ref (I+5))) (wH calm' b1 hz q1 (Yw e1) λh2 kp=>?_)
  exact Av (hR h2 acc c s.toks (λd o nd _ q=>kp d o nd q) (kp _ _ (OS hS) hSo) ⟨hd.1,λj hj=>by
   obtain⟨a,x,y,u,r1,r2,r3,r4,r5,r6,r7⟩:=hd.2.1 j hj;exact⟨a,x,y,u,r1,r2,r3,r4,kp _ _ (OS r6) r5,r6,r7⟩,hd.2.2⟩)
 |succ k ih=>
  intro i s acc c hk hi hz q1 q2 q3 hSo hd hR;have lt:i<n:=Nat.lt_of_sub_pos (by rw[hk];exact Nat.succ_pos _)
  have lx:i<xs.size:=by rw[e1];exact lt
  have ly:i<ys.size:=by rw[e2];exact lt
  have lu:i<us.size:=by rw[e3];exact lt
  refine EY Zt ?_;rw[Em FK _];refine Ah (m:=Ei (.ref (I+5))) (mP calm' b1 b2 b3 hz q1 q2 q3 (CK lx) (CK ly) (CK lu) λh2 tk z2 tr sz kp=>?_)
  have hS2:=kp _ _ (OS hS) hSo;refine Ah (m:=JV S _) ?_;have ot:∀(f:C9->C9) d o,d≠S->h2.get? d=Ab o->(h2.update S f).get? d=Ab o:=λf d o nd q=>(Ch _ _ (DX nd)).trans q
  have lS:I+5<s.heap.objs.size:=Yy hS (AB hSo);have nT:s.heap.objs.size≠S:=Dy (AB hSo);have hS3:=B7 (DD (·.push (.ref s.heap.objs.size))) hS2 rfl;have lne:∀{l:Ag},l<I->l≠S:=λh e=>by rw[e]at h;exact absurd (Yy h (DH (EC I 5) hS)) (Bt _)
  refine F0 hS2 rfl (Av ⟨HF FK _,ih (i+1) {s with heap:=h2.update S (DD (·.push (.ref s.heap.objs.size))),toks:=tk} _ _ (by omega) lt (z2.at' λj hj o q=>ot _ _ o (λe=>by rw[<-e]at hS;exact absurd hS (Ge.mpr (Hh hj I))) q) ?_ ?_ ?_ hS3 ⟨by rw[XU,hd.1],λj hj=>?_,?_⟩ λh4 acc4 c4 tk4 kp4 hS4 hd4=>hR h4 acc4 c4 tk4 (λd o nd ns q=>kp4 d o nd ns (ot _ d o ns (kp d o nd q))) hS4 hd4⟩) ?_ ?_
  .exact q1.at' λo q=>ot _ _ o (lne b1) (kp _ o (OF b1) q)
  .exact q2.at' λo q=>ot _ _ o (lne b2) (kp _ o (OF b2) q)
  .exact q3.at' λo q=>ot _ _ o (lne b3) (kp _ o (OF b3) q)
  .by_cases ej:j=i
   .subst ej;exact⟨s.heap.objs.size,_,_,_,by rw[He,AI hd.1.symm],CK lx,CK ly,CK lu,ot _ _ _ nT tr,lS,nT⟩
   .obtain⟨a,x,y,u,r1,r2,r3,r4,r5,r6,r7⟩:=hd.2.1 j (Nat.lt_of_le_of_ne (Nat.le_of_lt_succ hj) ej);exact⟨a,x,y,u,by rw[He,AT (by rw[hd.1];exact ej)];exact r1,r2,r3,r4,ot _ _ _ r7 (kp _ _ (OS r6) r5),r6,r7⟩
  .have old:∀(j a:Ag),acc[j]?=Ab (BO a)->a<s.heap.objs.size:=λj a e=>by
    have hj:j<i:=by rw[<-hd.1];exact(Fx.mp e).1
    obtain⟨a',x,y,u,r1,r2,r3,r4,r5,r6,r7⟩:=hd.2.1 j hj;rw[e]at r1;cases r1;exact AB r5
   intro j1 j2 a q1 q2;rw[He]at q1 q2;split at q1
   .split at q2
    .omega
    .cases q1;exact absurd (old _ _ q2) (Bt _)
   .split at q2
    .cases q2;exact absurd (old _ _ q1) (Bt _)
    .exact hd.2.2 _ _ _ q1 q2
  .rw[hd.1];exact Cb (Cb hi nn) (by decide)
  .show (acc.push _).size<=sizeLine+1;rw[XU,hd.1];exact Cb (Nat.succ_le_succ (Cb hi nn)) (by decide)
end
theorem fP(a b c:Ai):checkTypeCall "zip" ⟨[a,b,c],[]⟩=pure ():=by kernel_rfl
theorem kF(a b c:Ai):EH "zip.__new__" ⟨[.type "zip",a,b,c],[]⟩=pure ():=by kernel_rfl
theorem zH(a b c d:Ai):argsOk "object.__init__" ⟨[a,b,c,d],[]⟩:=by
 unfold argsOk;rw[signature?_of (id := "object.__init__") (n:=['_','_','t','i','n','i','_','_']) (o:=['t','c','e','j','b','o']) (by kernel_rfl) F.owner_object];kernel_rfl
section
variable{prog:AV}{w:AF}{A:A9}{E:Vq}{s:Ar}
noncomputable abbrev yh3(t1 t2 t3:Aj)(h:AC)(l1 l2 l3:Al):AC:=((h.push (itO t1 l1)).push (itO t2 l2)).push (itO t3 l3)
noncomputable abbrev yh4(t1 t2 t3:Aj)(h:AC)(l1 l2 l3:Al):AC:=(yh3 t1 t2 t3 h l1 l2 l3).push { cls:=.type "tuple",data:=.seq #[.ref h.objs.size,.ref (h.push (itO t1 l1)).objs.size,.ref ((h.push (itO t1 l1)).push (itO t2 l2)).objs.size] }
noncomputable abbrev yh5(t1 t2 t3:Aj)(h:AC)(l1 l2 l3:Al):AC:=(yh4 t1 t2 t3 h l1 l2 l3).push { cls:=.type "tuple",data:=.seq #[.none,.none,.none] }
noncomputable abbrev yh6(t1 t2 t3:Aj)(h:AC)(l1 l2 l3:Al):AC:=(yh5 t1 t2 t3 h l1 l2 l3).push { cls:=.type "zip",data:=.fields #[.none,.bool Ad,.bool Ad,.ref (yh3 t1 t2 t3 h l1 l2 l3).objs.size,.ref (yh4 t1 t2 t3 h l1 l2 l3).objs.size] }
theorem kD(t1 t2 t3:Aj)(l1 l2 l3:Al)(xs ys us:A8 Ai):Meets (Builtin.«zip.__new__» ⟨[.type "zip",.ref l1,.ref l2,.ref l3],[]⟩) (λ_ R s=>Cv t1 s.heap l1 xs/\Cv t2 s.heap l2 ys/\Cv t3 s.heap l3 us/\R (.ok (.ret (.ref (yh5 t1 t2 t3 s.heap l1 l2 l3).objs.size))) {s with heap:=yh6 t1 t2 t3 s.heap l1 l2 l3}):=
 .of_wp λprog w A R s h=>by
  obtain⟨hp,g,d,tk,os⟩:=s;obtain⟨a1,a2,a3,q⟩:=h;have hsub:=sub_zip;have L1:Cv t1 (GA ⟨hp,g,d,tk,os⟩) l1 xs:=a1;have L2:Cv t2 (GA ⟨hp.push (itO t1 l1),g,d,tk,os⟩) l2 ys:=a2.push _;have L3:Cv t3 (GA ⟨(hp.push (itO t1 l1)).push (itO t2 l2),g,d,tk,os⟩) l3 us:=(a3.push _).push _
  wp_walk using Kd L1,Kd L2,Kd L3
  exact⟨_,rfl,q⟩
theorem fS{t1 t2 t3:Aj}{l1 l2 l3:Al}{xs:A8 Ai}{Q:Vq}(a1:Cv t1 s.heap l1 xs)(a2:Cv t2 s.heap l2 ys)(a3:Cv t3 s.heap l3 us)(q:∀ h2,Z_3 t1 t2 t3 s.heap.objs.size l1 l2 l3 0 h2->h2.objs.size=s.heap.objs.size+6->(∀ c o,s.heap.get? c=Ab o->h2.get? c=Ab o)->Q (.ref (s.heap.objs.size+5)) {s with heap:=h2}):Au (model prog w) A (call (.type "zip") [.ref l1,.ref l2,.ref l3]) Q E s:=by
 refine JQ Zr (by decide) (fP _ _ _) (kF _ _ _) (λobj=>zH obj _ _ _) Zx (kD t1 t2 t3 l1 l2 l3 xs ys us) ⟨a1,a2,a3,?_⟩
 have s1:(s.heap.push (itO t1 l1)).objs.size=s.heap.objs.size+1:=BF ..;have s2:((s.heap.push (itO t1 l1)).push (itO t2 l2)).objs.size=s.heap.objs.size+2:=by rw[BF,s1]
 have s3:(yh3 t1 t2 t3 s.heap l1 l2 l3).objs.size=s.heap.objs.size+3:=by rw[BF,s2]
 have s4:(yh4 t1 t2 t3 s.heap l1 l2 l3).objs.size=s.heap.objs.size+4:=by rw[BF,s3]
 have s5:(yh5 t1 t2 t3 s.heap l1 l2 l3).objs.size=s.heap.objs.size+5:=by rw[BF,s4]
 have s6:(yh6 t1 t2 t3 s.heap l1 l2 l3).objs.size=s.heap.objs.size+6:=by rw[BF,s5]
 have u6:∀ {c o},(yh5 t1 t2 t3 s.heap l1 l2 l3).get? c=Ab o->(yh6 t1 t2 t3 s.heap l1 l2 l3).get? c=Ab o:=λe=>As _ e
 have u5:∀ {c o},(yh4 t1 t2 t3 s.heap l1 l2 l3).get? c=Ab o->(yh6 t1 t2 t3 s.heap l1 l2 l3).get? c=Ab o:=λe=>u6 (As _ e)
 have u4:∀ {c o},(yh3 t1 t2 t3 s.heap l1 l2 l3).get? c=Ab o->(yh6 t1 t2 t3 s.heap l1 l2 l3).get? c=Ab o:=λe=>u5 (As _ e)
 have u3:∀ {c o},((s.heap.push (itO t1 l1)).push (itO t2 l2)).get? c=Ab o->(yh6 t1 t2 t3 s.heap l1 l2 l3).get? c=Ab o:=λe=>u4 (As _ e)
 have u2:∀ {c o},(s.heap.push (itO t1 l1)).get? c=Ab o->(yh6 t1 t2 t3 s.heap l1 l2 l3).get? c=Ab o:=λe=>u3 (As _ e)
 have g6:(yh6 t1 t2 t3 s.heap l1 l2 l3).get? (yh5 t1 t2 t3 s.heap l1 l2 l3).objs.size=Ab _:=Az _ rfl;have g5:(yh6 t1 t2 t3 s.heap l1 l2 l3).get? (yh4 t1 t2 t3 s.heap l1 l2 l3).objs.size=Ab _:=u6 (Az _ rfl);have g4:(yh6 t1 t2 t3 s.heap l1 l2 l3).get? (yh3 t1 t2 t3 s.heap l1 l2 l3).objs.size=Ab _:=u5 (Az _ rfl);have g3:(yh6 t1 t2 t3 s.heap l1 l2 l3).get? ((s.heap.push (itO t1 l1)).push (itO t2 l2)).objs.size=Ab _:=u4 (Az _ (Ls _ _));have g2:(yh6 t1 t2 t3 s.heap l1 l2 l3).get? (s.heap.push (itO t1 l1)).objs.size=Ab _:=u3 (Az _ (Ls _ _));have g1:(yh6 t1 t2 t3 s.heap l1 l2 l3).get? s.heap.objs.size=Ab _:=u2 (Az _ (Ls _ _));show _/\_;rw[s3,s4,s5]at g6;rw[s4]at g5;rw[s1,s2,s3]at g4;rw[s2]at g3;rw[s1]at g2;rw[s5];exact⟨⟨_,g6,rfl⟩,q _ ⟨g4,LH g1,LH g2,LH g3,⟨_,_,_,g5⟩,.inl g6⟩ s6 λc o e=>u2 (As _ e)⟩
end
theorem fV:Jk (.type "zip") "__len__" = pure Af:=by rw[aO,aF];kernel_rfl
theorem eQ:Jk (.type "zip") "__length_hint__" = pure Af:=by rw[aO,aF];kernel_rfl
theorem Z_3.ty{t1 t2 t3:Aj}{I l1 l2 l3 i:Ag}(z:Z_3 t1 t2 t3 I l1 l2 l3 i s.heap):s.TypeIs (.ref (I+5)) "zip" := by
 obtain⟨_,_,_,_,_,hz|⟨_,_,hz⟩⟩:=z
 .exact⟨_,hz,rfl⟩
 .exact⟨_,hz,rfl⟩
theorem Z_3.lt{t1 t2 t3:Aj}{I l1 l2 l3 i:Ag}(z:Z_3 t1 t2 t3 I l1 l2 l3 i s.heap):I+5<s.heap.objs.size:=by
 obtain⟨o,h,_⟩:=z.ty;exact AB h
theorem mQ{t1 t2 t3:Aj}{I l1 l2 l3 i:Ag}(z:Z_3 t1 t2 t3 I l1 l2 l3 i h):Z_3 t1 t2 t3 I l1 l2 l3 i (h.push o):=by
 have k:∀ {c u},h.get? c=Ab u->(h.push o).get? c=Ab u:=λq=>As _ q
 obtain⟨zI,i1,i2,i3,zz⟩:=z;refine⟨k zI,i1.at' λo q=>k q,i2.at' λo q=>k q,i3.at' λo q=>k q,?_⟩
 obtain⟨⟨a,b,c,hO⟩,zz⟩:=zz;refine⟨⟨a,b,c,k hO⟩,?_⟩;rcases zz with hz|⟨T1,f1,hz⟩
 .exact .inl (k hz)
 .exact .inr ⟨T1,f1,k hz⟩
section
variable{prog:AV}{w:AF}{A:A9}{E:Vq}{s:Ar}
theorem kA{z:Al}{Q:Vq}(hT:s.TypeIs (.ref z) "zip")(h:Q (.ref z) s):Au (model prog w) A (K9 (.ref z)) Q E s:=by
 refine wpAny_pyIter_slot hT ZB (CW ZB hT F.entry_zip_iter ?_ (F.args_zip_iter_1 _));show Au _ _ (ret (.ref z)) _ _ s;exact Av ⟨_,rfl, "zip",_,hT,F.slot_zip_next.lookup,h⟩
theorem fX{t1 t2 t3:Aj}{I l1 l2 l3 n:Ag}{xs:A8 Ai}{Q:Ac Ai->Ar->Prop}(calm:A.handled=Af)(b1:l1<I)(b2:l2<I)(b3:l3<I)(n0:0<n)(nn:n<=1000)(e1:xs.size=n)(e2:ys.size=n)(e3:us.size=n)(hz:Z_3 t1 t2 t3 I l1 l2 l3 0 s.heap)(q1:Cv t1 s.heap l1 xs)(q2:Cv t2 s.heap l2 ys)(q3:Cv t3 s.heap l3 us)(hQ:∀ h2 acc tk,(∀ d o,d∉z3w I->s.heap.get? d=Ab o->h2.get? d=Ab o)->LK I s.heap.objs.size xs ys us n acc h2->Q acc.toList {s with heap:=h2,toks:=tk}):Au (model prog w) A (collect (.ref (I+5))) Q E s:=by
  have lt:=hz.lt;have hSI:s.heap.objs.size≠I+5:=Dy lt;unfold collect;refine Ah (wpAny_runValue (EY F.entry_proto_collect ?_));rw[Em F.plain_proto_collect _];show Au _ A.in1 (newList [] >>= λl=>again (.builtin "list.__iadd__" ⟨[l,.ref (I+5)],[]⟩)) _ _ s
  refine Ah (CP ?_);refine Av ⟨HF Zy _,EY F.entry_list_iadd ?_⟩;rw[Em Zy _];have hz1:Z_3 t1 t2 t3 I l1 l2 l3 0 (s.heap.push { cls:=.type "list",data:=.seq ([]:Ac Ai).toArray }):=mQ hz;have ty1:Shared.TypeIs { s with heap:=s.heap.push { cls:=.type "list",data:=.seq ([]:Ac Ai).toArray } } (.ref (I+5)) "zip" := Z_3.ty (s:={ s with heap:=s.heap.push { cls:=.type "list",data:=.seq ([]:Ac Ai).toArray } }) hz1
  show Au _ A.in1 (YM (.ref s.heap.objs.size) (.ref (I+5)) (.ref s.heap.objs.size)) _ _ _;unfold YM;refine Ah (wpAny_typeOf ty1 ?_);have h1:YN (.ref s.heap.objs.size) (.ref (I+5))=Ad:=by simp[YN,hSI]
  have h2:(Gh "zip" == Gh "list")=Ad:=by decide
  have h3:(Gh "zip" == Gh "tuple")=Ad:=by decide
  simp only[h1,h2,h3,EU,Hw,Iy];refine Ah (kA ty1 ?_);refine Ah (Co ?_);unfold Builtin.List.listLengthHint;refine Ah (IE ty1 fV ?_);show Au _ A.in1 (specialOf (BO (I+5)) (AQ "__length_hint__") >>= _) _ _ _;refine Ah (IE ty1 eQ ?_);refine Av ?_;show Au _ A.in1 (rule "list.extend.makes-room" >>= λ_=>Builtin.List.listTouch (.ref s.heap.objs.size) >>= λ_=>
    again (.builtin "list.extend.loop" ⟨[.ref s.heap.objs.size,.ref (I+5),.ref s.heap.objs.size],[]⟩)) _ _ _
  refine Ah (G5 ?_);have hS₁:(s.heap.push { cls:=.type "list",data:=.seq ([]:Ac Ai).toArray }).get? s.heap.objs.size=Ab { cls:=.type "list",data:=.seq ([]:Ac Ai).toArray }:=Az _ rfl;refine Ah ?_;show Au _ A.in1 (JV s.heap.objs.size (·.push .none) >>= λ_=>JV s.heap.objs.size (·.pop)) _ _ _
  refine Ah (F0 hS₁ rfl ?_);have hS₂:=B7 (DD (·.push Dj)) hS₁ rfl;refine F0 hS₂ rfl ?_;have hS₃:=B7 (DD (·.pop)) hS₂ rfl;have oth:∀ b o,b≠s.heap.objs.size->(s.heap.push { cls:=.type "list",data:=.seq ([]:Ac Ai).toArray }).get? b=Ab o ->
      (((s.heap.push { cls:=.type "list",data:=.seq ([]:Ac Ai).toArray }).update s.heap.objs.size (DD (·.push Dj))).update s.heap.objs.size (DD (·.pop))).get? b=Ab o:=
    λb o hb e=>(Ch _ _ (DX hb)).trans ((Ch _ _ (DX hb)).trans e)
  have oth':∀ b o,s.heap.get? b=Ab o->(((s.heap.push { cls:=.type "list",data:=.seq ([]:Ac Ai).toArray }).update s.heap.objs.size (DD (·.push Dj))).update s.heap.objs.size (DD (·.pop))).get? b=Ab o:=
    λb o e=>oth b o (A4 (AB e)) (As _ e)
  refine Av ⟨HF FK _,mR calm b1 b2 b3 s.heap.objs.size lt n0 nn e1 e2 e3 n 0 _ _ _ rfl (Gz _) (hz1.at' λj hj o q=>oth _ o (λe=>by rw[<-e]at lt;exact absurd lt (Ge.mpr (Hh hj I))) q) (q1.at' λo e=>oth' _ o e) (q2.at' λo e=>oth' _ o e) (q3.at' λo e=>oth' _ o e) hS₃ ⟨rfl,λj hj=>absurd hj (GY _),λj1 j2 a e=>by simp[DD]at e⟩ λh2 acc c tk kp hS hd=>?_⟩
  show Au _ A (load s.heap.objs.size >>= _) _ _ _;refine Ah (wpAny_load hS ?_);exact Av (hQ h2 acc tk (λd o nd e=>kp d o nd (A4 (AB e)) (oth' d o e)) hd)
theorem mS{t1 t2 t3:Aj}{I l1 l2 l3 n:Ag}{xs:A8 Ai}{Q₁:Vq}(calm:A.handled=Af)(b1:l1<I)(b2:l2<I)(b3:l3<I)(n0:0<n)(nn:n<=1000)(e1:xs.size=n)(e2:ys.size=n)(e3:us.size=n)(hz:Z_3 t1 t2 t3 I l1 l2 l3 0 s.heap)(q1:Cv t1 s.heap l1 xs)(q2:Cv t2 s.heap l2 ys)(q3:Cv t3 s.heap l3 us)(h:∀ h2 acc tk,(∀ d o,d∉z3w I->s.heap.get? d=Ab o->h2.get? d=Ab o)->LK I s.heap.objs.size xs ys us n acc h2->Q₁ (.ref h2.objs.size) { s with heap:=h2.push { cls:=.type "tuple",data:=.seq acc },toks:=tk }):
  Fl (model prog w) A (.call (.builtin "tuple.__new__") ⟨[.type "tuple",.ref (I+5)],[]⟩) (wants Q₁ E) s:=by
 refine aI ?_;show Au _ A.in1 (do EH "tuple.__new__" ⟨[.type "tuple",.ref (I+5)],[]⟩;again (.builtin "tuple.__new__" ⟨[.type "tuple",.ref (I+5)],[]⟩)) _ _ s
 refine Ah (IG (F.newCall_tuple_1 _) (Av ⟨HF Zz _,EY F.entry_tuple_new ?_⟩));rw[Em Zz _];have hsub:=sub_tuple_self;have hinit:=init_tuple_lookup;have hmh:=madeHere_tuple;have hTI:=hz.ty;have calm2:A.in1.handled=Af:=calm
 wp_walk using wpAny_typeOf hTI,fX calm2 b1 b2 b3 n0 nn e1 e2 e3 hz q1 q2 q3
 intro h2 acc tk kp hd;show Au _ _ (Db acc.toList.toArray >>= λv=>ret v) _ _ _
 unfold Db;refine Ah (CP ?_ (by show acc.toList.toArray.size<=sizeLine;simp only[XV];rw[hd.1,DA];omega))
 refine Av ?_;have e:acc.toList.toArray=acc:=by simp
 rw[e];exact h h2 acc tk kp hd
theorem kH{t1 t2 t3:Aj}{I l1 l2 l3 n:Ag}{xs:A8 Ai}{Q:Vq}(calm:A.handled=Af)(b1:l1<I)(b2:l2<I)(b3:l3<I)(n0:0<n)(nn:n<=1000)(e1:xs.size=n)(e2:ys.size=n)(e3:us.size=n)(hz:Z_3 t1 t2 t3 I l1 l2 l3 0 s.heap)(q1:Cv t1 s.heap l1 xs)(q2:Cv t2 s.heap l2 ys)(q3:Cv t3 s.heap l3 us)(h:∀ h2 acc tk,(∀ d o,d∉z3w I->s.heap.get? d=Ab o->h2.get? d=Ab o)->LK I s.heap.objs.size xs ys us n acc h2->Q (.ref h2.objs.size) { s with heap:=h2.push { cls:=.type "tuple",data:=.seq acc },toks:=tk }):
  Au (model prog w) A (call (.type "tuple") [.ref (I+5)]) Q E s:=by
 refine callType_codes (Q₁:=λobj s₁=>s₁.TypeIs obj "tuple"/\Q obj s₁) F.called_tuple (F.typeCall_tuple_1 _) F.entry_object_init
  (mS (by exact calm) b1 b2 b3 n0 nn e1 e2 e3 hz q1 q2 q3 λh2 acc tk kp hd=>⟨⟨_,Az _ rfl,rfl⟩,h h2 acc tk kp hd⟩) λobj s₁ h₁=>?_
 exact⟨h₁.1,Zo obj _,object_init_meets F.called_tuple.init.lookup F.called_tuple.made (by decide) prog w A.in1 _ s₁ ⟨h₁.1,rfl,h₁.2⟩⟩
end
noncomputable def IQ(H:Hp)(ps:Ac (Al×Ac V)):Hp:=λb=>match ps.lookup b with
  |some xs=>Ab (.tup xs)
  |none=>H b
theorem W1(h:ps.lookup a=Ab xs):(a,xs)∈ps:=by
 induction ps with
 |nil=>cases h
 |cons p ps ih=>
  obtain⟨b,ys⟩:=p;rw[BX]at h;split at h
  .rename_i e;cases h;rw[A6]at e;subst e;exact AE
  .exact Ay _ (ih h)
theorem U_1(h:∀ p∈ps,p.1≠b):IQ H ps b=H b:=by
 unfold IQ;cases e:ps.lookup b with
 |none=>rfl
 |some xs=>exact absurd rfl (h _ (W1 e))
theorem lA(ps:Ac (Al×Ac V))(I:Inv X pI U H s)(k:∀ b u,s.heap.get? b=Ab u->h'.get? b=Ab u)(hp:∀ p∈ps,s.heap.objs.size<=p.1)(new:∀ p∈ps,p.2.length<=sizeLine/\∃ its:Ac Ai,Bo p.2 its/\Kl h' p.1 its.toArray):Inv X pI U (IQ H ps) {s with heap:=h',toks:=t'}:=by
 have old:∀ b,b<s.heap.objs.size->IQ H ps b=H b:=λb hb=>U_1 λp hq e=>by
  have:=hp p hq;rw[e]at this;exact absurd hb (Ge.mpr this)
 have hl:∀ b o,H b=Ab o->IQ H ps b=Ab o:=λb o q=>by rw[old b (I.hok.lt q)];exact q
 refine I.un ⟨λb u q _ _ _=>k b u q,λb u q _ _ _=>⟨u.slots,k b u q⟩,λb u q n _=>by rw[old b (AB q)];exact n,λb u q _=>⟨u,k b u q⟩,λb xs q=>hl b _ q,λb u xs q=>hl b _ q,λb xs q=>⟨#[],by rw[hl b _ q];simp⟩⟩ λb u e=>?_
 unfold IQ at e;split at e
 .rename_i xs hx;cases e;exact new _ (W1 hx)
 .exact(I.hok b u e).stay (λc v _ q=>k c v q) (λc q=>hl c _ q) λc xs q=>hl c _ q
noncomputable def HJ:Ac V->Ac V->Ac V->Ac (Ac V)
 |x::xs,y::ys,u::us=>[x,y,u]::HJ xs ys us
 |_,_,_=>[]
theorem Um:∀(xs ys us:Ac V)(j:Ag)(r:Ac V),(HJ xs ys us)[j]?=Ab r->∃ x y u,xs[j]?=Ab x/\ys[j]?=Ab y/\us[j]?=Ab u/\r=[x,y,u]
 |[],_,_,j,r,h=>by simp[HJ]at h
 |_::_,[],_,j,r,h=>by simp[HJ]at h
 |_::_,_::_,[],j,r,h=>by simp[HJ]at h
 |x::xs,y::ys,u::us,0,r,h=>by
  simp only[HJ,EQ,Cc]at h;exact⟨x,y,u,rfl,rfl,rfl,h.symm⟩
 |x::xs,y::ys,u::us,j+1,r,h=>by
  simp only[HJ,EO]at h ⊢;exact Um xs ys us j r h
theorem Nr{α β:Type}:∀{as:Ac α}{bs:Ac β}{a:α}{b:β},(a,b)∈as.zip bs->∃ j:Ag,as[j]?=Ab a/\bs[j]?=Ab b
 |[],_,_,_,h=>by simp at h
 |_::_,[],_,_,h=>by simp at h
 |x::as,y::bs,a,b,h=>by
  simp only[Hy,At,JC]at h;rcases h with ⟨rfl,rfl⟩|h
  .exact⟨0,rfl,rfl⟩
  .obtain⟨j,h1,h2⟩:=Nr h;exact⟨j+1,h1,h2⟩
def cJ(K:Fg)(ta:TA):TE:=λU H Q=>ta U H λvs H1=>∃ t1 t2 t3 a b c xs ys us,vs=[.ref a,.ref b,.ref c]/\SqX t1 K H1 a xs/\SqX t2 K H1 b ys/\SqX t3 K H1 c us/\0<xs.length/\xs.length<=1000/\ys.length=xs.length/\us.length=xs.length /\
 ∀(as:Ac Al)(T:Al),as.length=xs.length->as.Nodup->(∀ p∈as,H1 p=Af)->T∉as->H1 T=Af->Q (.ref T) (IQ H1 ((T,as.map .ref)::as.zip (HJ xs ys us)))
theorem lU{I S:Ag}{xs acc:A8 Ai}(d:LK I S xs ys us n acc h):∃ as:Ac Al,acc.toList=as.map BO/\as.length=n/\as.Nodup/\∀(j:Ag)(a:Al),as[j]?=Ab a->∃ x y u,xs[j]?=Ab x/\ys[j]?=Ab y/\us[j]?=Ab u/\ET h a x y u/\I+5<a:=by
  obtain⟨hn,hj,inj⟩:=d
  let f:Ai->Al:=λv=>match v with
    |.ref a=>a
    |_=>0
  have hg:∀ j v,acc.toList[j]?=Ab v->∃(a:Ag)(x y u:Ai),v=BO a/\xs[j]?=Ab x/\ys[j]?=Ab y/\us[j]?=Ab u/\ET h a x y u/\I+5<a:=λj v e=>by
    rw[Array.getElem?_toList]at e;have lt:j<n:=by rw[<-hn];exact(Fx.mp e).1
    obtain⟨a,x,y,u,r1,r2,r3,r4,r5,r6,_⟩:=hj j lt;rw[e]at r1;cases r1;exact⟨a,x,y,u,rfl,r2,r3,r4,r5,r6⟩
  have hf:∀ v∈acc.toList,BO (f v)=v:=λv hv=>by
    obtain⟨j,hj⟩:=Yj hv;obtain⟨a,_,_,_,rfl,_⟩:=hg j v hj;rfl
  have hm:acc.toList=(acc.toList.map f).map BO:=by
    rw[F1]
    conv=>lhs;rw[<-List.map_id acc.toList]
    exact FJ λv hv=>(hf v hv).symm
  refine⟨acc.toList.map f,hm,by rw[BR,EN,hn],?_,λj a e=>?_⟩
  · rw[List.nodup_iff_pairwise_ne,List.pairwise_iff_getElem];intro i j hi hj' lt e;rw[BR,EN]at hi hj';have at':∀(k:Ag)(hk:k<acc.size)(hk':k<(acc.toList.map f).length),acc[k]?=Ab (BO (acc.toList.map f)[k]):=λk hk hk'=>by
      rw[CK hk,List.getElem_map,hf _ (EB _),Array.getElem_toList]
    have:=inj i j _ (at' i hi _) (by rw[e];exact at' j hj' _)
    omega
  · rw[E8,Option.map_eq_some_iff]at e;obtain⟨v,hv,rfl⟩:=e;obtain⟨a,x,y,u,rfl,r⟩:=hg j v hv;exact⟨x,y,u,r⟩
theorem xY{a b:Ao}{p':AO}(hc:X.calm=Aa)(hg:Gl X "tuple")(hm:X.mg "tuple" = Af)(hg':Gl X "zip")(hm':X.mg "zip" = Af)(ha:PA X [a,b,c] ta)(hs:Ax [a,b,c] X.env=[(Ad,eval a X.env),(Ad,eval b X.env),(Ad,eval c X.env)])(hs2:Ax [b,c] X.env=[(Ad,eval b X.env),(Ad,eval c X.env)]):
    PE X (.Call (.Name "tuple" p) [.Call (.Name "zip" p') [a,b,c] [] pos'] [] pos) (cJ X.K ta):=by
  intro pI s U H Q I h;refine K1 (Ju I hg hm Gk (Cw ?_ rfl rfl));show Au _ _ (spliced ((Ad,eval (.Call (.Name "zip" p') [a,b,c] [] pos') X.env)::Cd pos (Ax [] X.env))) _ _ s;refine YT ?_;refine K1 (Ju I hg' hm' YG (Cw (thn (ha pos' pI s U H _ I h) λus s1 ⟨vs,H1,I1,r1,q1⟩=>?_) (by rw[hs,hs2]) (by rw[hs2];rfl)))
  obtain⟨t1,t2,t3,l1,l2,l3,xs,ys,zs,e,sx,sy,sz,n0,nn,ey,ez,q⟩:=q1;subst e;cases r1 with
  |cons r rr=>
    cases rr with
    |cons r' rr=>
      cases rr with
      |cons r'' rr=>
        cases rr;cases r;cases r';cases r'';obtain⟨xv,rx,ix,_⟩:=HI I1 sx;obtain⟨yv,ry,iy,_⟩:=HI I1 sy;obtain⟨zv,rz,iz,_⟩:=HI I1 sz;refine fS ix iy iz λh2 z hsz kp=>YU ?_
        have lx:=rx.length;have ly:=ry.length;have lz:=rz.length;refine kH (s:={s1 with heap:=h2}) (n:=xs.length) (I1.ok.hd hc) ix.lt iy.lt iz.lt n0 nn (by simp[lx]) (by simp[<-ly,ey]) (by simp[<-lz,ez]) z (ix.at' λo e=>kp _ o e) (iy.at' λo e=>kp _ o e) (iz.at' λo e=>kp _ o e) λh3 acc tk kp3 dr=>?_
        obtain⟨as,e1,e2,nd,each⟩:=lU dr;have nw:∀ b,b<s1.heap.objs.size->b∉z3w s1.heap.objs.size:=λb hb=>OF hb
        have kp4:∀ b o,s1.heap.get? b=Ab o->(h3.push { cls:=.type "tuple",data:=.seq acc }).get? b=Ab o:=λb o e=>As _ (kp3 b o (nw b (AB e)) (kp b o e))
        have big:∀ a∈as,s1.heap.objs.size<=a/\a<h3.objs.size:=λa ha=>by
          obtain⟨j,hj⟩:=Yj ha;obtain⟨x,y,u,_,_,_,tr,lt⟩:=each j a hj;exact⟨Ff (DH (EC _ 5) lt),AB tr⟩
        have b3:s1.heap.objs.size<=h3.objs.size:=by
          obtain⟨a,ha⟩:∃ a,a∈as:=List.exists_mem_of_length_pos (by rw[e2];exact n0)
          exact Ff (DH (big a ha).1 (big a ha).2)
        refine⟨.ref h3.objs.size,_,lA (s:=s1) (h':=h3.push { cls:=.type "tuple",data:=.seq acc }) (t':=tk) ((h3.objs.size,as.map V.ref)::as.zip (HJ xs ys zs)) I1 kp4 (λp hp=>?_) (λp hp=>?_),rfl,q as h3.objs.size e2 nd (λp hp=>I1.hok.fresh (big p hp).1) (λhT=>absurd (big _ hT).2 (Bt _)) (I1.hok.fresh b3)⟩
        · rcases At.mp hp with rfl|hp
          · exact b3
          · obtain⟨j,h1,h2⟩:=Nr (a:=p.1) (b:=p.2) hp;exact(big _ (DM h1)).1
        · rcases At.mp hp with rfl|hp
          · refine⟨by rw[BR,e2,DA];omega,as.map BO,?_,?_⟩
            · clear q each big hp e1 e2 nd
              induction as with
              |nil=>exact .nil
              |cons a as ih=>exact .cons rfl ih
            · rw[<-e1,XV];exact JK _ _
          · obtain⟨j,h1,h2⟩:=Nr (a:=p.1) (b:=p.2) hp;obtain⟨x,y,u,g1,g2,g3,er⟩:=Um _ _ _ _ _ h2;obtain⟨x',y',u',k1,k2,k3,tr,_⟩:=each j _ h1;obtain⟨x2,m1,w1⟩:=rx.get g1;obtain⟨y2,m2,w2⟩:=ry.get g2;obtain⟨u2,m3,w3⟩:=rz.get g3;rw[Yl]at k1 k2 k3;cases m1.symm.trans k1;cases m2.symm.trans k2;cases m3.symm.trans k3;rw[er];exact⟨by show 3<=sizeLine;decide,[x',y',u'],.cons w1 (.cons w2 (.cons w3 .nil)),⟨_,As _ tr,rfl,_,rfl⟩⟩
theorem TH{K:Fg}{CL:ClA}{H H3:Hp}{A:Al->Prop}(hA:AOk H A)(sm:AH H H3):∀{as:Ac Al}{xs ys us:Ac V}{ds es fs:Ac D},(∀(j:Ag)(a:Al)(r:Ac V),as[j]?=Ab a->(HJ xs ys us)[j]?=Ab r->H3 a=Ab (.tup r))->(∀ p∈as,H p=Af)->as.length=xs.length->ys.length=xs.length->us.length=xs.length->Reps K CL H A xs ds->Reps K CL H A ys es->Reps K CL H A us fs->Reps K CL H3 A (as.map .ref) (Ro ds es fs)
 |[],[],[],[],[],[],[],_,_,_,_,_,_,_,_=>trivial
 |a::as,x::xs,y::ys,u::us,d::ds,e::es,f::fs,h,hn,l1,l2,l3,r1,r2,r3=>
  ⟨⟨a,[x,y,u],rfl,.inl (hA.new (hn a AE)),SqT.of (h 0 a _ rfl rfl),r1.1.same sm,r2.1.same sm,r3.1.same sm,trivial⟩,
   TH hA sm (λj a' r p q=>h (j+1) a' r p q) (λp hp=>hn p (Ay _ hp)) (Ib l1) (Ib l2) (Ib l3) r1.2 r2.2 r3.2⟩
 |[],_::_,_,_,_,_,_,_,_,l,_,_,_,_,_=>nomatch l
 |_::_,[],_,_,_,_,_,_,_,l,_,_,_,_,_=>nomatch l
 |_,[],_::_,_,_,_,_,_,_,_,l,_,_,_,_=>nomatch l
 |_,[],_,_::_,_,_,_,_,_,_,_,l,_,_,_=>nomatch l
 |_,_::_,[],_,_,_,_,_,_,_,l,_,_,_,_=>nomatch l
 |_,_::_,_,[],_,_,_,_,_,_,_,l,_,_,_=>nomatch l
 |_,[],_,_,_::_,_,_,_,_,_,_,_,r,_,_=>r.elim
 |_,_::_,_,_,[],_,_,_,_,_,_,_,r,_,_=>r.elim
 |_,_,[],_,_,_::_,_,_,_,_,_,_,_,r,_=>r.elim
 |_,_,_::_,_,_,[],_,_,_,_,_,_,_,r,_=>r.elim
 |_,_,_,[],_,_,_::_,_,_,_,_,_,_,_,r=>r.elim
 |_,_,_,_::_,_,_,[],_,_,_,_,_,_,_,r=>r.elim
theorem WZ:∀{as:Ac Al}{rs:Ac (Ac V)}{j:Ag}{a:Al}{r:Ac V},as.Nodup->as[j]?=Ab a->rs[j]?=Ab r->(as.zip rs).lookup a=Ab r
 |[],_,_,_,_,_,h,_=>by simp at h
 |_::_,[],_,_,_,_,_,h=>by simp at h
 |b::as,q::rs,0,a,r,nd,h1,h2=>by
  simp only[EQ,Cc]at h1 h2;subst h1 h2;rw[Hy,Yp]
 |b::as,q::rs,j+1,a,r,nd,h1,h2=>by
  simp only[EO]at h1 h2;have nb:a≠b:=λe=>by subst e;exact(BW.mp nd).1 (DM h1)
  rw[Hy,BX,mm nb];exact WZ (BW.mp nd).2 h1 h2
section
variable{X:Cx}{CL:ClA}{W:XW}{pos p pos' p':AO}{a b c:Ao}{fa fb fc:Rho->R D}
theorem vG(ha:SE X CL W a fa)(hb:SE X CL W b fb)(hd:SE X CL W c fc)(hc:X.calm=Aa)(hg:Gl X "tuple")(hm:X.mg "tuple" = Af)(hg':Gl X "zip")(hm':X.mg "zip" = Af)(hs:Ax [a,b,c] X.env=[(Ad,eval a X.env),(Ad,eval b X.env),(Ad,eval c X.env)])(hs2:Ax [b,c] X.env=[(Ad,eval b X.env),(Ad,eval c X.env)])(hs3:Ax [c] X.env=[(Ad,eval c X.env)]):
  SE X CL W (.Call (.Name "tuple" p) [.Call (.Name "zip" p') [a,b,c] [] pos'] [] pos) (λY=>((fa Y).bind λx=>(fb Y).bind λy=>(fc Y).bind λz=>LU x y z).bind λxs=>.ok (.tup xs)):=
 λA=>PE.weak (xY hc hg hm hg' hm' (Ee (ha A) (Ee (hb A) (Ee (hd A) Gs hs3) (by rw[hs2,hs3])) (by rw[hs,hs2])) hs hs2) λU H Q ⟨hA,Y,g,q⟩=>by
  simp only[R.bind_assoc]at q;refine⟨hA,Y,g,Bq.bind q λd v H1 _ s1 r1 p1=>⟨hA.same s1,Y,g.same s1,Bq.bind p1 λd2 v2 H2 _ s2 r2 p2=>⟨(hA.same s1).same s2,Y,(g.same s1).same s2,Bq.bind p2 λd3 v3 H3 _ s3 r3 p3=>?_⟩⟩⟩
  unfold LU at p3;cases e1:Ci d with
  |bad=>rw[e1]at p3;exact p3.elim
  |exn z=>exact absurd e1 (by cases d<;>simp[Ci])
  |ok ds=>
   cases e2:Ci d2 with
   |bad=>rw[e1,e2]at p3;exact p3.elim
   |exn z=>exact absurd e2 (by cases d2<;>simp[Ci])
   |ok es=>
    cases e3:Ci d3 with
    |bad=>rw[e1,e2,e3]at p3;exact p3.elim
    |exn z=>exact absurd e3 (by cases d3<;>simp[Ci])
    |ok fs=>
     rw[e1,e2,e3]at p3;simp only[R.bind_ok]at p3;obtain⟨t1,c1,xs,rfl,k1,rs1⟩:=LO ((r1.same s2).same s3) e1;obtain⟨t2,c2,ys,rfl,k2,rs2⟩:=LO (r2.same s3) e2;obtain⟨t3,c3,us,rfl,k3,rs3⟩:=LO r3 e3;split at p3
     .rename_i hn;obtain⟨n0,nn,ny,nz⟩:=hn;rw[<-rs1.length]at n0 nn ny nz;rw[<-rs2.length]at ny;rw[<-rs3.length]at nz;refine⟨t1,t2,t3,c1,c2,c3,xs,ys,us,rfl,k1 H3 (Kp.of (AH.refl H3)),k2 H3 (Kp.of (AH.refl H3)),k3 H3 (Kp.of (AH.refl H3)),n0,nn,ny,nz,λas T el nd fr hT fT=>?_⟩
      have hA3:AOk H3 A:=((hA.same s1).same s2).same s3;have fr':∀ q∈(T,as.map V.ref)::as.zip (HJ xs ys us),H3 q.1=Af:=λq hq=>by
       rcases At.mp hq with rfl|hq
       .exact fT
       .obtain⟨j,h1,h2⟩:=Nr (a:=q.1) (b:=q.2) hq;exact fr _ (DM h1)
      have sm:AH H3 (IQ H3 ((T,as.map V.ref)::as.zip (HJ xs ys us))):=λb o e=>by
       rw[U_1 λq hq z=>by rw[<-z,fr' q hq]at e;cases e]
       exact e
      refine p3 _ _ sm ⟨T,as.map V.ref,rfl,.inl (hA3.new fT),SqT.of ?_,TH hA3 sm (λj a r h1 h2=>?_) fr el ny nz rs1 rs2 rs3⟩
      .unfold IQ;rw[Yp]
      .have na:a≠T:=λe=>by subst e;exact hT (DM h1)
       unfold IQ;rw[BX,mm na,WZ nd h1 h2]
     .exact p3.elim
end
section
variable{X:Cx}{CL:ClA}{W:XW}{pos p tpos:AO}{a b c:Ao}{fa fb fc:Rho->R D}{x:Ak}
end
section
variable{X:Cx}{CL:ClA}{W:XW}{a:Ao}{fa:Rho->R D}
end
section
variable{X:Cx}{CL:ClA}{W:XW}{o o' e:Ao}{fe:Rho->R D}{i j:Ag}{apos cpos apos' cpos' pos:AO}
end
section
variable{X:Cx}{CL:ClA}{W:XW}
end
section
variable{X:Cx}
variable{CL:ClA}{W:XW}{pos p pos' p':AO}{a b:Ao}{fa fb:Rho->R D}
end
section
variable{X:Cx}{CL:ClA}{W:XW}{e o o' k l:Ao}{fe:Rho->R Ov.D}{i ik il:Ag}{pos spos spos' tpos:AO}{kt:Ag}
end
section
variable{prog:AV}{w:AF}{A:A9}{E:Vq}{s:Ar}
theorem T8{it t:Al}{items:A8 Ai}(hne:t≠it):∀(n i:Ag)(s:Ar)(Q:Ac Ai->Ar->Prop),s.heap.IsListIter it t i->s.heap.IsList t items->i+n<=items.size->(∀ h',h'.IsListIter it t (i+n)->EF it s.heap h'->Q ((items.toList.drop i).take n) {s with heap:=h'})->Au (model prog w) A (draw (.ref it) n) Q E s
 |0,i,s,Q,hit,_,_,hQ=>by
  show Au _ _ (pure []) Q E s;exact Av (by simpa using hQ s.heap hit (ZE ..))
 |n+1,i,s,Q,hit,ht,hle,hQ=>by
  have hlt:i<items.size:=by omega
  show Au _ _ (Ei (.ref it) >>= _) Q E s;refine Ah (aX hit ht (x:=items[i]) (by simp[hlt]) λh₁ hit₁ hs₁=>?_)
  refine Ah (Co (T8 hne n (i+1) _ _ hit₁ (ht.extBut hs₁.extBut hne) (by omega) λh₂ hit₂ hs₂=>Av ?_))
  have hd:items.toList.drop i=items[i]::items.toList.drop (i+1):=by simp[FS,hlt]
  have:=hQ h₂ (by rw[show i+(n+1)=i+1+n by omega];exact hit₂) (hs₁.trans hs₂)
  rw[hd,List.take_succ_cons]at this;exact this
theorem eE{t:Al}{Q:Ac Ai->Ar->Prop}(hh:A.handled=Af)(ht:s.heap.IsList t items)(hQ:∀ h',IF s.heap.objs.size s.heap h'->Q items.toList {s with heap:=h'}):Au (model prog w) A (unpackItems (.ref t) items.size Af) Q E s:=by
 have hlt:t≠s.heap.objs.size:=by obtain⟨o,ho,_⟩:=ht;exact A4 (AB ho)
 have htp:(s.heap.push { cls:=.type "list_iterator",data:=.fields #[.ref t,.int 0 0] }).IsList t items:=by
  obtain⟨o,ho,r⟩:=ht;exact⟨o,As _ ho,r⟩
 unfold unpackItems;refine Ah ?_
 .unfold notIterableAtAll;refine Ah (IE ht.typeIs slot_list_iter.lookup ?_);refine Av ?_;simp only[Hw,Iy];refine Ah (Co (Ej ht ?_));refine Ah (Co (T8 hlt items.size 0 _ _ ⟨_,Az _ rfl,rfl,rfl⟩ htp (by omega) λh₁ hit₁ hs₁=>?_))
  have hall:List.take items.size (List.drop 0 items.toList)=items.toList:=by
   rw[Yg];exact E1 (by simp)
  rw[hall];rw[AT (by simp)]
  have ht₁:h₁.IsList t items:=htp.extBut hs₁.extBut hlt;refine Ah (Co (aW hh hit₁ ht₁ (by simp) λh₂ he₂=>?_))
  simp only[Option.isSome_none,Hw,Iy];refine Av (hQ h₂ λb o hb e=>he₂ b o hb (hs₁.extBut b o hb (As _ e)))
theorem eG{elts:Ac Ao}{x1}{t:Al}{Q:Gp->Ar->Prop}(hh:A.handled=Af)(ht:s.heap.IsList t items) (hn:(CO elts env).length=items.size) (hstar:(CO elts env).findIdx? (·.1)=Af) (h:∀ h',IF s.heap.objs.size s.heap h'->Au (model prog w) A (assignInOrder ((CO elts env).map (·.2)) items.toList) Q E {s with heap:=h'}):Au (model prog w) A (assign (.Tuple elts x1 pos) env (.ref t)) Q E s:=by
 rw[assign_Tuple];refine Ah (EV ?_);unfold unpack;rw[hn,hstar];exact Ah (Co (eE hh ht h))
end
section
variable{X:Cx}{pos:AO}{CL:ClA}
def gSq(K:Fg)(n:Ag)(t:TGs):TG:=λv U H Q=>L6 K n t v U H Q\/∃ a xs,v=.ref a/\SqL K H a xs/\xs.length=n/\t xs U H Q
theorem lh{t:TGs}(hc:X.calm=Aa)(h:PGs X es t)(hn:(CO es X.env).length=n)(hst:(CO es X.env).findIdx? (·.1)=Af):PG X (.Tuple es k pos) (gSq X.K n t):=by
 intro pI s U H v u Q I r hw;rcases hw with hw|hw
 .exact Q1 hc h hn hst pI s U H v u Q I r hw
 .obtain⟨a,xs,e1,hq,hl,hw⟩:=hw;subst e1;cases r;obtain⟨its,rv,ht,hz⟩:=I.list hq;refine eG (I.ok.hd hc) ht.isList (by simp[hn,<-hl,rv.length]) hst λh' hx=>?_
  have I1:Inv X pI U H {s with heap:=h'}:=I.kept (t':=s.toks) λb o e=>hx b o (A4 (AB e)) e
  exact h pI _ U H xs _ Q I1 (by simpa using rv) hw
theorem ke(ts:Ac Ag):GT K CL (IP ts) (gSq K ts.length (ts.foldr (λt u=>Iq (FP t) u) Ix)):=λFz B Y U H v d Y' Q x r e k=>by
 cases d with
 |lst ds=>
  obtain⟨a,xs,rfl,na,sq,rs⟩:=r;rw[hV]at e;cases e2:ER ts ds Y with
  |none=>rw[e2]at e;cases e
  |some Y2=>
   rw[e2]at e;cases e;exact .inr ⟨a,xs,rfl,sq,by rw[rs.length];exact Nn _ _ _ _ e2,Rm ts ds xs Y _ U Q x rs e2 k⟩
 |_=>exact .inl (Wn ts Fz B Y U H v _ Y' Q x r e k)
end
section
variable{X:Cx}{CL:ClA}{W:XW}
end
end Ov
namespace Ov
open PySem PySem.W PyProof.Rows
variable{p:A8 Ag}{m:Ag}
def Kr{α:Type}(lt:Ag->Ag->Aj)(n:Ag):KasT α->(α->Prop)->Prop
 |.ret a,Q=>Q a
 |.ask i j k,Q=>i<n/\j<n/\Kr lt n (k (lt i j)) Q
theorem Kr.mono{α:Type}{lt:Ag->Ag->Aj}{n:Ag}{Q Q':α->Prop}:∀{t:KasT α},Kr lt n t Q->(∀ a,Q a->Q' a)->Kr lt n t Q'
 |.ret _,h,k=>k _ h
 |.ask i j f,h,k=>⟨h.1,h.2.1,Kr.mono (t:=f (lt i j)) h.2.2 k⟩
theorem Kr.bind{α β:Type}{lt:Ag->Ag->Aj}{n:Ag}{f:α->KasT β}{Q:β->Prop}:∀{t:KasT α},Kr lt n t (λa=>Kr lt n (f a) Q)->Kr lt n (t.bind f) Q
 |.ret _,h=>h
 |.ask i j k,h=>⟨h.1,h.2.1,Kr.bind (t:=k (lt i j)) h.2.2⟩
structure Sto (lt:Ag->Ag->Aj) (n:Ag):Prop where
 tr:∀ i j k,i<n->j<n->k<n->lt i j=Aa->lt j k=Aa->lt i k=Aa
 tot:∀ i j,i<n->j<n->i≠j->lt i j=Ad->lt j i=Aa
 asy:∀ i j,i<n->j<n->lt i j=Aa->lt j i=Ad
noncomputable def at0(p:A8 Ag)(x:Ag):Ag:=p.getD x 0
structure Pm (n:Ag) (p:A8 Ag):Prop where
 sz:p.size=n
 lt:∀ x,x<n->at0 p x<n
 inj:∀ x y,x<n->y<n->at0 p x=at0 p y->x=y
section
variable{lt:Ag->Ag->Aj}{n:Ag}
def O3(lt:Ag->Ag->Aj)(p:A8 Ag)(m:Ag):Prop:=∀ x y,x<y->y<m->lt (at0 p x) (at0 p y)=Aa
def O0(lt:Ag->Ag->Aj)(p:A8 Ag)(m:Ag):Prop:=∀ x y,x<y->y<m->lt (at0 p y) (at0 p x)=Aa
theorem O3.succ(S:Sto lt n)(hp:Pm n p)(h1:1<=m)(hm:m<n)(h:O3 lt p m)(e:lt (at0 p (m-1)) (at0 p m)=Aa):O3 lt p (m+1):=λx y hxy hy=>by
 by_cases hym:y<m
 .exact h x y hxy hym
 .have:y=m:=by omega
  subst this;by_cases hx:x=y-1
  .rw[hx];exact e
  .exact S.tr _ _ _ (hp.lt _ (by omega)) (hp.lt _ (by omega)) (hp.lt _ hm) (h x (y-1) (by omega) (by omega)) e
theorem O0.succ(S:Sto lt n)(hp:Pm n p)(h1:1<=m)(hm:m<n)(h:O0 lt p m)(e:lt (at0 p m) (at0 p (m-1))=Aa):O0 lt p (m+1):=λx y hxy hy=>by
 by_cases hym:y<m
 .exact h x y hxy hym
 .have:y=m:=by omega
  subst this;by_cases hx:x=y-1
  .rw[hx];exact e
  .exact S.tr _ _ _ (hp.lt _ hm) (hp.lt _ (by omega)) (hp.lt _ (by omega)) e (h x (y-1) (by omega) (by omega))
end
section
variable{prog:AV}{w:AF}{A:A9}{E:Vq}{κ:SortKind}{it:A8 Keyed}
end
section
variable{lt:Ag->Ag->Aj}{n:Ag}
end
def QN(h:AC)(v:Ai)(r:Ac Ae):Prop:=∃ a its,v=.ref a/\Kl h a its/\IW its.toList r/\r≠[]
theorem QN.kept{h h':AC}{v:Ai}{r:Ac Ae}(t:QN h v r)(k:∀ b o,h.get? b=Ab o->h'.get? b=Ab o):QN h' v r:=by
 obtain⟨a,its,e,⟨o,ho,q⟩,i,n⟩:=t;exact⟨a,its,e,⟨o,k _ _ ho,q⟩,i,n⟩
section
variable{prog:AV}{w:AF}{A:A9}{E:Vq}{s:Ar}
end
end Ov
section
namespace Ov
open PySem PySem.Spec PyProof.Rows L2
section
variable{X:Cx}{CL:ClA}{W:XW}
end
end Ov
end
section
namespace Ov
open PySem PySem.Spec PyProof.Rows
section
variable{t:SetTable}{hashAt:Ag->Ae}{h:Ae}
noncomputable def stand(i b:Ag):SetTable.Probe:=⟨i,0,i,b,Af⟩
end
section
variable{prog:AV}{w:AF}{A:A9}{E:Vq}{s:Ar}{K:Type} [DecidableEq K] {knd:KeyKind prog w K}
end
section
variable{prog:AV}{w:AF}{A:A9}{R:IY->Ar->Prop}{I:Al}{fp wr:Ac Al}{G:A8 E2->A8 E2->Prop}{n:Ag}{P:Ag->Ai->Prop}{St:Ag->Ar->Prop}
end
section
variable{prog:AV}{w:AF}{A:A9}{E:Vq}{s:Ar}
end
end Ov
end
namespace Ov
open PySem PySem.Spec PyProof.Rows L2
variable{h h':AC}{P:AV}{w:AF}{H H':Hp}{oe:C9}{vs:A8 Ai}{Q:Gp->Ar->Prop}{T' C C' OV:Al}{a0 oc:Ai}{X:Cx}{pI:Pn}{U U0:L2.St}{K:Fg}{m:Ak->Ap Ai}{x g z name qual x0 x1:Ak}{v:Ap Ai}{M:Hu}{tk:Di}{fill expr fr:Aj}{φ:AC->Prop}{CL:ClA}{Fz:Al->HO->Prop}{B A:Al->Prop}{Y:Rho}{W:XW}{hs:Ac AY}{h0:AY}{p1 pos p pos' np cpos:AO}{fh:Rho->O}{dx:Ap Al}{up:Ag->Ac Ag}{CX:CXT}{k c kk l:Ag}{fd:Cf}{ps:Ac Ak}{Xw:Vq}{fs:Rho->R (Ac D)}{xn:Ag->Ac D->R Ex}{d:D}{α:Type}{xs ys:Ac Ao}{env:CN}{scope:Cz}{ts:Ac Ag}{as:Es}{osl:A8 (Ap Ai)}
section
variable{X:Cx}
def OX(K:Fg)(H:Hp):Ac V->Ac (Ac Ae)->Prop
 |[],[]=>Ii
 |x::xs,k::ks=>(∃ b,x=.ref b/\SqT K H b (k.map V.int))/\OX K H xs ks
 |_,_=>Bl
theorem OX.length{K:Fg}{H:Hp}:∀{xs:Ac V}{ks:Ac (Ac Ae)},OX K H xs ks->xs.length=ks.length
 |[],[],_=>rfl
 |_::_,_::_,h=>congrArg (· + 1) (OX.length h.2)
 |[],_::_,h=>h.elim
 |_::_,[],h=>h.elim
variable{CL:ClA}{W:XW}{pos p pos' p':AO}{a:Ao}{fa:Rho->R D}
end
section
theorem rZ(l:Al)(items:A8 Ai)(n:Ag)(b:Al)(items2:A8 Ai)(n2:Ag)(dd:Ap Al)(sl:A8 (Ap Ai))(hs0:¬(!items.isEmpty&&DN (items.size+items2.size))=Aa)(hs1:items.size<=sizeLine)(hs2:items.size+items2.size<=sizeLine+1):
  Meets (Builtin.«list.extend» ⟨[.ref l,.ref b],[]⟩) (λ_ R s=>s.heap.get? l=Ab { cls:=.type "list",dict:=Af,data:=.seq items n,slots:=#[] }/\s.heap.get? b=Ab { cls:=.type "tuple",dict:=dd,data:=.seq items2 n2,slots:=sl }/\R (.ok (.ret Dj)) {s with heap:=s.heap.update l (DD λx=>x++items2),toks:=s.toks}):=
 .of_wp λprog w A R s h=>by
  obtain⟨hp,g,d,tk,os⟩:=s;obtain⟨hl,hb,h⟩:=h;have f1:=AutoSeq1.idx_int;have f2:=AutoSeq1.sub_tuple_tuple;have f3:=AutoSeq1.sub_list_list;have f4:=AutoSeq1.sub_tuple_list;have f5:=AutoSeq1.sub_list_tuple;
  have hz':(items++items2).size<=sizeLine+1:=by rw[Array.size_append];exact hs2
  wp_walk using (F0 hl rfl (hz:=hs1) (_hz':=hz')),YK hl,YK hb;exact⟨_,rfl,h⟩
end
section
variable{X:Cx}
def i9(K:Fg):V->Ac V->Hp->VK->Prop:=λx vs H Q=>∃ l b xs zs,x=.ref l/\vs=[.ref b]/\H l=Ab (.lst xs)/\SqT K H b zs/\xs.length+zs.length<=sizeLine/\Q .non (upd H l (.lst (xs++zs)))
theorem pO:MtM X "list.extend" (i9 X.K):=by
 intro pI s U H x vs v us Q I rx rv h;obtain⟨l,b,xs,zs,rfl,rfl,hH,hB,hz,q⟩:=h;cases rx;obtain⟨u,rfl,ru⟩:=rv.one;cases ru;obtain⟨z,its,n,r,hl,e⟩:=I.lstM hH;obtain⟨its2,r2,⟨o,e2,c2,n2,d2⟩,z2⟩:=I.tuple hB;have hl2:=r2.length;obtain⟨oc,od,oda,os⟩:=o;dsimp only at c2 d2;subst c2 d2;have hsz:its.toArray.size+its2.toArray.size<=sizeLine:=by rw[AJ,AJ];omega
 have hlong:¬ (!its.toArray.isEmpty&&DN (its.toArray.size+its2.toArray.size))=Aa:=by
  rw[Ux hsz,Gd];exact AD
 refine K8 Fh ⟨_,e,rfl⟩ Zu (Zn _ _)
  (rZ l its.toArray n b its2.toArray n2 od os hlong (by rw[AJ];omega) (by omega)) ⟨e,e2,?_⟩
 refine⟨.non,_,I.lset (its':=its++its2) hH e (by simp) (r.append r2) ?_,rfl,q⟩
 rw[BJ];omega
variable{CL:ClA}{W:XW}{o e:Ao}{fe:Rho->R D}{i:Ag}{apos cpos pos:AO}
theorem nW(ho:PE X o (GR i))(he:ST X CL W e fe)(hbase:FE o "extend" X.env (eval o X.env)=eval o X.env)(hfew:((Cd cpos (Ax [e] X.env)).all (λx=>!x.1)&&(Jf cpos (Hv [] X.env)).all (λx=>x.1.isSome)&&decide ([e].length+([]:Ac Eu).length+(if ([]:Ac Eu).isEmpty then 0 else 1)<30))=Aa)(hline:(apos.endLine==cpos.line)=Aa)(hs:Ax [e] X.env=[(Ad,eval e X.env)])(hsw:Dd (.Call (.Attribute o "extend" apos) [e] [] cpos) Af pos.line X.env=pure Ad):
  SS X CL W (.Expr (.Call (.Attribute o "extend" apos) [e] [] cpos) pos) (λY=>O.of Y (D6 Y i) λxs=>O.of Y (fe Y) λx=>O.of Y ((C4 .Add x (.tup [])).bind λy=>biD .list [y]) λd=>O.of Y (LS d) λys=>if DR (xs.length+ys.length)=Aa then .next (Y.set i (Ab (.lst (xs++ys),Aa))) else .bad):=λFz B pI s U H D I ⟨Y,x,p⟩=>by
 refine KD (RD Gm Fh ZD pO ho (Ee (he (B6 B Y U)) Gs hs) hbase hfew hline hs rfl) hsw pI s U H D I ?_;dsimp only at p;cases e1:D6 Y i with
 |bad=>rw[e1]at p;exact p.elim
 |exn z=>exact(Ql e1).elim
 |ok ds=>
  rw[e1,O.of_ok]at p;have hi:=QG e1;obtain⟨a,xs,ds',q,e2,ha,hh,r⟩:=x.good.ow i _ hi;cases e2;refine⟨_,q,.inl ⟨rfl,xs,SqL.of hh⟩,x.aok,Y,x.good,Cj.ex x p λd v H' _ s rv x' q'=>?_⟩
  cases d with
  |tup es=>
   obtain⟨b,ys,rfl,h0,h1,rs⟩:=Dl.tup_of rv;have eb:C4 .Add (.tup es) (.tup [])=if (!es.isEmpty&&DR (es.length+0))=Aa then .ok (.tup (es++[])) else .bad:=rfl
   rw[eb]at q';split at q'
   .rw[R.bind_ok,show biD .list [.tup (es++[])]=.ok (.lst (es++[])) from rfl,O.of_ok,Ug,O.of_ok,C8]at q'
    split at q'
    .rename_i hz;refine⟨a,b,xs,ys,rfl,rfl,s _ _ hh,h1,?_,q' _ _ (x'.upd hi q ((r.same s).append rs))⟩;rw[r.length,rs.length];exact Jl hz
    .exact q'.elim
   .exact q'.elim
  |_=>exact q'.elim
end
section
open PySem.AutoSeq1 (wpAny_loadPart')
end
section
variable{prog:AV}{w:AF}{A:A9}{R:IY->Ar->Prop}{I S T:Al}{u v:Ai}{c:Ag}{P:Ag->Ai->Prop}{St:Ag->AC->Prop}{s:Ar}{r q:Ac Ae}
end
section
variable{X:Cx}{CL:ClA}{W:XW}
end
def OY(e T:Al)(cls:Ai)(dx:Ap Al)(fl:Ai)(h:AC):Prop:=∃ oe vs oT ts a0,h.get? e=Ab oe/\oe.cls=cls/\oe.dict=dx/\vs[0]?=Ab a0/\oe.data=.fields vs/\vs[1]?=Ab (.ref T)/\T≠e/\h.get? T=Ab oT/\oT.data=.fields ts/\ts[3]?=Ab fl
noncomputable abbrev Fly(e T:Al)(cls:Ai)(dx:Ap Al)(h:AC):Prop:=OY e T cls dx Dj h
noncomputable def GP(C:Al)(dx:Ap Al)(t:Al):C9:={cls:=.ref C,dict:=dx,data:=.fields #[.ref t,.none,.none,.none,.bool Ad,.none]}
structure Shift (ex fs:Ac Al) (h h':AC):Prop where
 keep:∀ b o,h.get? b=Ab o->b∉ex->b∉fs->h'.get? b=Ab o
 slot:∀ b o,h.get? b=Ab o->b∈fs->∃ sl,h'.get? b=Ab {o with slots:=sl}
theorem Shift.trans{ex fs:Ac Al}{h1 h2:AC}(a:Shift ex fs h h1)(b:Shift ex fs h1 h2):Shift ex fs h h2:=
 ⟨λc o q n m=>b.keep c o (a.keep c o q n m) n m,λc o q m=>by
  obtain⟨sl,e1⟩:=a.slot c o q m;obtain⟨sl',e2⟩:=b.slot c _ e1 m;exact⟨sl',e2⟩⟩
theorem ObjOk.isThere{a:Al}:∀(o:HO),L2.ObjOk P w H h a o->∃ ob,h.get? a=Ab ob
 |.lst _,x=>by obtain⟨_,_,_,_,e⟩:=x;exact⟨_,e⟩
 |.tup _,x=>by obtain⟨_,_,_,p⟩:=x;obtain⟨o,e,_⟩:=p;exact⟨_,e⟩
 |.dK _,x=>by obtain⟨_,_,_,_,o,_,_,e,_⟩:=x;exact⟨_,e⟩
 |.dT _,x=>by obtain⟨_,_,_,_,o,_,_,e,_⟩:=x;exact⟨_,e⟩
 |.set _ _,x=>by obtain⟨o,_,_,_,e,_⟩:=x;exact⟨_,e⟩
 |.ins _ _ _,x=>by obtain⟨_,_,_,e,_⟩:=x;exact⟨_,e⟩
 |.own _,x=>x
 |.xd _,x=>by obtain⟨_,⟨_,_,_,e,_⟩,_⟩:=x;exact⟨_,e⟩
 |.met _ _,x=>⟨_,x⟩
 |.rng _ _,x=>by obtain⟨_,_,_,e⟩:=x;exact⟨_,e⟩
 |.frz _ _,x=>⟨_,x.1⟩
 |.tbl _,x=>⟨_,x⟩
 |.ext _,x=>x.2.1
theorem Lv{a:Al}(x:HOk P w H h)(e:h.get? a=Af):H a=Af:=by
 cases q:H a with
 |none=>rfl
 |some o=>
  obtain⟨ob,z⟩:=ObjOk.isThere o (x a o q);rw[e]at z;cases z
theorem HOk.shift{ex fs:Ac Al}(x:HOk P w H h)(sh:Shift ex fs h h')(h1:∀ b∈ex,H b=Af)(h2:∀ b∈fs,H b=Af):HOk P w H h':=λa o e=>
 (x a o e).stay (λb u hb q=>by
  have hs:∃ v,H b=Ab v:=by
   rcases hb with rfl|hb
   .exact⟨_,e⟩
   .exact⟨_,hb⟩
  obtain⟨v,hv⟩:=hs;exact sh.keep b u q (λz=>by rw[h1 b z]at hv;cases hv) (λz=>by rw[h2 b z]at hv;cases hv)) (λ_ q=>q) λ_ _ q=>q
theorem Un.shift{fs0 fs ex:Ac Al}{h0:AC}(u:Un fs0 [] H H' h0 h)(sh:Shift ex fs h h')(h1:∀ b∈ex,h0.get? b=Af)(h2:∀ b∈fs,b∈fs0\/h0.get? b=Af):Un fs0 [] H H' h0 h' where
 keep:=λb o q n hb hx=>sh.keep b o (u.keep b o q n hb hx) (λz=>by rw[h1 b z]at q;cases q) λz=>(h2 b z).elim hb λe=>by rw[e]at q;cases q
 slot:=λb o q n hb hx=>by
  obtain⟨sl,e1⟩:=u.slot b o q n hb hx;by_cases hf:b∈fs
  .obtain⟨sl',e2⟩:=sh.slot b _ e1 hf;exact⟨sl',e2⟩
  .exact⟨sl,sh.keep b _ e1 (λz=>by rw[h1 b z]at q;cases q) hf⟩
 free:=u.free
 there:=λb o q hx=>by
  obtain⟨o',e1⟩:=u.there b o q hx;by_cases hf:b∈fs
  .obtain⟨sl',e2⟩:=sh.slot b _ e1 hf;exact⟨_,e2⟩
  .exact⟨o',sh.keep b _ e1 (λz=>by rw[h1 b z]at q;cases q) hf⟩
 tups:=u.tups
 frzs:=u.frzs
 tbls:=u.tbls
theorem sJ(f:A8 Ai->A8 Ai)(o:C9):(GH f o).dict=o.dict:=by
 obtain⟨c,d,dt,sl⟩:=o;cases dt<;>rfl
section
variable{M:Hu}{A:A9}{E:Vq}{s:Ar}{env:CN}{outer:Ac CN}{L e T:Al}{cls:Ai}{dx:Ap Al}{base h:AC}
theorem Us{hd:Ai}{nx:Aj}(hfr:A.frames=Ab (env::outer))(hf:env.frame=Ab L)(ff:s.heap.FunFrames base (env::outer))(he:s.heap.get? e=Ab oe)(dt:oe.data=.fields vs)(hz:1<vs.size)(hQ:∀ h' T' oT ts,h'.get? e=Ab (GH (·.setIfInBounds 1 (.ref T')) oe)->T'≠e->s.heap.get? T'=Af->h'.get? T'=Ab oT->oT.data=.fields ts->ts[3]?=Ab (Cr L)->Shift [e] (frs (env::outer)) s.heap h'->Q () {s with heap:=h'}):
  Au M A (do
   let fr <-frameOf env
   let pl <-entryPlaceOf L nx
   let en <-YW hd fr .none (Cr L) .none pl
   setField (.ref e) 1 en) Q E s:=by
 have nf:e∉frs (env::outer):=λz=>by
  obtain⟨_,o,q,n⟩:=ff.mem z;rw[he]at q;cases q;exact n vs dt
 refine Ah (wpAny_frameOf_fun hfr ff hf λk1 so=>Ah (wpAny_entryPlaceOf λpl ip=>?_))
 obtain⟨sz,sm,sl⟩:=so;have e1:k1.get? e=Ab oe:=(sm e nf).trans he;unfold YW;unfold newFields;refine Ah (CP ?_ (ip.sizeOk5 _ _ _ _ _));generalize hX:({ cls:=.type "traceback",dict:=Af,data:=.fields ([hd,.ref L,.none,Cr L,.none]++(if pl.isEmpty then Hj 6 Dj else pl)).toArray }:C9)=ob
 have od:ob.data=.fields ([hd,.ref L,.none,Cr L,.none]++(if pl.isEmpty then Hj 6 Dj else pl)).toArray:=by rw[<-hX]
 have nl:k1.objs.size≠e:=Dy (AB e1);have e2:=As ob e1;refine Gi e2 dt hz ?_;have up:∀ b,b≠e->((k1.push ob).update e (GH (·.setIfInBounds 1 (.ref k1.objs.size)))).get? b=(k1.push ob).get? b:=λb nb=>Ch _ _ (DX nb)
 have lf:ob.isFreed=Ad:=by rw[<-hX];rfl
 refine hQ _ k1.objs.size ob _ (B7 _ e2 (Fj (DI dt _))) nl ?_ ((up _ nl).trans (Az k1 lf)) od ?_ ⟨λb o q n1 n2=>?_,λb o q hb=>?_⟩
 .rw[sz];exact DO (A7 _)
 .simp
 .have nb:b≠e:=λz=>n1 (by rw[z];exact AE)
  rw[up b nb];exact As ob ((sm b n2).trans q)
 .obtain⟨sl',q'⟩:=sl b o q;have nb:b≠e:=λz=>nf (z ▸ hb)
  exact⟨sl',(up b nb).trans (As ob q')⟩
theorem T6{oT:C9}{ts:A8 Ai}{fl:Ai}(hc:oe.cls=cls)(hx:oe.dict=dx)(h0:vs[0]?=Ab a0)(dt:oe.data=.fields vs)(hz:1<vs.size)(g:h'.get? e=Ab (GH (·.setIfInBounds 1 (.ref T')) oe))(ne:T'≠e)(gT:h'.get? T'=Ab oT)(dT:oT.data=.fields ts)(f3:ts[3]?=Ab fl):OY e T' cls dx fl h':=
 ⟨_,_,oT,ts,a0,g,(ZI _ _).trans hc,(sJ _ _).trans hx,by rw[Array.getElem?_setIfInBounds_ne (by decide)];exact h0,DI dt _,by simp[hz],ne,gT,dT,f3⟩
theorem Lg{i:Ag}{v:Ai}(q:vs[i]?=Ab v):i<vs.size:=(Fx.mp q).1
theorem UD(hfr:A.frames=Ab (env::outer))(hf:env.frame=Ab L)(ff:s.heap.FunFrames base (env::outer))(fl:Fly e T cls dx s.heap)(hQ:∀ h' T',OY e T' cls dx (Cr L) h'->Shift [e,T] (frs (env::outer)) s.heap h'->s.heap.get? T'=Af->Q () {s with heap:=h'}):Au M A (HB (.ref e) env) Q E s:=by
 obtain⟨oe,vs,oT,ts,a0,he,hc,hx,h0,dt,h1,ne,hT,dT,h3⟩:=fl;have z3:=Lg h3;unfold HB;simp only[hf];refine Ah (Bk he dt h1 ?_);rw[AI (by simp:(BO T != Dj)=Aa)]
 refine Ah (Bk hT dT h3 ?_);rw[AT (by simp[Cr]:¬ (Dj==Cr L)=Aa)]
 refine Ah (Gi hT dT z3 ?_);have up:∀ b,b≠T->(s.heap.update T (GH (·.setIfInBounds 3 Dj))).get? b=s.heap.get? b:=λb nb=>Ch _ _ (DX nb)
 have rcd:∀ b o,s.heap.get? b=Ab o->(∀ us,o.data≠.fields us)->b≠T:=λb o q n z=>by
  rw[z,hT]at q;cases q;exact n ts dT
 refine Us (base:=base) hfr hf (ff.of_keeps λb o q n=>⟨o,(up b (rcd b o q n)).trans q,rfl⟩) ((up e (DX ne)).trans he) dt (Lg h1) λh' T' oT' ts' g nT gn gT dT' f3 sh=>?_
 have T0:s.heap.get? T'=Af:=by
  by_cases z:T'=T
  .rw[z]at gn;rw[B7 _ hT (Fj (DI dT _))]at gn;cases gn
  .rw[<-up T' z];exact gn
 refine hQ h' T' (T6 hc hx h0 dt (Lg h1) g nT gT dT' f3) ⟨λb o q n1 n2=>?_,λb o q hb=>?_⟩ T0
 .simp only[At,AM,BH,Dm]at n1;exact sh.keep b o ((up b n1.2).trans q) (by simp[n1.1]) n2
 .obtain⟨_,o',q',n⟩:=ff.mem hb;rw[q]at q';cases q';exact sh.slot b o ((up b (rcd b o q n)).trans q) hb
theorem NT{fv:Ai}(fl:OY e T cls dx fv s.heap)(hQ:∀ h',Fly e T cls dx h'->(∀ b o,b≠T->s.heap.get? b=Ab o->h'.get? b=Ab o)->Q () {s with heap:=h'}):Au M A (ID (.ref e) Af) Q E s:=by
 obtain⟨oe,vs,oT,ts,a0,he,hc,hx,h0,dt,h1,ne,hT,dT,h3⟩:=fl;have z3:=Lg h3;unfold ID;refine Ah (Bk he dt h1 ?_);rw[AI (by simp:(BO T != Dj)=Aa)]
 refine Gi hT dT z3 (hQ _ ?_ λb o nb q=>(Ch _ _ (DX nb)).trans q)
 exact⟨oe,vs,_,_,a0,(Ch _ _ ne).trans he,hc,hx,h0,dt,h1,ne,B7 _ hT (Fj (DI dT _)),DI dT _,by simp[z3]⟩
theorem Qg{h1 h2:AC}{ex:Ac Al}(ff:s.heap.FunFrames base (env::outer))(sh:Shift ex (frs (env::outer)) s.heap h1)(hT:s.heap.get? T'=Af)(k:∀ b o,b≠T'->h1.get? b=Ab o->h2.get? b=Ab o):Shift ex (frs (env::outer)) s.heap h2:=
 ⟨λb o q n1 n2=>k b o (λz=>by rw[z,hT]at q;cases q) (sh.keep b o q n1 n2),λb o q hb=>let ⟨sl,q'⟩:=sh.slot b o q hb;⟨sl,k b _ (λz=>by rw[z,hT]at q;cases q) q'⟩⟩
theorem iM(hfr:A.frames=Ab (env::outer))(hf:env.frame=Ab L)(ff:s.heap.FunFrames base (env::outer))(fl:Fly e T cls dx s.heap)(hQ:∀ h' T',Fly e T' cls dx h'->Shift [e,T] (frs (env::outer)) s.heap h'->(T'=T\/s.heap.get? T'=Af)->Q () {s with heap:=h'}):Au M A (leaving env (.ref e)) Q E s:=by
 unfold leaving;exact Ah (UD hfr hf ff fl λh1 T' f1 sh hT=>NT f1 λh2 f2 k=>hQ h2 T' f2 (Qg ff sh hT k) (.inr hT))
theorem fL(hfr:A.frames=Ab (env::outer))(hf:env.frame=Ab L)(ff:s.heap.FunFrames base (env::outer))(he:s.heap.get? e=Ab oe)(hc:oe.cls=cls)(hx:oe.dict=dx)(dt:oe.data=.fields vs)(h0:vs[0]?=Ab a0)(h1:vs[1]?=Ab .none)(hQ:∀ h' T',Fly e T' cls dx h'->Shift [e] (frs (env::outer)) s.heap h'->s.heap.get? T'=Af->Q () {s with heap:=h'}):Au M A (leaving env (.ref e)) Q E s:=by
 unfold leaving HB;simp only[hf];refine Ah (Ah (Bk he dt h1 ?_));rw[AT (by decide)]
 exact Us (base:=base) hfr hf ff he dt (Lg h1) λh' T' oT ts g nT gn gT dT f3 sh=>NT (T6 hc hx h0 dt (Lg h1) g nT gT dT f3) λh2 f2 k=>hQ h2 T' f2 (Qg ff sh gn k) gn
theorem lK(hfr:A.frames=Ab (env::outer))(hf:env.frame=Ab L)(ff:s.heap.FunFrames base (env::outer))(fl:Fly e T cls dx s.heap)(hQ:∀ h' T',Fly e T' cls dx h'->Shift [e,T] (frs (env::outer)) s.heap h'->(T'=T\/s.heap.get? T'=Af)->Q () {s with heap:=h'}):Au M A (HB (.ref e) env) (λ_ s2=>Au M A (ID (.ref e) Af) Q E s2) E s:=
 UD hfr hf ff fl λh1 T' f1 sh hT=>NT f1 λh2 f2 k=>hQ h2 T' f2 (Qg ff sh hT k) (.inr hT)
theorem iN{l:Ac CN}{A':A9}(ff:s.heap.FunFrames base l)(fl:Fly e T cls dx s.heap)(hQ:∀ h' T',Fly e T' cls dx h'->Shift [e,T] (frs l) s.heap h'->(T'=T\/s.heap.get? T'=Af)->Q () {s with heap:=h'}):Au M A' (ID (.ref e) Af) Q E s:=by
 obtain⟨oe,vs,oT,ts,a0,he,hc,hx,h0,dt,h1,ne,hT,dT,h3⟩:=id fl;refine NT fl λh' f' k=>hQ h' T f' ⟨λb o q n1 n2=>k b o (λz=>n1 (by rw[z];simp)) q,λb o q hb=>⟨o.slots,k b o (λz=>?_) q⟩⟩ (.inl rfl)
 obtain⟨_,o',q',n⟩:=ff.mem hb;rw[z,hT]at q';cases q';exact n ts dT
end
def CXR(P:AV)(w:AF):CXT:=λouter H s E ev s'=>∃ e T cls dx H',ev=.ref e/\s'.os=s.os/\Gg s'.gens/\Un (frs outer) [] H H' s.heap s'.heap/\HOk P w H' s'.heap/\Fly e T cls dx s'.heap/\H' e=Af/\H' T=Af/\s.heap.get? e=Af/\s.heap.get? T=Af/\E cls dx H'
def MY(X:Cx)(CL:ClA)(W:XW):Prop:=∀ pI U H s e C dx t x,Inv X pI U H s->(X.ex=[]->X.s₀.heap.get? e=Af)->H e=Af->s.heap.get? e=Ab (GP C dx t)->GQ X.K CL H (.ref C) dx x->W x H->X.xe (.ref e) s
section
variable{P:AV}{w:AF}{K:Fg}{mg:Ak->Ap Ai}{base:AC}{N:Ac Ak}{qual:Ak}{scope:Cz}{f:Al}{cd:Ai}{A:A9}{outer:Ac CN}{s:Ar}{H:Hp}{E:XK}{CL:ClA}{W:XW}
theorem QJ{s:Ar}(I:Inv X pI U H s):∀ b∈frs X.stack,b∈X.fs\/X.s₀.heap.get? b=Af:=λb hb=>by
 rcases At.mp (I.stkSub b hb) with z|z
 .exact .inr (by rw[z];exact DO I.ok.above)
 .exact .inl z
theorem KA{s:Ar}{b:Al}(I:Inv X pI U H s)(hx:X.ex=[])(h:s.heap.get? b=Af):X.s₀.heap.get? b=Af:=by
 cases q:X.s₀.heap.get? b with
 |none=>rfl
 |some o=>
  obtain⟨o',z⟩:=I.base.there b o q (by rw[hx];simp)
  rw[h]at z;cases z
theorem lw(hE:∀ x cls dx H',W x H'->GQ K CL H' cls dx x->E cls dx H'):∀ A',LJ (CXR P w) (GS (CXR P w) P w K mg base N qual scope f cd A outer s H E) (EKW K CL A' W):=by
 intro A' pI U H1 s1 ev s2 I h;obtain⟨e,T,cls,dx,H',rfl,os,bare,un,hok,fl,he,hT,ne,nT,x,xr,wx⟩:=h;have I':=I.call' (s':=s2) (ch:=[]) os un hok bare (λb z=>absurd z (by simp))
 have hb0:Un (frs outer) [] H H' s.heap s2.heap:=I'.base;show Au (model P w) (A.deeper (FB qual scope s.heap.objs.size f cd)) (leaving (FB qual scope s.heap.objs.size f cd) (.ref e)) _ _ s2;refine iM (L:=s.heap.objs.size) I'.ok.frames rfl I'.stack fl λh' T' fl' sh hT'=>?_
 have e0:s.heap.get? e=Af:=KA I rfl ne;have T0:s.heap.get? T=Af:=KA I rfl nT;refine⟨e,T',cls,dx,H',rfl,I'.os,bare,Un.shift hb0 sh ?_ (QJ I'),HOk.shift hok sh ?_ I'.stkFree,fl',he,?_,e0,?_,?_⟩
 .intro b hb;rcases At.mp hb with rfl|hb
  .exact e0
  .rw[BN.mp hb];exact T0
 .intro b hb;rcases At.mp hb with rfl|hb
  .exact he
  .rw[BN.mp hb];exact hT
 .rcases hT' with rfl|z
  .exact hT
  .exact Lv hok z
 .rcases hT' with rfl|z
  .exact T0
  .exact KA I' rfl z
 .exact hE x cls dx H' wx xr
theorem rzR(hE:∀ x cls dx H',W x H'->GQ K CL H' cls dx x->E cls dx H'):MY (GS (CXR P w) P w K mg base N qual scope f cd A outer s H E) CL W:=by
 intro pI U H1 s1 e C dx t x I e0 he ge xr hw;have hb0:Un (frs outer) [] H H1 s.heap s1.heap:=I.base;have e0':s.heap.get? e=Af:=e0 rfl;show Au (model P w) (A.deeper (FB qual scope s.heap.objs.size f cd)) (leaving (FB qual scope s.heap.objs.size f cd) (.ref e)) _ _ s1;refine fL (cls:=.ref C) (dx:=dx) (L:=s.heap.objs.size) I.ok.frames rfl I.stack ge rfl rfl rfl (a0:=.ref t) rfl rfl λh' T' fl' sh hT'=>?_
 have one:∀{Z_:Al->Prop},Z_ e->∀ b∈[e],Z_ b:=λ{Z_} z b hb=>by rw[BN.mp hb];exact z
 exact⟨e,T',.ref C,dx,H1,rfl,I.os,I.bare,Un.shift hb0 sh (one e0') (QJ I),HOk.shift I.hok sh (one (Z_:=λb=>H1 b=Af) he) I.stkFree,fl',he,Lv I.hok hT',e0',KA I rfl hT',hE x _ dx H1 hw xr⟩
theorem ownR:F4 (model P w) (GS (CXR P w) P w K mg base N qual scope f cd A outer s H E).A (GS (CXR P w) P w K mg base N qual scope f cd A outer s H E).env (GS (CXR P w) P w K mg base N qual scope f cd A outer s H E).xe:=PassesOwn.leaving
end
noncomputable def veB:Ac Ai:=[.type "ValueError",.type "Exception",.type "BaseException",.type "object"]
noncomputable def D4(K:Fg)(C:Al)(v:Ap Ai):Aj:=match K.lookup C with
  | some ⟨.type "type",_,.cls c,z⟩=>(match c.mro,z.toList with
    |.ref c0::tl,[_,_,_,_,Ab (.builtin nw),_]=>c0==C&&(nw == "ValueError.__new__" && (!c.hasDel&&(PySem.W.tailIn K veB tl&&(aC K c.ns&&BK K c.ns "__init__" == Ab v))))
    | _,_=>Ad)
  |_=>Ad
theorem oM(q:JF K C veB "ValueError.__new__" = Aa):D4 K C Af=Aa:=by
 unfold JF at q;unfold D4;split at q
 .rename_i dd cd sl ho;split at q
  .rename_i C' bm k0 k1 k2 k3 n k5 hm hs;simp only[An]at q;obtain⟨⟨⟨⟨⟨h1,h2⟩,h3⟩,h4⟩,h5⟩,h6⟩:=q;simp only[ho,hm,hs,An];exact⟨h1,h2,h3,h4,h5,h6⟩
  .cases q
 .cases q
structure XcOk (K:Fg) (C:Al):Prop where
 exc:∃ v,D4 K C v=Aa
 ga:AU K (.ref C) "__getattribute__" = Ab (Ab (.builtin "BaseException.__getattribute__"))
 gt:AU K (.ref C) "__getattr__" = Ab Af
 cl:AU K (.ref C) "__class__" = Ab (Ab (.builtin "object.__class__"))
 ob:Dh K C (.type "object")=Ab Aa
 be:BZ K (.ref C) (.type "BaseException")=Ab Aa
 cs:(DT K C).isSome=Aa
 ve:Dk K (.ref C) (.type "ValueError")=Ab Aa
def XAt(e C:Al)(h:AC):Prop:=∃ o,h.get? e=Ab o/\o.cls=.ref C
theorem zZ{N:Al}{v:Ai}(X:K.In h)(G:h.Ns N m)(q:BK K N x=Ab (Ab v)):m x=Ab v:=by
 obtain⟨ob,es,ep,g,dt,_,fd⟩:=G;unfold BK at q;split at q
 .rename_i es' n' sl lk;have g':=X _ _ lk;rw[g]at g';cases g';cases dt;split at q
  .rename_i hf;cases q;rw[<-fd];unfold nsFind findBy;rw[<-Array.find?_toList,hf];rfl
  .by_cases z:(es.toList.any λy=>y.refKey)=Aa
   .rw[AI z]at q;cases q
   .rw[AT z]at q;cases q
 .cases q
theorem Qx{h0:AC}(X0:K.In h0)(q:D4 K C v=Aa):
  ∃ bm N nm qn bs hd sn sub ab col dd k0 k1 k2 k3 k5 mN,(∀ h:AC,K.In h->h.get? C=Ab (CH nm qn C N bs bm hd sn sub ab col dd k0 k1 k2 k3 k5 "ValueError.__new__")/\h.Ns N mN/\Ev h veB bm)/\mN "__init__" = v/\bm.contains (.type "BaseException")=Aa:=by
 unfold D4 at q;split at q
 .rename_i dd cd sl ho;split at q
  .rename_i C' bm k0 k1 k2 k3 n k5 hm hs;simp only[An,A6,BL]at q;obtain⟨rfl,rfl,hdel,ht,hok,hni⟩:=q;obtain⟨nm,bs,mro,ns,qn,hd,sn,sub,ab,col,del⟩:=cd;dsimp only at hm hdel hok hni;subst hm hdel;have hsl:sl=#[k0,k1,k2,k3,Ab (.builtin "ValueError.__new__"),k5]:=by
    obtain⟨l⟩:=sl;simp only at hs;rw[hs]
   subst hsl;have kN:∃ o,K.lookup ns=Ab o:=by
    unfold aC at hok;split at hok
    .rename_i z;exact⟨_,z⟩
    .cases hok
   obtain⟨oN,hoN⟩:=kN;have nsAt:∀ h:AC,K.In h->h.Ns ns (h0.nsMap ns):=λh X=>by
    obtain⟨o,es,ep,e1,r⟩:=Heap.Ns.of_isNs (Z_7 X0 hok);have e2:=X0 _ _ hoN;rw[e1]at e2;cases e2;exact⟨_,es,ep,X _ _ hoN,r⟩
   refine⟨bm,ns,nm,qn,bs,hd,sn,sub,ab,col,dd,k0,k1,k2,k3,k5,h0.nsMap ns,λh X=>⟨X _ _ ho,nsAt h X,aD X ht⟩,?_,(aD X0 ht).hasType (by decide)⟩
   cases v with
   |none=>exact PySem.W.nsMap_none_of_in X0 hok hni
   |some u=>exact zZ X0 (.of_isNs (Z_7 X0 hok)) hni
  .cases q
 .cases q
theorem sC(X:K.In h)(q:D4 K C v=Aa):
  ∃ bm N nm qn bs hd sn sub ab col dd k0 k1 k2 k3 k5 mN,h.get? C=Ab (CH nm qn C N bs bm hd sn sub ab col dd k0 k1 k2 k3 k5 "ValueError.__new__")/\h.Ns N mN/\mN "__init__" = v/\Ev h veB bm:=by
 obtain⟨bm,N,nm,qn,bs,hd,sn,sub,ab,col,dd,k0,k1,k2,k3,k5,mN,ho,hi,_⟩:=Qx X q;obtain⟨o1,o2,o3⟩:=ho h X;exact⟨bm,N,nm,qn,bs,hd,sn,sub,ab,col,dd,k0,k1,k2,k3,k5,mN,o1,o2,hi,o3⟩
section
variable{prog:AV}{w:AF}{A:A9}{E:Vq}{h:AC}{g:A8 E2}{d:IA}{t:Ag}{os:HW}{K:Fg}{e C:Al}
theorem J5(p:XAt e C h):PySem.W.Looks M h (typeOf (.ref e)) (.ref C):=by
 obtain⟨o,h1,h2⟩:=p;exact h2 ▸ (PySem.W.Looks.ld h1).andThen .now
theorem kM{R:IY->Ar->Prop}{tp:Ai}(X:K.In h)(p:XAt e C h)(hm:Dh K C (.type "object")=Ab Aa)(hq:R (.ok (.ret (.ref C))) ⟨h,g,d,t,os⟩):
  Fl (model prog w) A (.call (.builtin "getset_descriptor.__get__") ⟨[.builtin "object.__class__",.ref e,tp],[]⟩) R ⟨h,g,d,t,os⟩:=by
 have L0:=J5 (M:=model prog w) p;have L1:=PySem.W.looks_mroIn (M:=model prog w) X hm;refine Eo PySem.W.KF.slot_gs.plain PySem.W.KF.entry_gs (PySem.W.KF.slot_gs.check _ _ _ _ _ _ _ _ PySem.W.KF.type_class (PySem.W.KF.args_gs _ _ _) ?_);unfold Builtin.«getset_descriptor.__get__» Builtin.Getset_descriptor.descrGet;rw[PySem.W.dga_obj];refine Ah (Av ?_);unfold Builtin.Getset_descriptor.descrGetter Builtin.Getset_descriptor.descrCheckInstance Builtin.Getset_descriptor.descrNameAndClass HU;simp only[PySem.W.KF.owner_class]
 repeat lk
 refine⟨HA _ (by decide+kernel),EY PySem.W.KF.entry_class ?_⟩
 unfold Builtin.«object.__class__» shownTypeOf
 repeat lk
 exact hq
theorem gA{Q:Fin->Ar->Prop}(X:K.In h)(x:XcOk K C)(p:XAt e C h)(hq:Q (.done (.ret (.ref C))) ⟨h,g,d,t,os⟩):
  Au (model prog w) A (Builtin.«object.__getattribute__» ⟨[.ref e,.str "__class__" tk],[]⟩) Q E ⟨h,g,d,t,os⟩:=by
 have L0:=J5 (M:=model prog w) p;have L1:=CV (M:=model prog w) X x.cl;have hT5:(⟨h,g,d,t,os⟩:Ar).TypeIs (.builtin "object.__class__") "getset_descriptor" := ZC;have f5:=ZC;have f6:=F.slot_gs_get.lookup;have f7:=F.slot_gs_set.lookup
 repeat (any_goals (first|assumption|with_reducible refine L0.at ?_|with_reducible refine L1.at ?_|wp_step))
 refine kM X p x.ob ?_
 repeat (any_goals (first|assumption|wp_step))
theorem TJ{nameV:Ai}(X:K.In h)(x:XcOk K C)(p:XAt e C h)(hq:Q () ⟨h,g,d,t,os⟩):Au M A (EH "BaseException.__getattribute__" ⟨[.ref e,nameV],[]⟩) Q E ⟨h,g,d,t,os⟩:=by
 have hk:builtinKind "BaseException.__getattribute__" = Ab .slot:=by decide+kernel
 have hsplit:splitId "BaseException.__getattribute__" = Ab ("BaseException", "__getattribute__"):=by decide+kernel
 have L0:=J5 (M:=M) p;have L1:=aA (M:=M) X x.be;have ha:=F.args_bexc_ga (.ref e) nameV;simp only[EH,hk,hsplit];refine Ah ?_
 .unfold HU
  repeat (first|(with_reducible refine Ah (L0.at ?_))|(with_reducible refine L1.at ?_)|wp_step)
  exact hq
theorem oO{Q:Vq}(X:K.In h)(x:XcOk K C)(p:XAt e C h)(hq:Q (.ref C) ⟨h,g,d,t,os⟩):Au (model prog w) A (getAttrBy (.ref e) (.str "__class__" tk) fill expr) Q E ⟨h,g,d,t,os⟩:=by
 have L0:=J5 (M:=model prog w) p;have L1:=CV (M:=model prog w) X x.ga;have L2:=CV (M:=model prog w) X x.gt;have f3:=Go.ga.bind (.ref e);have hx0:(expr&&JT (DE "BaseException.__getattribute__"))=Ad:=by cases expr<;>rfl
 have hx2:(DE "BaseException.__getattribute__" == DE "object.__getattribute__")=Ad:=by decide+kernel
 have hx1:(JT (BO C)&&DE "BaseException.__getattribute__" == DE "object.__getattribute__")=Ad:=by rw[hx2];rfl
 repeat (any_goals (first|assumption|with_reducible refine L0.at ?_|with_reducible refine L1.at ?_|with_reducible refine L2.at ?_|wp_step))
 refine Eo Go.ga.plain Zs (TJ X x p (gA X x p ?_))
 repeat (any_goals (first|assumption|wp_step))
theorem fC{Q:Ap Ai->Ar->Prop}(X:K.In h)(x:XcOk K C)(p:XAt e C h)(hq:Q (Ab (.ref C)) ⟨h,g,d,t+1,os⟩):Au (model prog w) A (getAttr? (.ref e) "__class__") Q E ⟨h,g,d,t,os⟩:=by
 unfold getAttr? getAttrBy?
 repeat (any_goals (first|assumption|with_reducible apply oO X x p|wp_step))
end
theorem UA{e C:Al}(x:XcOk K C):PySem.W.KitX K (.ref e) (.ref C) (XAt e C) where
 ty:=λM h _ p=>J5 p
 it:=λM h X _=>by
  obtain⟨cd,hc⟩:=ED.mp x.cs;unfold DT at hc;split at hc
  .rename_i c' d' cd' sl' ho;intro A' Q' E' s' k q;unfold isType loadHead;exact Ah (wpAny_loadPart (k _ _ (X _ _ ho)) (Av q))
  .cases hc
 ne:=λh tp dd its n sl X htp=>by
  obtain⟨cd,hc⟩:=ED.mp x.cs;refine Bool.eq_false_iff.mpr λq=>?_
  have e:C=tp:=JE (A6.mp q);subst e;unfold DT at hc;split at hc
  .rename_i c' d' cd' sl' ho;have z:=(X _ _ ho).symm.trans htp;cases z
  .cases hc
 ca:=λ{_ _ _ _ _ s} X p k=>by
  obtain⟨h,g,d,t,os⟩:=s;exact fC X x p k
theorem kO{A:A9}{E:Vq}{g:A8 E2}{d:IA}{t:Ag}{os:HW}{e C C':Al}{b:Aj}{Q:Aj->Ar->Prop}(X:K.In h)(p:XAt e C h)(x':XcOk K C')(hs:BZ K (.ref C) (.ref C')=Ab b)(hq:Q b ⟨h,g,d,t,os⟩):Au M A (excMatches (.ref e) (.ref C')) Q E ⟨h,g,d,t,os⟩:=by
 obtain⟨bm,N,nm,qn,bs,hd,sn,sub,ab,col,dd,k0,k1,k2,k3,k5,mN,hC',_,_,T⟩:=sC X x'.exc.choose_spec;have hcB:(BO C'::bm).contains (.type "BaseException")=Aa:=by rw[Hx,T.hasType (show veB.contains (.type "BaseException")=Aa by decide),JH]
 have L0:=J5 (M:=M) p;have L1:=aA (M:=M) X hs;have f:=tc_notTuple;unfold excMatches
 repeat (first|(with_reducible refine Ah (L0.at ?_))|(with_reducible refine L1.at ?_)|(with_reducible refine Ah (L1.at ?_))|with_reducible refine Cy hC' ?_|(with_reducible refine FM hC' ?_;rw[hcB])|wp_step)
 all_goals first|exact hq|(cases b<;>(wp_walk;exact hq))
def HL(X:Cx)(pI:Pn)(e:Al):Prop:=e≠X.env.locals/\(∀ x c,X.env.cells.lookup x=Ab c->c≠e)/\(∀ p∈X.pn++pI,p.1≠e)/\X.s₀.heap.get? e=Af
section
variable{X:Cx}{pI:Pn}{U:L2.St}{H:Hp}{s:Ar}{e:Al}
theorem Mp(I:Inv X pI U H s)(hx:X.ex=[])(h:s.heap.get? e=Af):HL X pI e:=by
 refine⟨?_,λx c q z=>?_,λp hp z=>?_,KA I hx h⟩
 .rintro rfl;obtain⟨m,⟨o,_,_,ho,_⟩,_⟩:=I.loc;rw[h]at ho;cases ho
 .obtain⟨v,o,ho,_⟩:=I.cell x c q;rw[z,h]at ho;cases ho
 .obtain⟨q,_⟩:=I.pin p hp;rw[z,h]at q;cases q
theorem Uw{ex:Ac Al}(I:Inv X pI U H s)(hx:X.ex=[])(sh:Shift ex (frs X.stack) s.heap h')(ha:∀ b∈ex,HL X pI b)(hH:∀ b∈ex,H b=Af):Inv X pI U H {s with heap:=h'}:=by
 have kp:∀ b o,s.heap.get? b=Ab o->b∉ex->∃ sl,h'.get? b=Ab {o with slots:=sl}:=λb o q n=>by
  by_cases hb:b∈frs X.stack
  .exact sh.slot b o q hb
  .exact⟨o.slots,sh.keep b o q n hb⟩
 have cellK:∀ x c,X.env.cells.lookup x=Ab c->∀ v,s.heap.IsCell c v->h'.IsCell c v:=λx c q v ⟨o,ho,hd⟩=>by
  obtain⟨sl,z⟩:=kp c o ho λz=>(ha c z).2.1 x c q rfl
  exact⟨_,z,hd⟩
 refine⟨I.ok,I.os,I.bare,?_,?_,λx c q=>?_,I.free,I.freeC,λp hp=>?_,HOk.shift I.hok sh hH I.stkFree,I.len⟩
 .have b0:=I.base;rw[hx]at b0 ⊢;exact Un.shift b0 sh (λb hb=>(ha b hb).2.2.2) (QJ I)
 .obtain⟨m,⟨o,es,ep,ho,r⟩,hl⟩:=I.loc;obtain⟨sl,z⟩:=kp _ o ho λz=>(ha _ z).1 rfl
  refine⟨m,⟨_,es,ep,z,r⟩,λi x v e1 e2 e3=>?_⟩
  obtain⟨u,ru,l⟩:=hl i x v e1 e2 e3;refine⟨u,ru,?_⟩;rcases l with l|⟨k,c,q,z⟩
  .exact .inl l
  .exact .inr ⟨k,c,q,cellK x c q _ z⟩
 .obtain⟨v,z⟩:=I.cell x c q;exact⟨v,cellK x c q v z⟩
 .obtain⟨q,n,ne,nf,d⟩:=I.pin p hp;exact⟨sh.keep p.1 p.2 q (λz=>(ha p.1 z).2.2.1 p hp rfl) (λz=>(At.mp (I.stkSub p.1 z)).elim ne nf),n,ne,nf,d⟩
theorem iH(I:Inv X pI U H s)(hx:X.ex=[])(ha:HL X pI e)(hH:H e=Af)(ho:∃ o,s.heap.get? e=Ab o)(p:φ s.heap)(hφ:∀ h1 h2:AC,φ h1->(∀ o,h1.get? e=Ab o->h2.get? e=Ab o)->φ h2):Inv X pI U (upd H e (.ext φ)) s:=by
 have ne:∀ b o,H b=Ab o->b≠e:=λb o q z=>by rw[z,hH]at q;cases q
 refine⟨I.ok,I.os,I.bare,⟨I.base.keep,I.base.slot,λb o q n hb=>?_,I.base.there,λb xs q=>?_,λb o u q=>?_,λb ps q=>?_⟩,I.loc,I.cell,?_,λx c q=>?_,λp hp=>?_,λb o q=>?_,I.len⟩
 .rw[BQ λz=>by rw[z,ha.2.2.2]at q;cases q]
  exact I.base.free b o q n hb
 .have:=I.base.tups b xs q;rw[BQ (ne _ _ this)];exact this
 .have:=I.base.frzs b o u q;rw[BQ (ne _ _ this)];exact this
 .obtain⟨more,this⟩:=I.base.tbls b ps q;exact⟨more,by rw[BQ (ne _ _ this)];exact this⟩
 .rw[BQ λz=>ha.1 z.symm];exact I.free
 .rw[BQ (ha.2.1 x c q)];exact I.freeC x c q
 .obtain⟨q,n,r⟩:=I.pin p hp;exact⟨q,by rw[BQ (ha.2.2.1 p hp)];exact n,r⟩
 .by_cases hb:b=e
  .subst hb;rw[F7]at q;cases q;exact⟨p,ho,hφ⟩
  .rw[BQ hb]at q;exact(I.hok b o q).stay (λc v hc z=>z) (λc z=>by rw[BQ (ne _ _ z)];exact z) λc zs z=>by rw[BQ (ne _ _ z)];exact z
theorem iG{i:Ag}{n:Ak}{tk:Ag}(I:Inv X pI U H s)(hN:X.N.Nodup)(hi:X.N[i]?=Ab n)(hn:s.heap.Ns X.env.locals m)(hn':h'.Ns X.env.locals (λx=>if x=n then v else m x))(hs:EF X.env.locals s.heap h'):Inv X pI (U.set i Af) H {s with heap:=h',toks:=tk}:=by
 obtain⟨m0,hn0,hl⟩:=I.loc;have em:m0=m:=by
  obtain⟨o,es,ep,h1,h2,_,h3⟩:=hn0;obtain⟨o',es',ep',h1',h2',_,h3'⟩:=hn;rw[h1]at h1';cases h1';rw[h2]at h2';cases h2'
  funext y
  rw[<-h3,<-h3']
 subst em;obtain⟨oL,_,_,hoL,_⟩:=id hn;have lt:∀ b o,X.s₀.heap.get? b=Ab o->b≠X.env.locals:=λb o q=>A4 (AN (AB q) I.ok.above)
 refine⟨I.ok,I.os,I.bare,⟨λb o q n hb hx=>?_,λb o q n hb hx=>?_,I.base.free,λb o q hx=>?_,I.base.tups,I.base.frzs,I.base.tbls⟩,⟨_,hn',λj y v' e1 e2 e3=>?_⟩,λy c q=>?_,I.free,I.freeC,λp hp=>?_,λb ob q=>?_,by rw[Bp];exact I.len⟩
 .exact(hs.2 b (lt b o q)).trans (I.base.keep b o q n hb hx)
 .obtain⟨sl,e1⟩:=I.base.slot b o q n hb hx;exact⟨sl,(hs.2 b (lt b o q)).trans e1⟩
 .obtain⟨o',e1⟩:=I.base.there b o q hx;exact⟨o',(hs.2 b (lt b o q)).trans e1⟩
 .by_cases hj:i=j
  .subst hj;have:=Hm e2;cases this
  .rw[CI hj]at e2;obtain⟨u',r',q⟩:=hl j y v' e1 e2 e3;refine⟨u',r',?_⟩;rcases q with ⟨k,e⟩|⟨k,c,e,z⟩
   .refine .inl ⟨k,?_⟩;have:y≠n:=λe=>hj (Qr hN hi (e ▸ e1))
    simp[this,e]
   .exact .inr ⟨k,c,e,z.sameBut hs (I.cne y c e)⟩
 .obtain⟨w',z⟩:=I.cell y c q;exact⟨w',z.sameBut hs (I.cne y c q)⟩
 .obtain⟨q,n,ne,nf,d⟩:=I.pin p hp;exact⟨(hs.2 p.1 ne).trans q,n,ne,nf,d⟩
 .refine(I.hok b ob q).stay (λc w' hc z=>(hs.2 c ?_).trans z) (λ_ q=>q) λ_ _ q=>q
  rintro rfl;have hfree:=I.free;rcases hc with z|hc
  .rw[<-z,hfree]at q;cases q
  .rw[hfree]at hc;cases hc
end
noncomputable def Cx.hot(X:Cx)(e:Al):Cx:={X with A:=X.A.mark (Ab (.ref e)),calm:=Ad,xe:=λ_ _=>Bl}
section
variable{X:Cx}{pI:Pn}{U:L2.St}{H:Hp}{s:Ar}{e:Al}
theorem zX(ok:X.Ok):(Cx.hot X e).Ok:=⟨ok.mod,ok.kind,ok.glob,ok.blt,ok.above,ok.inj,ok.has,ok.cab,λz=>(nomatch z),ok.frames,ok.stk,ok.exf,ok.bs,ok.bsz,ok.noex,ok.exfs,ok.funs,ok.frf⟩
theorem Wc(I:Inv X pI U H s)(e:Al):Inv (Cx.hot X e) pI U H s:=⟨zX I.ok,I.os,I.bare,I.base,I.loc,I.cell,I.free,I.freeC,I.pin,I.hok,I.len⟩
theorem lF(ok:X.Ok)(I:Inv (Cx.hot X e) pI U H s):Inv X pI U H s:=⟨ok,I.os,I.bare,I.base,I.loc,I.cell,I.free,I.freeC,I.pin,I.hok,I.len⟩
theorem Sx.unset(x:Sx K CL Fz B Y U H)(i:Ag):Sx K CL Fz B (Y.set i Af) (U.set i Af) H:=by
 have get:∀(j:Ag)(y:D×Aj),(Y.set i Af)[j]?=Ab (Ab y)->i≠j/\Y[j]?=Ab (Ab y):=λj y h=>by
  by_cases hj:i=j
  .subst hj;have:=Hm h;cases this
  .exact⟨hj,by rw[CI hj]at h;exact h⟩
 have sub:∀ a,B6 B (Y.set i Af) (U.set i Af) a->B6 B Y U a:=λa h=>by
  rcases h with h|⟨j,d,h1,h2⟩
  .exact .inl h
  .obtain⟨hj,h1⟩:=get j _ h1;rw[CI hj]at h2;exact .inr ⟨j,d,h1,h2⟩
 refine⟨⟨λj d h=>?_,λj d h=>?_,by rw[Bp,Bp];exact x.len⟩,λa h=>x.aok a (sub a h),λj d a h1 h2=>?_,λj k d f a h1 h2 h3 h4=>?_,x.same,by rw[Bp,Bp];exact x.len⟩
 .obtain⟨hj,h1⟩:=get j _ h;obtain⟨v,q,r⟩:=x.good.sh j d h1;exact⟨v,by rw[CI hj];exact q,Rep.sub sub _ r⟩
 .obtain⟨hj,h1⟩:=get j _ h;obtain⟨a,xs,ds,q,z,ha,hh,rr⟩:=x.good.ow j d h1;exact⟨a,xs,ds,by rw[CI hj];exact q,z,.inr ⟨j,d,h,by rw[CI hj];exact q⟩,hh,Reps.sub sub _ rr⟩
 .obtain⟨hj,h1⟩:=get j _ h1;rw[CI hj]at h2;exact x.new j d a h1 h2
 .obtain⟨hj,h1⟩:=get j _ h1;obtain⟨hk,h2⟩:=get k _ h2;rw[CI hj]at h3;rw[CI hk]at h4;exact x.dis j k d f a h1 h2 h3 h4
end
def Jy(e C:Al)(dx:Ap Al)(h:AC):Prop:=∃ o,h.get? e=Ab o/\o.cls=.ref C/\o.dict=dx/\∃ us,o.data=.fields us
noncomputable def KQ(X:Cx)(CL:ClA)(pI:Pn)(U:L2.St)(H:Hp)(y:Ex)(Xw:Vq):Prop:=
 ∀ s' H' e T cls dx,Inv X pI U H' s'->AH H H'->Fly e T cls dx s'.heap->H' e=Af->H' T=Af->HL X pI e->HL X pI T->GQ X.K CL H' cls dx y->Xw (.ref e) s'
def STB(X:Cx)(CL:ClA)(body:Ac AY)(f:Rho->O):Prop:=∀ Fz B pI s U H D Y (Xw:Vq),F4 (model X.prog X.w) X.A X.env Xw->Inv X pI U H s->Sx X.K CL Fz B Y U H ->
  (match f Y with
   |.exn y Y'=>Y'=Y->KQ X CL pI U H y Xw
   | o=>Cj X.K CL Fz B (λ_ _=>Bl) o D)->(∀ y Y',f Y=.exn y Y'->Y'=Y)->Au (model X.prog X.w) X.A (execs body X.env) (SP X pI D) Xw s
noncomputable def SG(up:Ag->Ac Ag)(c i:Ag)(o:O)(fh:Rho->O):O:=match o with
  | .exn y Y'=>if (up y.c).contains c=Aa then (match fh (Y'.set i (Ab (.exc y.c y.fs,Ad))) with
      |.next Y''=>.next (Y''.set i Af)
      |.ret d f=>.ret d f
      | _=>.bad) else .bad
  |o=>o
theorem tD{i:Ag}{g n:Ak}{hp:AO}{b:Aj}{rest:Ac FC}{s1:Ar}{Y':Rho}{D:Ends}{e T1:Al}{y:Ex}(hx:X.ex=[])(hN:X.N.Nodup)(hi:X.N[i]?=Ab n)(hl:X.env.scope.names.lookup n=Ab .local)(hg:Gl X g)(hm:X.mg g=Ab (.ref C'))(hdb:(g==("__debug__" : Ak))=Ad)(xc:XcOk X.K C')(hsu:BZ X.K (.ref C) (.ref C')=Ab b)(hh:∀ e,SSs (Cx.hot X e) CL (λ_ _=>Bl) (h0::hs) fh)(I1:Inv X pI U H' s1)(fl1:Fly e T1 (.ref C) dx s1.heap)(ae:HL X pI e)(aT1:HL X pI T1)(he:H' e=Af)(HT1:H' T1=Af)(gx:Sx X.K CL Fz B Y' U H')(hcl:CL y.c=Ab C)(xr:GQ X.K CL H' (.ref C) dx y)(p2:b=Aa->Cj X.K CL Fz B W (hdO i y Y' fh) D)(p3:b=Ad->Au (model X.prog X.w) X.A (Kq (.ref e) X.env rest) (SP X pI D) X.xe s1):Au (model X.prog X.w) X.A (Kq (.ref e) X.env (.ExceptHandler (Ab (.Name g p1)) (Ab n) (h0::hs) hp::rest)) (SP X pI D) X.xe s1:=by
 obtain⟨Cx0,hcl0,ecl,hfs⟩:=xr (B6 B Y' U) gx.aok;have xat:∀{h:AC}{T:Al},Fly e T (.ref C) dx h->XAt e C h:=λ{h T} z=>by
  obtain⟨oe,_,_,_,_,z1,z2,_⟩:=z;exact⟨oe,z1,z2⟩
 have xad:∀{h:AC}{T:Al},Fly e T (.ref C) dx h->Jy e C dx h:=λ{h T} z=>by
  obtain⟨oe,vs,_,_,_,z1,z2,z3,_,z4,_⟩:=z;exact⟨oe,z1,z2,z3,vs,z4⟩
 have two:∀{T:Al}{Z_:Al->Prop},Z_ e->Z_ T->∀ b∈[e,T],Z_ b:=λ{T Z_} h1 h2 b hb=>by
  rcases At.mp hb with rfl|hb
  .exact h1
  .rw[BN.mp hb];exact h2
 refine wpAny_handleBy_cons (codeAny_handlers_test (KG (X:=Cx.hot X e) (Wc I1 e) hg hm ?_ hdb)) (by intro q;cases q)
 refine kO (K:=X.K) I1.kIn (xat fl1) xc hsu ?_;cases b with
 |false=>exact p3 rfl
 |true=>
 have p2:=p2 rfl;refine codeAny_handlers_suite_as ?_;refine iN (base:=X.base) (l:=X.stack) I1.stack fl1 λh3 T3 fl3 sh3 hT3=>?_
 have I3:=Uw I1 hx sh3 (two ae aT1) (two (Z_:=λb=>H' b=Af) he HT1)
 obtain⟨oe,oeg,oec⟩:=xad fl3;have I3':=iH (φ:=Jy e C dx) I3 hx ae he ⟨oe,oeg⟩ ⟨oe,oeg,oec⟩ λh1 h2 ⟨o,q1,q2⟩ k=>⟨o,k o q1,q2⟩
 have sm3:AH H' (upd H' e (.ext (Jy e C dx))):=λb o q=>by rw[BQ λz=>by rw[z,he]at q;cases q];exact q
 refine QB (X:=Cx.hot X e) (i:=i) (v:=.ref e) (Wc I3' e) hN hi (.inl hl) rfl (λs4 I4=>?_) (.inr hl)
 have x3:=gx.grow sm3;have nA:¬ B6 B Y' U e:=λz=>by
  obtain⟨xs,q⟩:=x3.aok e z;rw[F7]at q;cases q
 have rp:Rep X.K CL (upd H' e (.ext (Jy e C dx))) (B6 B Y' U) (.ref e) (.exc y.c y.fs):=by
  refine⟨e,C,Jy e C dx,rfl,nA,hcl,F7,λh ⟨o,z1,z2,_⟩=>⟨o,z1,z2⟩,?_⟩
  rcases hfs with z|⟨d,vs,ed,nd,hd,rf⟩
  .exact .inl z
  .exact .inr ⟨d,vs,nd,sm3 _ _ hd,Repf.kp (Kp.of sm3) _ rf,λh ⟨o,z1,_,z3,z4⟩=>⟨o,z1,z3.trans ed,z4⟩⟩
 have x4:=x3.set i rp;have fin:∀{s5:Ar}{U5:L2.St}{H5:Hp}{Q:Gp->Ar->Prop},Inv (Cx.hot X e) pI U5 H5 s5->(∀ s6,Inv X pI (U5.set i Af) H5 s6->Q () s6)->Au (model X.prog X.w) X.A (do bindName X.env n .none;unbindBehindTheSuite X.env n hp) Q X.xe s5:=λ{s5 U5 H5 Q} I5 k=>by
  have I5':=lF I1.ok I5;obtain⟨m,hn,_⟩:=id I5'.loc;refine wpAny_nameGoes_keeps hl hn (by rw[I1.ok.kind];rfl) λh6 v6 hn6 sb6=>?_
  exact k _ (iG I5' hN hi hn hn6 sb6)
 refine Bu (hh e Fz B pI s4 _ _ {nx:=λU5 H5=>D.nx (U5.set i Af) H5,rt:=D.rt} I4 ⟨_,x4,?_⟩) (λf s5 hf=>?_) λ_ _ z=>BB z
 .unfold hdO at p2;cases ef:fh (Y'.set i (Ab (.exc y.c y.fs,Ad))) with
  |next Y''=>rw[ef]at p2;exact λU5 H5 x5=>p2 _ _ (x5.unset i)
  |ret d b=>rw[ef]at p2;exact p2
  |brk _=>rw[ef]at p2;exact p2.elim
  |cont _=>rw[ef]at p2;exact p2.elim
  |exn _ _=>rw[ef]at p2;exact p2.elim
  |bad=>rw[ef]at p2;exact p2.elim
 .cases f with
  |next=>
   obtain⟨U5,H5,I5,q⟩:=hf;exact fin I5 λs6 I6=>⟨_,H5,I6,q⟩
  |ret u=>
   obtain⟨v,U5,H5,I5,r,q⟩:=hf;exact fin I5 λs6 I6=>⟨v,_,H5,I6,r,q⟩
  |brk=>obtain⟨_,_,_,q⟩:=hf;exact BB q
  |cont=>obtain⟨_,_,_,q⟩:=hf;exact BB q
def Tq(X:Cx)(CL:ClA)(up:Ag->Ac Ag)(g:Ak)(c:Ag):Prop:=∃ C',Gl X g/\X.mg g=Ab (.ref C')/\(g==("__debug__" : Ak))=Ad/\XcOk X.K C'/\∀ c' C,CL c'=Ab C->BZ X.K (.ref C) (.ref C')=Ab ((up c').contains c)
theorem jB{y:Ex}{Q:Flow->Ar->Prop}{hd:Ac FC}(hx:X.ex=[])(hst:X.stack=X.env::X.outer)(hfm:X.env.frame=Ab X.env.locals)(k:∀ e T1 cls dx H' s1,Inv X pI U H' s1->AH H H'->Fly e T1 cls dx s1.heap->HL X pI e->HL X pI T1->H' e=Af->H' T1=Af->GQ X.K CL H' cls dx y->Au (model X.prog X.w) X.A (Kq (.ref e) X.env hd) Q X.xe s1):KQ X CL pI U H y (λev s1=>Au (model X.prog X.w) X.A (HB ev X.env) (λ_ s2=>Au (model X.prog X.w) X.A (ID ev Af) (λ_ s3=>Au (model X.prog X.w) X.A (Kq ev X.env hd) Q X.xe s3) X.xe s2) X.xe s1):=by
 intro s' H' e T cls dx I' sm fl he hT ae aT xr;have two:∀{T:Al}{Z_:Al->Prop},Z_ e->Z_ T->∀ b∈[e,T],Z_ b:=λ{T Z_} h1 h2 b hb=>by
  rcases At.mp hb with rfl|hb
  .exact h1
  .rw[BN.mp hb];exact h2
 have hfr:X.A.frames=Ab (X.env::X.outer):=by rw[<-hst];exact I'.ok.frames
 refine lK (base:=X.base) hfr hfm (by rw[<-hst];exact I'.stack) fl λh1 T1 fl1 sh1 hT1=>?_
 rw[<-hst]at sh1;exact k e T1 cls dx H' _ (Uw I' hx sh1 (two ae aT) (two (Z_:=λb=>H' b=Af) he hT)) sm fl1 ae (hT1.elim (λz=>z ▸ aT) λz=>Mp I' hx z) he (hT1.elim (λz=>z ▸ hT) λz=>Lv I'.hok z) xr
theorem vV{c i:Ag}{g n:Ak}{body:Ac AY}{hp:AO}{fb:Rho->O}(hx:X.ex=[])(hst:X.stack=X.env::X.outer)(hfm:X.env.frame=Ab X.env.locals)(hN:X.N.Nodup)(hi:X.N[i]?=Ab n)(hl:X.env.scope.names.lookup n=Ab .local)(h1:Tq X CL up g c)(hb:STB X CL body fb)(hρ:∀ Y y Y',fb Y=.exn y Y'->Y'=Y)(hh:∀ e,SSs (Cx.hot X e) CL (λ_ _=>Bl) (h0::hs) fh):SS X CL W (.Try body [.ExceptHandler (Ab (.Name g p1)) (Ab n) (h0::hs) hp] [] [] pos) (λY=>SG up c i (fb Y) fh):=λFz B pI s U H D I ⟨Y,x,p⟩=>by
 refine wpAny_Try_except (Bu (hb Fz B pI s U H D Y _ PassesOwn.looking I x ?_ (hρ Y)) (λf s1 hf=>?_) λ_ _ z=>z)
 .dsimp only at p;cases eb:fb Y with
  |exn y Y'=>
   rw[eb]at p;intro e0;subst e0;have p2:Cj X.K CL Fz B W (if (up y.c).contains c=Aa then hdO i y Y' fh else .bad) D:=p
   refine jB hx hst hfm λe T1 cls dx H' s1 I1 sm fl1 ae aT1 he HT1 xr=>?_
   have gx:=x.grow sm;obtain⟨C,hcl,rfl,_⟩:=xr (B6 B Y' U) gx.aok;obtain⟨C',hg,hm,hdb,xc,hup⟩:=h1;refine tD (W:=W) hx hN hi hl hg hm hdb xc (hup y.c C hcl) hh I1 fl1 ae aT1 he HT1 gx hcl xr (λhc=>?_) (λhc=>?_)
   .rw[AI hc]at p2;exact p2
   .rw[AT (by rw[hc];exact AD)]at p2;exact p2.elim
  |next Y'=>rw[eb]at p;exact p
  |ret d b=>rw[eb]at p;exact p
  |brk Y'=>rw[eb]at p;exact p
  |cont Y'=>rw[eb]at p;exact p
  |bad=>rw[eb]at p;exact p.elim
 .cases f with
  |next=>exact FY hf
  |ret u=>exact hf
  |brk=>exact hf
  |cont=>exact hf
theorem UL{f:Al}{sp:Sp}{E:XK}{e:Ao}{es:Ac Ao}{t:TA}(F:FnOk X.prog X.w X.K X.mg X.base CX k f fd ps sp)(hr:Room k X.A)(hg:Gl X x)(hm:X.mg x=Ab (.ref f))(hk:CT X.K (.ref f)=Aa)(hb:G9 X.K fd ps [])(hx:∀ pI H s e s',Inv X pI U0 H s->CX X.stack H s E e s'->X.xe e s')(ha:PA X (e::es) t)(hdb:(x==("__debug__" : Ak))=Ad)(he:Ax (e::es) X.env=(Ad,eval e X.env)::Ax es X.env)(hpl:(Cd pos (Ax es X.env)).any (·.1)=Ad):PE X (.Call (.Name x p) (e::es) [] pos) (λU H Q=>U=U0/\t U H λvs H1=>sp vs H1 Q E):=by
 intro pI s U H Q I ⟨e0,h⟩;subst e0;refine F5 (KG I hg hm ?_ hdb);refine Z_4 (h₀:=X.base) I.ok.mod.kin hk (thn (ha pos pI s U H _ I h) λus s1 ⟨vs,H1,I1,r,q⟩=>⟨I1.kIn,?_⟩) he hpl
 have hl:us.length=ps.length:=by rw[<-r.length];exact F.len _ _ _ _ q
 have hb':Hk s1 fd ⟨us,[]⟩ (ps.zip us):=by
  have:=hb s1 us I1.kIn (by rw[C8];exact hl)
  rw[C8]at this;exact this
 refine HV (G3 (F.run X.A X.stack s1 H1 ⟨us,[]⟩ us vs Q E hr I1.env0 hb' r q) λr s' hq=>?_)
 cases r with
 |error e=>exact hx pI H1 s1 e s' I1 hq
 |ok fl=>
  cases fl with
  |ret u=>exact I1.after hq
  |next=>exact BB hq
  |brk=>exact BB hq
  |cont=>exact BB hq
def R5(K:Fg)(CL:ClA)(Rp:Hp->V->D->Prop)(E0:XK)(H:Hp)(r:R D)(Q:VK):Prop:=match r with
  |.ok d=>∀ v H',AH H H'->Rp H' v d->Q v H'
  |.exn y=>∀ cls dx H',AH H H'->GQ K CL H' cls dx y->E0 cls dx H'
  |.bad=>Bl
theorem NB{k n:Ag}{f:Al}{F:Ac D->R D}{e:Ao}{es:Ac Ao}{fs ft:Rho->R (Ac D)}{sh:Rho->Aj}{E0:XK}(G:FnOk X.prog X.w X.K X.mg X.base CX k f fd ps (spD X.K CL n fr F))(hr:Room k X.A)(hg:Gl X x)(hm:X.mg x=Ab (.ref f))(hk:CT X.K (.ref f)=Aa)(hb:G9 X.K fd ps [])(hx:∀ pI H s e s',Inv X pI U0 H s->CX X.stack H s E0 e s'->X.xe e s')(ha:SA X CL (λ_ _=>Bl) (e::es) fs)(hat:SAT X CL (λ_ _=>Bl) (e::es) ft)(hst:∀ Y,sh Y=Aa->ft Y=fs Y)(hn:∀ Y ds,ft Y=.ok ds->ds.length=n)(hnx:∀ Y y,ft Y≠.exn y)(hdb:(x==("__debug__" : Ak))=Ad)(he:Ax (e::es) X.env=(Ad,eval e X.env)::Ax es X.env)(hpl:∀ pos,(Cd pos (Ax es X.env)).any (·.1)=Ad)(A:Al->Prop):PE X (.Call (.Name x p) (e::es) [] pos) (λU H Q=>U=U0/\AOk H A/\∃ Y,Good X.K CL A Y U H/\R5 X.K CL (EI X.K CL fr H A) E0 H ((ft Y).bind λds=>(F ds).bind λd=>if sh Y=Aa then .ok d else if Fw fr d=Aa then .ok d else .bad) Q):=λpI s U H Q I ⟨e0,hA,Y,gd,q⟩=>by
 by_cases hs:sh Y=Aa
 .rw[hst Y hs]at q;refine UL G hr hg hm hk hb hx (ha A) hdb he (hpl _) pI s U H Q I ⟨e0,hA,Y,gd,?_⟩;cases e1:fs Y with
  |bad=>rw[e1]at q;exact q
  |exn y=>exact absurd (by rw[hst Y hs];exact e1) (hnx Y y)
  |ok ds=>
   rw[e1]at q;intro vs H1 s1 r1;refine⟨ds,A,by rw[r1.length];exact hn Y ds (by rw[hst Y hs];exact e1),hA.same s1,r1,?_⟩
   have q':R5 X.K CL (EI X.K CL fr H A) E0 H ((F ds).bind λd=>if sh Y=Aa then .ok d else if Fw fr d=Aa then .ok d else .bad) Q:=q
   cases e2:F ds with
   |ok d=>
    rw[e2,R.bind_ok,AI hs]at q';exact λv H2 s2 r2=>q' v H2 (s1.trans s2) ⟨r2.1,λz ds' e'=>let ⟨a,xs,z1,z2,z3⟩:=r2.2 z ds' e';⟨a,xs,z1,s1.free z2,z3⟩⟩
   |exn y=>
    rw[e2]at q';exact λcls dx H2 s2 xr=>q' cls dx H2 (s1.trans s2) xr
   |bad=>rw[e2]at q';exact q'.elim
 .refine UL G hr hg hm hk hb hx (hat A) hdb he (hpl _) pI s U H Q I ⟨e0,hA,Y,gd,?_⟩;cases e1:ft Y with
  |bad=>rw[e1]at q;exact q
  |exn y=>exact absurd e1 (hnx Y y)
  |ok ds=>
   rw[e1]at q;intro vs H1 s1 r1;refine⟨ds,A0,by rw[r1.plain.length];exact hn Y ds e1,λ_ z=>z.elim,r1.plain,?_⟩
   have q':R5 X.K CL (EI X.K CL fr H A) E0 H ((F ds).bind λd=>if sh Y=Aa then .ok d else if Fw fr d=Aa then .ok d else .bad) Q:=q
   cases e2:F ds with
   |ok d=>
    rw[e2,R.bind_ok,AT hs]at q';split at q'
    .rename_i hc;exact λv H2 s2 r2=>q' v H2 (s1.trans s2) (Ww hA (s1.trans s2) hc ⟨r2.1,λz ds' e'=>let ⟨a,xs,z1,z2,z3⟩:=r2.2 z ds' e';⟨a,xs,z1,s1.free z2,z3⟩⟩)
    .exact q'.elim
   |exn y=>
    rw[e2]at q';exact λcls dx H2 s2 xr=>q' cls dx H2 (s1.trans s2) xr
   |bad=>rw[e2]at q';exact q'.elim
noncomputable def Cx.pw(X:Cx)(pI:Pn)(Xw:Vq):Cx:={X with pn:=X.pn++pI,xe:=Xw}
section
variable{X:Cx}{pI pins':Pn}{U:L2.St}{H:Hp}{s:Ar}{Xw:Vq}
theorem mf(ok:X.Ok):(Cx.pw X pI Xw).Ok:=⟨ok.mod,ok.kind,ok.glob,ok.blt,ok.above,ok.inj,ok.has,ok.cab,ok.hd,ok.frames,ok.stk,ok.exf,ok.bs,ok.bsz,ok.noex,ok.exfs,ok.funs,ok.frf⟩
theorem ML(I:Inv X pI U H s)(Xw:Vq):Inv (Cx.pw X pI Xw) [] U H s:=⟨mf I.ok,I.os,I.bare,I.base,I.loc,I.cell,I.free,I.freeC,λp hp=>I.pin p (by
 rcases GW.mp hp with z|z
 .exact z
 .exact absurd z (by simp)),I.hok,I.len⟩
theorem Lu(ok:X.Ok)(I:Inv (Cx.pw X pI Xw) pins' U H s):Inv X pI U H s:=⟨ok,I.os,I.bare,I.base,I.loc,I.cell,I.free,I.freeC,λp hp=>I.pin p (Fp _ hp),I.hok,I.len⟩
theorem NN(ok:X.Ok){D:Ends}{f:Flow}{s':Ar}(h:SP (Cx.pw X pI Xw) pins' D f s'):SP X pI D f s':=by
 cases f with
 |next=>obtain⟨U',H',I,q⟩:=h;exact⟨U',H',Lu ok I,q⟩
 |brk=>obtain⟨U',H',I,q⟩:=h;exact⟨U',H',Lu ok I,q⟩
 |cont=>obtain⟨U',H',I,q⟩:=h;exact⟨U',H',Lu ok I,q⟩
 |ret u=>obtain⟨v,U',H',I,r,q⟩:=h;exact⟨v,U',H',Lu ok I,r,q⟩
end
section
variable{X:Cx}{CL:ClA}{k n:Ag}{fr:Aj}{f:Al}{fd:Cf}{ps:Ac Ak}{F:Ac D->R D}{x:Ak}{p pos pos2:AO}{e:Ao}{es:Ac Ao}{fs ft:Rho->R (Ac D)}{sh:Rho->Aj}
theorem U_4{y:Ex}(hx:X.ex=[])(ok:X.Ok)(q:KQ X CL pI U H y Xw):∀ pins' H1 s1 e s',Inv (Cx.pw X pI Xw) pins' U H1 s1->CXR X.prog X.w (Cx.pw X pI Xw).stack H1 s1 (λcls dx H'=>GQ X.K CL H' cls dx y/\AH H H') e s'->(Cx.pw X pI Xw).xe e s':=by
 intro pins' H1 s1 ev s' J h;obtain⟨e,T,cls,dx,H',rfl,os,bare,un,hok,fl,he,hT,ne,nT,xr,sm⟩:=h;have J':=Lu ok J;have J2:=J'.call' (s':=s') (ch:=[]) os un hok bare (λb z=>absurd z (by simp))
 exact q s' H' e T cls dx J2 sm fl he hT (Mp J' hx ne) (Mp J' hx nT) xr
theorem U_5:∀ pins' H1 s1 e s',Inv (Cx.pw X pI Xw) pins' U H1 s1->CXR X.prog X.w (Cx.pw X pI Xw).stack H1 s1 (λ_ _ _=>Bl) e s'->(Cx.pw X pI Xw).xe e s':=by
 intro pins' H1 s1 ev s' J h;obtain⟨e,T,cls,dx,H',rfl,os,bare,un,hok,fl,he,hT,ne,nT,w⟩:=h;exact w.elim
variable(hx0:X.ex=[])(G:FnOk X.prog X.w X.K X.mg X.base (CXR X.prog X.w) k f fd ps (spD X.K CL n fr F))(hr:Room k X.A)(hg:Gl X x)(hm:X.mg x=Ab (.ref f))
    (hk:CT X.K (.ref f)=Aa) (hb:G9 X.K fd ps []) (hst:∀ Y,sh Y=Aa->ft Y=fs Y) (hn:∀ Y ds,ft Y=.ok ds->ds.length=n) (hnx:∀ Y y,ft Y≠.exn y)
    (hdb:(x==("__debug__" : Ak))=Ad) (he:Ax (e::es) X.env=(Ad,eval e X.env)::Ax es X.env) (hpl:∀ pos,(Cd pos (Ax es X.env)).any (·.1)=Ad)
    (ha:∀ pI Xw,F4 (model X.prog X.w) X.A X.env Xw->SA (Cx.pw X pI Xw) CL (λ_ _=>Bl) (e::es) fs/\SAT (Cx.pw X pI Xw) CL (λ_ _=>Bl) (e::es) ft)
include hx0 G hr hg hm hk hb hst hn hnx hdb he hpl ha
theorem jF(hs:Dd (.Call (.Name x p) (e::es) [] pos) Af pos2.line X.env=pure Ad):STB X CL [.Expr (.Call (.Name x p) (e::es) [] pos) pos2] (λY=>O.of Y ((ft Y).bind λds=>(F ds).bind λd=>if sh Y=Aa then .ok d else if Fw fr d=Aa then .ok d else .bad) λ_=>.next Y):=by
 intro Fz B pI s U H D Y Xw own I sx q _;obtain⟨ha1,ha2⟩:=ha pI Xw own;dsimp only at q;cases er:(ft Y).bind λds=>(F ds).bind λd=>if sh Y=Aa then .ok d else if Fw fr d=Aa then .ok d else .bad with
 |bad=>rw[er]at q;exact q.elim
 |exn y=>
  rw[er]at q;have key:=NB (X:=Cx.pw X pI Xw) (p:=p) (pos:=pos) (U0:=U) (fr:=fr) (F:=F) (n:=n) (sh:=sh) G hr hg hm hk hb (U_4 hx0 I.ok (q rfl)) ha1 ha2 hst hn hnx hdb he hpl (B6 B Y U);refine Bu (MC (KD (pos:=pos2) key hs) [] s U H D (ML I Xw) ⟨rfl,sx.aok,Y,sx.good,?_⟩) (λ_ _ z=>NN I.ok z) λ_ _ z=>z
  rw[er];exact λcls dx H' sm xr=>⟨xr,sm⟩
 |ok d=>
  rw[er]at q;have key:=NB (X:=Cx.pw X pI Xw) (p:=p) (pos:=pos) (U0:=U) (fr:=fr) (F:=F) (n:=n) (sh:=sh) (E0:=λ_ _ _=>Bl) G hr hg hm hk hb U_5 ha1 ha2 hst hn hnx hdb he hpl (B6 B Y U)
  refine Bu (MC (KD (pos:=pos2) key hs) [] s U H D (ML I Xw) ⟨rfl,sx.aok,Y,sx.good,?_⟩) (λ_ _ z=>NN I.ok z) λ_ _ z=>z
  rw[er];exact λv H' sm r=>q U H' (sx.grow sm)
theorem nO{i:Ag}{m:Ak}(hN:X.N.Nodup)(hi:X.N[i]?=Ab m)(hl:Loc X.env.scope m)(hf:X.fn m=Aa\/X.env.scope.names.lookup m=Ab .local)(hs:Dd (.Call (.Name x p) (e::es) [] pos) (Ab (.Name m pos')) pos2.line X.env=pure Ad):STB X CL [.Assign [.Name m pos'] (.Call (.Name x p) (e::es) [] pos) pos2] (λY=>O.of Y ((ft Y).bind λds=>(F ds).bind λd=>if sh Y=Aa then .ok d else if Fw fr d=Aa then .ok d else .bad) λd=>.next (Y.set i (Ab (d,Ad)))):=by
 intro Fz B pI s U H D Y Xw own I sx q _;obtain⟨ha1,ha2⟩:=ha pI Xw own;dsimp only at q;cases er:(ft Y).bind λds=>(F ds).bind λd=>if sh Y=Aa then .ok d else if Fw fr d=Aa then .ok d else .bad with
 |bad=>rw[er]at q;exact q.elim
 |exn y=>
  rw[er]at q;have key:=NB (X:=Cx.pw X pI Xw) (p:=p) (pos:=pos) (U0:=U) (fr:=fr) (F:=F) (n:=n) (sh:=sh) G hr hg hm hk hb (U_4 hx0 I.ok (q rfl)) ha1 ha2 hst hn hnx hdb he hpl (B6 B Y U);refine Bu (MC (N5 (X:=Cx.pw X pI Xw) (i:=i) (pos:=pos2) hN hi hl key hs hf) [] s U H D (ML I Xw) ⟨rfl,sx.aok,Y,sx.good,?_⟩) (λ_ _ z=>NN I.ok z) λ_ _ z=>z
  rw[er];exact λcls dx H' sm xr=>⟨xr,sm⟩
 |ok d=>
  rw[er]at q;have key:=NB (X:=Cx.pw X pI Xw) (p:=p) (pos:=pos) (U0:=U) (fr:=fr) (F:=F) (n:=n) (sh:=sh) (E0:=λ_ _ _=>Bl) G hr hg hm hk hb U_5 ha1 ha2 hst hn hnx hdb he hpl (B6 B Y U)
  refine Bu (MC (N5 (X:=Cx.pw X pI Xw) (i:=i) (pos:=pos2) hN hi hl key hs hf) [] s U H D (ML I Xw) ⟨rfl,sx.aok,Y,sx.good,?_⟩) (λ_ _ z=>NN I.ok z) λ_ _ z=>z
  rw[er];exact λv H' sm r=>q _ H' ((sx.grow sm).set i r.1)
end
section
variable{X:Cx}{CL:ClA}{W:XW}
theorem jG{e:Ao}{es:Ac Ao}(hcalm:X.calm=Aa)(rz:MY X CL W)(hg:Gl X g)(hm:X.mg g=Ab (.ref C))(hdb:(g==("__debug__" : Ak))=Ad)(xc:D4 X.K C Af=Aa)(hcl:CL c=Ab C)(ha:SA X CL W (e::es) fs)(hxn:∀ ds,xn c ds=.bad\/xn c ds=.ok ⟨c,[]⟩)(he:Ax (e::es) X.env=(Ad,eval e X.env)::Ax es X.env)(hpl:∀ pos,(Cd pos (Ax es X.env)).any (·.1)=Ad)(hz:∀ Y ds,fs Y=.ok ds->ds.length<=100000):SS X CL W (.Raise (Ab (.Call (.Name g np) (e::es) [] cpos)) Af pos) (λY=>O.of Y (noX (fs Y)) λxs=>O.of Y (xn c xs) λx=>.exn x Y):=λFz B pI s U H D I ⟨Y,x,p⟩=>by
 dsimp only at p;cases e1:fs Y with
 |bad=>rw[e1]at p;exact p.elim
 |exn y=>rw[e1]at p;exact p.elim
 |ok ds=>
  rw[e1]at p;have p2:Cj X.K CL Fz B W (O.of Y (xn c ds) λx=>.exn x Y) D:=p
  rcases hxn ds with e2|e2
  .rw[e2]at p2;exact p2.elim
  .rw[e2]at p2;have p3:∀ H,(∀ b o,Fz b o->H b=Ab o)->W ⟨c,[]⟩ H:=p2;obtain⟨bm,N,nm,qn,bs,hd,sn,sub,ab,col,dd,k0,k1,k2,k3,k5,mN,hob,hni,hbase⟩:=Qx I.kIn xc;refine wpAny_Raise_call_subT (bmB:=veB) (nm:=nm) (q:=qn) (C:=C) (N:=N) (bs:=bs) (bm:=bm) (hdct:=hd) (sn:=sn) (sub:=sub) (ab:=ab) (col:=col) (dd:=dd) (k0:=k0) (k1:=k1) (k2:=k2) (k3:=k3) (k5:=k5) (mN:=mN) FD hbase (I.ok.hd hcalm) (by rw[he];show (Ad||(Cd cpos (Ax es X.env)).any (·.1))=Ad;rw[hpl];rfl) hni ?_
   refine KG I hg hm ⟨rfl,?_⟩ hdb;have q1:=ha (B6 B Y U) cpos pI s U H (λvs H1=>AH H H1/\vs.length=ds.length) I ⟨x.aok,Y,x.good,by rw[e1];exact λvs H1 s1 r1=>⟨s1,r1.length⟩⟩
   rw[he]at q1 ⊢;refine Fq (Bu q1 (λus s2 ⟨vs,H2,I2,r2,s2',hl⟩=>⟨rfl,?_⟩) λ_ _ z=>z)
   obtain⟨o1,o2,o3⟩:=hob _ I2.kIn;refine⟨?_,o1,o2,o3,λh' ev hmade=>?_⟩
   .rw[<-r2.length,hl,DA];have:=hz Y ds e1;omega
   .obtain⟨t,ge,_⟩:=hmade.there;have I3:Inv X pI U H2 {s2 with heap:=h'}:=I2.kept (t':=s2.toks) hmade.keeps
    exact rz pI U H2 _ ev C Af t ⟨c,[]⟩ I3 (λhx=>KA I2 hx hmade.new) (Lv I2.hok hmade.new) ge (λA _=>⟨C,hcl,rfl,.inl rfl⟩) (p3 H2 λb o z=>s2' _ _ (x.same b o z))
def MI(K:Fg)(CL:ClA)(up:Ag->Ac Ag)(c':Ag)(C':Al):Prop:=∀ c C,CL c=Ab C->Dk K (.ref C) (.ref C')=Ab ((up c).contains c')
theorem UB{s:Ar}{a C:Al}{cv:Ai}{b:Aj}{Q:VK}(I:Inv X pI U H s)(ha:H a=Ab (.ext φ))(hφ:∀ h,φ h->∃ o,h.get? a=Ab o/\o.cls=.ref C)(xc:XcOk X.K C)(e:Dk X.K (.ref C) cv=Ab b)(q:Q (.bl b) H):
  Au (model X.prog X.w) X.A (call (.builtin "isinstance") [.ref a,cv]) (EP X pI U Q) X.xe s:=by
 have p:XAt a C s.heap:=hφ _ (I.hok a _ ha).1;exact PySem.W.kia_one (UA xc) I.kIn p e (by intro z;cases z) λtk=>⟨.bl b,H,I.tok tk,rfl,q⟩
theorem Ui:∀(Cs:Ac Al){its:Ac Ai},Bo (Cs.map V.ref) its->its=Cs.map BO
 |[],_,rv=>by cases rv;rfl
 |c::cs,_,rv=>by
  cases rv with
  |cons h1 h2=>rw[Ui cs h2];cases h1;rfl
theorem sT{s:Ar}{a C tp:Al}{Cs:Ac Al}{b:Aj}{Q:VK}(I:Inv X pI U H s)(ha:H a=Ab (.ext φ))(hφ:∀ h,φ h->∃ o,h.get? a=Ab o/\o.cls=.ref C)(xc:XcOk X.K C)(ht:H tp=Ab (.tup (Cs.map V.ref)))(e:IZ X.K (.ref C) (Cs.map BO)=Ab b)(q:Q (.bl b) H):
  Au (model X.prog X.w) X.A (call (.builtin "isinstance") [.ref a,.ref tp]) (EP X pI U Q) X.xe s:=by
 have p:XAt a C s.heap:=hφ _ (I.hok a _ ha).1;obtain⟨_,its,rv,⟨o,ho,hc,n,hd⟩⟩:=I.hok tp _ ht;have ei:its=Cs.map BO:=Ui Cs rv;subst ei;obtain⟨cls,dd,dat,sl⟩:=o;have hc':cls=.type "tuple" := hc;have hd':dat=.seq (F2 (Cs.map BO)) n:=hd;subst hc' hd';exact PySem.W.kia_tup (UA xc) I.kIn p ho e (by intro z;cases z) λtk=>⟨.bl b,H,I.tok tk,rfl,q⟩
theorem Wa{K:Fg}{up:Ag->Ac Ag}{c:Ag}{C:Al}(h:CL c=Ab C):∀(cs:Ac (Ag×Al)),(∀ p∈cs,MI K CL up p.1 p.2)->IZ K (.ref C) ((cs.map λq:Ag×Al=>q.2).map BO)=Ab (cs.any λp=>(up c).contains p.1)
  |[],_=>rfl
  |p::cs,hk=>by
    have h1:=hk p AE c C h;have h2:=Wa h cs λq hq=>hk q (Ay _ hq)
    show (match Dk K (.ref C) (.ref p.2) with
      |some Aa=>Ab Aa
      |some Ad=>IZ K (.ref C) ((cs.map λq:Ag×Al=>q.2).map BO)
      | none=>Af)=_
    rw[h1,GF];cases (up c).contains p.1 with
    |true=>rfl
    |false=>rw[h2];rfl
theorem Qt{ks:Ac Ki}{Rp:Hp->V->D->Prop}{Q:VK}(hk:ks.all Er=Aa)(hne:ks≠[])(p:Bq Rp W H (Ep up ks d) Q):∃ c fs,d=.exc c fs/\Bq Rp W H (.ok (.bl (ks.any λk=>kiD up k d))) Q:=by
 have ha:ks.any Er=Aa:=by
  cases ks with
  |nil=>exact absurd rfl hne
  |cons k ks=>simp only[GE,An]at hk;simp[GF,hk.1]
 cases d with
 | exc c fs=>exact⟨c,fs,rfl,by
   have p':Bq Rp W H (if ks.all Er=Aa then .ok (.bl (ks.any λk=>kiD up k (.exc c fs))) else .bad) Q:=p
   rw[AI hk]at p';exact p'⟩
 |obj c fs=>exact BB p
 |dic _=>exact BB p
 |non=>simp only[Ep,ha,Fn]at p;exact BB p
 |bl _=>simp only[Ep,ha,Fn]at p;exact BB p
 |int _=>simp only[Ep,ha,Fn]at p;exact BB p
 |str _=>simp only[Ep,ha,Fn]at p;exact BB p
 |tup _=>simp only[Ep,ha,Fn]at p;exact BB p
 |lst _=>simp only[Ep,ha,Fn]at p;exact BB p
theorem QF{v:V}{fs:Ac (Ak×D)}(r:Dl K CL H A v (.exc c fs)):∃ a C φ,v=.ref a/\CL c=Ab C/\H a=Ab (.ext φ)/\∀ h,φ h->∃ o,h.get? a=Ab o/\o.cls=.ref C:=by
 rcases r with ⟨a,C,φ,e,_,hc,hH,hφ,_⟩|⟨a,xs,ds,_,z,_⟩
 .exact⟨a,C,φ,e,hc,hH,hφ⟩
 .cases z
variable{a:Ao}{fa:Rho->R D}{up:Ag->Ac Ag}{x:Ak}{p p2 pos:AO}
theorem vD{c':Ag}(hxc:∀ c C,CL c=Ab C->XcOk X.K C)(hg:Gl X "isinstance")(hm:X.mg "isinstance" = Af)(hg2:Gl X x)(hm2:X.mg x=Ab (.ref C'))(hkit:MI X.K CL up c' C')(hdb:(x==("__debug__" : Ak))=Ad)(ha:ST X CL W a fa)(he:Ax [a,.Name x p2] X.env=(Ad,eval a X.env)::Ax [.Name x p2] X.env):SE X CL W (.Call (.Name "isinstance" p) [a,.Name x p2] [] pos) (λY=>(fa Y).bind λx=>Ep up [.cls c'] x):=λA=>
 PE.weak (Mr (r:=λxs H Q=>∃ a C φ c,xs=[.ref a,.ref C']/\CL c=Ab C/\H a=Ab (.ext φ)/\(∀ h,φ h->∃ o,h.get? a=Ab o/\o.cls=.ref C)/\Q (.bl ((up c).contains c')) H) (λpI s U H xs us Q I r ⟨b,C,φ,c,e,hc,hH,hφ,q⟩=>by
   subst e;obtain⟨u,w',rfl,r1,r2⟩:=MR r;cases r1;cases r2;exact UB I hH hφ (hxc c C hc) (hkit c C hc) q)
  hg hm G0 (Ee (ha A) (Ee (Vt (v:=.ref C') hg2 hm2 rfl hdb) Gs rfl) he) (by decide) (by decide) he rfl) λU H Q ⟨hA,Y,g,q⟩=>⟨hA,Y,g,Bq.bind q λd v H1 _ s1 r1 p1=>by
   obtain⟨c,fs,rfl,p2⟩:=Qt (by rfl) (by simp) p1
   obtain⟨b,C,φ,rfl,hc,hH,hφ⟩:=QF r1;refine⟨b,C,φ,c,rfl,hc,hH,hφ,p2 _ H1 (AH.refl H1) ?_⟩;exact congrArg V.bl (EU _).symm⟩
theorem uY(hxc:∀ c C,CL c=Ab C->XcOk X.K C)(hg:Gl X "isinstance")(hm:X.mg "isinstance" = Af)(hg2:Gl X "ValueError")(hm2:X.mg "ValueError" = Af)(ha:ST X CL W a fa)(he:Ax [a,.Name "ValueError" p2] X.env=(Ad,eval a X.env)::Ax [.Name "ValueError" p2] X.env):SE X CL W (.Call (.Name "isinstance" p) [a,.Name "ValueError" p2] [] pos) (λY=>(fa Y).bind λx=>Ep up [.verr] x):=λA=>
 PE.weak (Mr (r:=λxs H Q=>∃ a C φ c,xs=[.ref a,.ty "ValueError"]/\CL c=Ab C/\H a=Ab (.ext φ)/\(∀ h,φ h->∃ o,h.get? a=Ab o/\o.cls=.ref C)/\Q (.bl Aa) H) (λpI s U H xs us Q I r ⟨b,C,φ,c,e,hc,hH,hφ,q⟩=>by
   subst e;obtain⟨u,w',rfl,r1,r2⟩:=MR r;cases r1;cases r2;exact UB I hH hφ (hxc c C hc) (hxc c C hc).ve q)
  hg hm G0 (Ee (ha A) (Ee (Vv (v:=.ty "ValueError") hg2 hm2 PyProof.Rows.Boot.«ValueError» rfl (by decide) (by decide)) Gs rfl) he) (by decide) (by decide) he rfl) λU H Q ⟨hA,Y,g,q⟩=>⟨hA,Y,g,Bq.bind q λd v H1 _ s1 r1 p1=>by
   obtain⟨c,fs,rfl,p2⟩:=Qt (by rfl) (by simp) p1
   obtain⟨b,C,φ,rfl,hc,hH,hφ⟩:=QF r1;refine⟨b,C,φ,c,rfl,hc,hH,hφ,p2 _ H1 (AH.refl H1) ?_⟩;exact congrArg V.bl (EU _).symm⟩
theorem tU(up:Ag->Ac Ag)(c:Ag)(fs:Ac (Ak×D))(cs:Ac (Ag×Al)):((cs.map λq=>Ki.cls q.1).any λk=>kiD up k (.exc c fs))=cs.any λq=>(up c).contains q.1:=JI
def S9(Cs:Ac Al):TA:=λ_ H Q=>Q (Cs.map V.ref) H
theorem uZ{ts:Ac Ao}{cs:Ac (Ag×Al)}(hxc:∀ c C,CL c=Ab C->XcOk X.K C)(hg:Gl X "isinstance")(hm:X.mg "isinstance" = Af)(hts:PA X ts (S9 (cs.map λq:Ag×Al=>q.2)))(hne:cs≠[])(hl:cs.length<=1000)(hkit:∀ q∈cs,MI X.K CL up q.1 q.2)(ha:ST X CL W a fa)(he:Ax [a,.Tuple ts kk p2] X.env=(Ad,eval a X.env)::Ax [.Tuple ts kk p2] X.env):SE X CL W (.Call (.Name "isinstance" p) [a,.Tuple ts kk p2] [] pos) (λY=>(fa Y).bind λx=>Ep up (cs.map λq=>.cls q.1) x):=λA=>
 PE.weak (Mr (r:=λxs H Q=>∃ a C φ c tp,xs=[.ref a,.ref tp]/\CL c=Ab C/\H a=Ab (.ext φ)/\(∀ h,φ h->∃ o,h.get? a=Ab o/\o.cls=.ref C)/\H tp=Ab (.tup ((cs.map λq:Ag×Al=>q.2).map V.ref))/\Q (.bl (cs.any λq=>(up c).contains q.1)) H) (λpI s U H xs us Q I r ⟨b,C,φ,c,tp,e,hc,hH,hφ,ht,q⟩=>by
   subst e;obtain⟨u,w',rfl,r1,r2⟩:=MR r;cases r1;cases r2;exact sT I hH hφ (hxc c C hc) ht (Wa hc cs hkit) q)
  hg hm G0 (Ee (ha A) (Ee (WW hts) Gs rfl) he) (by decide) (by decide) he rfl) λU H Q ⟨hA,Y,g,q⟩=>⟨hA,Y,g,Bq.bind q λd v H1 _ s1 r1 p1=>by
   have hk:(cs.map λq=>Ki.cls q.1).all Er=Aa:=by simp[Yb,Er]
   obtain⟨c,fs,rfl,p2⟩:=Qt hk (by simpa using hne) p1
   obtain⟨b,C,φ,rfl,hc,hH,hφ⟩:=QF r1;refine⟨by rw[BR,BR,DA];omega,λt ht=>?_⟩
   have hbt:b≠t:=Gr hH ht;refine⟨b,C,φ,c,t,rfl,hc,by rw[BQ hbt];exact hH,hφ,F7,p2 _ _ (GL ht _) ?_⟩
   exact congrArg V.bl (tU up c fs cs).symm⟩
end
theorem Wq(q:D4 K C v=Aa):∃ dd cd sl bm,K.lookup C=Ab ⟨.type "type",dd,.cls cd,sl⟩/\cd.mro=.ref C::bm:=by
 unfold D4 at q;split at q
 .rename_i dd cd sl ho;split at q
  .rename_i C' bm k0 k1 k2 k3 n k5 hm hs;simp only[An,A6,BL]at q;obtain⟨rfl,_⟩:=q;exact⟨dd,cd,sl,bm,ho,hm⟩
  .cases q
 .cases q
theorem NV(q:D4 K C v=Aa):∃ cd bm,DT K C=Ab cd/\cd.mro=.ref C::bm:=by
 obtain⟨dd,cd,sl,bm,h1,h2⟩:=Wq q;exact⟨cd,bm,by unfold DT;rw[h1],h2⟩
theorem yZ(q:D4 K C v=Aa):DY K (.ref C)=Ab (.type "type"):=by
 obtain⟨dd,cd,sl,bm,h1,h2⟩:=Wq q;show (K.lookup C).map _=_;rw[h1];rfl
theorem sP{v:Aj}{i i':Ap Ai}(q:D4 K C i=Aa)(q':D4 K C' i'=Aa)(su:BZ K (.ref C) (.ref C')=Ab v):Dk K (.ref C) (.ref C')=Ab v:=by
 unfold Dk;by_cases e:C=C'
 .subst e;obtain⟨cd,bm,h1,h2⟩:=NV q;have su':Dh K C (.ref C)=Ab v:=su;have:v=Aa:=by
   unfold Dh at su';rw[h1,YC,h2,AT (by simp)]at su'
   rw[<-BM su'];simp
  rw[AI (by simp),this]
 .rw[AT (λz=>e (JE (A6.mp z)))]
  obtain⟨cd,bm,h1,h2⟩:=NV q';show (if ((DT K C').isSome&&DY K (.ref C')==Ab (.type "type"))=Aa then BZ K (.ref C) (.ref C') else Af)=_
  rw[h1,yZ q',AI (by simp),su]
theorem gp(exc:D4 K C v=Aa)(ga:AU K (.ref C) "__getattribute__" = Ab (Ab (.builtin "BaseException.__getattribute__")))(gt:AU K (.ref C) "__getattr__" = Ab Af)(cl:AU K (.ref C) "__class__" = Ab (Ab (.builtin "object.__class__")))(ob:Dh K C (.type "object")=Ab Aa)(be:BZ K (.ref C) (.type "BaseException")=Ab Aa)(sv:BZ K (.ref C) (.type "ValueError")=Ab Aa):XcOk K C:=by
 obtain⟨cd,bm,h1,h2⟩:=NV exc;refine⟨⟨v,exc⟩,ga,gt,cl,ob,be,by rw[h1];rfl,?_⟩
 unfold Dk;rw[AT (λz=>by cases A6.mp z)]
 have hm:Z_9 "ValueError" = Aa:=by decide+kernel
 show (if Z_9 "ValueError" = Aa then BZ K (.ref C) (.type "ValueError") else Af)=_
 rw[AI hm,sv]
noncomputable abbrev OW:CXT:=λ_ _ _ _ _ _=>Bl
structure HotOk (P:AV) (w:AF) (K:Fg) (mg:Ak->Ap Ai) (base:AC) (k:Ag) (f:Al) (fd:Cf) (ps:Ac Ak) (sp:Sp):Prop where
 len:∀ vs H Q E,sp vs H Q E->vs.length=ps.length
 run:∀(A:A9)(ev:Al)(outer:Ac CN)(s:Ar)(H:Hp)(args:Args)(us:Ac Ai)(vs:Ac V)(Q:VK)(E:XK),Room k A->Env0 P w K mg base (A.mark (Ab (.ref ev))) outer s H->Hk s fd args (ps.zip us)->Bo vs us->sp vs H Q E ->
  Fl (model P w) (A.mark (Ab (.ref ev))) (.call (.ref f) args) (CR OW outer P w H s Q E) s
theorem kY{v:Aj}{i:Ap Ai}(q:D4 K C i=Aa)(mr:Dh K C' (.type "object")=Ab Aa)(ty:DY K (.ref C')=Ab (.type "type"))(su:BZ K (.ref C) (.ref C')=Ab v):Dk K (.ref C) (.ref C')=Ab v:=by
 unfold Dk;by_cases e:C=C'
 .subst e;obtain⟨cd,bm,h1,h2⟩:=NV q;have su':Dh K C (.ref C)=Ab v:=su;have:v=Aa:=by
   unfold Dh at su';rw[h1,YC,h2,AT (by simp)]at su'
   rw[<-BM su'];simp
  rw[AI (by simp),this]
 .rw[AT (λz=>e (JE (A6.mp z)))]
  show (if ((DT K C').isSome&&DY K (.ref C')==Ab (.type "type"))=Aa then BZ K (.ref C) (.ref C') else Af)=_
  have cs:(DT K C').isSome=Aa:=by
   unfold Dh at mr;cases e1:DT K C' with
   |none=>rw[e1]at mr;cases mr
   |some cd=>rfl
  rw[cs,ty,AI (by simp),su]
def spH(K:Fg)(CL:ClA)(n:Ag)(fr:Aj)(F:Ac D->R D):Sp:=λvs H Q _=>∃(ds:Ac D)(A:Al->Prop),vs.length=n/\AOk H A/\Reps K CL H A vs ds/\(match F ds with
  |.ok d=>∀ v H',AH H H'->EI K CL fr H A H' v d->Q v H'
  |.exn _=>Bl
  | .bad=>Bl)
section
variable{X:Cx}{CL:ClA}{ev:Al}
theorem nN{t:Ao}{xs ys:Ac AY}{fc:Rho->R Aj}{fx fy:Rho->O}(hc:∀ pI Xw,F4 (model X.prog X.w) X.A X.env Xw->SB (Cx.pw X pI Xw) CL (λ_ _=>Bl) t fc)(hnx:∀ Y y,fc Y≠.exn y)(hx:STB X CL xs fx)(hy:STB X CL ys fy):STB X CL [.If t xs ys pos] (λY=>O.of Y (fc Y) λb=>if b=Aa then fx Y else fy Y):=by
  intro Fz B pI s U H D Y Xw own I sx q hρ;dsimp only at q hρ;cases ec:fc Y with
  |bad=>rw[ec]at q;exact q.elim
  |exn y=>exact absurd ec (hnx Y y)
  |ok b=>
    rw[ec]at q hρ;have key:=hc pI Xw own (B6 B Y U) [] s U H (λb' H'=>b'=b/\AH H H') (ML I Xw) ⟨sx.aok,Y,sx.good,by rw[ec];exact λH' sm=>⟨rfl,sm⟩⟩
    refine Ih (thn (wpAny_If (Q:=SP X pI D) (thn key λb' s1 ⟨H1,I1,e,sm⟩=>?_)) (λf s1 z=>by
      cases f with
      |next=>exact FY z
      |ret v=>exact z
      |brk=>exact z
      | cont=>exact z))
    subst e;have J:=Lu I.ok I1;have up:∀{y:Ex},KQ X CL pI U H y Xw->KQ X CL pI U H1 y Xw:=λ{y} w s' H' e T cls dx a1 a2=>w s' H' e T cls dx a1 (sm.trans a2)
    have lift:∀{o:O},(match o with
       |.exn y Y'=>Y'=Y->KQ X CL pI U H y Xw
       |o=>Cj X.K CL Fz B (λ_ _=>Bl) o D)->(match o with
       |.exn y Y'=>Y'=Y->KQ X CL pI U H1 y Xw
       | o=>Cj X.K CL Fz B (λ_ _=>Bl) o D):=λ{o} z=>by
      cases o with
      |exn y Y'=>exact λe=>up (z e)
      |next _=>exact z
      |ret _ _=>exact z
      |brk _=>exact z
      |cont _=>exact z
      |bad=>exact z
    cases b' with
    |true=>exact hx Fz B pI s1 U H1 D Y Xw own J (sx.grow sm) (lift q) hρ
    |false=>exact hy Fz B pI s1 U H1 D Y Xw own J (sx.grow sm) (lift q) hρ
end
section
variable{M:Hu}{A:A9}{E:Vq}{s:Ar}{env:CN}{nm q:Ak}{C N:Al}{bs bm bmB:Ac Ai}{hdct:Aj}{sn:Ac Ak}{sub:Ac Ai}{ab:Aj}{col:Ap Aj}{dd:Ap Al}{k0 k1 k2 k3 k5:Ap Ai}{B newId initId:DB}
theorem mX{x:Hl Ai}{Q:Flow->Ar->Prop}(hb:bm.contains (.type "BaseException")=Aa)(hh:A.handled=Af)(h:Au M A x (λv s'=>∃ e t dx,v=.ref e/\s'.heap.get? C=Ab (CH nm q C N bs bm hdct sn sub ab col dd k0 k1 k2 k3 k5 newId)/\s'.heap.get? e=Ab (GP C dx t)/\E (.ref e) s') E s):Au M A (raiseStmt env (Ab x) Af) Q E s:=by
 have hB:(BO C::bm).contains (.type "BaseException")=Aa:=by rw[Hx,hb,JH]
 unfold raiseStmt;refine Ah (Bu h (λv s' z=>?_) λ_ _ z=>z)
 obtain⟨e,t,dx,rfl,gC,ge,hE⟩:=z;obtain⟨hp,g,d,tk,os⟩:=s';unfold GP at ge
 repeat (first|(with_reducible refine Cy ge ?_)|(with_reducible refine Cy gC ?_)|(with_reducible refine FM gC ?_;rw[hB])|wp_step)
 exact wpAny_raiseNew_none hh hE
end
section
variable{prog:AV}{w:AF}{A:A9}{E:Vq}{h:AC}{g:A8 E2}{d:IA}{t:Ag}{os:HW}
variable{nm q:Ak}{C N fI:Al}{bs bm bmB:Ac Ai}{hdct:Aj}{sn:Ac Ak}{sub:Ac Ai}{ab:Aj}{col:Ap Aj}{dd:Ap Al}{k0 k1 k2 k3 k5:Ap Ai}{B newId initId:DB}{mN:Ak->Ap Ai}{rest:Ac Ai}{oI:C9}
theorem oJ{Q:Fin->Ar->Prop}(F:Ic B newId initId bmB)(T:Ev h bmB bm)(gC:h.get? C=Ab (CH nm q C N bs bm hdct sn sub ab col dd k0 k1 k2 k3 k5 newId))(hn:h.Ns N mN)(hi:mN "__init__" = Ab (.ref fI))(gI:h.get? fI=Ab oI)(cI:oI.cls=.type "function")(hl:rest.length<=sizeLine)(hq:∀ h' e,IX h h' e (.ref C) rest->Au (model prog w) A (call (.ref fI) (.ref e::rest)) (λr s'=>r=.none/\Q (.done (.ret (.ref e))) s') E ⟨h',g,d,t,os⟩):Au (model prog w) A (Builtin.«type.__call__» ⟨.ref C::rest,[]⟩) Q E ⟨h,g,d,t,os⟩:=by
 repeat (first|(with_reducible refine Cy gC ?_)|(with_reducible refine wpAny_madeBy_exc gC ?_)|wp_step)
 refine codeAny_call_builtin_code (HA _ F.quiet) (wpAny_check_new_subT F T gC (codeAny_exc_new_subT F T gC ?_ hl));show Au _ _ _ _ _ _;have kp:∀ b o,h.get? b=Ab o->((h.push { cls:=.type "tuple",data:=.seq rest.toArray }).push {cls:=.ref C,data:=.fields #[.ref h.objs.size,.none,.none,.none,.bool Ad,.none]}).get? b=Ab o:=λb o z=>As _ (As _ z)
 have ge:((h.push { cls:=.type "tuple",data:=.seq rest.toArray }).push {cls:=.ref C,data:=.fields #[.ref h.objs.size,.none,.none,.none,.bool Ad,.none]}).get? (h.objs.size+1)=Ab {cls:=.ref C,data:=.fields #[.ref h.objs.size,.none,.none,.none,.bool Ad,.none]}:=by heap_get
 have gt:((h.push { cls:=.type "tuple",data:=.seq rest.toArray }).push {cls:=.ref C,data:=.fields #[.ref h.objs.size,.none,.none,.none,.bool Ad,.none]}).get? h.objs.size=Ab { cls:=.type "tuple",data:=.seq rest.toArray }:=As _ (ZF rfl rfl);generalize (h.push { cls:=.type "tuple",data:=.seq rest.toArray }).push {cls:=.ref C,data:=.fields #[.ref h.objs.size,.none,.none,.none,.bool Ad,.none]}=h2 at *;have gC2:=kp _ _ gC;have gI2:=kp _ _ gI;have hn2:h2.Ns N mN:=let ⟨o,es,ep,z,r⟩:=hn;⟨o,es,ep,kp _ _ z,r⟩
 have T2:=T.keeps (h':=h2) kp;have cC:(BO C::bm).contains (.ref C)=Aa:=by simp
 unfold HU
 repeat (first|(with_reducible refine Cy ge ?_)|(with_reducible refine FM gC2 ?_;rw[cC])|wp_step)
 show Au _ _ (Jk (.ref C) _) _ _ _;refine wpAny_typeLookup_tail gC2 hn2 T2 F.mroIs F.init.lookup ?_;rw[hi];refine Co (Ah ?_);unfold bindSpecial;refine Ah (wpAny_typeOf (T := "function") ⟨_,gI2,cI⟩ ?_);rw[AI (by decide)]
 refine Av (Ah (Bu (hq h2 (h.objs.size+1) ⟨kp,DO (Yx _),h.objs.size,ge,DO (A7 _),gt⟩) (λr s' z=>?_) λ_ _ z=>z))
 obtain⟨rfl,z⟩:=z
 wp_walk
 exact z
theorem oK{Q:Vq}(F:Ic B newId initId bmB)(T:Ev h bmB bm)(gC:h.get? C=Ab (CH nm q C N bs bm hdct sn sub ab col dd k0 k1 k2 k3 k5 newId))(hn:h.Ns N mN)(hi:mN "__init__" = Ab (.ref fI))(gI:h.get? fI=Ab oI)(cI:oI.cls=.type "function")(hl:rest.length<=sizeLine)(hq:∀ h' e,IX h h' e (.ref C) rest->Au (model prog w) (A.under (.builtin "type.__call__" ⟨.ref C::rest,[]⟩)) (call (.ref fI) (.ref e::rest)) (λr s'=>r=.none/\Q (.ref e) s') E ⟨h',g,d,t,os⟩):Au (model prog w) A (call (.ref C) rest) Q E ⟨h,g,d,t,os⟩:=by
 have l1:=tc_lookup;have l2:=tc_bind (.ref C);have ty:(⟨h,g,d,t,os⟩:Ar).TypeIs (.ref C) "type" := ⟨_,gC,rfl⟩;refine HV (aI ?_);show Au _ _ (callAny (.ref C) _) _ _ _
 repeat (any_goals (first|assumption|(with_reducible refine Cy gC ?_)|wp_step))
 refine⟨rfl,codeAny_call_builtin_at (HA _ (by decide+kernel)) entry_typeCall (wpAny_check_type_call_sub gC (oJ F T gC hn hi gI cI hl λh' e m=>?_))⟩
 exact hq h' e m
end
section
variable{prog:AV}{w:AF}{A:A9}{E:Vq}{s:Ar}{env:CN}
variable{nm q:Ak}{C N fI:Al}{bs bm bmB:Ac Ai}{hdct:Aj}{sn:Ac Ak}{sub:Ac Ai}{ab:Aj}{col:Ap Aj}{dd:Ap Al}{k0 k1 k2 k3 k5:Ap Ai}{B newId initId:DB}{mN:Ak->Ap Ai}
theorem kK{Q:Flow->Ar->Prop}{args:Ac Ao}(F:Ic B newId initId bmB)(hb:bm.contains (.type "BaseException")=Aa)(hh:A.handled=Af)(hp:(Cd cpos (Ax args env)).any (·.1)=Ad)(hi:mN "__init__" = Ab (.ref fI))(h:Au (model prog w) A (eval (.Name x np) env) (λf s1=>f=.ref C/\Au (model prog w) A (evalArgs (.ref C) Aa (Cd cpos (Ax args env)) [])
   (λa s2=>a.kw=[]/\a.pos.length<=sizeLine/\s2.heap.get? C=Ab (CH nm q C N bs bm hdct sn sub ab col dd k0 k1 k2 k3 k5 newId)/\s2.heap.Ns N mN/\Ev s2.heap bmB bm/\(∃ oI,s2.heap.get? fI=Ab oI/\oI.cls=.type "function") /\
    ∀ h' e,IX s2.heap h' e (.ref C) a.pos->Au (model prog w) (A.under (.builtin "type.__call__" ⟨.ref C::a.pos,[]⟩)) (call (.ref fI) (.ref e::a.pos)) (λr s'=>r=.none/\∃ t dx,s'.heap.get? C=Ab (CH nm q C N bs bm hdct sn sub ab col dd k0 k1 k2 k3 k5 newId)/\s'.heap.get? e=Ab (GP C dx t)/\E (.ref e) s') E {s2 with heap:=h'}) E s1) E s):Au (model prog w) A (exec (.Raise (Ab (.Call (.Name x np) args [] cpos)) Af pos) env) Q E s:=by
 rw[arm_exec_Raise]
 try simp only[evalOpt,Gf]
 refine Ah (EV (mX (nm:=nm) (q:=q) (C:=C) (N:=N) (bs:=bs) (bm:=bm) (hdct:=hdct) (sn:=sn) (sub:=sub) (ab:=ab) (col:=col) (dd:=dd) (k0:=k0) (k1:=k1) (k2:=k2) (k3:=k3) (k5:=k5) (newId:=newId) hb hh ?_));refine Ah (Bu (wpAny_Call_ofName (Bu h (λf s1 z=>?_) λ_ _ z=>z)) (λv s3 z=>Ah (EV (Av z))) λ_ _ z=>z)
 obtain⟨rfl,z⟩:=z;unfold callWith;refine Ah (Co (Bu z (λa s2 y=>Ah (EV ?_)) λ_ _ y=>y))
 obtain⟨us,kw⟩:=a;obtain⟨hk,hl,gC,hn,T,⟨oI,gI,cI⟩,k⟩:=y;obtain rfl:kw=[]:=hk;obtain⟨hp2,g,d,tk,os⟩:=s2;simp only[hp];refine Ah (wpAny_keeperOf_exc gC (Ah (oK F T gC hn hi gI cI hl λh' e m=>Bu (k h' e m) (λr s' y=>?_) λ_ _ y=>y)))
 obtain⟨rfl,t,dx,c1,c2,c3⟩:=y;exact⟨rfl,Ah (Co (wpAny_point (Av ⟨e,t,dx,rfl,c1,c2,c3⟩)))⟩
end
section
variable{prog:AV}{w:AF}{A:A9}{E:Vq}{h:AC}{g:A8 E2}{d:IA}{tk0:Ag}{os:HW}
variable{nm q:Ak}{C N e t:Al}{dx:Ap Al}{bs bm bmB:Ac Ai}{hdct:Aj}{sn:Ac Ak}{sub:Ac Ai}{ab:Aj}{col:Ap Aj}{dd:Ap Al}{k0 k1 k2 k3 k5:Ap Ai}{B newId initId:DB}
theorem wP{Q:Vq}(F:Ic B newId initId bmB)(T:Ev h bmB bm)(gC:h.get? C=Ab (CH nm q C N bs bm hdct sn sub ab col dd k0 k1 k2 k3 k5 newId))(ge:h.get? e=Ab (GP C dx t))(hq:∀ h' t',(∀ b o,b≠e->h.get? b=Ab o->h'.get? b=Ab o)->h'.get? e=Ab (GP C dx t')->Q .none ⟨h',g,d,tk0,os⟩):Au (model prog w) A (call (.builtin initId) [.ref e,.str z tk]) Q E ⟨h,g,d,tk0,os⟩:=by
 refine HV (Eo F.init.plain F.initEntry (wpAny_check_init_subT F T gC ge rfl ?_));unfold GP at ge
 wp_walk
 refine hq _ h.objs.size (λb o nb z=>(Ch _ _ (DX nb)).trans (As _ z)) ?_
 rw[B7 _ (As _ ge) rfl];rfl
end
noncomputable def xbd:Ag->Ag
 |0=>4
 |n+1=>8*xbd n+19
theorem sV:∀ n:Fin 100,(AQ (toString ((n.val:Ag):Ae))).length<=4:=by decide+kernel
theorem WM{α:Type}(f:α->Ag){m:Ag}:∀ l:Ac α,(∀ x∈l,f x<=m)->(l.map f).sum<=l.length*m
 |[],_=>by simp
 |x::l,h=>by
  have h1:=h x AE;have h2:=WM f l λy hy=>h y (Ay _ hy)
  rw[CC,Ys,Bz,Nat.succ_mul];omega
section
variable{X:Cx}{CL:ClA}{pI:Pn}{U:L2.St}{H:Hp}{s:Ar}
structure Shw (h:AC) (n:Ag) (u:Ai) (pd:K2):Prop where
 rd:Reads h u pd []
 sh:pd.showable=Aa
 nd:pd.hasDict=Ad
 dp:pd.depth<=n
 ln:pd.shown.length<=xbd n
inductive ShwA (h:AC) (n:Ag):Ac Ai->Ac K2->Prop where
 |nil:ShwA h n [] []
 |cons {u:Ai} {pd:K2} {us:Ac Ai} {pds:Ac K2}:Shw h n u pd->ShwA h n us pds->ShwA h n (u::us) (pd::pds)
theorem VJ{h:AC}{n:Ag}:∀{us:Ac Ai}{pds:Ac K2},ShwA h n us pds->ReadsAll h us pds []/\ZL pds=Aa/\ZK pds=Ad/\IB pds<=n/\(∀ t∈Ea pds,t.length<=xbd n)/\(Ea pds).length=us.length
 |[],[],_=>⟨.nil,rfl,rfl,Gz _,(λ_ h=>nomatch h),rfl⟩
 |u::us,pd::pds,.cons h1 h2=>by
  obtain⟨a,b,c,d,e,f⟩:=VJ h2;refine⟨.cons h1.rd a,?_,?_,?_,?_,?_⟩
  .show (pd.showable&&ZL pds)=Aa;rw[h1.sh,b];rfl
  .show (pd.hasDict||ZK pds)=Ad;rw[h1.nd,c];rfl
  .show max pd.depth (IB pds)<=n;exact Nat.max_le.mpr ⟨h1.dp,d⟩
  .intro t ht;rcases At.mp ht with rfl|ht
   .exact h1.ln
   .exact e t ht
  .show (Ea pds).length+1=us.length+1;rw[f]
theorem gq(I:Inv X pI U H s):∀(n:Ag){d:D}{v:V}{u:Ai},xfD n d=Aa->Rep X.K CL H A v d->BU v u->∃ pd,Shw s.heap n u pd:=by
 intro n
 induction n with
 |zero=>
  intro d v u hx r rv;cases d with
  |int i=>
   have e:v=.int i:=r;subst e;obtain⟨t,rfl⟩:=rv;simp only[xfD,An,A2]at hx;refine⟨.int i,.int i t,?_,rfl,A7 _,?_⟩
   .show decide (i.natAbs.log2<1920)=Aa;refine AZ (DH (Nat.log2_le_self _) (by omega))
   .have:=sV ⟨i.toNat,by omega⟩
    rw[show ((i.toNat:Ag):Ae)=i by omega]at this
    exact this
  |_=>exact absurd (show Ad=Aa from hx) AD
 |succ n ih0=>
  intro d v u hx r rv;cases d with
  |tup ds=>
   obtain⟨a,xs,rfl,_,sq,rs⟩:=r;cases rv;obtain⟨its,vs,⟨o,ho,hc,m,hd⟩,hz⟩:=I.tuple sq;simp only[xfD,An,Ey]at hx;have key:∀{xs:Ac V}{ds:Ac D}{its:Ac Ai},(∀ d∈ds,xfD n d=Aa)->Reps X.K CL H A xs ds->Bo xs its->∃ pds,ShwA s.heap n its pds:=λ{xs}=>by
    induction xs with
    |nil=>
     intro ds its _ rs vs;cases vs;exact⟨[],.nil⟩
    |cons x xs ih=>
     intro ds its hd rs vs;cases ds with
     |nil=>exact rs.elim
     |cons d ds=>
      cases vs with
      |cons v1 v2=>
       obtain⟨pd,h1⟩:=ih0 (hd d AE) rs.1 v1;obtain⟨pds,h2⟩:=ih (λe he=>hd e (Ay _ he)) rs.2 v2
       exact⟨pd::pds,.cons h1 h2⟩
   obtain⟨pds,hf⟩:=key hx.2 rs vs;obtain⟨p1,p2,p3,p4,p5,p6⟩:=VJ hf;have l8:its.length<=8:=by
    have h8:=Nat.ble_eq.mp hx.1;rw[<-vs.length,rs.length];exact h8
   refine⟨.tuple pds,.tuple ho hc hd (by simpa using p1),p2,p3,?_,?_⟩
   .show IB pds+1<=n+1;omega
   .show (tupleText (Ea pds)).length<=8*xbd n+19;have h1:=tupleText_len_le (Ea pds);have h2:=WM (λt:Ak=>t.length) (Ea pds) p5
    have h3:(Ea pds).length*xbd n<=8*xbd n:=Nat.mul_le_mul_right _ (by omega)
    omega
  |_=>exact absurd (show Ad=Aa from hx) AD
end
section
variable{X:Cx}{CL:ClA}
def tFs(K:Fg)(CL:ClA)(i:Ag):TE:=λU H Q=>∃ v d A n,U[i]?=Ab (Ab v)/\Rep K CL H A v d/\xfD (n+1) d=Aa/\n<=1/\∀ t:Ak,Q (.str t) H
theorem pQ{e:Ao}{i:Ag}{p2 p3:AO}(hu:X.A.units+64<CA)(hg:X.A.guards=Ab [])(hz:z.length<=1000)(he:PE X e (GR i)):PE X (.JoinedStr [.FormattedValue e (-1) Af p1,.Constant (.str z) k p2] p3) (tFs X.K CL i):=by
 intro pI s U H Q I ⟨v,d,A,n,hv,r,hx,hn,q⟩;refine wpAny_JoinedStr ?_;show Au (model X.prog X.w) X.A (eval (.FormattedValue e (-1) Af p1) X.env) (λv s1=>∃ y t,v=.str y t/\(JO++y).length<=sizeLine/\Joins (model X.prog X.w) X.A X.xe [eval (.Constant (.str z) k p2) X.env] (JO++y) _ s1) X.xe s
 refine wpAny_FormattedValue_plain (thn (he pI s U H (λx H1=>x=v/\H1=H) I ⟨v,hv,rfl,rfl⟩) λu s1 ⟨x,H1,I1,r1,e1,e2⟩=>?_)
 subst e1 e2;have zl:sizeLine ≥ 2000:=by decide
 obtain⟨pd,sw⟩:=gq I1 (n+1) hx r r1;cases d with
 |tup ds=>
  obtain⟨a,xs,rfl,_,sq,rs⟩:=r;cases r1;have xb:xbd (n+1)<=500:=by
   have:n=0\/n=1:=by omega
   rcases this with rfl|rfl<;>decide
  have ln:=sw.ln;have dp:=sw.dp;refine formatField_of_reads sw.rd sw.sh (λz=>by rw[sw.nd]at z;cases z) hg (by omega) (λ_ _ z=>z) (λh' tk1 tk2 kp=>?_) (by omega)
  have l0:(JO++pd.shown).length<=500:=by
   rw[strLen_append];have:Str.empty.length=0:=rfl;omega
  refine⟨pd.shown,tk1,rfl,by omega,?_⟩
  have I2:Inv X pI U H1 {s1 with heap:=h',toks:=tk2}:=I1.kept kp
  show Au (model X.prog X.w) X.A (eval (.Constant (.str z) k p2) X.env) _ X.xe {s1 with heap:=h',toks:=tk2}
  refine thn (WX (X:=X) pI _ U H1 (λx H2=>x=.str z/\H2=H1) I2 ⟨rfl,rfl⟩) λu2 s2 ⟨x2,H2,I3,r3,e3,e4⟩=>?_
  subst e3 e4;obtain⟨t3,rfl⟩:=r3;have l1:(JO++pd.shown++z).length<=sizeLine:=by
   rw[strLen_append];omega
  exact⟨z,t3,rfl,l1,l1,⟨.str _,H2,I3.tok _,⟨_,rfl⟩,q _⟩⟩
 |_=>cases hx
end
def XEx(e C:Al)(dx:Ap Al)(t:Al):AC->Prop:=λh=>h.get? e=Ab (GP C dx t)
theorem QR{e C:Al}{t:Al}:∀ h1 h2:AC,XEx e C dx t h1->(∀ o,h1.get? e=Ab o->h2.get? e=Ab o)->XEx e C dx t h2:=λ_ _ p k=>k _ p
section
variable{X:Cx}{CL:ClA}{C:Al}{nm q:Ak}{N:Al}{bs bm:Ac Ai}{hdct:Aj}{sn:Ac Ak}{sub:Ac Ai}{ab:Aj}{col:Ap Aj}{dd:Ap Al}{k0 k1 k2 k3 k5:Ap Ai}
theorem iZ{apos:AO}{es ej:Ao}{i j:Ag}(hob:∀ h:AC,X.K.In h->h.get? C=Ab (CH nm q C N bs bm hdct sn sub ab col dd k0 k1 k2 k3 k5 "ValueError.__new__")/\Ev h veB bm)(hg:Gl X g)(hm:X.mg g=Ab (.ref OV))(hdb:(g==("__debug__" : Ak))=Ad)(s1:E9 X.K (.ref OV) "__getattribute__" = Ab (Ab (.builtin "type.__getattribute__")))(s2:FX X.K OV (.type "type")=Aa)(s3:FW X.K (.ref OV) (.type "type") "__init__" = Ab (.val (.builtin "ValueError.__init__")))(hline:(apos.endLine==cpos.line)=Aa)(he:PE X es (GR i))(hj:PE X ej (tFs X.K CL j))(sA:Ax [es,ej] X.env=(Ad,eval es X.env)::Ax [ej] X.env)(sB:Ax [ej] X.env=[(Ad,eval ej X.env)]):
  PE X (.Call (.Attribute (.Name g np) "__init__" apos) [es,ej] [] cpos) (λU H Q=>∃ e dx t v d A n,U[i]?=Ab (Ab (.ref e))/\H e=Ab (.ext (XEx e C dx t))/\U[j]?=Ab (Ab v)/\Rep X.K CL H A v d/\xfD (n+1) d=Aa/\n<=1/\∀ t',Q .non (upd H e (.ext (XEx e C dx t')))):=by
 have st1:Ax [es,ej] X.env=[(Ad,eval es X.env),(Ad,eval ej X.env)]:=by rw[sA,sB]
 intro pI s U H Q I ⟨e,dx,t,v,d,A,n,h1,h2,h3,r,hx,hn,hq⟩;rw[arm_eval_Call];refine Ah (show Au (model X.prog X.w) X.A (eval (.Name g np) X.env) _ X.xe s from KG I hg hm ?_ hdb)
 refine Ah (EV ?_);have form:methodCallForm ([es,ej].length+([]:Ac Eu).length) (Cd cpos (Ax [es,ej] X.env)) (Jf cpos (Hv [] X.env))=Aa:=by
  rw[st1];rfl
 have mpos:methodCallPos Aa (.Name g np) X.env apos cpos=pure cpos:=by
  unfold methodCallPos;simp[hline]
 unfold methodCall;rw[form];refine Ah (Co (PySem.W.method_cls I.kIn s1 (PySem.W.cls_value I.kIn s2 s3 rfl ?_)));refine Ah (IG mpos ?_);have I1:=I.tok (s.toks+1);have pa:PA X [es,ej] _:=Ee he (Ee hj Gs sB) sA;have hA:=pa cpos pI {s with toks:=s.toks+1} U H (λxs H'=>H'=H/\∃ z,xs=[.ref e,.str z]) I1 ⟨_,h1,⟨v,d,A,n,h3,r,hx,hn,λz=>⟨rfl,z,rfl⟩⟩⟩
 rw[st1]at hA ⊢;refine YS rfl (Fq (thn hA λus s2 ⟨xs,H2,I2,rv,e2,z,ex⟩=>?_))
 subst e2 ex;obtain⟨u1,u2,rfl,ru1,ru2⟩:=MR rv;cases ru1;obtain⟨tk,rfl⟩:=ru2;obtain⟨gC,T⟩:=hob _ I2.kIn;have ge:XEx e C dx t s2.heap:=(I2.hok e _ h2).1;obtain⟨hp,g2,d2,tk2,os2⟩:=s2;refine wP FD T gC ge λh' t' kp ge'=>?_
 refine⟨.non,_,I2.write (x:=e) (e:=e) (o:=.ext (XEx e C dx t')) (t':=tk2) (by rw[h2];exact trivial) (.inl rfl) kp ⟨_,ge'⟩ ⟨ge',⟨_,ge'⟩,QR⟩,rfl,hq t'⟩
end
theorem eR{bmB bm:Ac Ai}(T:Ev h bmB bm){self:Ai}{what:Ak}(hb:refuseLoop self what bmB=pure ()):refuseLoop self what bm=pure ():=by
 induction T with
 |base=>exact hb
 |own _ _ _ _ ih=>rw[aM];exact ih
section
variable{prog:AV}{w:AF}{A:A9}{E:Vq}{h:AC}{g:A8 E2}{d:IA}{tk0:Ag}{os:HW}{K:Fg}
variable{nm q:Ak}{C N e t:Al}{bs bm bmB:Ac Ai}{sn:Ac Ak}{sub:Ac Ai}{ab:Aj}{col:Ap Aj}{dd:Ap Al}{k0 k1 k2 k3 k5:Ap Ai}{B newId sa owner:DB}
theorem oP{Q:Fin->Ar->Prop}{v:Ai}(X:K.In h)(SF:K4 B bmB sa owner)(T:Ev h bmB bm)(gC:h.get? C=Ab (CH nm q C N bs bm Aa sn sub ab col dd k0 k1 k2 k3 k5 newId))(hf:AU K (.ref C) name=Ab Af)(ge:h.get? e=Ab (GP C Af t))(hq:∀ h' dx tk',(∀ b o,b≠e->h.get? b=Ab o->h'.get? b=Ab o)->h'.get? e=Ab (GP C (Ab dx) t)->h.get? dx=Af->h'.Ns1 dx (λy=>if y=name then Ab v else Af)->Q (.done (.ret .none)) ⟨h',g,d,tk',os⟩):Au (model prog w) A (Builtin.«object.__setattr__» ⟨[.ref e,.str name tk,v],[]⟩) Q E ⟨h,g,d,tk0,os⟩:=by
  have pass:=eR T (SF.passes (.ref e));have L1:=CV (M:=model prog w) X hf;obtain⟨o,ho⟩:∃ o,GP C Af t=o:=⟨_,rfl⟩;rw[ho]at ge;have oc:o.cls=.ref C:=by rw[<-ho];rfl
  unfold Builtin.«object.__setattr__»
  repeat (first|rw[refuse_eq]|(rw[aM,pass])|(with_reducible refine Cy ge ?_;rw[oc])|(with_reducible refine wpAny_mroOf_exc gC ?_)|(with_reducible refine L1.at ?_)|(with_reducible refine Ah (L1.at ?_))|wp_step)
  have od:o.dict=Af:=by rw[<-ho];rfl
  have odt:o.data=.fields #[.ref t,.none,.none,.none,.bool Ad,.none]:=by rw[<-ho];rfl
  rw[od,odt,AT (by simp[typeHasDict])]
  let D:C9:={ cls:=.type "dict",data:=.dict #[] }
  have g1:(h.push D).get? e=Ab o:=As _ ge;have ne:e≠h.objs.size:=A4 (AB ge);refine Ah (wpAny_alloc' ?_);refine Ah (wpAny_update' g1 ?_);refine Av ?_
  let U_:C9->C9:=λo=>{cls:=o.cls,dict:=Ab h.objs.size,data:=o.data,slots:=o.slots}
  have gD:((h.push D).update e U_).get? h.objs.size=Ab D:=(ZH _ _ _ _ ne.symm).trans (ZF rfl rfl);have nD:((h.push D).update e U_).Ns h.objs.size (λ_=>Af):=⟨_,#[],_,gD,rfl,λz hz=>absurd hz (by simp),λ_=>rfl⟩
  change Au _ _ (YO h.objs.size (.str name tk) name v) _ _ _;unfold YO Builtin.ObjectAttr.newKeyGuard;refine Ah (Av (Ah (wpAny_nsSet1 (Heap.Ns1.of_empty nD) λk hk hs=>?_)))
  obtain⟨oD,eD,pD,q1,q2,q3⟩:=hk.count (Within.cons name v Within.nil);have le:oD.data.pastItsLine=Af:=by
    rw[q2];refine pastItsLine_dict (Cb q3 ?_);rw[Bz,Yn,DA];omega
  refine Ah (wpAny_lookBehind q1 le ?_)
  wp_walk
  refine hq k h.objs.size _ (λb ob nb hb=>?_) ?_ (DO (A7 _)) hk
  · rw[hs.2 b (A4 (AB hb)),ZH _ _ _ _ nb];exact As _ hb
  · rw[hs.2 e ne];have:Ab (GP C (Ab h.objs.size) t)=Ab (U_ o):=by rw[<-ho];rfl
    rw[this];exact B7 _ g1 (by rw[<-ho];rfl)
end
section
variable{prog:AV}{w:AF}{A:A9}{E:Vq}{h:AC}{g:A8 E2}{d:IA}{tk0:Ag}{os:HW}{K:Fg}
variable{nm q:Ak}{C N e t:Al}{bs bm bmB:Ac Ai}{sn:Ac Ak}{sub:Ac Ai}{ab:Aj}{col:Ap Aj}{dd:Ap Al}{k0 k1 k2 k3 k5:Ap Ai}{B newId sa owner:DB}
theorem oQ{o:C9}{a b:Ai}(SF:K4 B bmB sa owner)(T:Ev h bmB bm)(gC:h.get? C=Ab (CH nm q C N bs bm Aa sn sub ab col dd k0 k1 k2 k3 k5 newId))(ge:h.get? e=Ab o)(hc:o.cls=.ref C)(hq:Q () ⟨h,g,d,tk0,os⟩):Au M A (EH sa ⟨[.ref e,a,b],[]⟩) Q E ⟨h,g,d,tk0,os⟩:=by
 have hb:(BO C::bm).contains (.type owner)=Aa:=by rw[Hx,T.hasType SF.hasOwner,JH]
 have ha:=SF.args (.ref e) a b;simp only[EH,SF.kind,SF.split];refine Ah ?_;unfold HU
 repeat (first|(with_reducible refine Cy ge ?_;rw[hc])|(with_reducible refine FM gC ?_;rw[hb])|wp_step)
 unfold argsOk at ha;split
 .rename_i sig hs;rw[hs]at ha;refine IG ha ?_;exact hq
 .exact Av hq
theorem wL{v:Ai}(X:K.In h)(SF:K4 B bmB sa owner)(T:Ev h bmB bm)(gC:h.get? C=Ab (CH nm q C N bs bm Aa sn sub ab col dd k0 k1 k2 k3 k5 newId))(hf:AU K (.ref C) name=Ab Af)(hs:AU K (.ref C) "__setattr__" = Ab (Ab (.builtin sa)))(ge:h.get? e=Ab (GP C Af t))(hq:∀ h' dx tk',(∀ b o,b≠e->h.get? b=Ab o->h'.get? b=Ab o)->h'.get? e=Ab (GP C (Ab dx) t)->h.get? dx=Af->h'.Ns1 dx (λy=>if y=name then Ab v else Af)->Q () ⟨h',g,d,tk',os⟩):Au (model prog w) A (setAttr (.ref e) name v) Q E ⟨h,g,d,tk0,os⟩:=by
 have f3:=SF.slot.bind (.ref e);have L1:=CV (M:=model prog w) X hs;obtain⟨o,ho⟩:∃ o,GP C Af t=o:=⟨_,rfl⟩;have oc:o.cls=.ref C:=by rw[<-ho];rfl
 have ge':=ge;rw[ho]at ge';unfold setAttr JP specialOf
 repeat (any_goals (first|assumption|(with_reducible refine Cy ge' ?_;rw[oc])|(with_reducible refine Ah (L1.at ?_))|(with_reducible refine L1.at ?_)|wp_step))
 refine Eo SF.slot.plain SF.entry (oQ SF T gC ge' oc (oP X SF T gC hf ge λh' dx tk' k1 k2 k3 k4=>?_))
 repeat (any_goals (first|assumption|wp_step))
 exact hq h' dx tk' k1 k2 k3 k4
end
section
variable{X:Cx}{pI:Pn}{U:L2.St}{H:Hp}{s:Ar}{e:Al}
theorem Wb{o:HO}(I:Inv X pI U H s)(ha:HL X pI e)(hH:H e=Af)(ho:ObjOk X.prog X.w (upd H e o) s.heap e o):Inv X pI U (upd H e o) s:=by
 have ne:∀ b o,H b=Ab o->b≠e:=λb o q z=>by rw[z,hH]at q;cases q
 refine⟨I.ok,I.os,I.bare,⟨I.base.keep,I.base.slot,λb o q n hb=>?_,I.base.there,λb xs q=>?_,λb o u q=>?_,λb ps q=>?_⟩,I.loc,I.cell,?_,λx c q=>?_,λp hp=>?_,λb o q=>?_,I.len⟩
 .rw[BQ λz=>by rw[z,ha.2.2.2]at q;cases q]
  exact I.base.free b o q n hb
 .have:=I.base.tups b xs q;rw[BQ (ne _ _ this)];exact this
 .have:=I.base.frzs b o u q;rw[BQ (ne _ _ this)];exact this
 .obtain⟨more,this⟩:=I.base.tbls b ps q;exact⟨more,by rw[BQ (ne _ _ this)];exact this⟩
 .rw[BQ λz=>ha.1 z.symm];exact I.free
 .rw[BQ (ha.2.1 x c q)];exact I.freeC x c q
 .obtain⟨q,n,r⟩:=I.pin p hp;exact⟨q,by rw[BQ (ha.2.2.1 p hp)];exact n,r⟩
 .by_cases hb:b=e
  .subst hb;rw[F7]at q;cases q;exact ho
  .rw[BQ hb]at q;exact(I.hok b o q).stay (λc v hc z=>z) (λc z=>by rw[BQ (ne _ _ z)];exact z) λc zs z=>by rw[BQ (ne _ _ z)];exact z
theorem lE(I:Inv X pI U H s)(hH:H e=Ab (.ext φ))(h0:X.s₀.heap.get? e=Af)(h1:X.ex=[]->Ii):Inv X pI U (λb=>if b=e then Af else H b) s:=by
 have get:∀ b o,(if b=e then Af else H b)=Ab o->b≠e/\H b=Ab o:=λb o q=>by
  by_cases z:b=e
  .rw[AI z]at q;cases q
  .rw[AT z]at q;exact⟨z,q⟩
 have put:∀ b o,H b=Ab o->o≠.ext φ->(if b=e then Af else H b)=Ab o:=λb o q n=>by
  by_cases z:b=e
  .rw[z,hH]at q;cases q;exact absurd rfl n
  .rw[AT z];exact q
 have non:∀ b,H b=Af->(if b=e then Af else H b)=Af:=λb q=>by
  by_cases z:b=e
  .rw[AI z]
  .rw[AT z];exact q
 refine⟨I.ok,I.os,I.bare,⟨λb o q n hb hx=>?_,I.base.slot,λb o q n hb=>?_,I.base.there,λb xs q=>?_,λb o u q=>?_,λb ps q=>?_⟩,I.loc,I.cell,non _ I.free,λx c q=>non _ (I.freeC x c q),λp hp=>?_,λb o q=>?_,I.len⟩
 .exact I.base.keep b o q n hb hx
 .exact non b (I.base.free b o q n hb)
 .exact put b _ (I.base.tups b xs q) (by intro z;cases z)
 .exact put b _ (I.base.frzs b o u q) (by intro z;cases z)
 .obtain⟨more,this⟩:=I.base.tbls b ps q;exact⟨more,put b _ this (by intro z;cases z)⟩
 .obtain⟨q,n,r⟩:=I.pin p hp;exact⟨q,non _ n,r⟩
 .obtain⟨nb,q⟩:=get b o q;exact(I.hok b o q).stay (λc v hc z=>z) (λc z=>put c _ z (by intro z;cases z)) λc zs z=>put c _ z (by intro z;cases z)
end
section
variable{X:Cx}{C:Al}{nm q:Ak}{N:Al}{bs bm:Ac Ai}{sn:Ac Ak}{sub:Ac Ai}{ab:Aj}{col:Ap Aj}{dd:Ap Al}{k0 k1 k2 k3 k5:Ap Ai}
theorem rD{i j:Ag}{f:Ak}{eo ev:Ao}{p8 p10:AO}(hob:∀ h:AC,X.K.In h->h.get? C=Ab (CH nm q C N bs bm Aa sn sub ab col dd k0 k1 k2 k3 k5 "ValueError.__new__")/\Ev h veB bm)(hx:X.ex=[])(hf:AU X.K (.ref C) f=Ab Af)(hs:AU X.K (.ref C) "__setattr__" = Ab (Ab (.builtin "object.__setattr__")))(he:PE X eo (GR i))(hv:PE X ev (GR j))(sw:Dd ev (Ab (.Attribute eo f p8)) p10.line X.env=pure Ad):PS X (.Assign [.Attribute eo f p8] ev p10) (λD U H=>∃ e t v,U[i]?=Ab (Ab (.ref e))/\H e=Ab (.ext (XEx e C Af t))/\U[j]?=Ab (Ab v)/\∀ dx,H dx=Af->dx≠e->D.nx U (upd (upd H e (.ext (XEx e C (Ab dx) t))) dx (.xd [(f,v)]))):=by
 intro pI s U H D I ⟨e,t,v,h1,h2,h3,hq⟩;refine plainObj_wpAny_Assign_Attribute (thn (hv pI s U H (λx H1=>x=v/\H1=H) I ⟨v,h3,rfl,rfl⟩) λu s1 ⟨x,H1,I1,r1,e1,e2⟩=>?_) sw
 subst e1 e2;refine thn (he pI s1 U H1 (λx H2=>x=.ref e/\H2=H1) I1 ⟨_,h1,rfl,rfl⟩) λu2 s2 ⟨x2,H2,I2,r2,e3,e4⟩=>?_
 subst e3 e4;cases r2;obtain⟨gC,T⟩:=hob _ I2.kIn;have ge:XEx e C Af t s2.heap:=(I2.hok e _ h2).1;obtain⟨hp,g2,d2,tk2,os2⟩:=s2;refine wL I2.kIn PySem.F.store_ValueError T gC hf hs ge λh' dx tk' kp ge' nd ns=>?_
 have nH:H2 dx=Af:=Lv I2.hok nd;have nde:dx≠e:=λz=>by rw[z,h2]at nH;cases nH
 have ap:HL X pI dx:=Mp I2 hx nd;have I3:=I2.write (x:=e) (e:=e) (o:=.ext (XEx e C (Ab dx) t)) (t':=tk') (by rw[h2];exact trivial) (.inl rfl) kp ⟨_,ge'⟩ ⟨ge',⟨_,ge'⟩,QR⟩
 have I4:=Wb (o:=.xd [(f,x)]) I3 ap (by rw[BQ nde];exact nH) ⟨_,ns,λy=>by
  by_cases z:y=f
  .subst z;rw[AI rfl];simp only[Gy,EM];exact r1
  .rw[AT z];have:(y==f)=Ad:=by simp[z]
   simp only[Gy,this]
   trivial⟩
 exact⟨U,_,I4,hq dx nH nde⟩
end
noncomputable def Hd(K:Fg)(C:Al):Aj:=match K.lookup C with
  |some ⟨_,_,.cls c,_⟩=>c.hasDict
  |_=>Ad
noncomputable def Si(g par f z:Ak)(k:Ag)(np apos p1 p2 p3 p4 p5 cpos p6 p7 p8 p9 p10:AO):Ac AY:=
 [.Expr (.Call (.Attribute (.Name g np) "__init__" apos) [.Name "self" p1,.JoinedStr [.FormattedValue (.Name par p2) (-1) Af p3,.Constant (.str z) k p4] p5] [] cpos) p6,.Assign [.Attribute (.Name "self" p7) f p8] (.Name par p9) p10]
inductive XIn (K:Fg) (mg:Ak->Ap Ai) (C:Al) (f:Ak):Prop
 |mk {fI OV:Al} {x qual g par z:Ak} {st:AY} {fd:Cf} {k:Ag} {np apos p1 p2 p3 p4 p5 cpos p6 p7 p8 p9 p10:AO} (xc:D4 K C (Ab (.ref fI))=Aa) (dc:Hd K C=Aa) (fn:Fun K x qual st fI fd) (ty:DY K (.ref fI)=Ab (.type "function"))
  (S:FnScope ["self",par] ["self",par] (C3 st)) (l1:(C3 st).names.lookup ("self" : Ak)=Ab .local) (l2:(C3 st).names.lookup par=Ab .local) (bd:G9 K fd ["self",par] []) (body:Gq st=Si g par f z k np apos p1 p2 p3 p4 p5 cpos p6 p7 p8 p9 p10)
  (gl:(C3 st).names.lookup g=Ab .globalImplicit) (mo:mg g=Ab (.ref OV)) (dg:(g==("__debug__" : Ak))=Ad) (dp:(par==("__debug__" : Ak))=Ad) (dq:(par==("__classdict__" : Ak))=Ad)
  (s1:E9 K (.ref OV) "__getattribute__" = Ab (Ab (.builtin "type.__getattribute__"))) (s2:FX K OV (.type "type")=Aa) (s3:FW K (.ref OV) (.type "type") "__init__" = Ab (.val (.builtin "ValueError.__init__")))
  (hl:(apos.endLine==cpos.line)=Aa) (hz:z.length<=1000) (hf:AU K (.ref C) f=Ab Af) (hs:AU K (.ref C) "__setattr__" = Ab (Ab (.builtin "object.__setattr__"))):XIn K mg C f
section
variable{P:AV}{w:AF}{K:Fg}{mg:Ak->Ap Ai}{base:AC}{CL:ClA}{C fI OV:Al}{x qual g par z f:Ak}{st:AY}{fd:Cf}{k:Ag}{np apos p1 p2 p3 p4 p5 cpos p6 p7 p8 p9 p10:AO}
variable{nm q:Ak}{N:Al}{bs bm:Ac Ai}{sn:Ac Ak}{sub:Ac Ai}{ab:Aj}{col:Ap Aj}{dd:Ap Al}{k0 k1 k2 k3 k5:Ap Ai}
theorem sW(hob:∀ h:AC,K.In h->h.get? C=Ab (CH nm q C N bs bm Aa sn sub ab col dd k0 k1 k2 k3 k5 "ValueError.__new__")/\Ev h veB bm)(fn:Fun K x qual st fI fd)(S:FnScope ["self",par] ["self",par] (C3 st))(l1:(C3 st).names.lookup ("self" : Ak)=Ab .local)(l2:(C3 st).names.lookup par=Ab .local)(bd:G9 K fd ["self",par] [])(body:Gq st=Si g par f z k np apos p1 p2 p3 p4 p5 cpos p6 p7 p8 p9 p10)(gl:(C3 st).names.lookup g=Ab .globalImplicit)(mo:mg g=Ab (.ref OV))(dg:(g==("__debug__" : Ak))=Ad)(dp:(par==("__debug__" : Ak))=Ad)(dq:(par==("__classdict__" : Ak))=Ad)(s1:E9 K (.ref OV) "__getattribute__" = Ab (Ab (.builtin "type.__getattribute__")))(s2:FX K OV (.type "type")=Aa)(s3:FW K (.ref OV) (.type "type") "__init__" = Ab (.val (.builtin "ValueError.__init__")))(hl:(apos.endLine==cpos.line)=Aa)(hz:z.length<=1000)(hf:AU K (.ref C) f=Ab Af)(hs:AU K (.ref C) "__setattr__" = Ab (Ab (.builtin "object.__setattr__"))){A:A9}{outer:Ac CN}{s:Ar}{E:XK}{e t:Al}{v:V}{u:Ai}{n:Ag}(hh:A.handled=Af)(hdp:A.depth<Jd)(hun:A.units+70<CA)(hgd:A.guards=Ab [])(e0:Env0 P w K mg base A outer s H)(he:H e=Ab (.ext (XEx e C Af t)))(rp:Rep K CL H B v d)(hx:xfD (n+1) d=Aa)(hn:n<=1)(r:BU v u):Fl (model P w) A (.call (.ref fI) ⟨[.ref e,u],[]⟩) (CR OW outer P w H s (λy H'=>y=.non/\∃ t' dx,H dx=Af/\dx≠e/\H'=upd (upd H e (.ext (XEx e C (Ab dx) t'))) dx (.xd [(f,v)])) E) s:=by
 obtain⟨oc,od,kV,doc,pm,an,cdv,ct,osl,rfl,lk,hcd⟩:=fn.ex;have KX:K.In s.heap:=e0.mod.kin.keeps λb o e=>(e0.bs b o e).1
 have lim:s.heap.NoLimit:=e0.mod.nolimit.keeps λb o e=>(e0.bs b o e).1
 have hkind:∀ y∈(["self",par]:Ac Ak).zip [BO e,u],(C3 st).names.lookup y.1=Ab .local\/((C3 st).names.lookup y.1=Ab .cell/\((Dr (s.heap.objs.size+1) (C3 st).names []).lookup y.1).isSome=Aa):=λy hy=>by
  refine .inl ?_;rcases At.mp hy with rfl|hy
  .exact l1
  .rw[BN.mp hy];exact l2
 have rv:Bo [.ref e,v] [.ref e,u]:=.cons rfl (.cons r .nil);refine aH hdp (KX _ _ lk) rfl S.co S.gen rfl (Z_6 KX hcd) (bd s [.ref e,u] KX rfl _ _ _ _ ?_);refine aS S.kind hkind λenv hen s1' x=>?_
 subst hen;refine⟨lim.keeps x.toInCall.keep,codeAny_func ?_⟩;have I:Inv (GS OW P w K mg base ["self",par] qual (C3 st) fI cdv A outer s H E) [] (start ["self",par] [.ref e,v]) H s1':=Uv S hh e0 rfl rv x;generalize hX:GS OW P w K mg base ["self",par] qual (C3 st) fI cdv A outer s H E=X at I;have pself:∀ p,PE X (.Name "self" p) (GR 0):=λp=>by rw[<-hX];exact N7 rfl (.inl l1)
 have ppar:∀ p,PE X (.Name par p) (GR 1):=λp=>by rw[<-hX];exact N7 rfl (.inl l2) dp dq
 have st1:=iZ (X:=X) (CL:=CL) (C:=C) (g:=g) (np:=np) (apos:=apos) (cpos:=cpos) (i:=0) (j:=1) (OV:=OV) (by rw[<-hX];exact hob) (by rw[<-hX];exact gl) (by rw[<-hX];exact mo) dg (by rw[<-hX];exact s1) (by rw[<-hX];exact s2) (by rw[<-hX];exact s3) hl (pself p1)
  (pQ (k:=k) (p1:=p3) (p2:=p4) (p3:=p5) (by rw[<-hX];show A.units+3+64<CA;omega) (by rw[<-hX];exact hgd) hz (ppar p2)) rfl rfl
 have st2:=rD (X:=X) (p8:=p8) (p10:=p10) (by rw[<-hX];exact hob) (by rw[<-hX];rfl) (by rw[<-hX];exact hf) (by rw[<-hX];exact hs) (pself p7) (ppar p9) rfl
 have all:=UJ (KD (pos:=p6) st1 rfl) (MC st2);have hk:=all [] s1' _ H {nx:=λ_ H'=>∃ t' dx,H dx=Af/\dx≠e/\H'=upd (upd H e (.ext (XEx e C (Ab dx) t'))) dx (.xd [(f,v)]),rt:=λ_ _=>Bl} I ⟨e,Af,t,v,d,B,n,rfl,he,rfl,by rw[<-hX];exact rp,hx,hn,λt'=>⟨e,t',v,rfl,F7,rfl,λdx h1 h2=>⟨t',dx,by rw[BQ h2]at h1;exact h1,h2,by rw[VA]⟩⟩⟩
 rw[body];refine Bu (by rw[<-hX]at hk;exact hk) (λfl s' hfl=>?_) λev s' hev=>hev
 cases fl with
 |next=>
  obtain⟨U',H',J,w'⟩:=hfl;exact⟨.non,H',J.os,J.bare,J.base,J.hok,rfl,rfl,w'⟩
 |ret y=>obtain⟨_,_,_,_,_,w'⟩:=hfl;exact w'.elim
 |brk=>obtain⟨_,_,_,w'⟩:=hfl;exact w'.elim
 |cont=>obtain⟨_,_,_,w'⟩:=hfl;exact w'.elim
end
theorem W8:∀(n m:Ag)(d:D),xfD n d=Aa->n+1<=m->nlD m d=Aa
 |0,m+1,.int i,_,_=>rfl
 |n+1,m+1,.tup ds,h,hm=>by
  have h':(DG ds.length 8&&ds.all (xfD n))=Aa:=h;rw[An]at h';show ds.all (nlD m)=Aa;rw[Ey]at h' ⊢;exact λx hx=>W8 n m x (h'.2 x hx) (by omega)
 |0,_,.tup _,h,_=>nomatch h
 |n+1,_,.int _,h,_=>nomatch h
section
variable{X:Cx}{CL:ClA}{W:XW}
def MU(xn:Ag->Ac D->R Ex)(c:Ag)(f:Ak)(ds:Ac D):Prop:=∃ d n,ds=[d]/\xfD (n+1) d=Aa/\n<=1/\xn c ds=.ok ⟨c,[(f,d)]⟩
theorem gW{e:Ao}{es:Ac Ao}(hcalm:X.calm=Aa)(hx:X.ex=[])(hr:Room k X.A)(rz:MY X CL W)(hg:Gl X g)(hm:X.mg g=Ab (.ref C))(hdb:(g==("__debug__" : Ak))=Ad)(hcl:CL c=Ab C)(ha:SA X CL W (e::es) fs)(hxn:∀ ds,xn c ds=.bad\/(xn c ds=.ok ⟨c,[]⟩/\D4 X.K C Af=Aa)\/∃ f,XIn X.K X.mg C f/\MU xn c f ds)(he:Ax (e::es) X.env=(Ad,eval e X.env)::Ax es X.env)(hpl:∀ pos,(Cd pos (Ax es X.env)).any (·.1)=Ad)(hz:∀ Y ds,fs Y=.ok ds->ds.length<=100000):SS X CL W (.Raise (Ab (.Call (.Name g np) (e::es) [] cpos)) Af pos) (λY=>O.of Y (noX (fs Y)) λxs=>O.of Y (xn c xs) λx=>.exn x Y):=λFz B pI s U H D I ⟨Y,x,p⟩=>by
 have hpl':(Cd cpos (Ax (e::es) X.env)).any (·.1)=Ad:=by rw[he];show (Ad||(Cd cpos (Ax es X.env)).any (·.1))=Ad;rw[hpl];rfl
 cases e1:fs Y with
 |bad=>dsimp only at p;rw[e1]at p;exact p.elim
 |exn y=>dsimp only at p;rw[e1]at p;exact p.elim
 |ok ds=>
  rcases hxn ds with e2|⟨e2,xc⟩|⟨f,xi,d,n,rfl,xf,hn,e2⟩
  .dsimp only at p;rw[e1]at p;have p2:Cj X.K CL Fz B W (O.of Y (xn c ds) λx=>.exn x Y) D:=p
   rw[e2]at p2;exact p2.elim
  .refine jG (fs:=fs) (xn:=λ_ ds'=>match xn c ds' with | .ok ⟨_,[]⟩=>.ok ⟨c,[]⟩|_=>.bad) hcalm rz hg hm hdb xc hcl ha (λds'=>by
    split
    .exact .inr rfl
    .exact .inl rfl) he hpl hz Fz B pI s U H D I ⟨Y,x,?_⟩
   dsimp only at p ⊢;rw[e1]at p ⊢;have p2:Cj X.K CL Fz B W (O.of Y (xn c ds) λx=>.exn x Y) D:=p
   rw[e2]at p2;show Cj X.K CL Fz B W (O.of Y (match xn c ds with | .ok ⟨_,[]⟩=>(.ok ⟨c,[]⟩:R Ex)|_=>.bad) λx=>.exn x Y) D
   rw[e2];exact p2
  .dsimp only at p;rw[e1]at p;have p2:Cj X.K CL Fz B W (O.of Y (xn c [d]) λx=>.exn x Y) D:=p
   rw[e2]at p2;have p3:∀ H,(∀ b o,Fz b o->H b=Ab o)->W ⟨c,[(f,d)]⟩ H:=p2;cases xi with
   |mk xc dc fn ty S l1 l2 bd body gl mo dg dp dq w1 w2 w3 hl hz0 hf hs=>
    rename_i fI OV x0 qual g0 par z st fd k0' np0 apos q1 q2 q3 q4 q5 cpos0 q6 q7 q8 q9 q10;obtain⟨bm,N,nm,qn,bs,hd,sn,sub,ab,col,dd,k0,k1,k2,k3,k5,mN,hob,hni,hbase⟩:=Qx I.kIn xc;have hdt:hd=Aa:=by
     unfold Hd at dc;split at dc
     .rename_i c0 d0 cd sl lk;have g1:=I.kIn _ _ lk;rw[(hob _ I.kIn).1]at g1;unfold CH at g1;cases g1;exact dc
     .cases dc
    subst hdt;have hob2:∀ h:AC,X.K.In h->h.get? C=Ab (CH nm qn C N bs bm Aa sn sub ab col dd k0 k1 k2 k3 k5 "ValueError.__new__")/\Ev h veB bm:=λh z=>⟨(hob h z).1,(hob h z).2.2⟩
    refine kK (bmB:=veB) (nm:=nm) (q:=qn) (C:=C) (N:=N) (fI:=fI) (bs:=bs) (bm:=bm) (hdct:=Aa) (sn:=sn) (sub:=sub) (ab:=ab) (col:=col) (dd:=dd) (k0:=k0) (k1:=k1) (k2:=k2) (k3:=k3) (k5:=k5) (mN:=mN) FD hbase (I.ok.hd hcalm) hpl' hni ?_;refine KG I hg hm ⟨rfl,?_⟩ hdb;have q1:=ha (B6 B Y U) cpos pI s U H (λvs H1=>AH H H1/\Reps X.K CL H1 (B6 B Y U) vs [d]) I ⟨x.aok,Y,x.good,by rw[e1];exact λvs H1 s1 r1=>⟨s1,r1⟩⟩
    rw[he]at q1 ⊢;refine Fq (Bu q1 (λus s2 ⟨vs,H2,I2,r2,sm2,rps⟩=>⟨rfl,?_⟩) λ_ _ z=>z)
    cases vs with
    |nil=>exact rps.elim
    |cons v vs=>
     cases vs with
     |cons=>exact rps.2.elim
     |nil=>
      obtain⟨u,rfl,ru⟩:=IL r2;obtain⟨o1,o2,o3⟩:=hob _ I2.kIn;obtain⟨oc,od,kV,doc,pm,an,cdv,ct,osl,efd,lk,hcd⟩:=fn.ex;have coc:oc=.type "function" := by
       have ty':(X.K.lookup fI).map _=_:=ty;rw[lk]at ty';exact BM ty'
      refine⟨by rw[DA];show 1<=_;omega,o1,o2,o3,⟨_,I2.kIn _ _ lk,coc⟩,λh' e0 made=>?_⟩
      obtain⟨t,ge,_⟩:=made.there;have I3:Inv X pI U H2 {s2 with heap:=h'}:=I2.kept (t':=s2.toks) made.keeps
      have ap:HL X pI e0:=Mp I2 hx made.new;have n0:H2 e0=Af:=Lv I2.hok made.new;have I4:=Wb (o:=.ext (XEx e0 C Af t)) I3 ap n0 ⟨ge,⟨_,ge⟩,QR⟩;have sm4:AH H2 (upd H2 e0 (.ext (XEx e0 C Af t))):=λb o z=>by rw[BQ λy=>by rw[y,n0]at z;cases z];exact z
      have ru0:=hr.mono (Gz k);have run:=sW (P:=X.prog) (w:=X.w) (mg:=X.mg) (base:=X.base) (CL:=CL) (E:=λ_ _ _=>Bl) (B:=B6 B Y U) (H:=upd H2 e0 (.ext (XEx e0 C Af t))) (t:=t) hob2 fn S l1 l2 bd body gl mo dg dp dq w1 w2 w3 hl hz0 hf hs (A:=X.A.under (.builtin "type.__call__" ⟨.ref C::[u],[]⟩)) (outer:=X.stack) hr.hd (by rw[fJ];have:=ru0.dp;omega) (by rw[fH];have:=ru0.un;omega) hr.gd (I4.env0.make C [u] []) F7 (Rep.same sm4 rps.1) xf hn ru
      refine HV (G3 run λr s' hq=>?_)
      cases r with
      |error _=>exact BB hq
      |ok fl=>
       cases fl with
       |next=>exact BB hq
       |brk=>exact BB hq
       |cont=>exact BB hq
       |ret u'=>
        obtain⟨v',H5,I5,rr,ev,t',dx,ndx,dne,eH⟩:=I4.after hq;subst ev;cases rr;have nd2:H2 dx=Af:=by rw[BQ dne]at ndx;exact ndx
        rw[VA]at eH;have H5e:H5 e0=Ab (.ext (XEx e0 C (Ab dx) t')):=by rw[eH,BQ (DX dne),F7]
        have ge5:XEx e0 C (Ab dx) t' s'.heap:=(I5.hok e0 _ H5e).1;have I6:=lE I5 H5e ap.2.2.2 λ_=>trivial
        have H6d:(if dx=e0 then Af else H5 dx)=Ab (.xd [(f,v)]):=by rw[AT dne,eH,F7]
        have sm6:AH H2 (λb=>if b=e0 then Af else H5 b):=λb o z=>by
         have nb:b≠e0:=λy=>by rw[y,n0]at z;cases z
         have nb2:b≠dx:=λy=>by rw[y,nd2]at z;cases z
         show (if b=e0 then Af else H5 b)=Ab o
         rw[AT nb,eH,BQ nb2,BQ nb];exact z
        refine⟨rfl,t',Ab dx,(hob2 _ I6.kIn).1,ge5,rz pI U _ s' e0 C (Ab dx) t' ⟨c,[(f,d)]⟩ I6 (λhx=>KA I2 hx made.new) (AI rfl) ge5 (λA hA=>⟨C,hcl,rfl,.inr ⟨dx,[(f,v)],rfl,λz=>?_,H6d,⟨rfl,?_⟩,trivial⟩⟩) (p3 _ λb o z=>sm6 _ _ (sm2 _ _ (x.same b o z)))⟩
        .obtain⟨ys,q⟩:=hA dx z;have q':(if dx=e0 then Af else H5 dx)=Ab (.lst ys):=q
         rw[H6d]at q';cases q'
        .exact Rz hA 5 d (W8 (n+1) 5 d xf (by omega)) (Rep.sub (λ_ z=>z.elim) _ (Rep.same sm6 rps.1))
end
section
variable{prog:AV}{w:AF}{A:A9}{E:Vq}{h:AC}{g:A8 E2}{d:IA}{t:Ag}{os:HW}{K:Fg}{e C dx:Al}{f:Ak}{mA:Ak->Ap Ai}{v:Ai}
theorem QS(p:Jy e C (Ab dx) h):XAt e C h:=let ⟨o,a,b,_⟩:=p;⟨o,a,b⟩
theorem fB{Q:Fin->Ar->Prop}(X:K.In h)(hf:AU K (.ref C) f=Ab Af)(hd:Hd K C=Aa)(p:Jy e C (Ab dx) h)(hn:h.Ns1 dx mA)(hv:mA f=Ab v)(hq:Q (.done (.ret v)) ⟨h,g,d,t,os⟩):Au (model prog w) A (Builtin.«object.__getattribute__» ⟨[.ref e,.str f tk],[]⟩) Q E ⟨h,g,d,t,os⟩:=by
 have L0:=J5 (M:=model prog w) (QS p);have L1:=CV (M:=model prog w) X hf;obtain⟨o,ge,oc,od,us,dt⟩:=p;unfold Hd at hd;split at hd
 .rename_i c' d' cd' sl' lk;have gC:=X _ _ lk;unfold Builtin.«object.__getattribute__»
  repeat (any_goals (first|assumption|with_reducible refine L0.at ?_|with_reducible refine L1.at ?_|wp_step))
  rw[dt];unfold instanceDict
  repeat (first|(with_reducible refine Cy ge ?_;rw[oc])|with_reducible refine Cy gC ?_|wp_step)
  rw[od]
  repeat (first|(with_reducible refine wpAny_nsGet hn.ns ?_;rw[hv])|wp_step)
  exact hq
 .cases hd
theorem wK{Q:Vq}(X:K.In h)(x:XcOk K C)(hf:AU K (.ref C) f=Ab Af)(hd:Hd K C=Aa)(p:Jy e C (Ab dx) h)(hn:h.Ns1 dx mA)(hv:mA f=Ab v)(hh:handedOut v=pure v)(hq:Q v ⟨h,g,d,t,os⟩):Au (model prog w) A (getAttrBy (.ref e) (.str f tk) fill expr) Q E ⟨h,g,d,t,os⟩:=by
 have L0:=J5 (M:=model prog w) (QS p);have L1:=CV (M:=model prog w) X x.ga;have L2:=CV (M:=model prog w) X x.gt;have f3:=Go.ga.bind (.ref e);have hx0:(expr&&JT (DE "BaseException.__getattribute__"))=Ad:=by cases expr<;>rfl
 have hx2:(DE "BaseException.__getattribute__" == DE "object.__getattribute__")=Ad:=by decide+kernel
 have hx1:(JT (BO C)&&DE "BaseException.__getattribute__" == DE "object.__getattribute__")=Ad:=by rw[hx2];rfl
 repeat (any_goals (first|assumption|with_reducible refine L0.at ?_|with_reducible refine L1.at ?_|with_reducible refine L2.at ?_|wp_step))
 refine Eo Go.ga.plain Zs (TJ X x (QS p) (fB X hf hd p hn hv ?_))
 repeat (any_goals (first|assumption|wp_step))
 all_goals trace_state
theorem kL{b:Aj}{Q:Vq}(X:K.In h)(x:XcOk K C)(hf:AU K (.ref C) f=Ab Af)(hd:Hd K C=Aa)(p:Jy e C (Ab dx) h)(hn:h.Ns1 dx mA)(hv:mA f=Ab v)(hh:handedOut v=pure v)(hq:Q v ⟨h,g,d,t+1,os⟩):Au (model prog w) A (getAttr (.ref e) f b) Q E ⟨h,g,d,t,os⟩:=by
 unfold getAttr
 repeat (any_goals (first|assumption|with_reducible apply wK X x hf hd p hn hv hh|wp_step))
end
section
variable{X:Cx}{CL:ClA}{W:XW}{K:Fg}{H:Hp}{A:Al->Prop}
theorem UH{f:Ak}{d:D}:∀{vs:Ac (Ak×V)}{fs:Ac (Ak×D)},Repf K CL H A vs fs->fs.lookup f=Ab d->∃ v,vs.lookup f=Ab v/\Rep K CL H A v d
 |[],[],_,q=>nomatch q
 |(n,v)::vs,(m,d')::fs,⟨⟨e,r⟩,rs⟩,q=>by
  have e':n=m:=e;subst e';by_cases z:(f==n)=Aa
  .simp only[Gy,z]at q ⊢;cases q;exact⟨v,rfl,r⟩
  .simp only[Gy,z]at q ⊢;exact UH rs q
theorem oH{a:Ao}{fa:Rho->R D}{f:Ak}(hxc:∀ c C,CL c=Ab C->XcOk X.K C)(hnf:∀ c C,CL c=Ab C->Hd X.K C=Aa/\AU X.K (.ref C) f=Ab Af)(ha:ST X CL W a fa)(hb:FE a f X.env (eval a X.env)=eval a X.env):SE X CL W (.Attribute a f pos) (λY=>(fa Y).bind λx=>MV x f):=λA=>by
 intro pI s U H Q I ⟨hA,Y,gd,q⟩;refine tT hb (thn (ha A pI s U H _ I ⟨hA,Y,gd,Bq.bind q (Q':=λv H1=>∃ d,Dl X.K CL H1 A v d/\Bq (λH2=>Rep X.K CL H2 A) W H1 (MV d f) Q) λd v H1 _ s1 r1 p1=>⟨d,r1,p1⟩⟩) λu s1 ⟨v,H1,I1,rv,d,rp,p1⟩=>?_)
 cases d with
 |exc c fs=>
  have p2:Bq (λH2=>Rep X.K CL H2 A) W H1 (match fs.lookup f with|some d=>.ok d|none=>.bad) Q:=p1
  cases el:fs.lookup f with
  |none=>rw[el]at p2;exact p2.elim
  |some d=>
   rw[el]at p2;rcases rp with ⟨e,C,φ,rfl,_,hc,hH,hφ,hfs⟩|⟨a,xs,ds,_,z,_⟩
   .rcases hfs with z|⟨dx,vs,nd,hd,rf,hφ2⟩
    .rw[z]at el;cases el
    .obtain⟨y,l,ry⟩:=UH rf el;cases rv;have ph:=(I1.hok e _ hH).1;obtain⟨o,ge,oc⟩:=hφ _ ph;obtain⟨o',ge',od,us,odt⟩:=hφ2 _ ph;rw[ge]at ge';cases ge';obtain⟨mA,hn,rel⟩:=I1.hok dx _ hd;obtain⟨u',hu,ru⟩:=MZ.some_of (v:=y) (o:=mA f) (by rw[<-l];exact rel f)
     obtain⟨k1,k2⟩:=hnf c C hc;obtain⟨hp,g2,d2,tk2,os2⟩:=s1;exact kL I1.kIn (hxc c C hc) k2 k1 ⟨o,ge,oc,od,us,odt⟩ hn hu (PySem.W.handedOut_of (iK ru)) ⟨y,H1,I1.tok _,ru,p2 y H1 (AH.refl H1) ry⟩
   .cases z
 |_=>exact p1.elim
end
theorem noF{P:Prop}(h:Ad=Aa):P:=nomatch h
structure Tc where
 sc:Cz
 N:Ac Ak
 /-- a def's name,its number,how many parameters it has -/
 fns:Ac (Ak×Ag×Ag)
 /-- built-in names that the text does not hide -/
 bl:Ac Ak
 /-- exceptions' classes by their names: those that are raised,all that are asked for -/
 rzs:Ac (Ak×Ag)
 exs:Ac (Ak×Ag)
 /-- the text's constants -/
 gls:Ac (Ak×Ag)
noncomputable def Se(T:Tc)(x:Ak):Aj:=match T.sc.names.lookup x with
  |some .local=>Aa
  |some .cell=>Aa
  |some .free=>Aa
  |_=>Ad
noncomputable def JA(T:Tc)(x:Ak):Aj:=match T.sc.names.lookup x with
  |some .local=>Aa
  |some .cell=>Aa
  |_=>Ad
noncomputable def glB(T:Tc)(x:Ak):Aj:=T.sc.names.lookup x==Ab .globalImplicit
noncomputable def HN(x:Ak):Aj:=!(x==("__debug__" : Ak)) && !(x==("__classdict__" : Ak)) && !(x==("__name__" : Ak))
noncomputable def isV(T:Tc)(x:Ak)(i:Ag):Aj:=T.N[i]? == Ab x&&Se T x&&HN x
noncomputable def isB(T:Tc)(x:Ak):Aj:=T.bl.contains x&&glB T x&&HN x
theorem Dq{a b:Aj}(h:(a&&b)=Aa):a=Aa/\b=Aa:=(An a b).mp h
theorem orT{a b:Aj}(h:(a||b)=Aa):a=Aa\/b=Aa:=(CU a b).mp h
noncomputable def GN(e:Ao)(F:Ak->Aj):Aj:=if c:e.ctorIdx=23 then Ze (motive_1:=λ_=>Aj) e c λx _=>F x else Ad
theorem G7{e:Ao}{F:Ak->Aj}(h:GN e F=Aa):∃ x p,e=Zd x p/\F x=Aa:=by
 by_cases c:e.ctorIdx=23
 .exact Ze (motive_1:=λe=>GN e F=Aa->∃ x p,e=Zd x p/\F x=Aa) e c (λx p h=>⟨x,p,rfl,h⟩) h
 .exact noF ((Cn c).symm.trans h)
noncomputable def Ka(e:Ao)(F:Const->Aj):Aj:=if c:e.ctorIdx=19 then Y_8 (motive_1:=λ_=>Aj) e c λc _ _=>F c else Ad
theorem Lp{e:Ao}{F:Const->Aj}(h:Ka e F=Aa):∃ c u p,e=Y_7 c u p/\F c=Aa:=by
 by_cases c:e.ctorIdx=19
 .exact Y_8 (motive_1:=λe=>Ka e F=Aa->∃ c u p,e=Y_7 c u p/\F c=Aa) e c (λc u p h=>⟨c,u,p,rfl,h⟩) h
 .exact noF ((Cn c).symm.trans h)
noncomputable def OC(e:Ao)(F:Ao->F3->Ao->Aj):Aj:=if c:e.ctorIdx=2 then Y_0 (motive_1:=λ_=>Aj) e c λx o y _=>F x o y else Ad
theorem US{e:Ao}{F:Ao->F3->Ao->Aj}(h:OC e F=Aa):∃ x o y p,e=YZ x o y p/\F x o y=Aa:=by
 by_cases c:e.ctorIdx=2
 .exact Y_0 (motive_1:=λe=>OC e F=Aa->∃ x o y p,e=YZ x o y p/\F x o y=Aa) e c (λx o y p h=>⟨x,o,y,p,rfl,h⟩) h
 .exact noF ((Cn c).symm.trans h)
noncomputable def KW(e:Ao)(F:Km->Ao->Aj):Aj:=if c:e.ctorIdx=3 then Zm (motive_1:=λ_=>Aj) e c λo x _=>F o x else Ad
theorem NQ{e:Ao}{F:Km->Ao->Aj}(h:KW e F=Aa):∃ o x p,e=Zl o x p/\F o x=Aa:=by
 by_cases c:e.ctorIdx=3
 .exact Zm (motive_1:=λe=>KW e F=Aa->∃ o x p,e=Zl o x p/\F o x=Aa) e c (λo x p h=>⟨o,x,p,rfl,h⟩) h
 .exact noF ((Cn c).symm.trans h)
noncomputable def Kc(e:Ao)(F:BoolOp->Ac Ao->AO->Aj):Aj:=if c:e.ctorIdx=0 then Y_2 (motive_1:=λ_=>Aj) e c λo xs p=>F o xs p else Ad
theorem Ms{e:Ao}{F:BoolOp->Ac Ao->AO->Aj}(h:Kc e F=Aa):∃ o xs p,e=Y_1 o xs p/\F o xs p=Aa:=by
 by_cases c:e.ctorIdx=0
 .exact Y_2 (motive_1:=λe=>Kc e F=Aa->∃ o xs p,e=Y_1 o xs p/\F o xs p=Aa) e c (λo xs p h=>⟨o,xs,p,rfl,h⟩) h
 .exact noF ((Cn c).symm.trans h)
noncomputable def LQ(e:Ao)(F:Ao->Ac DC->Ac Ao->Aj):Aj:=if c:e.ctorIdx=15 then Y_6 (motive_1:=λ_=>Aj) e c λx os ys _=>F x os ys else Ad
theorem Qp{e:Ao}{F:Ao->Ac DC->Ac Ao->Aj}(h:LQ e F=Aa):∃ x os ys p,e=Y_5 x os ys p/\F x os ys=Aa:=by
 by_cases c:e.ctorIdx=15
 .exact Y_6 (motive_1:=λe=>LQ e F=Aa->∃ x os ys p,e=Y_5 x os ys p/\F x os ys=Aa) e c (λx os ys p h=>⟨x,os,ys,p,rfl,h⟩) h
 .exact noF ((Cn c).symm.trans h)
noncomputable def OB(e:Ao)(F:Ao->Ac Ao->Ac Eu->AO->Aj):Aj:=if c:e.ctorIdx=16 then Y_4 (motive_1:=λ_=>Aj) e c λf as ks p=>F f as ks p else Ad
theorem UQ{e:Ao}{F:Ao->Ac Ao->Ac Eu->AO->Aj}(h:OB e F=Aa):∃ f as ks p,e=Y_3 f as ks p/\F f as ks p=Aa:=by
 by_cases c:e.ctorIdx=16
 .exact Y_4 (motive_1:=λe=>OB e F=Aa->∃ f as ks p,e=Y_3 f as ks p/\F f as ks p=Aa) e c (λf as ks p h=>⟨f,as,ks,p,rfl,h⟩) h
 .exact noF ((Cn c).symm.trans h)
noncomputable def OD(e:Ao)(F:Ao->Ak->AO->Aj):Aj:=if c:e.ctorIdx=20 then YY (motive_1:=λ_=>Aj) e c λo m p=>F o m p else Ad
theorem UT{e:Ao}{F:Ao->Ak->AO->Aj}(h:OD e F=Aa):∃ o m p,e=YX o m p/\F o m p=Aa:=by
 by_cases c:e.ctorIdx=20
 .exact YY (motive_1:=λe=>OD e F=Aa->∃ o m p,e=YX o m p/\F o m p=Aa) e c (λo m p h=>⟨o,m,p,rfl,h⟩) h
 .exact noF ((Cn c).symm.trans h)
noncomputable def Ot(e:Ao)(F:Ao->Ao->Aj):Aj:=if c:e.ctorIdx=21 then Zi (motive_1:=λ_=>Aj) e c λx y _=>F x y else Ad
theorem UM{e:Ao}{F:Ao->Ao->Aj}(h:Ot e F=Aa):∃ x y p,e=Zh x y p/\F x y=Aa:=by
 by_cases c:e.ctorIdx=21
 .exact Zi (motive_1:=λe=>Ot e F=Aa->∃ x y p,e=Zh x y p/\F x y=Aa) e c (λx y p h=>⟨x,y,p,rfl,h⟩) h
 .exact noF ((Cn c).symm.trans h)
noncomputable def RF(e:Ao)(F:Ap Ao->Ap Ao->Ap Ao->Aj):Aj:=if c:e.ctorIdx=26 then Zg (motive_1:=λ_=>Aj) e c λl u s _=>F l u s else Ad
theorem mB{e:Ao}{F:Ap Ao->Ap Ao->Ap Ao->Aj}(h:RF e F=Aa):∃ l u s p,e=Zf l u s p/\F l u s=Aa:=by
 by_cases c:e.ctorIdx=26
 .exact Zg (motive_1:=λe=>RF e F=Aa->∃ l u s p,e=Zf l u s p/\F l u s=Aa) e c (λl u s p h=>⟨l,u,s,p,rfl,h⟩) h
 .exact noF ((Cn c).symm.trans h)
noncomputable def J9(e:Ao)(F:Ac Ao->Aj):Aj:=if c:e.ctorIdx=25 then Zk (motive_1:=λ_=>Aj) e c λxs _ _=>F xs else Ad
theorem Lo{e:Ao}{F:Ac Ao->Aj}(h:J9 e F=Aa):∃ xs c p,e=Zj xs c p/\F xs=Aa:=by
 by_cases c:e.ctorIdx=25
 .exact Zk (motive_1:=λe=>J9 e F=Aa->∃ xs c p,e=Zj xs c p/\F xs=Aa) e c (λxs c p h=>⟨xs,c,p,rfl,h⟩) h
 .exact noF ((Cn c).symm.trans h)
noncomputable def Ow(e:Ao)(F:Ac Ao->Aj):Aj:=if c:e.ctorIdx=24 then Za (motive_1:=λ_=>Aj) e c λxs _=>F xs else Ad
theorem Qn{e:Ao}{F:Ac Ao->Aj}(h:Ow e F=Aa):∃ xs p,e=Y_9 xs p/\F xs=Aa:=by
 by_cases c:e.ctorIdx=24
 .exact Za (motive_1:=λe=>Ow e F=Aa->∃ xs p,e=Y_9 xs p/\F xs=Aa) e c (λxs p h=>⟨xs,p,rfl,h⟩) h
 .exact noF ((Cn c).symm.trans h)
noncomputable def RI(e:Ao)(F:Ao->Ac JD->Cz->Aj):Aj:=if c:e.ctorIdx=8 then Zc (motive_1:=λ_=>Aj) e c λx gs sc _=>F x gs sc else Ad
theorem mE{e:Ao}{F:Ao->Ac JD->Cz->Aj}(h:RI e F=Aa):∃ x gs sc p,e=Zb x gs sc p/\F x gs sc=Aa:=by
 by_cases c:e.ctorIdx=8
 .exact Zc (motive_1:=λe=>RI e F=Aa->∃ x gs sc p,e=Zb x gs sc p/\F x gs sc=Aa) e c (λx gs sc p h=>⟨x,gs,sc,p,rfl,h⟩) h
 .exact noF ((Cn c).symm.trans h)
noncomputable def RJ(e:AY)(F:Ac Ao->Ao->Aj):Aj:=if c:e.ctorIdx=5 then ZP (motive_2:=λ_=>Aj) e c λts v _=>F ts v else Ad
theorem mI{e:AY}{F:Ac Ao->Ao->Aj}(h:RJ e F=Aa):∃ ts v p,e=ZO ts v p/\F ts v=Aa:=by
 by_cases c:e.ctorIdx=5
 .exact ZP (motive_2:=λe=>RJ e F=Aa->∃ ts v p,e=ZO ts v p/\F ts v=Aa) e c (λts v p h=>⟨ts,v,p,rfl,h⟩) h
 .exact noF ((Cn c).symm.trans h)
noncomputable def LP(e:AY)(F:Ao->Aj):Aj:=if c:e.ctorIdx=24 then ZR (motive_2:=λ_=>Aj) e c λv _=>F v else Ad
theorem Qo{e:AY}{F:Ao->Aj}(h:LP e F=Aa):∃ v p,e=ZQ v p/\F v=Aa:=by
 by_cases c:e.ctorIdx=24
 .exact ZR (motive_2:=λe=>LP e F=Aa->∃ v p,e=ZQ v p/\F v=Aa) e c (λv p h=>⟨v,p,rfl,h⟩) h
 .exact noF ((Cn c).symm.trans h)
noncomputable def RG(e:AY)(F:Ap Ao->Aj):Aj:=if c:e.ctorIdx=3 then ZX (motive_2:=λ_=>Aj) e c λo _=>F o else Ad
theorem mC{e:AY}{F:Ap Ao->Aj}(h:RG e F=Aa):∃ o p,e=ZW o p/\F o=Aa:=by
 by_cases c:e.ctorIdx=3
 .exact ZX (motive_2:=λe=>RG e F=Aa->∃ o p,e=ZW o p/\F o=Aa) e c (λo p h=>⟨o,p,rfl,h⟩) h
 .exact noF ((Cn c).symm.trans h)
noncomputable def OR(e:AY)(F:Ao->Ac AY->Ac AY->Aj):Aj:=if c:e.ctorIdx=12 then ZT (motive_2:=λ_=>Aj) e c λt xs ys _=>F t xs ys else Ad
theorem Vl{e:AY}{F:Ao->Ac AY->Ac AY->Aj}(h:OR e F=Aa):∃ t xs ys p,e=Stmt.If t xs ys p/\F t xs ys=Aa:=by
 by_cases c:e.ctorIdx=12
 .exact ZT (motive_2:=λe=>OR e F=Aa->∃ t xs ys p,e=Stmt.If t xs ys p/\F t xs ys=Aa) e c (λt xs ys p h=>⟨t,xs,ys,p,rfl,h⟩) h
 .exact noF ((Cn c).symm.trans h)
noncomputable def Ox(e:AY)(F:Ao->Ao->Ac AY->Ac AY->Aj):Aj:=if c:e.ctorIdx=9 then ZS (motive_2:=λ_=>Aj) e c λt it xs ys _=>F t it xs ys else Ad
theorem UP{e:AY}{F:Ao->Ao->Ac AY->Ac AY->Aj}(h:Ox e F=Aa):∃ t it xs ys p,e=Stmt.For t it xs ys p/\F t it xs ys=Aa:=by
 by_cases c:e.ctorIdx=9
 .exact ZS (motive_2:=λe=>Ox e F=Aa->∃ t it xs ys p,e=Stmt.For t it xs ys p/\F t it xs ys=Aa) e c (λt it xs ys p h=>⟨t,it,xs,ys,p,rfl,h⟩) h
 .exact noF ((Cn c).symm.trans h)
noncomputable def Ou(e:AY)(F:Ap Ao->Ap Ao->Aj):Aj:=if c:e.ctorIdx=16 then ZV (motive_2:=λ_=>Aj) e c λa b _=>F a b else Ad
theorem mD{e:AY}{F:Ap Ao->Ap Ao->Aj}(h:Ou e F=Aa):∃ a b p,e=ZU a b p/\F a b=Aa:=by
 by_cases c:e.ctorIdx=16
 .exact ZV (motive_2:=λe=>Ou e F=Aa->∃ a b p,e=ZU a b p/\F a b=Aa) e c (λa b p h=>⟨a,b,p,rfl,h⟩) h
 .exact noF ((Cn c).symm.trans h)
noncomputable def Js{α:Type}:Ac α->(α->Ac α->Aj)->Aj
 |[],_=>Ad
 |x::xs,F=>F x xs
theorem JZ{l:Ac α}{F:α->Ac α->Aj}(h:Js l F=Aa):∃ x xs,l=x::xs/\F x xs=Aa:=by
 cases l with
 |nil=>exact noF h
 |cons x xs=>exact⟨x,xs,rfl,h⟩
theorem Jt{l:Ac α}(h:l.isEmpty=Aa):l=[]:=List.isEmpty_iff.mp h
noncomputable def FO{α:Type}(l:Ac α)(F:α->Aj):Aj:=Js l λx r=>r.isEmpty&&F x
theorem GM{l:Ac α}{F:α->Aj}(h:FO l F=Aa):∃ x,l=[x]/\F x=Aa:=by
 obtain⟨x,r,rfl,h⟩:=JZ h;obtain⟨h1,h2⟩:=Dq h;exact⟨x,by rw[Jt h1],h2⟩
noncomputable def Ir{α:Type}(l:Ac α)(F:α->α->Aj):Aj:=Js l λx r=>FO r λy=>F x y
theorem JY{l:Ac α}{F:α->α->Aj}(h:Ir l F=Aa):∃ x y,l=[x,y]/\F x y=Aa:=by
 obtain⟨x,r,rfl,h⟩:=JZ h;obtain⟨y,rfl,h⟩:=GM h;exact⟨x,y,rfl,h⟩
noncomputable def Kb(e:Ao)(F:Ak->Ac Ao->Aj):Aj:=OB e λf as ks _=>GN f λg=>ks.isEmpty&&F g as
theorem Kz{e:Ao}{F:Ak->Ac Ao->Aj}(h:Kb e F=Aa):∃ g p as q,e=.Call (.Name g p) as [] q/\F g as=Aa:=by
 obtain⟨f,as,ks,q,rfl,h⟩:=UQ h;obtain⟨g,p,rfl,h⟩:=G7 h;obtain⟨h1,h2⟩:=Dq h;exact⟨g,p,as,q,by rw[Jt h1],h2⟩
noncomputable def MJ(e:Ao)(F:Ak->Ao->Ac Ao->Aj):Aj:=Kb e λg l=>Js l λx xs=>F g x xs
theorem Ny{e:Ao}{F:Ak->Ao->Ac Ao->Aj}(h:MJ e F=Aa):∃ g p x xs q,e=.Call (.Name g p) (x::xs) [] q/\F g x xs=Aa:=by
 obtain⟨g,p,as,q,rfl,h⟩:=Kz h;obtain⟨x,xs,rfl,h⟩:=JZ h;exact⟨g,p,x,xs,q,rfl,h⟩
noncomputable def RH(st:AY)(F:Ak->Ak->Ac Ao->Aj):Aj:=LP st λe=>OB e λf as ks cp=>OD f λo m ap=>GN o λx=>ks.isEmpty&&(ap.endLine==cp.line&&F x m as)
theorem UO{st:AY}{F:Ak->Ak->Ac Ao->Aj}(h:RH st F=Aa):∃ x p m ap as cp q,st=.Expr (.Call (.Attribute (.Name x p) m ap) as [] cp) q/\ap.endLine=cp.line/\F x m as=Aa:=by
 obtain⟨e,q,rfl,h⟩:=Qo h;obtain⟨f,as,ks,cp,rfl,h⟩:=UQ h;obtain⟨o,m,ap,rfl,h⟩:=UT h;obtain⟨x,p,rfl,h⟩:=G7 h;obtain⟨h1,h⟩:=Dq h;obtain⟨h2,h3⟩:=Dq h;exact⟨x,p,m,ap,as,cp,q,by rw[Jt h1],eq_of_beq h2,h3⟩
noncomputable def Ry(st:AY)(F:Ao->Ao->Aj):Aj:=RJ st λts v=>FO ts λt=>F t v
theorem UU{st:AY}{F:Ao->Ao->Aj}(h:Ry st F=Aa):∃ t v q,st=.Assign [t] v q/\F t v=Aa:=by
 obtain⟨ts,v,q,rfl,h⟩:=mI h;obtain⟨t,rfl,h⟩:=GM h;exact⟨t,v,q,rfl,h⟩
noncomputable def MO(st:AY)(F:Ak->Ao->Aj):Aj:=Ry st λt v=>GN t λx=>F x v
theorem Qq{st:AY}{F:Ak->Ao->Aj}(h:MO st F=Aa):∃ x p v q,st=.Assign [.Name x p] v q/\F x v=Aa:=by
 obtain⟨t,v,q,rfl,h⟩:=UU h;obtain⟨x,p,rfl,h⟩:=G7 h;exact⟨x,p,v,q,rfl,h⟩
noncomputable def Sk(e:Ao)(F:Ao->Ao->Ao->Ac Ao->Cz->Aj):Aj:=RI e λx gs sc=>FO gs λg=>decide (g.is_async=0)&&F x g.target g.iter g.ifs sc
theorem Vk{e:Ao}{F:Ao->Ao->Ao->Ac Ao->Cz->Aj}(h:Sk e F=Aa):∃ x t it ifs sc p,e=.ListComp x [⟨t,it,ifs,0⟩] sc p/\F x t it ifs sc=Aa:=by
 obtain⟨x,gs,sc,p,rfl,h⟩:=mE h;obtain⟨g,rfl,h⟩:=GM h;obtain⟨t,it,ifs,a⟩:=g;obtain⟨h1,h2⟩:=Dq h;have h1:a=0:=AW h1;subst h1;exact⟨x,t,it,ifs,sc,p,rfl,h2⟩
noncomputable def OQ(e:E)(F:E->Aj):Aj:=if c:e.ctorIdx=8 then E.no.elim (motive_1:=λ_=>Aj) e c F else Ad
theorem qE{e:E}{F:E->Aj}(h:OQ e F=Aa):∃ a,e=E.no a/\F a=Aa:=by
 by_cases c:e.ctorIdx=8
 .exact E.no.elim (motive_1:=λe=>OQ e F=Aa->∃ a,e=E.no a/\F a=Aa) e c (λa h=>⟨a,rfl,h⟩) h
 .exact noF ((Cn c).symm.trans h)
noncomputable def OE(e:E)(F:Es->Aj):Aj:=if c:e.ctorIdx=9 then E.and.elim (motive_1:=λ_=>Aj) e c F else Ad
theorem mJ{e:E}{F:Es->Aj}(h:OE e F=Aa):∃ es,e=E.and es/\F es=Aa:=by
 by_cases c:e.ctorIdx=9
 .exact E.and.elim (motive_1:=λe=>OE e F=Aa->∃ es,e=E.and es/\F es=Aa) e c (λes h=>⟨es,rfl,h⟩) h
 .exact noF ((Cn c).symm.trans h)
noncomputable def OO(e:E)(F:Es->Aj):Aj:=if c:e.ctorIdx=10 then E.or.elim (motive_1:=λ_=>Aj) e c F else Ad
theorem qD{e:E}{F:Es->Aj}(h:OO e F=Aa):∃ es,e=E.or es/\F es=Aa:=by
 by_cases c:e.ctorIdx=10
 .exact E.or.elim (motive_1:=λe=>OO e F=Aa->∃ es,e=E.or es/\F es=Aa) e c (λes h=>⟨es,rfl,h⟩) h
 .exact noF ((Cn c).symm.trans h)
noncomputable def Oy(e:E)(F:DC->E->E->Aj):Aj:=if c:e.ctorIdx=11 then E.cmp.elim (motive_1:=λ_=>Aj) e c F else Ad
theorem mF{e:E}{F:DC->E->E->Aj}(h:Oy e F=Aa):∃ o a b,e=E.cmp o a b/\F o a b=Aa:=by
 by_cases c:e.ctorIdx=11
 .exact E.cmp.elim (motive_1:=λe=>Oy e F=Aa->∃ o a b,e=E.cmp o a b/\F o a b=Aa) e c (λo a b h=>⟨o,a,b,rfl,h⟩) h
 .exact noF ((Cn c).symm.trans h)
noncomputable def Oz(e:E)(F:DC->DC->E->E->E->Aj):Aj:=if c:e.ctorIdx=12 then E.cmp2.elim (motive_1:=λ_=>Aj) e c F else Ad
theorem mG{e:E}{F:DC->DC->E->E->E->Aj}(h:Oz e F=Aa):∃ o q a b c,e=E.cmp2 o q a b c/\F o q a b c=Aa:=by
 by_cases c:e.ctorIdx=12
 .exact E.cmp2.elim (motive_1:=λe=>Oz e F=Aa->∃ o q a b c,e=E.cmp2 o q a b c/\F o q a b c=Aa) e c (λo q a b c h=>⟨o,q,a,b,c,rfl,h⟩) h
 .exact noF ((Cn c).symm.trans h)
noncomputable def OA(e:E)(F:BI->Es->Aj):Aj:=if c:e.ctorIdx=15 then E.bi.elim (motive_1:=λ_=>Aj) e c F else Ad
theorem mH{e:E}{F:BI->Es->Aj}(h:OA e F=Aa):∃ b as,e=E.bi b as/\F b as=Aa:=by
 by_cases c:e.ctorIdx=15
 .exact E.bi.elim (motive_1:=λe=>OA e F=Aa->∃ b as,e=E.bi b as/\F b as=Aa) e c (λb as h=>⟨b,as,rfl,h⟩) h
 .exact noF ((Cn c).symm.trans h)
noncomputable def So(e:E)(F:Aj->Aj):Aj:=if c:e.ctorIdx=1 then E.bl.elim (motive_1:=λ_=>Aj) e c F else Ad
theorem qG{e:E}{F:Aj->Aj}(h:So e F=Aa):∃ b,e=E.bl b/\F b=Aa:=by
 by_cases c:e.ctorIdx=1
 .exact E.bl.elim (motive_1:=λe=>So e F=Aa->∃ b,e=E.bl b/\F b=Aa) e c (λb h=>⟨b,rfl,h⟩) h
 .exact noF ((Cn c).symm.trans h)
noncomputable def MN(e:E)(F:Ag->Aj):Aj:=if c:e.ctorIdx=4 then E.var.elim (motive_1:=λ_=>Aj) e c F else Ad
theorem Qm{e:E}{F:Ag->Aj}(h:MN e F=Aa):∃ i,e=E.var i/\F i=Aa:=by
 by_cases c:e.ctorIdx=4
 .exact E.var.elim (motive_1:=λe=>MN e F=Aa->∃ i,e=E.var i/\F i=Aa) e c (λi h=>⟨i,rfl,h⟩) h
 .exact noF ((Cn c).symm.trans h)
noncomputable def LR(e:E)(F:Ag->Es->Aj):Aj:=if c:e.ctorIdx=14 then E.call.elim (motive_1:=λ_=>Aj) e c F else Ad
theorem UR{e:E}{F:Ag->Es->Aj}(h:LR e F=Aa):∃ f as,e=E.call f as/\F f as=Aa:=by
 by_cases c:e.ctorIdx=14
 .exact E.call.elim (motive_1:=λe=>LR e F=Aa->∃ f as,e=E.call f as/\F f as=Aa) e c (λf as h=>⟨f,as,rfl,h⟩) h
 .exact noF ((Cn c).symm.trans h)
noncomputable def On(e:E):Aj:=decide (e.ctorIdx=0)
theorem kZ{e:E}(h:On e=Aa):e=.non:=E.non.elim (motive_1:=λe=>e=.non) e (AW h) rfl
noncomputable def DZ:Ao->Aj
 |.Starred _ _=>Ad
 |_=>Aa
noncomputable def Vm:Ao->Aj
 |.Slice _ _ _ _=>Ad
 |_=>Aa
noncomputable def MP:Ao->Aj
 |.Set _ _ _=>Ad
 |_=>Aa
noncomputable def KO:Ao->Aj
 |.ListComp _ _ _ _=>Ad
 |.SetComp _ _ _ _=>Ad
 |.DictComp _ _ _ _ _=>Ad
 |_=>Aa
noncomputable def S8(tu:Aj):Ao->Aj
 |.Tuple ..=>tu
 |.Name ..=>!tu
 |_=>Ad
noncomputable def kx:Ao->Aj
 |.Tuple _ _ _=>Aa
 |_=>Ad
noncomputable def Xx:Ao->Aj
 |.Tuple _ _ _=>Ad
 |_=>Aa
noncomputable def Nx:Ao->Aj
 |.UnaryOp _ _ _=>Ad
 |.BoolOp _ _ _=>Ad
 |.IfExp _ _ _ _=>Ad
 |.Compare _ _ _ _=>Ad
 |_=>Aa
noncomputable def RA:Ki->Ap Ak
 |.int=>Ab "int"
 |.bool=>Ab "bool"
 |.str=>Ab "str"
 |.list=>Ab "list"
 |.tuple=>Ab "tuple"
 |_=>Af
noncomputable def RB:BI->Ap Ak
 |.len=>Ab "len"
 |.abs=>Af
 |.max=>Af
 |.min=>Af
 |.int=>Af
 |.list=>Ab "list"
 |.tuple=>Ab "tuple"
 |.all=>Ab "all"
 |.any=>Ab "any"
 |.sum=>Ab "sum"
 |.sorted=>Af
 |.tmin=>Af
 |.tmax=>Af
 |_=>Af
noncomputable def Rs(o scope:Cz):Cz:={scope with names:=scope.names.map λ(n,k)=>if (k==.free&&o.kind==.function&&o.names.lookup n==Ab .cell) then (n,.cell) else (n,k)}
noncomputable def LX:Ac Ag->Ac Ak->Ac Ak->Ac Ak
 |t::ts,x::xs,N=>LX ts xs ((N.map λy=>if y==x then N.getD t x else y).set t x)
 |_,_,N=>N
noncomputable def LG:Ac Ak->Aj
 |[]=>Aa
 |x::xs=>!xs.contains x&&LG xs
noncomputable def MX(T:Tc)(scope:Cz)(ts:Ac Ag)(N':Ac Ak):Aj:=
  scope.kind==.function&&scope.names.all (λy=>scope.names.lookup y.1==Ab y.2) &&
  scope.names.all (λy=>y.2 != .free||T.sc.names.lookup y.1==Ab .cell||T.sc.names.lookup y.1==Ab .free) &&
  N'.length==T.N.length&&LG N' &&
  (Bm N'.length).all λi=>ts.contains i||(match N'[i]? with
    |some x=>(scope.names.lookup x != Ab .local&&scope.names.lookup x != Ab .cell)&&(scope.names.lookup x != Ab .free||T.N[i]? == Ab x)
    | none=>Aa)
noncomputable def FN:Ac Ao->Ap (Ac Ak)
 |[]=>Ab []
 |.Name x _::r=>(FN r).map (x :: ·)
 |_=>Af
noncomputable def tgN(ys:Ac Ao):Ac Ak:=(FN ys).getD []
noncomputable def tgB(T:Tc):Ac Ag->Ac Ak->Aj
 |[],[]=>Aa
 |t::ts,x::xs=>T.N[t]? == Ab x&&T.sc.names.lookup x==Ab .local&&tgB T ts xs
 |_,_=>Ad
noncomputable def tgO(T:Tc)(scope:Cz)(t:Ag)(x:Ak):Aj:=T.N[t]? == Ab x&&(T.sc.names.lookup x==Ab .local||(T.sc.names.lookup x==Ab .cell&&scope.names.lookup x==Ab .cell))
noncomputable def tgC(T:Tc):Ac Ag->Ac Ak->Aj
 |[],[]=>Aa
 |t::ts,x::xs=>T.N[t]? == Ab x&&JA T x&&tgC T ts xs
 |_,_=>Ad
noncomputable def Tc.blk(T:Tc)(scope:Cz)(ts:Ac Ag)(xs:Ac Ak):Tc:={T with sc:=Rs T.sc scope,N:=LX ts xs T.N}
noncomputable def Sq:E->Aj
 |.lst _=>Aa
 |.comp _ _ _ _=>Aa
 |.compT _ _ _ _=>Aa
 |.bin .Add _ _=>Aa
 |.bi .list _=>Aa
 |.sl _ _ _=>Aa
 |_=>Ad
noncomputable def Ol:E->Ap E
  | .bi b as=>(match b with
    | .list=>(match as with
      | .cons x r=>(match r with
        | .nil=>(match x with
          | .bin op a c=>(match op with
            | .Add=>(match c with
              | .tup es=>(match es with
                |.nil=>Ab a
                | _=>Af)
              | _=>Af)
            | _=>Af)
          | _=>Af)
        | _=>Af)
      | .nil=>Af)
    | _=>Af)
  |_=>Af
theorem kT{e a:E}(q:Ol e=Ab a):e=.bi .list (.cons (.bin .Add a (.tup .nil)) .nil):=by
 unfold Ol at q
 repeat' split at q
 all_goals first|cases q;done|skip
 cases q;rfl
theorem pK(Z:Gam){e:E}(h:Sq e=Aa):Eg Z e=Aa:=by
 unfold Sq at h;split at h<;>first|rfl|cases h
noncomputable def inX(l:Ac (Ak×Ag))(g:Ak)(c:Ag):Aj:=l.any λp=>p.1==g&&p.2==c
noncomputable def Tn:Ao->Ap (Ao×Ao×AO)
  | .Compare x ops ys p=>(match ops with
    | [.Lt]=>(match ys with
      |[y]=>Ab (x,y,p)
      | _=>Af)
    | _=>Af)
  |_=>Af
noncomputable def RY(_:Es):Ap (E×E):=Af
noncomputable def R9(_:Tc)(_:Tc->Ao->E->Aj)(_:Ao)(_:Ac DC)(_:Ac Ao)(_:BI)(_:Es):Aj:=Ad
noncomputable def Th(T:Tc)(e:Ao)(b:BI)(as:Es):Aj:=Ad
noncomputable def Rj:Ao->Ap (Ak×AO)
 |.Name x p=>Ab (x,p)
 |_=>Af
theorem Uf{e:Ao}{t:Ak×AO}(q:Rj e=Ab t):e=.Name t.1 t.2:=by
 cases e with
 |Name x p=>cases q;rfl
 |_=>cases q
noncomputable def Q8:Ao->Ap (Ao×Ac Ao×Ac Eu×AO)
 |.Call f as ks p=>Ab (f,as,ks,p)
 |_=>Af
theorem Uh{e:Ao}{t:Ao×Ac Ao×Ac Eu×AO}(q:Q8 e=Ab t):e=.Call t.1 t.2.1 t.2.2.1 t.2.2.2:=by
 cases e with
 |Call f as ks p=>cases q;rfl
 |_=>cases q
noncomputable def bG:Ao->Ap (Ac Ao×Ag×AO)
 |.Tuple es k p=>Ab (es,k,p)
 |_=>Af
noncomputable def one{α:Type}:Ac α->Ap α
 |[a]=>Ab a
 |_=>Af
theorem zW{l:Ac α}{a:α}(q:one l=Ab a):l=[a]:=by
  match l,q with
  |[b],q=>cases q;rfl
noncomputable def M0(e:Ao):Ap (Ak×Ak×Ac Ao):=(Q8 e).bind λc=>(Rj c.1).bind λg=>(one c.2.1).bind λa=>(Q8 a).bind λd=>(Rj d.1).bind λh=>if (c.2.2.1.isEmpty&&d.2.2.1.isEmpty)=Aa then Ab (g.1,h.1,d.2.1) else Af
theorem rM{e:Ao}{h:Ak}{bs:Ac Ao}(q:M0 e=Ab (g,h,bs)):∃ p p' pos pos',e=.Call (.Name g p) [.Call (.Name h p') bs [] pos'] [] pos:=by
 obtain⟨⟨f,as,ks,pos⟩,e1,q⟩:=AS.mp q;obtain⟨⟨g',p⟩,e2,q⟩:=AS.mp q;obtain⟨a,e3,q⟩:=AS.mp q;obtain⟨⟨f',bs',ks',pos'⟩,e4,q⟩:=AS.mp q;obtain⟨⟨h',p'⟩,e5,q⟩:=AS.mp q;by_cases hk:(ks.isEmpty&&ks'.isEmpty)=Aa
 .rw[AI hk]at q;cases q;rw[An,H9,H9]at hk;obtain⟨rfl,rfl⟩:=hk;have x1:=Uh e1;have x2:=Uf e2;have x3:=zW e3;have x4:=Uh e4;have x5:=Uf e5;dsimp only at x1 x2 x3 x4 x5;subst x1 x2 x3 x4 x5;exact⟨_,_,_,_,rfl⟩
 .rw[AT hk]at q;cases q
noncomputable def OH(e:Ao):Ap (Ak×Ak×Ao×Ao×Ao):=match M0 e with
  | some (g,h,bs)=>(match bs with
    |[x,y,z]=>Ab (g,h,x,y,z)
    | _=>Af)
  |none=>Af
theorem rJ{e:Ao}{h:Ak}{x y z:Ao}(q:OH e=Ab (g,h,x,y,z)):∃ p p' pos pos',e=.Call (.Name g p) [.Call (.Name h p') [x,y,z] [] pos'] [] pos:=by
  unfold OH at q;cases c:M0 e with
  |none=>rw[c]at q;cases q
  |some t=>
    obtain⟨g',h',bs⟩:=t;rw[c]at q
    match bs,q,c with
    |[a,b,d],q,c=>cases q;exact rM c
noncomputable def S5(e:Ao):Ap (Ak×Ak×Ao×Ao):=match M0 e with
  | some (g,h,bs)=>(match bs with
    |[x,y]=>Ab (g,h,x,y)
    | _=>Af)
  |none=>Af
noncomputable def R1(_:Es):Ap (E×E):=Af
noncomputable def S4(e:Ao):Ap (Ak×Ak×Ao):=match M0 e with
  | some (g,h,bs)=>(match bs with
    |[x]=>Ab (g,h,x)
    | _=>Af)
  |none=>Af
noncomputable def R0(_:Es):Ap E:=Af
noncomputable def two(e:Ao):Ap (Ao×Ao):=(bG e).bind λt=>match t.1 with
  |[a,b]=>Ab (a,b)
  |_=>Af
noncomputable def O2(_:Es):Ap E:=Af
noncomputable def Tf(_:Ao):Ap Ao:=Af
noncomputable def Ta:Ao->Ap (Ao×Ae)
  | .Subscript v s _=>(match s with
    | .Slice lo hi st _=>(match lo with
      | some (.Constant (.int k) _ _)=>(match hi with
        | none=>(match st with
          |some (.Constant (.int j) _ _)=>if j=2 then Ab (v,k) else Af
          | _=>Af)
        | some _=>Af)
      | _=>Af)
    | _=>Af)
  |_=>Af
noncomputable def RZ(_:Es):Ap (E×Ae):=Af
mutual
noncomputable def Bs:Ag->Tc->Ao->E->Aj
  |0,_,_,_=>Ad
  |n+1,T,e,c=>match c with
    |.non=>Ka e λc=>decide (c=.none)
    |.bl b=>Ka e λc=>decide (c=.bool b)
    |.int i=>Ka e λc=>decide (c=.int i)
    |.str x=>Ka e λc=>decide (c=.str x)
    |.var i=>GN e λx=>isV T x i
    |.glob g=>Ad
    |.bin op a b=>OC e λx op' y=>decide (op'=op)&&Bs n T x a&&Bs n T y b
    |.un op a=>KW e λo x=>decide (o=.USub)&&(decide (op=.USub)&&Bs n T x a)
    |.no a=>KW e λo x=>decide (o=.Not)&&Bs n T x a
    |.and es=>Kc e λo xs _=>decide (o=.And)&&(chkEs n T xs es && !xs.isEmpty)
    |.or es=>Kc e λo xs _=>decide (o=.Or)&&(chkEs n T xs es && !xs.isEmpty)
    |.cmp op a b=>LQ e λx os ys=>FO os λop'=>FO ys λy=>decide (op'=op) && !behindInMarks op y&&Bs n T x a&&Bs n T y b
    |.cmp2 op1 op2 a b c=>LQ e λx os ys=>Ir os λo1 o2=>Ir ys λy z=>decide (o1=op1)&&decide (o2=op2) && !lastMarks [op1,op2] [y,z]&&Bs n T x a&&Bs n T y b&&Bs n T z c
    |.ite c a b=>Ad
    |.call f as=>MJ e λg x xs=>(T.fns.any λp=>p.1==g&&p.2.1==f&&p.2.2==xs.length+1)&&decide (xs.length<900)&&glB T g&&HN g&&chkEs n T (x::xs) as
    |.bi b as=>(MJ e λg x xs=>RB b==Ab g&&isB T g&&chkEs n T (x::xs) as)||Th T e b as||(match R1 as with|some (a,c)=>(match S5 e with|some (g,h,x,y)=>decide (b=.list)&&g==("list" : Ak)&&h==("range" : Ak)&&isB T g&&isB T h&&DZ x&&DZ y&&Bs n T x a&&Bs n T y c|none=>Ad)|none=>Ad)||(match RZ as with|some (a,k)=>(match Ta e with|some (x,j)=>decide (b=.stp)&&decide (j=k)&&decide (0<=k)&&Bs n T x a|none=>Ad)|none=>Ad)||(match R0 as with|some a=>(match S4 e with|some (g,h,x)=>decide (b=.lset)&&g==("len" : Ak)&&h==("set" : Ak)&&isB T g&&isB T h&&DZ x&&Bs n T x a|none=>Ad)|none=>Ad)||(match RY as with|some (a,c)=>(match Tn e with|some (x,y,_)=>decide (b=.tlt) && !behindInMarks .Lt y&&Bs n T x a&&Bs n T y c|none=>Ad)|none=>Ad)||(match O2 as with|some a=>(match Tf e with|some x=>decide (b=.rvs)&&Bs n T x a|none=>Ad)|none=>Ad)
    |.isi a ks=>FO ks λk=>Kb e λg l=>Ir l λx t=>GN t λt=>g==("isinstance" : Ak)&&isB T g&&RA k==Ab t&&isB T t&&DZ x&&Bs n T x a
    |.idx a i=>Ot e λx y=>Vm y&&Bs n T x a&&Bs n T y i
    |.sl a lo hi=>Ot e λx s=>RF s λl h st=>st.isNone&&(Bs n T x a&&chkO n T l lo&&chkO n T h hi)
    |.tup es=>J9 e λxs=>chkEs n T xs es&&decide (xs.length<=1000)
    |.lst es=>Ow e λxs=>chkEs n T xs es&&decide (xs.length<=1000)
    |.comp elt t it c=>Sk e λx tg iter ifs scope=>GN tg λy=>chkI n T Ad iter it&&MP iter&&MX T scope [t] (LX [t] [y] T.N)&&tgO (T.blk scope [t] [y]) scope t y&&chkT n (T.blk scope [t] [y]) ifs c&&Bs n (T.blk scope [t] [y]) x elt
    |.compT elt ts it c=>Sk e λx tg iter ifs scope=>J9 tg λys=>(FN ys).isSome&&chkI n T Aa iter it&&MP iter&&MX T scope ts (LX ts (tgN ys) T.N)&&tgB (T.blk scope ts (tgN ys)) ts (tgN ys)&&chkT n (T.blk scope ts (tgN ys)) ifs c&&Bs n (T.blk scope ts (tgN ys)) x elt
    |.tupI it=>(match it with | .zip3 a b c=>(match OH e with|some (g,h,x,y,z)=>g==("tuple" : Ak)&&h==("zip" : Ak)&&isB T g&&isB T h&&DZ x&&DZ y&&DZ z&&Bs n T x a&&Bs n T y b&&Bs n T z c|none=>Ad)|_=>Ad)
    |.dnew=>Ad
    |.fld _ _=>Ad
noncomputable def IV:Ag->Tc->Ao->E->Aj
 |0,_,_,_=>Ad
 |n+1,T,e,c=>(KW e λo x=>decide (o=.Not)&&(OQ c λa=>IV n T x a)) ||
  (Kc e λo xs _=>(decide (o=.And)&&(OE c λes=>chkBs n T xs es && !xs.isEmpty))||(decide (o=.Or)&&(OO c λes=>chkBs n T xs es && !xs.isEmpty))) ||
  (LQ e λx os ys=>(Oy c λop a b=>FO os λop'=>FO ys λy=>decide (op'=op) && !behindInMarks op y&&Bs n T x a&&Bs n T y b) ||
   (Oz c λop1 op2 a b c=>Ir os λo1 o2=>Ir ys λy z=>decide (o1=op1)&&decide (o2=op2) && !lastMarks [op1,op2] [y,z]&&Bs n T x a&&Bs n T y b&&Bs n T z c) ||
   (OA c λb as=>R9 T (Bs n) x os ys b as)) ||
  Nx e&&Bs n T e c
noncomputable def chkBs:Ag->Tc->Ac Ao->Es->Aj
  |0,_,_,_=>Ad
  |n+1,T,xs,es=>match xs,es with
    |[],.nil=>Aa
    |x::xs,.cons e es=>IV n T x e&&chkBs n T xs es
    |_,_=>Ad
noncomputable def chkEs:Ag->Tc->Ac Ao->Es->Aj
  |0,_,_,_=>Ad
  |n+1,T,xs,es=>match xs,es with
    |[],.nil=>Aa
    |x::xs,.cons e es=>DZ x&&Bs n T x e&&chkEs n T xs es
    |_,_=>Ad
noncomputable def chkO:Ag->Tc->Ap Ao->E->Aj
  |0,_,_,_=>Ad
  |n+1,T,x,e=>match x with
    |none=>On e
    |some x=>!(On e)&&Bs n T x e
noncomputable def chkT:Ag->Tc->Ac Ao->E->Aj
  |0,_,_,_=>Ad
  |n+1,T,xs,e=>match xs with
    |[]=>So e λb=>b
    |x::r=>r.isEmpty&&IV n T x e
noncomputable def chkI:Ag->Tc->Aj->Ao->I->Aj
  |0,_,_,_,_=>Ad
  |n+1,T,tu,e,i=>match i with
    |.e a=>Bs n T e a
    |.rng a=>Kb e λg l=>FO l λx=>g==("range" : Ak)&&isB T g&&DZ x&&Bs n T x a
    |.enm a=>Kb e λg l=>FO l λx=>tu&&g==("enumerate" : Ak)&&isB T g&&DZ x&&Bs n T x a
    |.zip a b=>Kb e λg l=>Ir l λx y=>tu&&g==("zip" : Ak)&&isB T g&&DZ x&&DZ y&&Bs n T x a&&Bs n T y b
    |.rng2 a b=>Kb e λg l=>Ir l λx y=>g==("range" : Ak)&&isB T g&&DZ x&&DZ y&&Bs n T x a&&Bs n T y b
    |.zip3 a b c=>Ad
end
noncomputable def R8:E->E->Aj
 |.var _,.int _=>Aa
 |_,_=>Ad
noncomputable def Td:F3->Aj
 |.Sub=>Aa
 |_=>Ad
noncomputable def OK:E->Aj
 |.idx a b=>R8 a b
 |.bin op a b=>Td op&&R8 a b
 |.var _=>Aa
 |.int _=>Aa
 |.bl _=>Aa
 |.str _=>Aa
 |.non=>Aa
 |_=>Ad
noncomputable def J8:Es->Aj
 |.nil=>Aa
 |.cons e es=>OK e&&J8 es
noncomputable def Kj:Ao->Ap (Ak×AO)
 |.Name x p=>Ab (x,p)
 |_=>Af
theorem Lx{e:Ao}{t:Ak×AO}(h:Kj e=Ab t):e=.Name t.1 t.2:=by
 cases e with
 |Name x p=>cases h;rfl
 |_=>exact nomatch (show Af=Ab t from h)
noncomputable def Sy:Ao->Ap (Ao×Ac Ao×AO)
  | .Call f as ks p=>(match ks with
    |[]=>Ab (f,as,p)
    | _=>Af)
  |_=>Af
theorem oX{e:Ao}{t:Ao×Ac Ao×AO}(h:Sy e=Ab t):e=.Call t.1 t.2.1 [] t.2.2:=by
 cases e with
 |Call f as ks p=>
  cases ks with
  |nil=>cases h;rfl
  |cons=>exact nomatch (show Af=Ab t from h)
 |_=>exact nomatch (show Af=Ab t from h)
noncomputable def OG{α:Type}:Ac α->Ap (α×α)
 |[a,b]=>Ab (a,b)
 |_=>Af
theorem QD{l:Ac α}{t:α×α}(h:OG l=Ab t):l=[t.1,t.2]:=by
 cases l with
 |nil=>exact nomatch (show Af=Ab t from h)
 |cons a l=>
  cases l with
  |nil=>exact nomatch (show Af=Ab t from h)
  |cons b l=>
   cases l with
   |nil=>cases h;rfl
   |cons=>exact nomatch (show Af=Ab t from h)
noncomputable def xHd:FC->Ap (Ak×Ak×AY×Ac AY)
  | .ExceptHandler ty nm b _=>(match nm,b,ty with
    |some m,h0::hs,Ab e=>(Kj e).bind λg=>Ab (g.1,m,h0,hs)
    | _,_,_=>Af)
theorem wM{h:FC}{m:Ak}(q:xHd h=Ab (g,m,h0,hs)):∃ p r,h=.ExceptHandler (Ab (.Name g p)) (Ab m) (h0::hs) r:=by
 obtain⟨ty,nm,b,r⟩:=h;cases nm with
 |none=>cases ty<;>cases b<;>exact nomatch (show Af=Ab (g,m,h0,hs) from q)
 |some m'=>
  cases b with
  |nil=>cases ty<;>exact nomatch (show Af=Ab (g,m,h0,hs) from q)
  |cons h0' hs'=>
   cases ty with
   |none=>exact nomatch (show Af=Ab (g,m,h0,hs) from q)
   |some e=>
    obtain⟨g',e1,q⟩:=AS.mp (show ((Kj e).bind λg=>Ab (g.1,m',h0',hs'))=Ab (g,m,h0,hs) from q)
    cases q;rw[Lx e1];exact⟨_,_,rfl⟩
noncomputable def Sb:AY->Ap (AY×Ac FC×Ac AY)
  | .Try b hs es fs _=>(match b,fs with
    |[bt],[]=>Ab (bt,hs,es)
    | _,_=>Af)
  |_=>Af
theorem oR{st bt:AY}{hs:Ac FC}{es:Ac AY}(q:Sb st=Ab (bt,hs,es)):∃ p,st=.Try [bt] hs es [] p:=by
 cases st with
 |Try b h e f p=>
  cases b with
  |nil=>cases f<;>exact nomatch (show Af=Ab (bt,hs,es) from q)
  |cons x b=>
   cases b with
   |cons=>cases f<;>exact nomatch (show Af=Ab (bt,hs,es) from q)
   |nil=>
    cases f with
    |nil=>cases q;exact⟨_,rfl⟩
    |cons=>exact nomatch (show Af=Ab (bt,hs,es) from q)
 |_=>exact nomatch (show Af=Ab (bt,hs,es) from q)
noncomputable def SX(e:Ao)(F:Ak->Ak->Ao->Aj):Aj:=Kb e λg l=>Ir l λa t=>GN a λv=>F g v t
theorem qF{e:Ao}{F:Ak->Ak->Ao->Aj}(h:SX e F=Aa):∃ g p v q t r,e=.Call (.Name g p) [.Name v q,t] [] r/\F g v t=Aa:=by
 obtain⟨g,p,l,r,rfl,h⟩:=Kz h;obtain⟨a,t,rfl,h⟩:=JY h;obtain⟨v,q,rfl,h⟩:=G7 h;exact⟨g,p,v,q,t,r,rfl,h⟩
noncomputable def RN(T:Tc):Ac Ao->Ac Ki->Aj
  |[],ks=>ks.isEmpty
  | e::r,ks=>Js ks λk ks=>GN e λt=>(match k with
    |.cls c=>inX T.exs t c&&glB T t&&HN t
    | _=>Ad)&&RN T r ks
noncomputable def MS(f:Ao->E->Aj):Ac Ao->Es->Aj
 |[],.nil=>Aa
 |x::xs,.cons e es=>DZ x&&f x e&&MS f xs es
 |_,_=>Ad
noncomputable def bD(T:Tc)(t:Ao)(ks:Ac Ki):Aj:=Js ks λk r=>match k with
  |.verr=>r.isEmpty&&(GN t λt=>t==("ValueError" : Ak)&&isB T t)
  | .cls c=>(match r with
    |[]=>GN t λt=>inX T.exs t c&&glB T t&&HN t
    | k2::r=>J9 t λts=>RN T ts (.cls c::k2::r)&&decide (ts.length<=1000))
  |_=>Ad
noncomputable def IN:Ag->Tc->Ag->Ao->E->Aj
  |0,_,_,_,_=>Ad
  |n+1,T,x,e,c=>match c with
    |.bl b=>Ka e λk=>decide (k=.bool b)
    |.no a=>KW e λo y=>decide (o=.Not)&&IN n T x y a
    | .and es=>(match es with
      |.nil=>Ad
      | .cons a r=>(match r with
        |.nil=>Kc e λo l _=>decide (o=.And)&&(FO l λy=>IN n T x y a)
        | .cons a' as=>Kc e λo l p=>decide (o=.And)&&(Js l λy l=>Js l λz zs=>IN n T x y a&&IN n T x (.BoolOp .And (z::zs) p) (.and (.cons a' as)))))
    |.isi a ks=>MN a λi=>SX e λg v t=>i==x&&g==("isinstance" : Ak)&&isB T g&&isV T v x&&bD T t ks
    |.call _ _=>Ad
    |.str s=>Ka e λk=>decide (k=.str s)
    |.lst es=>Ow e λxs=>MS (IN n T x) xs es&&decide (xs.length<=1000)
    |.tup es=>J9 e λxs=>MS (IN n T x) xs es&&decide (xs.length<=1000)
    |.bin op a b=>decide (op=.Add)&&(MN a λi=>OC e λl o y=>decide (o=.Add)&&(GN l λv=>isV T v i&&IN n T x y b))
    |.fld o f=>MN o λi=>OD e λw g _=>GN w λv=>i==x&&g==f&&(f==("triple" : Ak)||f==("points" : Ak))&&isV T v x
    |_=>Ad
noncomputable def dH:E->Aj
 |.lst _=>Aa
 |_=>Ad
noncomputable def RW:Ag->Tc->Ag->Ac AY->Ss->Aj
  |0,_,_,_,_=>Ad
  |n+1,T,x,sts,ss=>match ss with
    |.nil=>sts.isEmpty
    | .cons s ss=>Js sts λst r=>(match s with
      |.asg i b e=>MO st λy v=>T.N[i]? == Ab y&&JA T y&&KO v&&IN n T x v e&&(!b||dH e)
      |.ife _ _ _=>Ad
      |.ret _=>Ad
      |.app _ _=>Ad
      | _=>Ad)&&RW n T x r ss
noncomputable def R7:E->Aj
 |.var _=>Aa
 |.cmp _ a b=>OK a&&OK b
 |_=>Ad
noncomputable def Od(n:Ag)(T:Tc)(st:AY)(s:S):Aj:=match s with
  |.expr e=>LR e λf as=>LP st λv=>Bs n T v (.call f as)&&J8 as
  |.asg i b e=>!b&&(LR e λf as=>MO st λy v=>T.N[i]? == Ab y&&JA T y&&Bs n T v (.call f as)&&J8 as)
  |_=>Ad
noncomputable def RE:Ss->(S->Aj)->Aj
  |.nil,_=>Ad
  | .cons a r,F=>(match r with
    |.nil=>F a
    | .cons _ _=>Ad)
theorem UN{l:Ss}{F:S->Aj}(h:RE l F=Aa):∃ a,l=.cons a .nil/\F a=Aa:=by
 cases l with
 |nil=>exact noF h
 |cons a r=>
  cases r with
  |nil=>exact⟨a,rfl,h⟩
  |cons=>exact noF h
noncomputable def Wx(f:AY->S->Aj)(n:Ag)(T:Tc)(st:AY):S->Aj
 |.ife c a b=>RE a λa=>RE b λb=>OR st λt xs ys=>FO xs λx=>FO ys λy=>IV n T t c&&R7 c&&f x a&&f y b
 |_=>Ad
noncomputable def Os:Ag->Ag->Tc->AY->S->Aj
 |0,n,T,st,s=>Od n T st s
 |m+1,n,T,st,s=>Od n T st s||Wx (Os m n T) n T st s
noncomputable def dU:E->Aj
  | .bi b as=>(match b,as with
    |.len,.nil=>Aa
    | _,_=>Ad)
  |_=>Ad
noncomputable def dS:S->Aj
 |.expr e=>dU e
 |_=>Ad
noncomputable def OU:Ss->Aj
 |.cons s _=>dS s
 |.nil=>Ad
noncomputable def hdB(T:Tc)(g:Ak)(c:Ag):Aj:=inX T.exs g c&&inX T.rzs g c&&glB T g&&HN g
mutual
noncomputable def M3:Ag->Tc->AY->S->Aj
  |0,_,_,_=>Ad
  |n+1,T,st,s=>match s with
    |.pass=>Ad
    |.brk=>Ad
    |.cont=>Ad
    |.asg i _ e=>MO st λx v=>T.N[i]? == Ab x&&JA T x&&Bs n T v e
    |.asgT ts e=>Ry st λt v=>J9 t λys=>(FN ys).isSome&&tgC T ts (tgN ys)&&(Xx v||DG 4 ys.length)&&Bs n T v e
    |.expr e=>LP st λv=>KO v&&Bs n T v e
    |.ret e=>RG st λo=>match o with|some v=>Bs n T v e|none=>Ad
    |.retN=>Ad
    |.ife c a b=>OR st λt xs ys=>IV n T t c&&chkSs n T xs a&&chkSs n T ys b
    |.fors t it body=>Ox st λtg iter xs ys=>ys.isEmpty&&(GN tg λx=>tgC T [t] [x]&&MP iter&&chkI n T Ad iter it&&chkSs n T xs body)
    |.forT ts it body=>Ox st λtg iter xs zs=>zs.isEmpty&&(J9 tg λys=>(FN ys).isSome&&tgC T ts (tgN ys)&&MP iter&&chkI n T Aa iter it&&chkSs n T xs body)
    |.whl c body=>Ad
    |.rais c as=>!(T.rzs.any λp=>p.2==c)||(Ou st λa b=>b.isNone&&(match a with|some e=>MJ e λg x xs=>inX T.rzs g c&&glB T g&&HN g&&decide (xs.length<=1000)&&chkEs n T (x::xs) as|none=>Ad))
    |.tryx bs c x h=>(match bs with | .cons b .nil=>(match Sb st with|some (bt,[h1],[])=>(match xHd h1 with|some (g,m,h0,hs)=>hdB T g c&&T.N[x]? == Ab m&&T.sc.names.lookup m==Ab .local&&Os 6 n T bt b&&RW n T x (h0::hs) h|none=>Ad)|_=>Ad)|_=>Ad)
    |.try2 _ _ _ _ _ _ _=>Ad
    |.app i e=>RH st λx m l=>FO l λv=>m==("append" : Ak)&&isV T x i&&DZ v&&Bs n T v e
    |.ext i e=>RH st λx m l=>FO l λv=>m==("extend" : Ak)&&isV T x i&&DZ v&&(Sq e&&Bs n T v e||(match Ol e with|some a=>Bs n T v a|none=>Ad))
    |.rev i=>Ad
    |.clr i=>Ad
    |.put i k e=>Ad
    |.swp _ _ _=>Ad
    |.apop _ _ _=>Ad
    |.ins i k e=>Ad
    |.dput _ _ _=>Ad
    |.dsd _ _ _=>Ad
    |.rel _=>Ad
noncomputable def chkSs:Ag->Tc->Ac AY->Ss->Aj
  |0,_,_,_=>Ad
  | n+1,T,sts,ss=>(match ss with
    |.nil=>sts.isEmpty
    |.cons (.rel i) ss=>chkSs n T sts ss
    | .cons s ss=>(match sts with
      |st::r=>M3 n T st s&&chkSs n T r ss
      | []=>Ad))||OU ss
end
noncomputable def Iw(fuel:Ag)(hot:Aj)(fns:Ac (Ak×Ag×Ag))(bl:Ac Ak)(rzs exs gls:Ac (Ak×Ag))(ps N:Ac Ak)(st:AY)(df:Df):Aj:=
  let sc:=C3 st
  sc.kind==.function && !sc.isCoroutine && !sc.isGenerator&&LG N&&N.take ps.length==ps&&ps.all (λx=>sc.names.lookup x==Ab .local||sc.names.lookup x==Ab .cell)&&sc.names.all (λy=>y.2 != .free)&&N.length==df.n &&
  (match hot with
  |true=>Ad
  | false=>chkSs fuel ⟨sc,N,fns,bl,rzs,exs,gls⟩ (Gq st) df.body)
structure XT (up:Ag->Ac Ag) (xn:Ag->Ac D->R Ex) (CL:ClA) (rzs exs:Ac (Ak×Ag)) (K:Fg) (mg:Ak->Ap Ai):Prop where
 xc:∀ c C,CL c=Ab C->XcOk K C
 rz:∀ p∈rzs,∃ C,CL p.2=Ab C/\mg p.1=Ab (.ref C)
 ex:∀ p∈exs,∃ C,mg p.1=Ab (.ref C)/\MI K CL up p.2 C/\∀ c D,CL c=Ab D->BZ K (.ref D) (.ref C)=Ab ((up c).contains p.2)
 made:∀ c C ds,CL c=Ab C->xn c ds=.bad\/(xn c ds=.ok ⟨c,[]⟩/\D4 K C Af=Aa)\/∃ f,XIn K mg C f/\MU xn c f ds
 nf:∀ c C,CL c=Ab C->∀ f:Ak,(f==("triple" : Ak)||f==("points" : Ak))=Aa->Hd K C=Aa/\AU K (.ref C) f=Ab Af
 xb:∀ c,(∀ p∈rzs,p.2≠c)->∀ ds,xn c ds=.bad
def O5(K:Fg)(mg:Ak->Ap Ai)(CL:ClA)(x:Ak)(d:D):Prop:=∃ u v,mg x=Ab u/\BU v u/\∀ H A,Rep K CL H A v d
structure VX (Z:Gam) (CL:ClA) (k:Ag) (W:XW) (T:Tc) (X:Cx):Prop where
 sc:X.env.scope=T.sc
 kd:T.sc.kind=.function
 N:X.N=T.N
 nd:T.N.Nodup
 calm:X.calm=Aa
 room:Room k X.A
 bl:∀ x,x∈T.bl->X.mg x=Af
 fn:∀ p∈T.fns,∃ f fd ps,X.mg p.1=Ab (.ref f)/\CT X.K (.ref f)=Aa/\G9 X.K fd ps []/\ps.length=p.2.2%1000/\(p.2.2<1000->FnOk X.prog X.w X.K X.mg X.base (CXR X.prog X.w) k f fd ps (spD X.K CL (p.2.2%1000) (Z.fr p.2.1) (Z.F p.2.1)))/\(1000<=p.2.2->HotOk X.prog X.w X.K X.mg X.base k f fd ps (spH X.K CL (p.2.2%1000) (Z.fr p.2.1) (Z.F p.2.1)))
 own:F4 (model X.prog X.w) X.A X.env X.xe
 px:∀ A,LJ (CXR X.prog X.w) X (EKW X.K CL A W)
 rz:MY X CL W
 xt:XT Z.up Z.xn CL T.rzs T.exs X.K X.mg
 gl:∀ p∈T.gls,O5 X.K X.mg CL p.1 (Z.G p.2)
theorem WY:∀ A,LJ (CXR X.prog X.w) X (EKW X.K CL A W0):=λA pI U H s ev s' I h=>by
 obtain⟨e,T,cls,dx,H',_,_,_,_,_,_,_,_,_,_,x,_,w⟩:=h;exact w.elim
theorem Te:MY X CL W0:=λ_ _ _ _ _ _ _ _ _ _ _ _ _ _ z=>z.elim
def Rf{α:Type}(g f:Rho->R α):Prop:=∀ Y,g Y=.bad\/g Y=f Y
section
variable{X:Cx}{CL:ClA}{W:XW}{a:Ao}{f g:Rho->R D}
theorem SE.ref(h:SE X CL W a f)(r:Rf g f):SE X CL W a g:=λA=>PE.weak (h A) λU H Q ⟨hA,Y,q,p⟩=>⟨hA,Y,q,by
 rcases r Y with e|e
 .rw[e]at p;exact p.elim
 .rw[e]at p;exact p⟩
theorem SB.ref{f g:Rho->R Aj}(h:SB X CL W a f)(r:Rf g f):SB X CL W a g:=λA=>PT.weak (h A) λU H Q ⟨hA,Y,q,p⟩=>⟨hA,Y,q,by
 rcases r Y with e|e
 .rw[e]at p;exact p.elim
 .rw[e]at p;exact p⟩
theorem SW.ref{f g:Rho->R Aj}(h:SW X CL W a f)(r:Rf g f):SW X CL W a g:=λA=>PW.weak (h A) λU H Q ⟨hA,Y,q,p⟩=>⟨hA,Y,q,by
 rcases r Y with e|e
 .rw[e]at p;exact p.elim
 .rw[e]at p;exact p⟩
theorem SC.ref(h:SC X CL W fr a f)(r:Rf g f):SC X CL W fr a g:=λA=>PE.weak (h A) λU H Q ⟨hA,Y,q,p⟩=>⟨hA,Y,q,by
 rcases r Y with e|e
 .rw[e]at p;exact p.elim
 .rw[e]at p;exact p⟩
theorem SS.ref{st:AY}{f g:Rho->O}(h:SS X CL W st f)(r:∀ Y,g Y=.bad\/g Y=f Y):SS X CL W st g:=λFz B=>PS.weak (h Fz B) λD U H ⟨Y,x,p⟩=>⟨Y,x,by
 rcases r Y with e|e
 .rw[e]at p;exact p.elim
 .rw[e]at p;exact p⟩
end
theorem Mj:∀{l:Ac Ak},LG l=Aa->l.Nodup
 |[],_=>DW
 |x::xs,h=>by
  unfold LG at h;simp only[An,BL,Yd,mn]at h;exact BW.mpr ⟨h.1,Mj h.2⟩
section
variable{T:Tc}{X:Cx}{Z:Gam}{CL:ClA}{k:Ag}{W:XW}
theorem U_6(h:Se T x=Aa):Vis T.sc x:=by
 unfold Se at h;split at h
 .exact .inl (by assumption)
 .exact .inr (.inl (by assumption))
 .exact .inr (.inr (by assumption))
 .cases h
theorem LB(h:JA T x=Aa):Loc T.sc x:=by
 unfold JA at h;split at h
 .exact .inl (by assumption)
 .exact .inr (by assumption)
 .cases h
theorem II(h:HN x=Aa):(x==("__debug__" : Ak))=Ad/\(x==("__classdict__" : Ak))=Ad/\x≠"__name__" := by
 unfold HN at h;simp only[An,BL]at h;exact⟨h.1.1,h.1.2,λe=>by subst e;exact absurd h.2 (by simp)⟩
theorem LI{i:Ag}(v:VX Z CL k W T X)(h:isV T x i=Aa):PE X (.Name x pos) (GR i):=by
 unfold isV at h;simp only[An,A6]at h;obtain⟨h2,h3,_⟩:=II h.2;exact N7 (by rw[v.N];exact h.1.1) (by rw[v.sc];exact U_6 h.1.2) h2 h3
theorem Il(v:VX Z CL k W T X)(h:isB T x=Aa):Gl X x/\X.mg x=Af/\x≠"__name__"/\(x==("__debug__" : Ak))=Ad:=by
 unfold isB glB at h;simp only[An,A6,Yd,A2]at h;obtain⟨h2,h3,h4⟩:=II h.2;exact⟨by show X.env.scope.names.lookup x=_;rw[v.sc];exact h.1.2,v.bl x h.1.1,h4,h2⟩
theorem De{x:Ao}(h:DZ x=Aa):Ax (x::xs) env=(Ad,eval x env)::Ax xs env:=by
 cases x<;>first|rfl|cases h
theorem jI{y:Ao}(h:Vm y=Aa):QQ y:=by
 intro o i;cases y<;>first|rfl|cases h
theorem N1{e:Ao}(h:MP e=Aa):∀ x,Do e env x=pure x:=by
 intro x;cases e<;>first|rfl|cases h
theorem LC{e:Ao}{t:Ap Ao}(h:KO e=Aa):Dd e t l env=pure Ad:=by
 cases e<;>first|rfl|cases h
theorem nI{e:Ao}(h:Nx e=Aa):∀ whole,Ja e env whole=(do let v <-whole;standAt e.pos;holding [v] (truthy v)):=by
 intro whole;cases e<;>first|rfl|cases h
theorem fE(v:VX Z CL k W T X)(scope:Cz):relabel scope X.env=Rs T.sc scope:=by
 unfold relabel Rs;have:∀ n,X.env.kindOf n=T.sc.names.lookup n:=λn=>by show X.env.scope.names.lookup n=_;rw[v.sc]
 simp only[this,v.sc]
theorem Rh{N':Ac Ak}(v:VX Z CL k W T X)(h:MX T scope ts N'=Aa):BlockOk X scope N' ts/\N'.Nodup/\scope.kind=.function:=by
 unfold MX at h;simp only[An,A6,Ey,CU,JB,ne_eq]at h;obtain⟨⟨⟨⟨⟨h1,h2⟩,h4⟩,h5⟩,h6⟩,h7⟩:=h;have at7:∀ i x,N'[i]?=Ab x->i∈ts\/((scope.names.lookup x≠Ab .local/\scope.names.lookup x≠Ab .cell)/\(scope.names.lookup x≠Ab .free\/T.N[i]?=Ab x)):=λi x e=>by
  have hi:=(Bh.mp e).1;have:=h7 i (BE.mpr hi);rcases this with z|z
  .exact .inl (by simpa using z)
  .rw[e]at z;simp only[An,JB,ne_eq,CU,A6]at z;exact .inr z
 refine⟨⟨h1,h2,λy hy hl=>by rw[h2 y hy,hl],λy hy hf=>?_,by rw[v.N];exact h5,λi x e hf hn=>?_,λi x e hl=>?_⟩,Mj h6,h1⟩
 .rw[v.sc];rcases h4 y hy with (z|z)|z
  .exact absurd hf z
  .exact .inl z
  .exact .inr z
 .rw[v.N];rcases at7 i x e with z|⟨_,z⟩
  .exact absurd z hn
  .exact z.resolve_left λq=>q hf
 .rcases at7 i x e with z|⟨z,_⟩
  .exact z
  .exact hl.elim (λq=>absurd q z.1) (λq=>absurd q z.2)
theorem VX.blk{xs:Ac Ak}{cl:Ac (Ak×Al)}{s:Ar}{fp:Ac Al}(v:VX Z CL k W T X)(h:MX T scope ts (LX ts xs T.N)=Aa):VX Z CL k W0 (T.blk scope ts xs) (cxC X scope cl C (LX ts xs T.N) s H fp):=by
 obtain⟨_,h2,h3⟩:=Rh v h;exact⟨fE v scope,h3,rfl,h2,v.calm,v.room,v.bl,v.fn,PassesOwn.never,WY,Te,v.xt,v.gl⟩
theorem pF{t:Ag}(v:VX Z CL k W T X)(hfn:scope.names.lookup x=Ab .cell->X.fn x=Aa)(h:tgO T scope t x=Aa):PG X (.Name x pos) (FP t):=by
 unfold tgO at h;simp only[An,CU,A6]at h;rcases h with ⟨h1,h2|h2⟩
 .exact MD (by rw[v.N];exact v.nd) (by rw[v.N];exact h1) (by rw[v.sc];exact .inl h2) (.inr (by rw[v.sc];exact h2))
 .exact MD (by rw[v.N];exact v.nd) (by rw[v.N];exact h1) (by rw[v.sc];exact .inr h2.1) (.inl (hfn h2.2))
theorem PB{y:Ao}{r:Ac Ao}{zs:Ac Ak}(h:FN (y::r)=Ab zs):∃ x p ws,y=.Name x p/\FN r=Ab ws/\zs=x::ws:=by
 cases y with
 |Name x p=>
  have h':(FN r).map (x :: ·)=Ab zs:=h;cases e:FN r with
  |none=>rw[e]at h';cases h'
  |some ws=>rw[e]at h';cases h';exact⟨x,p,ws,rfl,rfl,rfl⟩
 |_=>cases h
theorem PY(x:Ak)(p:AO)(r:Ac Ao)(env:CN):CO (.Name x p::r) env=(Ad,assign (.Name x p) env)::CO r env:=rfl
theorem Pz:∀(ys:Ac Ao)(zs:Ac Ak),FN ys=Ab zs->(CO ys env).length=ys.length/\(CO ys env).findIdx? (·.1)=Af/\(CO ys env).map (·.2)=ys.map λy=>assign y env:=by
 intro ys
 induction ys with
 |nil=>intro _ _;exact⟨rfl,rfl,rfl⟩
 |cons y r ih=>
  intro zs h;obtain⟨x,p,ws,rfl,e,rfl⟩:=PB h;obtain⟨h1,h2,h3⟩:=ih ws e;rw[PY];refine⟨?_,?_,?_⟩
  .rw[Bz,Bz,h1]
  .rw[List.findIdx?_cons,h2];simp
  .rw[CC,CC,h3]
theorem nG(v:VX Z CL k W T X):∀(ys:Ac Ao)(ts:Ac Ag)(zs:Ac Ak),FN ys=Ab zs->tgB T ts zs=Aa->PGs X ys (ts.foldr (λt u=>Iq (FP t) u) Ix)/\ts.length=ys.length:=by
 intro ys
 induction ys with
 |nil=>
  intro ts zs e h;cases e;cases ts with
  |nil=>exact⟨Vs,rfl⟩
  |cons t ts=>cases h
 |cons y r ih=>
  intro ts zs e h;obtain⟨x,p,ws,rfl,e2,rfl⟩:=PB e;cases ts with
  |nil=>cases h
  |cons t ts=>
   have h':(T.N[t]? == Ab x&&T.sc.names.lookup x==Ab .local&&tgB T ts ws)=Aa:=h;simp only[An,A6]at h';obtain⟨h1,h2⟩:=ih ts ws e2 h'.2;exact⟨UK (MD (by rw[v.N];exact v.nd) (by rw[v.N];exact h'.1.1) (by rw[v.sc];exact .inl h'.1.2) (.inr (by rw[v.sc];exact h'.1.2))) h1 (by rw[PY];rfl),congrArg (· + 1) h2⟩
theorem nF(v:VX Z CL k W T X)(hn:(FN ys).isSome=Aa)(h:tgB T ts (tgN ys)=Aa):PG X (.Tuple ys kk pos) (L6 X.K ts.length (ts.foldr (λt u=>Iq (FP t) u) Ix)):=by
 cases e:FN ys with
 |none=>rw[e]at hn;cases hn
 |some zs=>
  have e2:tgN ys=zs:=by unfold tgN;rw[e];rfl
  rw[e2]at h;obtain⟨h1,h2⟩:=nG v ys ts zs e h;obtain⟨h3,h4,_⟩:=Pz (env:=X.env) ys zs e;exact Q1 v.calm h1 (by rw[h3,h2]) h4
end
noncomputable def Es.len:Es->Ag
 |.nil=>0
 |.cons _ es=>es.len+1
theorem KH(Z:Gam)(Y:Rho):∀(es:Es)(ds:Ac D),evA Z Y es=.ok ds->ds.length=es.len
 |.nil,ds,h=>by cases h;rfl
 |.cons e es,ds,h=>by
  obtain⟨x,h1,h2⟩:=Ky (Va Z Y e es ▸ h);obtain⟨xs,h3,h4⟩:=Ky h2;cases h4;exact congrArg (· + 1) (KH Z Y es xs h3)
theorem NW(Z:Gam)(Y:Rho):∀(es:Es)(ds:Ac D),evB Z Y es=.ok ds->ds.length=es.len
 |.nil,ds,h=>by cases h;rfl
 |.cons e es,ds,h=>by
  obtain⟨x,h1,h2⟩:=Ky (Qz Z Y e es ▸ h);obtain⟨xs,h3,h4⟩:=Ky h2;cases h4;exact congrArg (· + 1) (NW Z Y es xs h3)
theorem WI(Z:Gam)(Y:Rho)(e:E)(h:shE Y e=Aa):top Y e (evE Z Y e)=evE Z Y e:=by
 cases e with
 |var i=>
  show Dp Y i=Gw Y i;have h':shV Y i=Aa:=h;unfold shV at h';unfold Dp Gw;cases q:Y[i]? with
  |none=>rfl
  |some x=>
   cases x with
   |none=>rfl
   |some y=>
    obtain⟨d,o⟩:=y;cases o with
    |true=>rw[q]at h';cases h'
    |false=>rfl
 |_=>rfl
theorem Ob(Z:Gam)(Y:Rho):∀(es:Es),IR Y es=Aa->evB Z Y es=evA Z Y es
 |.nil,_=>rfl
 |.cons e es,h=>by
  simp only[gX,An]at h;rw[Va,Qz,WI Z Y e h.1,Ob Z Y es h.2]
theorem Q5(Z:Gam)(c:E):Rf (λY=>evE Z Y c) (λY=>top Y c (evE Z Y c)):=λY=>by
 by_cases h:shE Y c=Aa
 .exact .inr (WI Z Y c h).symm
 .cases c with
  |var i=>
   refine .inl ?_;show Gw Y i=.bad;have h':¬ shV Y i=Aa:=h;unfold shV at h';unfold Gw;cases q:Y[i]? with
   |none=>rfl
   |some x=>
    cases x with
    |none=>rfl
    |some y=>
     obtain⟨d,o⟩:=y;cases o with
     |true=>rfl
     |false=>rw[q]at h';exact absurd rfl h'
  |_=>exact absurd rfl h
def Pcs(X:Cx)(CL:ClA)(W:XW)(e:Ao)(f:Rho->R D):Prop:=∃ tg iter elt ifs scope pos N' ts fi fc fe as g,e=.ListComp elt [⟨tg,iter,ifs,0⟩] scope pos/\BlockOk X scope N' ts/\SI X CL W tg iter fi/\GG X.K CL ts as g /\
 (∀ cl C s H fp,PG (cxC X scope cl C N' s H fp) tg g)/\(∀ cl C s H fp,STs (cxC X scope cl C N' s H fp) CL ifs fc)/\(∀ cl C s H fp,SE (cxC X scope cl C N' s H fp) CL W0 elt fe)/\(∀ x,Do iter X.env x=pure x) /\
 ∀ Y,f Y=(fi Y).bind λxs=>(noX (Ce (λx=>(as x Y).bind fc) (λx=>(as x Y).bind fe) xs)).bind λys=>.ok (.lst ys)
theorem Pcs.sc{e:Ao}{f:Rho->R D}(hc:X.calm=Aa)(h:Pcs X CL W e f):SC X CL W Aa e f:=by
 obtain⟨tg,iter,elt,ifs,scope,pos,N',ts,fi,fc,fe,as,g,rfl,B,hi,hGG,hg,ht,he,hs,ef⟩:=h;exact SC.congr (mU hc B hi hGG hg ht he hs) ef
structure OkE (Z:Gam) (CL:ClA) (W:XW) (X:Cx) (e:Ao) (c:E):Prop where
 se:SE X CL W e (λY=>evE Z Y c)
 st:ST X CL W e (λY=>top Y c (evE Z Y c))
 nw:Eg Z c=Aa->SC X CL W Aa e (λY=>evE Z Y c)
 cp:KO e=Ad->Pcs X CL W e (λY=>evE Z Y c)
section
variable{Z:Gam}{CL:ClA}{W:XW}{X:Cx}{e:Ao}{c:E}
theorem Fs(h:SE X CL W e (λY=>evE Z Y c))(ht:∀ Y r,top Y c r=r)(hn:Eg Z c=Ad)(hc:KO e=Aa):OkE Z CL W X e c:=
 ⟨h,by simp only[ht];exact h.st,λz=>absurd z (by rw[hn];decide),λz=>absurd z (by rw[hc];decide)⟩
theorem QT(h:SC X CL W Aa e (λY=>evE Z Y c))(ht:∀ Y r,top Y c r=r)(hc:KO e=Aa):OkE Z CL W X e c:=
 ⟨h.se,by simp only[ht];exact h.se.st,λ_=>h,λz=>absurd z (by rw[hc];decide)⟩
theorem Xv(hc:X.calm=Aa)(h:Pcs X CL W e (λY=>evE Z Y c))(ht:∀ Y r,top Y c r=r):OkE Z CL W X e c:=
 ⟨(h.sc hc).se,by simp only[ht];exact(h.sc hc).se.st,λ_=>h.sc hc,λ_=>h⟩
end
theorem bE{k:Ki}(h:RA k=Ab x):∃ T,tyK k=Ab T/\Dz x=Ab (.type T):=by
 cases k<;>simp only[RA]at h<;>cases h
 .exact⟨_,rfl,PyProof.Rows.boot_int⟩
 .exact⟨_,rfl,PyProof.Rows.boot_bool⟩
 .exact⟨_,rfl,PyProof.Rows.boot_str⟩
 .exact⟨_,rfl,YF⟩
 .exact⟨_,rfl,Gk⟩
structure Snd (Z:Gam) (CL:ClA) (k:Ag) (n:Ag):Prop where
 e:∀(W:XW)(T:Tc)(X:Cx)(x:Ao)(c:E),VX Z CL k W T X->Bs n T x c=Aa->OkE Z CL W X x c
 b:∀(W:XW)(T:Tc)(X:Cx)(x:Ao)(c:E),VX Z CL k W T X->IV n T x c=Aa->SB X CL W x (λY=>(top Y c (evE Z Y c)).bind Cu)
 bs:∀(W:XW)(T:Tc)(X:Cx)(xs:Ac Ao)(es:Es)(pos:AO),VX Z CL k W T X->chkBs n T xs es=Aa->xs≠[]->SW X CL W (.BoolOp .And xs pos) (λY=>(evN Z Y es).bind Cu)/\SW X CL W (.BoolOp .Or xs pos) (λY=>(evO Z Y es).bind Cu)
 es:∀(W:XW)(T:Tc)(X:Cx)(xs:Ac Ao)(es:Es),VX Z CL k W T X->chkEs n T xs es=Aa->SA X CL W xs (λY=>evA Z Y es)/\SAT X CL W xs (λY=>evB Z Y es)/\xs.length=es.len/\(∀ pos,xs≠[]->SE X CL W (.BoolOp .And xs pos) (λY=>evN Z Y es)/\SE X CL W (.BoolOp .Or xs pos) (λY=>evO Z Y es))/\(∀ pos,(Cd pos (Ax xs X.env)).any (·.1)=Ad)
 o:∀(W:XW)(T:Tc)(X:Cx)(x:Ap Ao)(c:E),VX Z CL k W T X->chkO n T x c=Aa->SO X CL W x (λY=>(top Y c (evE Z Y c)).bind (slE c))
 t:∀(T:Tc)(X:Cx)(xs:Ac Ao)(c:E),VX Z CL k W0 T X->chkT n T xs c=Aa->STs X CL xs (λY=>(top Y c (evE Z Y c)).bind Cu)
 i:∀(W:XW)(T:Tc)(X:Cx)(tu:Aj)(tg x:Ao)(i:I),VX Z CL k W T X->S8 tu tg=Aa->chkI n T tu x i=Aa->SI X CL W tg x (λY=>evI Z Y i)
section
variable{Z:Gam}{CL:ClA}{W:XW}{k n:Ag}{T:Tc}{X:Cx}
theorem jH:Snd Z CL k 0:=⟨λ_ _ _ _ _ _ h=>noF h,λ_ _ _ _ _ _ h=>noF h,λ_ _ _ _ _ _ _ h=>noF h,λ_ _ _ _ _ _ h=>noF h,λ_ _ _ _ _ _ h=>noF h,λ_ _ _ _ _ h=>noF h,λ_ _ _ _ _ _ _ _ _ h=>noF h⟩
theorem Tv{x:Ao}(h:DZ x=Aa)(hx:(Cd pos (Ax xs env)).any (·.1)=Ad):(Cd pos (Ax (x::xs) env)).any (·.1)=Ad:=by
 rw[De h];show (Ad||(Cd pos (Ax xs env)).any (·.1))=Ad;rw[hx];rfl
theorem vS(S:Snd Z CL k n)(W:XW)(T:Tc)(X:Cx)(xs:Ac Ao)(es:Es)(v:VX Z CL k W T X)(h:chkEs (n+1) T xs es=Aa):SA X CL W xs (λY=>evA Z Y es)/\SAT X CL W xs (λY=>evB Z Y es)/\xs.length=es.len/\(∀ pos,xs≠[]->SE X CL W (.BoolOp .And xs pos) (λY=>evN Z Y es)/\SE X CL W (.BoolOp .Or xs pos) (λY=>evO Z Y es))/\(∀ pos,(Cd pos (Ax xs X.env)).any (·.1)=Ad):=by
 cases xs with
 |nil=>
  cases es with
  |nil=>exact⟨WU,mW,rfl,λ_ z=>absurd rfl z,λ_=>rfl⟩
  |cons=>exact noF h
 |cons x xs=>
  cases es with
  |nil=>exact noF h
  |cons e es=>
   replace h:(DZ x&&Bs n T x e&&chkEs n T xs es)=Aa:=h;simp only[An]at h;obtain⟨⟨h0,h1⟩,h2⟩:=h;have he:=S.e W T X x e v h1;obtain⟨a1,a2,a3,a4,a5⟩:=S.es W T X xs es v h2;refine⟨Vo he.se a1 (De h0),jL he.st a2 (De h0),congrArg (· + 1) a3,λpos _=>?_,λpos=>Tv h0 (a5 pos)⟩
   cases xs with
   |nil=>
    cases es with
    |nil=>exact⟨QU he.se,QU he.se⟩
    |cons=>cases a3
   |cons y ys=>
    cases es with
    |nil=>cases a3
    |cons e' es'=>
     obtain⟨b1,b2⟩:=a4 pos (by simp)
     exact⟨WT he.se b1,jp he.se b2⟩
theorem fz(S:Snd Z CL k n)(W:XW)(T:Tc)(X:Cx)(x:Ap Ao)(c:E)(v:VX Z CL k W T X)(h:chkO (n+1) T x c=Aa):SO X CL W x (λY=>(top Y c (evE Z Y c)).bind (slE c)):=by
 cases x with
 |none=>
  obtain rfl:=kZ h;exact oB
 |some x=>
  replace h:(!(On c)&&Bs n T x c)=Aa:=h;rw[An]at h;have q:=oA (S.e W T X x c v h.2).st;have e:slE c=λd=>(Gb d).bind λi=>.ok (Ab i):=by
   funext d
   cases c<;>first|rfl|exact absurd (show Ad=Aa from h.1) AD
  rw[e];exact q
theorem fu(S:Snd Z CL k n)(T:Tc)(X:Cx)(xs:Ac Ao)(c:E)(v:VX Z CL k W0 T X)(h:chkT (n+1) T xs c=Aa):STs X CL xs (λY=>(top Y c (evE Z Y c)).bind Cu):=by
 cases xs with
 |nil=>
  replace h:=qG h;obtain⟨b,rfl,h⟩:=h;subst h;exact nM
 |cons x xs=>
  replace h:(xs.isEmpty&&IV n T x c)=Aa:=h;rw[An]at h;obtain rfl:=Jt h.1;exact nL (S.b W0 T X x c v h.2)
theorem gb(S:Snd Z CL k n)(W:XW)(T:Tc)(X:Cx)(tu:Aj)(tg x:Ao)(i:I)(v:VX Z CL k W T X)(ht':S8 tu tg=Aa)(h:chkI (n+1) T tu x i=Aa):SI X CL W tg x (λY=>evI Z Y i):=by
 have ht:tu=Aa->kx tg=Aa:=λz=>by
  subst z;cases tg<;>first|rfl|cases ht'
 cases i with
 |e a=>
  exact cQ (S.e W T X x a v h).se
 |rng a=>
  replace h:=Kz h;obtain⟨g,pp,l,qq,rfl,h⟩:=h;replace h:=GM h;obtain⟨y,rfl,h⟩:=h;simp only[An,A6]at h;obtain⟨⟨⟨rfl,h1⟩,h2⟩,h3⟩:=h;obtain⟨g1,g2,_,_⟩:=Il v h1;exact wF (S.e W T X _ a v h3).st g1 g2 (De h2)
 |rng2 a b=>
  replace h:=Kz h;obtain⟨g,pp,l,qq,rfl,h⟩:=h;replace h:=JY h;obtain⟨y,z,rfl,h⟩:=h;simp only[An,A6]at h;obtain⟨⟨⟨⟨⟨rfl,h1⟩,h2⟩,h3⟩,h4⟩,h5⟩:=h;obtain⟨g1,g2,_,_⟩:=Il v h1;exact oF (S.e W T X _ a v h4).st (S.e W T X _ b v h5).st g1 g2 (by rw[De h2,De h3];rfl) (by rw[De h3];rfl)
 |zip a b=>
  replace h:=Kz h;obtain⟨g,pp,l,qq,rfl,h⟩:=h;replace h:=JY h;obtain⟨y,z,rfl,h⟩:=h;simp only[An,A6]at h;obtain⟨⟨⟨⟨⟨⟨h0,rfl⟩,h1⟩,h2⟩,h3⟩,h4⟩,h5⟩:=h;obtain⟨g1,g2,_,_⟩:=Il v h1;have hg:=ht h0;cases tg with
  |Tuple es m tpos=>exact wD (S.e W T X _ a v h4).se (S.e W T X _ b v h5).se g1 g2 (by rw[De h2,De h3];rfl) (by rw[De h3];rfl)
  |_=>cases hg
 |zip3 a b c=>exact absurd (show Ad=Aa from h) AD
 |enm a=>
  replace h:=Kz h;obtain⟨g,pp,l,qq,rfl,h⟩:=h;replace h:=GM h;obtain⟨y,rfl,h⟩:=h;simp only[An,A6]at h;obtain⟨⟨⟨⟨h0,rfl⟩,h1⟩,h2⟩,h3⟩:=h;obtain⟨g1,g2,_,_⟩:=Il v h1;have hg:=ht h0;cases tg with
  |Tuple es m tpos=>exact oG (S.e W T X _ a v h3).se g1 g2 (De h2)
  |_=>cases hg
theorem Lr{c:Prop}[GU c]{b:Aj}:(if c then R.ok (D.bl b) else .bad)=.bad\/∃ b',(if c then R.ok (D.bl b) else .bad)=.ok (.bl b'):=by
 by_cases h:c
 .rw[AI h];exact .inr ⟨_,rfl⟩
 .rw[AT h];exact .inl rfl
theorem Ve(op:DC)(d d':D):B4 op d d'=.bad\/∃ b,B4 op d d'=.ok (.bl b):=by
 cases op with
 |Eq=>exact Lr
 |NotEq=>exact Lr
 |In=>
  cases d' with
  |lst ys=>exact Lr
  |tup ys=>exact Lr
  |dic kvs=>
   show (match Ke d with|some k=>R.ok (D.bl (kvs.any λp=>p.1==k))|none=>.bad)=.bad\/∃ b,(match Ke d with|some k=>R.ok (D.bl (kvs.any λp=>p.1==k))|none=>.bad)=.ok (.bl b)
   cases Ke d with
   |some k=>exact .inr ⟨_,rfl⟩
   |none=>exact .inl rfl
  |_=>exact .inl rfl
 |NotIn=>
  cases d' with
  |lst ys=>exact Lr
  |tup ys=>exact Lr
  |_=>exact .inl rfl
 |Is=>
  cases d' with
  |non=>cases d<;>first|exact .inr ⟨_,rfl⟩|exact .inl rfl
  |_=>cases d<;>first|exact .inl rfl|exact .inr ⟨_,rfl⟩
 |IsNot=>
  cases d' with
  |non=>cases d<;>first|exact .inr ⟨_,rfl⟩|exact .inl rfl
  |_=>cases d<;>first|exact .inl rfl|exact .inr ⟨_,rfl⟩
 |_=>
  cases d with
  |int i=>cases d'<;>first|exact .inr ⟨_,rfl⟩|exact .inl rfl
  |_=>exact .inl rfl
theorem VZ(op:DC)(d d':D):(B4 op d d').bind Cu=.bad\/(B4 op d d').bind Cu=(B4 op d d').bind D7:=by
 rcases Ve op d d' with h|⟨b,h⟩
 .rw[h];exact .inl rfl
 .rw[h];exact .inr rfl
theorem bq(e e':E)(es:Es):Rf (λY=>(evN Z Y (.cons e (.cons e' es))).bind Cu) (λY=>((top Y e (evE Z Y e)).bind Cu).bind λc=>if c=Aa then (evN Z Y (.cons e' es)).bind Cu else .ok Ad):=λY=>by
 have e0:evN Z Y (.cons e (.cons e' es))=(evE Z Y e).bind λx=>(D7 x).bind λc=>if c=Aa then evN Z Y (.cons e' es) else .ok (.bl Ad):=rfl
 dsimp only;rw[e0];rcases Q5 Z e Y with z|z<;>dsimp only at z
 .rw[z];exact .inl rfl
 .rw[<-z];cases evE Z Y e with
  |bad=>exact .inl rfl
  |exn x=>exact .inr rfl
  |ok d=>
   cases d with
   |bl b=>cases b<;>exact .inr rfl
   |_=>exact .inl rfl
theorem bp(e e':E)(es:Es):Rf (λY=>(evO Z Y (.cons e (.cons e' es))).bind Cu) (λY=>((top Y e (evE Z Y e)).bind Cu).bind λc=>if c=Aa then .ok Aa else (evO Z Y (.cons e' es)).bind Cu):=λY=>by
 have e0:evO Z Y (.cons e (.cons e' es))=(evE Z Y e).bind λx=>(D7 x).bind λc=>if c=Aa then .ok (.bl Aa) else evO Z Y (.cons e' es):=rfl
 dsimp only;rw[e0];rcases Q5 Z e Y with z|z<;>dsimp only at z
 .rw[z];exact .inl rfl
 .rw[<-z];cases evE Z Y e with
  |bad=>exact .inl rfl
  |exn x=>exact .inr rfl
  |ok d=>
   cases d with
   |bl b=>cases b<;>exact .inr rfl
   |_=>exact .inl rfl
theorem Rf.tru(e:E):Rf (λY=>(evE Z Y e).bind Cu) (λY=>(top Y e (evE Z Y e)).bind Cu):=λY=>by
 rcases Q5 Z e Y with z|z<;>dsimp only at z ⊢
 .rw[z];exact .inl rfl
 .rw[<-z];exact .inr rfl
theorem vT(S:Snd Z CL k n)(W:XW)(T:Tc)(X:Cx)(xs:Ac Ao)(es:Es)(pos:AO)(v:VX Z CL k W T X)(h:chkBs (n+1) T xs es=Aa)(hne:xs≠[]):SW X CL W (.BoolOp .And xs pos) (λY=>(evN Z Y es).bind Cu)/\SW X CL W (.BoolOp .Or xs pos) (λY=>(evO Z Y es).bind Cu):=by
 cases xs with
 |nil=>exact absurd rfl hne
 |cons x xs=>
  cases es with
  |nil=>exact noF h
  |cons e es=>
   replace h:(IV n T x e&&chkBs n T xs es)=Aa:=h;simp only[An]at h;obtain⟨h1,h2⟩:=h;have he:=S.b W T X x e v h1;cases xs with
   |nil=>
    cases es with
    |nil=>exact⟨SW.ref (nK he) (Rf.tru e),SW.ref (vO he) (Rf.tru e)⟩
    |cons=>
     cases n with
     |zero=>exact absurd (show Ad=Aa from h2) AD
     |succ n=>exact absurd (show Ad=Aa from h2) AD
   |cons y ys=>
    cases es with
    |nil=>
     cases n with
     |zero=>exact absurd (show Ad=Aa from h2) AD
     |succ n=>exact absurd (show Ad=Aa from h2) AD
    |cons e' es'=>
     obtain⟨b1,b2⟩:=S.bs W T X (y::ys) (.cons e' es') pos v h2 (by simp)
     exact⟨SW.ref (vP he b1) (bq e e' es'),SW.ref (fj he b2) (bp e e' es')⟩
theorem pE(S:Snd Z CL k n){x:Ao}{ops:Ac DC}{b:BI}(v:VX Z CL k W T X)(h:R9 T (Bs n) x ops ys b as=Aa):SB X CL W (.Compare x ops ys pos) (λY=>(top Y (.bi b as) (evE Z Y (.bi b as))).bind Cu):=by
 exact absurd (show Ad=Aa from h) AD
theorem gf(S:Snd Z CL k n)(W:XW)(T:Tc)(X:Cx)(x:Ao)(c:E)(v:VX Z CL k W T X)(h:IV (n+1) T x c=Aa):SB X CL W x (λY=>(top Y c (evE Z Y c)).bind Cu):=by
 have plain:∀ e,Nx e=Aa->Bs n T e c=Aa->SB X CL W e (λY=>(top Y c (evE Z Y c)).bind Cu):=λe h1 h2=>yA (S.e W T X e c v h2).st (nI h1)
 replace h:((KW x λo x=>decide (o=.Not)&&(OQ c λa=>IV n T x a))||(Kc x λo xs _=>(decide (o=.And)&&(OE c λes=>chkBs n T xs es && !xs.isEmpty))||(decide (o=.Or)&&(OO c λes=>chkBs n T xs es && !xs.isEmpty)))||(LQ x λx os ys=>(Oy c λop a b=>FO os λop'=>FO ys λy=>decide (op'=op) && !behindInMarks op y&&Bs n T x a&&Bs n T y b)||(Oz c λop1 op2 a b c=>Ir os λo1 o2=>Ir ys λy z=>decide (o1=op1)&&decide (o2=op2) && !lastMarks [op1,op2] [y,z]&&Bs n T x a&&Bs n T y b&&Bs n T z c)||(OA c λb as=>R9 T (Bs n) x os ys b as))||Nx x&&Bs n T x c)=Aa:=h
 replace h:=(orT h).imp_left λz=>(orT z).imp_left orT
 rcases h with ((h|h)|h)|h
 .replace h:=NQ h;obtain⟨o,y,p,rfl,h⟩:=h;replace h:=Dq h;obtain⟨h0,h⟩:=h;obtain rfl:=AW h0;replace h:=qE h;obtain⟨a,rfl,h⟩:=h
  .skip
   refine SB.ref (yB (S.b W T X _ a v h)) λY=>?_
   show ((top Y a (evE Z Y a)).bind λx=>(D7 x).bind λb=>.ok (.bl (!b))).bind Cu=.bad\/((top Y a (evE Z Y a)).bind λx=>(D7 x).bind λb=>.ok (.bl (!b))).bind Cu=_
   cases top Y a (evE Z Y a) with
   |bad=>exact .inl rfl
   |exn x=>exact .inr rfl
   |ok d=>cases d<;>first|exact .inr rfl|exact .inl rfl
 .replace h:=Ms h;obtain⟨o,ys,p,rfl,h⟩:=h;replace h:=orT h;rcases h with h|h
  .replace h:=Dq h;obtain⟨h0,h⟩:=h;obtain rfl:=AW h0;replace h:=mJ h;obtain⟨es,rfl,h⟩:=h;simp only[An,BL,El]at h;exact(S.bs W T X _ _ _ v h.1 h.2).1.sb
  .replace h:=Dq h;obtain⟨h0,h⟩:=h;obtain rfl:=AW h0;replace h:=qD h;obtain⟨es,rfl,h⟩:=h;simp only[An,BL,El]at h;exact(S.bs W T X _ _ _ v h.1 h.2).2.sb
 .replace h:=Qp h;obtain⟨w,os,ys,p,rfl,h⟩:=h;replace h:=(orT h).imp_left orT;rcases h with (h|h)|h
  .replace h:=mF h;obtain⟨op,a,b,rfl,h⟩:=h;replace h:=GM h;obtain⟨op',rfl,h⟩:=h;replace h:=GM h;obtain⟨y,rfl,h⟩:=h
   .simp only[An,BL,A2]at h;obtain⟨⟨⟨rfl,h1⟩,h2⟩,h3⟩:=h;refine SB.ref (yC (Ly v.room.units _) (S.e W T X _ a v h2).st (S.e W T X _ b v h3).st h1) λY=>?_
    show ((top Y a (evE Z Y a)).bind λx=>(top Y b (evE Z Y b)).bind λy=>B4 op' x y).bind Cu=.bad\/((top Y a (evE Z Y a)).bind λx=>(top Y b (evE Z Y b)).bind λy=>B4 op' x y).bind Cu=_
    cases top Y a (evE Z Y a) with
    |bad=>exact .inl rfl
    |exn x=>exact .inr rfl
    |ok d=>
     cases top Y b (evE Z Y b) with
     |bad=>exact .inl rfl
     |exn x=>exact .inr rfl
     |ok d'=>
      dsimp only[R.bind];exact VZ _ d d'
  .replace h:=mG h;obtain⟨op1,op2,a,b,c,rfl,h⟩:=h;replace h:=JY h;obtain⟨o1,o2,rfl,h⟩:=h;replace h:=JY h;obtain⟨y,z,rfl,h⟩:=h
   .simp only[An,BL,A2]at h;obtain⟨⟨⟨⟨⟨rfl,rfl⟩,h1⟩,h2⟩,h3⟩,h4⟩:=h;refine SB.ref (jK v.room.units (S.e W T X _ a v h2).st (S.e W T X _ b v h3).st (S.e W T X _ c v h4).st h1) λY=>?_
    show ((top Y a (evE Z Y a)).bind λx=>(top Y b (evE Z Y b)).bind λy=>(B4 o1 x y).bind λz=>(D7 z).bind λk=>if k=Aa then (top Y c (evE Z Y c)).bind λu=>B4 o2 y u else .ok (.bl Ad)).bind Cu=.bad\/((top Y a (evE Z Y a)).bind λx=>(top Y b (evE Z Y b)).bind λy=>(B4 o1 x y).bind λz=>(D7 z).bind λk=>if k=Aa then (top Y c (evE Z Y c)).bind λu=>B4 o2 y u else .ok (.bl Ad)).bind Cu=_
    cases top Y a (evE Z Y a) with
    |bad=>exact .inl rfl
    |exn x=>exact .inr rfl
    |ok d=>
     cases top Y b (evE Z Y b) with
     |bad=>exact .inl rfl
     |exn x=>exact .inr rfl
     |ok d'=>
      dsimp only[R.bind];cases B4 o1 d d' with
      |bad=>exact .inl rfl
      |exn x=>exact .inr rfl
      |ok d3=>
       cases d3 with
       |bl k=>
        cases k with
        |false=>exact .inr rfl
        |true=>
         dsimp only[R.bind,D7];rw[AI rfl,AI rfl];cases top Y c (evE Z Y c) with
         |bad=>exact .inl rfl
         |exn x=>exact .inr rfl
         |ok d4=>exact VZ _ d' d4
       |_=>exact .inl rfl
  .replace h:=mH h;obtain⟨b,as,rfl,h⟩:=h;exact pE S v h
 .exact plain _ (Dq h).1 (Dq h).2
end
section
variable{Z:Gam}{CL:ClA}{W:XW}{k n:Ag}{T:Tc}{X:Cx}
theorem bF{b:BI}{x:Ao}(v:VX Z CL k W T X)(hb:RB b=Ab g)(hg:isB T g=Aa)(hs:SAT X CL W (x::xs) (λY=>evB Z Y as))(h0:DZ x=Aa)(hpl:∀ pos,(Cd pos (Ax xs X.env)).any (·.1)=Ad):OkE Z CL W X (.Call (.Name g p) (x::xs) [] pos) (.bi b as):=by
 obtain⟨g1,g2,g3,g4⟩:=Il v hg;cases b<;>simp only[RB]at hb<;>cases hb
 .exact Fs (N2 bj g1 g2 PySem.boot_len hs g3 g4 (De h0) hpl) (λ_ _=>rfl) rfl rfl
 .exact QT (vZ rK g1 g2 YF hs g3 g4 (De h0) hpl) (λ_ _=>rfl) rfl
 .exact Fs (xZ kR g1 g2 Gk hs g3 g4 (De h0) hpl) (λ_ _=>rfl) rfl rfl
 .exact Fs (N2 (bo v.calm) g1 g2 PyProof.Rows.boot_all hs g3 g4 (De h0) hpl) (λ_ _=>rfl) rfl rfl
 .exact Fs (N2 (bn v.calm) g1 g2 PyProof.Rows.boot_any hs g3 g4 (De h0) hpl) (λ_ _=>rfl) rfl rfl
 .exact Fs (N2 (dh v.calm) g1 g2 PyProof.Rows.boot_sum hs g3 g4 (De h0) hpl) (λ_ _=>rfl) rfl rfl
theorem ME{l:Ac (Ak×Ag)}(h:inX l g c=Aa):(g,c)∈l:=by
 unfold inX at h;simp only[Ez,An,A6]at h;obtain⟨p,hp,rfl,rfl⟩:=h;exact hp
theorem Li{x:Ao}{es:Es}(h:chkEs n T (x::xs) es=Aa):DZ x=Aa/\∃ e es',es=.cons e es'/\∃ m,n=m+1/\chkEs m T xs es'=Aa:=by
 cases n with
 |zero=>exact noF h
 |succ m=>
  cases es with
  |nil=>exact noF h
  |cons e es=>
   replace h:(DZ x&&Bs m T x e&&chkEs m T xs es)=Aa:=h;simp only[An]at h;exact⟨h.1.1,e,es,rfl,m,rfl,h.2⟩
theorem Mn:∀(m:Ag)(xs:Ac Ao)(es:Es),chkEs m T xs es=Aa->∀ pos,(Cd pos (Ax xs X.env)).any (·.1)=Ad:=by
 intro m
 induction m with
 |zero=>intro xs es h;exact noF h
 |succ m ih=>
  intro xs es h pos;cases xs with
  |nil=>rfl
  |cons x xs=>
   obtain⟨h0,e,es',rfl,m',e1,h1⟩:=Li h;cases e1;exact Tv h0 (ih xs es' h1 pos)
theorem yE(S:Snd Z CL k n){x:Ao}{b:BI}(v:VX Z CL k W T X)(h:(match O2 as with|some a=>(match Tf x with|some y=>decide (b=.rvs)&&Bs n T y a|none=>Ad)|none=>Ad)=Aa):OkE Z CL W X x (.bi b as):=by
 simp[O2]at h
theorem vK(S:Snd Z CL k n){x:Ao}{b:BI}(v:VX Z CL k W T X)(h:(match RY as with|some (a,c)=>(match Tn x with|some (y,z,_)=>decide (b=.tlt) && !behindInMarks .Lt z&&Bs n T y a&&Bs n T z c|none=>Ad)|none=>Ad)=Aa):OkE Z CL W X x (.bi b as):=by
 simp[RY]at h
theorem cx{x:Ao}{b:BI}(v:VX Z CL k W T X)(h:Th T x b as=Aa):OkE Z CL W X x (.bi b as):=by
 exact absurd h AD
theorem vQ(S:Snd Z CL k n){x:Ao}{b:BI}(v:VX Z CL k W T X)(h:(match RZ as with|some (a,k)=>(match Ta x with|some (y,j)=>decide (b=.stp)&&decide (j=k)&&decide (0<=k)&&Bs n T y a|none=>Ad)|none=>Ad)=Aa):OkE Z CL W X x (.bi b as):=by
 simp[RZ]at h
theorem aq(S:Snd Z CL k n){x:Ao}{b:BI}(v:VX Z CL k W T X)(h:(match R1 as with|some (a,c)=>(match S5 x with|some (g,h,y,z)=>decide (b=.list)&&g==("list" : Ak)&&h==("range" : Ak)&&isB T g&&isB T h&&DZ y&&DZ z&&Bs n T y a&&Bs n T z c|none=>Ad)|none=>Ad)=Aa):OkE Z CL W X x (.bi b as):=by
 simp[R1]at h
theorem sN(S:Snd Z CL k n){x:Ao}{b:BI}(v:VX Z CL k W T X)(h:(match R0 as with|some a=>(match S4 x with|some (g,h,y)=>decide (b=.lset)&&g==("len" : Ak)&&h==("set" : Ak)&&isB T g&&isB T h&&DZ y&&Bs n T y a|none=>Ad)|none=>Ad)=Aa):OkE Z CL W X x (.bi b as):=by
 simp[R0]at h
theorem gc(S:Snd Z CL k n)(W:XW)(T:Tc)(X:Cx)(x:Ao)(c:E)(v:VX Z CL k W T X)(h:Bs (n+1) T x c=Aa):OkE Z CL W X x c:=by
 cases c with
 |non=>
  replace h:=Lp h;obtain⟨c,u,p,rfl,h⟩:=h;obtain rfl:=AW h;exact Fs uW (λ_ _=>rfl) rfl rfl
 |bl b=>
  replace h:=Lp h;obtain⟨c,u,p,rfl,h⟩:=h;obtain rfl:=AW h;exact Fs Xg (λ_ _=>rfl) rfl rfl
 |int i=>
  replace h:=Lp h;obtain⟨c,u,p,rfl,h⟩:=h;obtain rfl:=AW h;exact Fs vE (λ_ _=>rfl) rfl rfl
 |str i=>
  replace h:=Lp h;obtain⟨c,u,p,rfl,h⟩:=h;obtain rfl:=AW h;exact Fs WR (λ_ _=>rfl) rfl rfl
 |var i=>
  replace h:=G7 h;obtain⟨y,p,rfl,h⟩:=h;exact⟨wG (LI v h),LF (LI v h),λz=>(nomatch z),λz=>(nomatch z)⟩
 |glob g=>exact absurd (show Ad=Aa from h) AD
 |bin op a b=>
  replace h:=US h;obtain⟨y,op',z,p,rfl,h⟩:=h;simp only[An,A2]at h;obtain⟨⟨rfl,h1⟩,h2⟩:=h;have ha:=(S.e W T X _ a v h1).st;have hb:=(S.e W T X _ b v h2).st;refine⟨QV (QH _) ha hb,(QV (QH _) ha hb).st,λz=>?_,λz=>nomatch z⟩
  cases op'<;>first|exact wA ha hb|cases z
 |un op a=>
  replace h:=NQ h;obtain⟨o,y,p,rfl,h⟩:=h;replace h:=Dq h;obtain⟨h0,h⟩:=h;obtain rfl:=AW h0;simp only[An,A2]at h;obtain⟨rfl,h1⟩:=h;exact Fs (uX (S.e W T X _ a v h1).st) (λ_ _=>rfl) rfl rfl
 |no a=>
  replace h:=NQ h;obtain⟨o,y,p,rfl,h⟩:=h;replace h:=Dq h;obtain⟨h0,h⟩:=h;obtain rfl:=AW h0;exact Fs (WS (S.e W T X _ a v h).st) (λ_ _=>rfl) rfl rfl
 |and es=>
  replace h:=Ms h;obtain⟨o,ys,p,rfl,h⟩:=h;replace h:=Dq h;obtain⟨h0,h⟩:=h;obtain rfl:=AW h0;simp only[An,BL,El]at h;exact Fs ((S.es W T X _ es v h.1).2.2.2.1 _ h.2).1 (λ_ _=>rfl) rfl rfl
 |or es=>
  replace h:=Ms h;obtain⟨o,ys,p,rfl,h⟩:=h;replace h:=Dq h;obtain⟨h0,h⟩:=h;obtain rfl:=AW h0;simp only[An,BL,El]at h;exact Fs ((S.es W T X _ es v h.1).2.2.2.1 _ h.2).2 (λ_ _=>rfl) rfl rfl
 |cmp op a b=>
  replace h:=Qp h;obtain⟨y,os,ys,p,rfl,h⟩:=h;replace h:=GM h;obtain⟨op',rfl,h⟩:=h;replace h:=GM h;obtain⟨z,rfl,h⟩:=h;simp only[An,BL,A2]at h;obtain⟨⟨⟨rfl,h1⟩,h2⟩,h3⟩:=h;exact Fs (vH (Ly v.room.units _) (S.e W T X _ a v h2).st (S.e W T X _ b v h3).st h1) (λ_ _=>rfl) rfl rfl
 |cmp2 op1 op2 a b c=>
  replace h:=Qp h;obtain⟨y,os,ys,p,rfl,h⟩:=h;replace h:=JY h;obtain⟨o1,o2,rfl,h⟩:=h;replace h:=JY h;obtain⟨z,w,rfl,h⟩:=h;simp only[An,BL,A2]at h;obtain⟨⟨⟨⟨⟨rfl,rfl⟩,h1⟩,h2⟩,h3⟩,h4⟩:=h;exact Fs (jJ v.room.units (S.e W T X _ a v h2).st (S.e W T X _ b v h3).st (S.e W T X _ c v h4).st h1) (λ_ _=>rfl) rfl rfl
 |ite c a b=>exact absurd (show Ad=Aa from h) AD
 |call f as=>
  replace h:=Ny h;obtain⟨g,pp,y,ys,qq,rfl,h⟩:=h;simp only[An,Ez,A6,A2]at h;obtain⟨⟨⟨⟨⟨p,hp,⟨rfl,rfl⟩,hl⟩,h900⟩,h1⟩,h2⟩,h3⟩:=h;obtain⟨fa,fd,ps,m1,m2,m3,m4,m5,_⟩:=v.fn p hp;have hlt:p.2.2<1000:=by omega
  rw[Ia hlt]at m4 m5;have m5:=m5 hlt;obtain⟨n2,n3,n4⟩:=II h2;obtain⟨a1,a2,a3,a4,a5⟩:=S.es W T X _ as v h3;obtain⟨s0,e,es',rfl,m,rfl,s1⟩:=Li h3;have q:SC X CL W (Z.fr p.2.1) (.Call (.Name p.1 pp) (y::ys) [] qq) (λY=>evE Z Y (.call p.2.1 (.cons e es'))):=mV (sh:=λY=>IR Y (.cons e es')) m5 v.room (by unfold glB at h1;show X.env.scope.names.lookup p.1=_;rw[v.sc];exact eq_of_beq h1) m1 m2 m3 v.px a1 a2 (λY z=>Ob Z Y _ z) (λY ds z=>by rw[NW Z Y _ _ z,<-a3,hl];rfl) n2 (De s0) (Mn m ys es' s1)
  exact⟨q.se,q.se.st,λz=>by
   have z':Z.fr p.2.1=Aa:=z;rw[z']at q;exact q,λz=>nomatch z⟩
 |bi b as=>
  unfold Bs at h;dsimp only at h;simp only[CU]at h;rcases h with (((((h|h)|h)|h)|h)|h)|h
  .replace h:=Ny h;obtain⟨g,pp,y,ys,qq,rfl,h⟩:=h;simp only[An,A6]at h;obtain⟨⟨h1,h2⟩,h3⟩:=h;obtain⟨s0,e,es',rfl,m,rfl,s1⟩:=Li h3;exact bF v h1 h2 (S.es W T X _ _ v h3).2.1 s0 (Mn m _ es' s1)
  .exact cx v h
  .exact aq S v h
  .exact vQ S v h
  .exact sN S v h
  .exact vK S v h
  .exact yE S v h
 |isi a ks=>
  replace h:=GM h;obtain⟨k',rfl,h⟩:=h;replace h:=Kz h;obtain⟨g,pp,l,qq,rfl,h⟩:=h;replace h:=JY h;obtain⟨y,t,rfl,h⟩:=h;replace h:=G7 h;obtain⟨t,pt,rfl,h⟩:=h;simp only[An,A6]at h;obtain⟨⟨⟨⟨⟨rfl,h1⟩,h2⟩,h3⟩,h4⟩,h5⟩:=h;obtain⟨g1,g2,_,_⟩:=Il v h1;obtain⟨b1,b2,b3,b4⟩:=Il v h3;obtain⟨ty,t1,t2⟩:=bE h2;exact Fs (vC t1 g1 g2 b1 b2 t2 b3 b4 (S.e W T X _ a v h5).st (De h4)) (λ_ _=>rfl) rfl rfl
 |idx a i=>
  replace h:=UM h;obtain⟨y,z,p,rfl,h⟩:=h;simp only[An]at h;obtain⟨⟨h1,h2⟩,h3⟩:=h;exact Fs (vF (jI h1) (S.e W T X _ a v h2).st (S.e W T X _ i v h3).st) (λ_ _=>rfl) rfl rfl
 |sl a lo hi=>
  replace h:=UM h;obtain⟨y,s,p,rfl,h⟩:=h;replace h:=mB h;obtain⟨l,u,st,p',rfl,h⟩:=h;replace h:=Dq h;obtain⟨h0,h⟩:=h;obtain rfl:=YE.mp h0;simp only[An]at h;obtain⟨⟨h1,h2⟩,h3⟩:=h;refine QT (SC.congr (dk (S.e W T X _ a v h1).st (S.o W T X _ lo v h2) (S.o W T X _ hi v h3)) λY=>?_) (λ_ _=>rfl) rfl
  show ((top Y a (evE Z Y a)).bind λx=>(top Y lo (evE Z Y lo)).bind λl=>(slE lo l).bind λl'=>(top Y hi (evE Z Y hi)).bind λh=>(slE hi h).bind λh'=>slD x l' h')=_
  simp only[R.bind_assoc]
 |tup es=>
  replace h:=Lo h;obtain⟨ys,cc,p,rfl,h⟩:=h;simp only[An,A2]at h;have q:=S.es W T X _ es v h.1;exact Fs (WQ q.1 λY ds z=>by rw[KH Z Y _ _ z,<-q.2.2.1];omega) (λ_ _=>rfl) rfl rfl
 |lst es=>
  replace h:=Qn h;obtain⟨ys,p,rfl,h⟩:=h;simp only[An,A2]at h;have q:=S.es W T X _ es v h.1;exact QT (Q7 q.1 λY ds z=>by rw[KH Z Y _ _ z,<-q.2.2.1];omega) (λ_ _=>rfl) rfl
 |comp elt t it c=>
  replace h:=Vk (e:=x) (F:=_) (by unfold Bs at h;exact h)
  obtain⟨y,tg,it',ifs,scope,p,rfl,h⟩:=h;replace h:=G7 h;obtain⟨w,pw,rfl,h⟩:=h;simp only[An]at h;obtain⟨⟨⟨⟨⟨h1,h2⟩,h3⟩,h4⟩,h5⟩,h6⟩:=h;refine Xv v.calm ⟨_,_,_,_,_,_,_,_,_,_,_,_,_,rfl,(Rh v h3).1,S.i W T X Ad _ _ it v rfl h1,tG t,λcl C s H fp=>pF (v.blk h3) (λz=>A6.mpr z) h4,λcl C s H fp=>S.t _ _ _ c (v.blk h3) h5,λcl C s H fp=>(S.e W0 _ _ _ elt (v.blk h3) h6).se,N1 h2,λY=>rfl⟩ (λ_ _=>rfl)
 |compT elt ts it c=>
  replace h:=Vk (e:=x) (F:=_) (by unfold Bs at h;exact h)
  obtain⟨y,tg,it',ifs,scope,p,rfl,h⟩:=h;replace h:=Lo h;obtain⟨ys,cc,pw,rfl,h⟩:=h;simp only[An]at h;obtain⟨⟨⟨⟨⟨⟨h0,h1⟩,h2⟩,h3⟩,h4⟩,h5⟩,h6⟩:=h;refine Xv v.calm ⟨_,_,_,_,_,_,_,_,_,_,_,_,_,rfl,(Rh v h3).1,S.i W T X Aa _ _ it v rfl h1,zO ts,λcl C s H fp=>nF (v.blk h3) h0 h4,λcl C s H fp=>S.t _ _ _ c (v.blk h3) h5,λcl C s H fp=>(S.e W0 _ _ _ elt (v.blk h3) h6).se,N1 h2,λY=>rfl⟩ (λ_ _=>rfl)
 |tupI it=>
  cases it with
  |zip3 a b c=>
   unfold Bs at h;dsimp only at h;cases q:OH x with
   |none=>rw[q]at h;cases h
   |some t=>
    obtain⟨g,f,y1,y2,y3⟩:=t;rw[q]at h;simp only[An,A6]at h;obtain⟨⟨⟨⟨⟨⟨⟨⟨⟨rfl,rfl⟩,h1⟩,h2⟩,h3⟩,h4⟩,h5⟩,h6⟩,h7⟩,h8⟩:=h;obtain⟨p,p',pos,pos',rfl⟩:=rJ q;obtain⟨g1,g2,_,_⟩:=Il v h1;obtain⟨g3,g4,_,_⟩:=Il v h2;exact Fs (vG (S.e W T X _ a v h6).se (S.e W T X _ b v h7).se (S.e W T X _ c v h8).se v.calm g1 g2 g3 g4 (by rw[De h3,De h4,De h5];rfl) (by rw[De h4,De h5];rfl) (by rw[De h5];rfl)) (λ_ _=>rfl) rfl rfl
  |_=>exact noF h
 |dnew=>exact noF h
 |fld o f=>exact noF h
theorem snd:∀ n,Snd Z CL k n
 |0=>jH
 |n+1=>⟨gc (snd n),gf (snd n),vT (snd n),vS (snd n),fz (snd n),fu (snd n),gb (snd n)⟩
end
section
variable{Z:Gam}{CL:ClA}{W:XW}{k n:Ag}{T:Tc}{X:Cx}
theorem pH{t:Ag}(v:VX Z CL k W T X)(hf:∀ x,X.fn x=Aa)(h:tgC T [t] [x]=Aa):PG X (.Name x pos) (FP t):=by
 unfold tgC at h;simp only[An,A6]at h;exact MD (by rw[v.N];exact v.nd) (by rw[v.N];exact h.1.1) (by rw[v.sc];exact LB h.1.2) (.inl (hf x))
theorem VC(v:VX Z CL k W T X)(hf:∀ x,X.fn x=Aa):∀(ys:Ac Ao)(ts:Ac Ag)(zs:Ac Ak),FN ys=Ab zs->tgC T ts zs=Aa->PGs X ys (ts.foldr (λt u=>Iq (FP t) u) Ix)/\ts.length=ys.length:=by
 intro ys
 induction ys with
 |nil=>
  intro ts zs e h;cases e;cases ts with
  |nil=>exact⟨Vs,rfl⟩
  |cons t ts=>cases h
 |cons y r ih=>
  intro ts zs e h;obtain⟨x,p,ws,rfl,e2,rfl⟩:=PB e;cases ts with
  |nil=>cases h
  |cons t ts=>
   have h':(T.N[t]? == Ab x&&JA T x&&tgC T ts ws)=Aa:=h;simp only[An,A6]at h';obtain⟨h1,h2⟩:=ih ts ws e2 h'.2;exact⟨UK (MD (by rw[v.N];exact v.nd) (by rw[v.N];exact h'.1.1) (by rw[v.sc];exact LB h'.1.2) (.inl (hf x))) h1 (by rw[PY];rfl),congrArg (· + 1) h2⟩
theorem pG(v:VX Z CL k W T X)(hf:∀ x,X.fn x=Aa)(hn:(FN ys).isSome=Aa)(h:tgC T ts (tgN ys)=Aa):PG X (.Tuple ys kk pos) (L6 X.K ts.length (ts.foldr (λt u=>Iq (FP t) u) Ix)):=by
 cases e:FN ys with
 |none=>rw[e]at hn;cases hn
 |some zs=>
  have e2:tgN ys=zs:=by unfold tgN;rw[e];rfl
  rw[e2]at h;obtain⟨h1,h2⟩:=VC v hf ys ts zs e h;obtain⟨h3,h4,_⟩:=Pz (env:=X.env) ys zs e;exact Q1 v.calm h1 (by rw[h3,h2]) h4
theorem vN(v:VX Z CL k W T X)(hf:∀ x,X.fn x=Aa)(hn:(FN ys).isSome=Aa)(h:tgC T ts (tgN ys)=Aa):PG X (.Tuple ys kk pos) (gSq X.K ts.length (ts.foldr (λt u=>Iq (FP t) u) Ix)):=by
 cases e:FN ys with
 |none=>rw[e]at hn;cases hn
 |some zs=>
  have e2:tgN ys=zs:=by unfold tgN;rw[e];rfl
  rw[e2]at h;obtain⟨h1,h2⟩:=VC v hf ys ts zs e h;obtain⟨h3,h4,_⟩:=Pz (env:=X.env) ys zs e;exact lh v.calm h1 (by rw[h3,h2]) h4
theorem wU{e:Ao}(h:(Xx e||DG 4 ys.length)=Aa):HG [.Tuple ys kk pos] e env=pure Af:=by
 cases e with
 |Tuple vs a b=>
  have h4:=Fe (show DG 4 ys.length=Aa from h)
  have e2:(ys.length==2)=Ad:=by rw[Dt];omega
  have e3:(ys.length==3)=Ad:=by rw[Dt];omega
  unfold HG;dsimp only;rw[e2,e3];rfl
 |_=>rfl
theorem TV(ts:Ac Ag):∀ d Y x,F8 ts d Y≠.exn x:=λd Y x h=>by
 unfold F8 at h;cases d with
 |tup xs=>
  dsimp only at h;cases e:ER ts xs Y with
  |some r=>rw[e]at h;cases h
  |none=>rw[e]at h;cases h
 |_=>cases h
theorem hJ(ts:Ac Ag):∀ d Y x,IP ts d Y≠.exn x:=λd Y x h=>by
 unfold IP at h;split at h
 .split at h<;>cases h
 .exact TV ts _ Y x h
theorem jE{elt:Ao}{gs:Ac JD}:∃ b,Dd (.ListComp elt gs scope pos) (Ab (.Name x pos')) l env=pure b/\(b=Aa->env.scope.names.lookup x=Ab .local):=by
 refine⟨_,rfl,λh=>?_⟩
 simp only[An,A6]at h;exact h.1.1.2
theorem QY{v0:Ao}{i:Ag}{e:E}(v:VX Z CL k W T X)(hf:∀ x,X.fn x=Aa)(hi:T.N[i]?=Ab x)(hl:JA T x=Aa)(o:OkE Z CL W X v0 e)(hfr:fr=Aa->Eg Z e=Aa):SAs X CL W fr i (.Assign [.Name x p] v0 pos) (λY=>evE Z Y e):=by
 have hN:X.N.Nodup:=by rw[v.N];exact v.nd
 have hi':X.N[i]?=Ab x:=by rw[v.N];exact hi
 have hx:Loc X.env.scope x:=by rw[v.sc];exact LB hl
 have sc:SC X CL W fr v0 (λY=>evE Z Y e):=by
  cases fr with
  |false=>exact o.se.sc
  |true=>exact o.nw (hfr rfl)
 cases hc:KO v0 with
 |true=>exact SC.sas hN hi' hx sc (LC hc) (.inl (hf x))
 |false=>
  obtain⟨tg,iter,elt,ifs,scope,pos2,N',ts,fi,fc,fe,as,g,rfl,B,h2,hGG,hg,ht,he,hs,ef⟩:=o.cp hc;obtain⟨b,hb,hb'⟩:=jE (elt:=elt) (gs:=[⟨tg,iter,ifs,0⟩]) (scope:=scope) (pos:=pos2) (pos':=p) (x:=x) (l:=pos.line) (env:=X.env);cases b with
  |false=>exact SC.sas hN hi' hx sc hb (.inl (hf x))
  |true=>
   have q:=jM (pos2:=pos) v.calm B h2 hGG hg ht he hs hN hi' (hb' rfl) hb;have q':SAs X CL W Aa i (.Assign [.Name x p] (.ListComp elt [⟨tg,iter,ifs,0⟩] scope pos2) pos) (λY=>evE Z Y e):=by
    have:(λY=>evE Z Y e)=_:=funext ef
    rw[this];exact q
   cases fr with
   |true=>exact q'
   | false=>exact λA=>PS.weak (q' A) λD U H ⟨hA,Y,gd,z⟩=>⟨hA,Y,gd,by
     dsimp only at z ⊢;cases e0:evE Z Y e with
     |ok d=>
      rw[e0]at z;exact λv' H' s' r'=>z v' H' s' ⟨r'.1,λ_=>r'.2 rfl⟩
     |exn y=>rw[e0]at z;exact z
     | bad=>rw[e0]at z;exact z⟩
theorem nZ{e t:Ao}(h:∀ x p,t≠.Name x p):JG [t] e l env=pure Ad:=by
 show Dd e (Ab t) l env=pure Ad;cases e<;>first|rfl|(cases t<;>first|rfl|exact absurd rfl (h _ _))
theorem T4(Y:Rho)(e:E)(h:∀ i,e≠.var i):evS Z Y (.ret e)=O.of Y (evE Z Y e) λd=>.ret d (Eg Z e):=by
 have k:∀ b:Aj,b=Ad->top Y e (evE Z Y e)=evE Z Y e->(O.of Y (top Y e (evE Z Y e)) λd=>.ret d (Eg Z e||b))=O.of Y (evE Z Y e) λd=>.ret d (Eg Z e):=λb hb ht=>by
  rw[hb,ht];simp only[EU]
 rw[sD];cases e with
 |var i=>exact absurd rfl (h i)
 |_=>exact k _ rfl rfl
structure DefX (X:Cx):Prop where
 fn:∀ x,X.fn x=Aa
 ex:X.ex=[]
 st:X.stack=X.env::X.outer
 fm:X.env.frame=Ab X.env.locals
structure SndS (Z:Gam) (CL:ClA) (k:Ag) (n:Ag):Prop where
 s:∀(W:XW)(T:Tc)(X:Cx)(x:AY)(c:S),VX Z CL k W T X->DefX X->M3 n T x c=Aa->SS X CL W x (λY=>evS Z Y c)
 ss:∀(W:XW)(T:Tc)(X:Cx)(x:Ac AY)(c:Ss),VX Z CL k W T X->DefX X->chkSs n T x c=Aa->SSs X CL W x (λY=>evSs Z Y c)
theorem tB(x y:D)(e:Ex):CJ x y≠.exn e:=by
 intro z;cases x with
 |lst xs=>cases y<;>first|exact NE z|cases z
 |tup xs=>cases y<;>first|exact NE z|cases z
 |dic kvs=>
  have z':(match (Ke y).bind (Rb kvs) with|some d=>R.ok d|none=>.bad)=.exn e:=z
  cases h:(Ke y).bind (Rb kvs) with
  |none=>rw[h]at z';cases z'
  |some k=>rw[h]at z';cases z'
 |_=>cases z
theorem U_8{i:Ag}{y:Ex}:Dp Y i≠.exn y:=λz'=>by
 unfold Dp at z';split at z'<;>cases z'
theorem NA(Z:Gam)(Y:Rho)(e:E)(h:OK e=Aa)(y:Ex):top Y e (evE Z Y e)≠.exn y:=by
 cases e with
 |var i=>
  intro z;have z':Dp Y i=.exn y:=z;unfold Dp at z';split at z'<;>cases z'
 |idx a b=>
  cases a with
  |var i=>
   cases b with
   |int j=>
    intro z;have z':(Dp Y i).bind (λx=>CJ x (.int j))=.exn y:=z
    cases e1:Dp Y i with
    |bad=>rw[e1]at z';cases z'
    |exn w=>exact U_8 e1
    |ok d=>rw[e1]at z';exact tB _ _ _ z'
   |_=>exact noF h
  |_=>exact noF h
 |bin op a b=>
  have h:(Td op&&R8 a b)=Aa:=h;rw[An]at h;obtain⟨h0,h⟩:=h;cases op with
  |Sub=>
   cases a with
   |var i=>
    cases b with
    |int j=>
     intro z;have z':(Dp Y i).bind (λx=>C4 .Sub x (.int j))=.exn y:=z
     cases e1:Dp Y i with
     |bad=>rw[e1]at z';cases z'
     |exn w=>exact U_8 e1
     |ok d=>rw[e1]at z';cases d<;>cases z'
    |_=>exact noF h
   |_=>exact noF h
  |_=>exact absurd (show Ad=Aa from h0) AD
 |int i=>intro z;cases z
 |bl i=>intro z;cases z
 |str i=>intro z;cases z
 |non=>intro z;cases z
 |_=>cases h
theorem Qf(Z:Gam)(Y:Rho):∀(es:Es),J8 es=Aa->∀ y,evB Z Y es≠.exn y
 |.nil,_,y=>λz=>by cases z
 |.cons e es,h,y=>λz=>by
  unfold J8 at h;rw[An]at h;rw[Qz]at z;cases e1:top Y e (evE Z Y e) with
  |bad=>rw[e1]at z;cases z
  |exn w=>exact NA Z Y e h.1 w e1
  |ok d=>
   rw[e1,R.bind_ok]at z;cases e2:evB Z Y es with
   |bad=>rw[e2]at z;cases z
   |exn w=>exact Qf Z Y es h.2 w e2
   |ok ds=>rw[e2]at z;cases z
theorem VX.pw(v:VX Z CL k W T X)(own:F4 (model X.prog X.w) X.A X.env Xw):VX Z CL k W0 T (Cx.pw X pI Xw):=⟨v.sc,v.kd,v.N,v.nd,v.calm,v.room,v.bl,v.fn,own,WY,Te,v.xt,v.gl⟩
theorem Ul(o:O):(o.seq λY'=>O.next Y')=o:=by cases o<;>rfl
theorem STB.congr{st:Ac AY}{f g:Rho->O}(h:STB X CL st f)(e:∀ Y,g Y=f Y):STB X CL st g:=by
 have:g=f:=funext e;rw[this];exact h
theorem WK(Sn:Snd Z CL k n)(v:VX Z CL k W T X)(hf:DefX X){st:AY}{s:S}(h:Od n T st s=Aa):STB X CL [st] (λY=>evSs Z Y (.cons s .nil))/\∀ Y y Y',evSs Z Y (.cons s .nil)=.exn y Y'->Y'=Y:=by
 have seq:∀ Y,evSs Z Y (.cons s .nil)=evS Z Y s:=λY=>Ul _
 have ofn:∀{r:R D}{f:D->Rho}{Y Y':Rho}{y:Ex},(O.of Y r λd=>O.next (f d))=.exn y Y'->Y'=Y:=λ{r f Y Y' y} z=>by
  cases r with
  |ok d=>cases z
  |exn w=>cases z;rfl
  |bad=>cases z
 have call:∀{e:Ao}{f:Ag}{as:Es},Bs n T e (.call f as)=Aa->J8 as=Aa->∃ g pp y ys qq,e=.Call (.Name g pp) (y::ys) [] qq/\∃ p∈T.fns,g=p.1/\f=p.2.1/\p.2.2=ys.length+1/\ys.length<900/\glB T g=Aa/\HN g=Aa/\∃ m,n=m+1/\chkEs m T (y::ys) as=Aa:=λ{e f as} h _=>by
  cases n with
  |zero=>exact noF h
  |succ m=>
   replace h:=Ny h;obtain⟨g,pp,y,ys,qq,rfl,h⟩:=h;simp only[An,Ez,A6,A2]at h;obtain⟨⟨⟨⟨⟨p,hp,⟨e1,e2⟩,hl⟩,h900⟩,h1⟩,h2⟩,h3⟩:=h;exact⟨g,pp,y,ys,qq,rfl,p,hp,e1.symm,e2.symm,hl,h900,h1,h2,m,rfl,h3⟩
 cases s with
 |expr e0=>
  replace h:(LR e0 λf as=>LP st λv=>Bs n T v (.call f as)&&J8 as)=Aa:=h
  replace h:=UR h;obtain⟨f,as,rfl,h⟩:=h;replace h:=Qo h;obtain⟨v0,pos,rfl,h⟩:=h;rw[An]at h;obtain⟨g,pp,y,ys,qq,rfl,p,hp,rfl,rfl,hl,h900,h1,h2,m,rfl,h3⟩:=call h.1 h.2;obtain⟨fa,fd,ps,m1,m2,m3,m4,m5,_⟩:=v.fn p hp;have hlt:p.2.2<1000:=by omega
  rw[Ia hlt]at m4 m5;have m5:=m5 hlt;obtain⟨n2,n3,n4⟩:=II h2;obtain⟨s0,e,es',rfl,m',rfl,s1⟩:=Li h3;have hlen:ys.length+1=(Es.cons e es').len:=(snd (Z:=Z) (CL:=CL) (k:=k) (m'+1)).es W T X _ _ v h3 |>.2.2.1;refine⟨STB.congr (jF (X:=X) (fs:=λY=>evA Z Y (.cons e es')) (sh:=λY=>IR Y (.cons e es')) hf.ex m5 v.room (by unfold glB at h1;show X.env.scope.names.lookup p.1=_;rw[v.sc];exact eq_of_beq h1) m1 m2 m3 (λY z=>Ob Z Y _ z) (λY ds z=>by rw[NW Z Y _ _ z,<-hlen,hl]) (λY=>Qf Z Y _ h.2) n2 (De s0) (Mn m' ys es' s1) (λpI Xw own=>by
   obtain⟨a1,a2,_⟩:=(snd (Z:=Z) (CL:=CL) (k:=k) (m'+1)).es W0 T (Cx.pw X pI Xw) _ _ (v.pw own) h3;exact⟨a1,a2⟩) (LC rfl)) λY=>seq Y,λY y Y' z=>?_⟩
  rw[seq]at z;exact ofn (f:=λ_=>Y) z
 |asg i b0 e0=>
  replace h:(!b0&&(LR e0 λf as=>MO st λy v=>T.N[i]? == Ab y&&JA T y&&Bs n T v (.call f as)&&J8 as))=Aa:=h
  replace h:=Dq h;obtain⟨hb,h⟩:=h;cases b0 with
  |true=>exact absurd (show Ad=Aa from hb) AD
  |false=>
  replace h:=UR h;obtain⟨f,as,rfl,h⟩:=h;replace h:=Qq h;obtain⟨y0,p0,v0,pos,rfl,h⟩:=h;simp only[An,A6]at h;obtain⟨⟨⟨i1,i2⟩,hc⟩,hsim⟩:=h;obtain⟨g,pp,y,ys,qq,rfl,p,hp,rfl,rfl,hl,h900,h1,h2,m,rfl,h3⟩:=call hc hsim;obtain⟨fa,fd,ps,m1,m2,m3,m4,m5,_⟩:=v.fn p hp;have hlt:p.2.2<1000:=by omega
  rw[Ia hlt]at m4 m5;have m5:=m5 hlt;obtain⟨n2,n3,n4⟩:=II h2;obtain⟨s0,e,es',rfl,m',rfl,s1⟩:=Li h3;have hlen:ys.length+1=(Es.cons e es').len:=(snd (Z:=Z) (CL:=CL) (k:=k) (m'+1)).es W T X _ _ v h3 |>.2.2.1;refine⟨STB.congr (nO (X:=X) (fs:=λY=>evA Z Y (.cons e es')) (sh:=λY=>IR Y (.cons e es')) (i:=i) hf.ex m5 v.room (by unfold glB at h1;show X.env.scope.names.lookup p.1=_;rw[v.sc];exact eq_of_beq h1) m1 m2 m3 (λY z=>Ob Z Y _ z) (λY ds z=>by rw[NW Z Y _ _ z,<-hlen,hl]) (λY=>Qf Z Y _ hsim) n2 (De s0) (Mn m' ys es' s1) (λpI Xw own=>by
   obtain⟨a1,a2,_⟩:=(snd (Z:=Z) (CL:=CL) (k:=k) (m'+1)).es W0 T (Cx.pw X pI Xw) _ _ (v.pw own) h3;exact⟨a1,a2⟩) (by rw[v.N];exact v.nd) (by rw[v.N];exact i1) (by rw[v.sc];exact LB i2) (.inl (hf.fn _)) (LC rfl)) λY=>seq Y,λY y Y' z=>?_⟩
  rw[seq]at z;exact ofn (f:=λd=>Y.set i (Ab (d,Ad))) z
 |_=>exact noF h
theorem rL(op:DC)(x y:D)(e:Ex):B4 op x y≠.exn e:=λz=>by
 rcases Ve op x y with w|⟨b,w⟩<;>(rw[w]at z;cases z)
theorem pA(x:D)(e:Ex):Cu x≠.exn e:=by
 unfold Cu;split<;>first|(intro z;cases z;done)|(split<;>intro z<;>cases z)
theorem UF(Z:Gam)(Y:Rho)(c:E)(h:R7 c=Aa)(y:Ex):(top Y c (evE Z Y c)).bind Cu≠.exn y:=by
 have key:∀ e,top Y c (evE Z Y c)≠.exn e:=by
  cases c with
  |var i=>exact NA Z Y (.var i) rfl
  |cmp op a b=>
   unfold R7 at h;rw[An]at h;intro e z;have z':((top Y a (evE Z Y a)).bind λx=>(top Y b (evE Z Y b)).bind λy=>B4 op x y)=.exn e:=by
    have e0:evE Z Y (.cmp op a b)=((top Y a (evE Z Y a)).bind λx=>(top Y b (evE Z Y b)).bind λy=>B4 op x y):=sG Z Y op a b
    rw[<-e0];exact z
   cases e1:top Y a (evE Z Y a) with
   |bad=>rw[e1]at z';cases z'
   |exn w=>exact NA Z Y a h.1 w e1
   |ok d=>
    rw[e1,R.bind_ok]at z';cases e2:top Y b (evE Z Y b) with
    |bad=>rw[e2]at z';cases z'
    |exn w=>exact NA Z Y b h.2 w e2
    |ok d2=>rw[e2,R.bind_ok]at z';exact rL _ _ _ _ z'
  |_=>cases h
 intro z;cases e1:top Y c (evE Z Y c) with
 |bad=>rw[e1]at z;cases z
 |exn w=>exact key w e1
 |ok d=>rw[e1,R.bind_ok]at z;exact pA _ _ z
theorem dm(Sn:Snd Z CL k n)(v:VX Z CL k W T X)(hf:DefX X):∀(m:Ag){st:AY}{s:S},Os m n T st s=Aa->STB X CL [st] (λY=>evSs Z Y (.cons s .nil))/\∀ Y y Y',evSs Z Y (.cons s .nil)=.exn y Y'->Y'=Y:=by
 intro m
 induction m with
 |zero=>intro st s h;exact WK Sn v hf h
 |succ m ih=>
  intro st s h;replace h:=orT (a:=Od n T st s) (b:=Wx (Os m n T) n T st s) h;rcases h with h|h
  .exact WK Sn v hf h
  .cases s with
   |ife c a b=>
    replace h:=UN h;obtain⟨a,rfl,h⟩:=h;replace h:=UN h;obtain⟨b,rfl,h⟩:=h;replace h:=Vl h;obtain⟨t,xs,ys,pos,rfl,h⟩:=h;replace h:=GM h;obtain⟨xs,rfl,h⟩:=h;replace h:=GM h;obtain⟨ys,rfl,h⟩:=h;simp only[An]at h;obtain⟨⟨⟨h1,h2⟩,h3⟩,h4⟩:=h;obtain⟨a1,a2⟩:=ih h3;obtain⟨b1,b2⟩:=ih h4;have ev:∀ Y,evSs Z Y (.cons (.ife c (.cons a .nil) (.cons b .nil)) .nil)=O.of Y ((top Y c (evE Z Y c)).bind Cu) λk=>if k=Aa then evSs Z Y (.cons a .nil) else evSs Z Y (.cons b .nil):=λY=>Ul _
    refine⟨STB.congr (nN (λpI Xw own=>(Sn.b W0 T (Cx.pw X pI Xw) _ _ (v.pw own) h1)) (λY y=>UF Z Y c h2 y) a1 b1) λY=>ev Y,λY y Y' z=>?_⟩
    rw[ev]at z;cases e1:(top Y c (evE Z Y c)).bind Cu with
    |bad=>rw[e1]at z;cases z
    |exn w=>exact absurd e1 (UF Z Y c h2 w)
    |ok k=>
     rw[e1,O.of_ok]at z;cases k with
     |true=>exact a2 Y y Y' z
     |false=>exact b2 Y y Y' z
   |_=>exact noF h
theorem Mv{i:Ag}{e:Al}(v:VX Z CL k W T X)(h:isV T x i=Aa):PE (Cx.hot X e) (.Name x pos) (GR i):=by
 unfold isV at h;simp only[An,A6]at h;obtain⟨h2,h3,_⟩:=II h.2;exact N7 (by show X.N[i]?=_;rw[v.N];exact h.1.1) (by show Vis X.env.scope x;rw[v.sc];exact U_6 h.1.2) h2 h3
theorem Wm{x:Ag}{t:Ao}{c:E}:∀{n:Ag},IN n T x t c=Aa->∀ Y r,top Y c r=r:=λ{n} h=>by
 cases n with
 |zero=>exact noF h
 |succ n=>
  cases c with
  |var i=>exact noF h
  |_=>exact λ_ _=>rfl
theorem lX(v:VX Z CL k W T X)(e:Al):∀(ts:Ac Ao)(ks:Ac Ki),RN T ts ks=Aa->∃ cs:Ac (Ag×Al),ks=cs.map (λq=>Ki.cls q.1)/\cs.length=ts.length/\PA (Cx.hot X e) ts (S9 (cs.map λq:Ag×Al=>q.2))/\∀ q∈cs,MI X.K CL Z.up q.1 q.2:=by
 intro ts
 induction ts with
 |nil=>
  intro ks h;obtain rfl:=Jt h;exact⟨[],rfl,rfl,Gs,λq hq=>nomatch hq⟩
 |cons t ts ih=>
  intro ks h;replace h:=JZ h;obtain⟨kk,ks,rfl,h⟩:=h;replace h:=G7 h;obtain⟨t,p,rfl,h⟩:=h;replace h:=Dq h;obtain⟨h,h4⟩:=h;cases kk with
  |cls c=>
   replace h:(inX T.exs t c&&glB T t&&HN t)=Aa:=h;simp only[An]at h;obtain⟨⟨h1,h2⟩,h3⟩:=h;obtain⟨cs,e1,e2,e3,e4⟩:=ih ks h4;obtain⟨C,m1,m3,_⟩:=v.xt.ex _ (ME h1);obtain⟨n2,_,_⟩:=II h3;refine⟨(c,C)::cs,by rw[e1];rfl,by rw[Bz,Bz,e2],?_,λq hq=>?_⟩
   .exact Ee (Vt (X:=Cx.hot X e) (v:=.ref C) (by unfold glB at h2;show X.env.scope.names.lookup t=_;rw[v.sc];exact eq_of_beq h2) m1 rfl n2) e3 rfl
   .rcases At.mp hq with rfl|hq
    .exact m3
    .exact e4 q hq
  |_=>exact noF h
theorem Oq{e:Al}{f:Ao->E->Aj}(ih:∀ t c,f t c=Aa->SE (Cx.hot X e) CL W0 t (λY=>evE Z Y c)):∀(xs:Ac Ao)(es:Es),MS f xs es=Aa->SA (Cx.hot X e) CL W0 xs (λY=>evA Z Y es)/\xs.length=es.len
 |[],.nil,_=>⟨WU,rfl⟩
 |[],.cons _ _,h=>nomatch (show Ad=Aa from h)
 |_::_,.nil,h=>nomatch (show Ad=Aa from h)
 |x::xs,.cons c es,h=>by
  have h:(DZ x&&f x c&&MS f xs es)=Aa:=h;simp only[An]at h;obtain⟨⟨h1,h2⟩,h3⟩:=h;obtain⟨q,l⟩:=Oq ih xs es h3;exact⟨Vo (ih x c h2) q (De h1),by rw[Bz,l];rfl⟩
theorem Xn(v:VX Z CL k W T X)(e:Al)(x:Ag):∀(n:Ag)(t:Ao)(c:E),IN n T x t c=Aa->SE (Cx.hot X e) CL W0 t (λY=>evE Z Y c):=by
 intro n
 induction n with
 |zero=>intro t c h;exact noF h
 |succ n ih=>
  intro t c h;cases c with
  |bl b=>
   replace h:=Lp h;obtain⟨k,u,p,rfl,h⟩:=h;obtain rfl:=AW h;exact Xg
  |no a=>
   replace h:=NQ h;obtain⟨o,y,p,rfl,h⟩:=h;replace h:=Dq h;obtain⟨h0,h⟩:=h;obtain rfl:=AW h0;have q:=(ih _ _ h).st;refine SE.congr (WS q) λY=>?_
   show ((top Y a (evE Z Y a)).bind λx=>(D7 x).bind λb=>R.ok (D.bl (!b)))=_
   rw[Wm h]
  |and es=>
   cases es with
   |nil=>exact noF h
   |cons a as=>
    cases as with
    |nil=>
     replace h:=Ms h;obtain⟨o,l,p,rfl,h⟩:=h;replace h:=Dq h;obtain⟨h0,h⟩:=h;obtain rfl:=AW h0;replace h:=GM h;obtain⟨y,rfl,h⟩:=h;exact SE.congr (QU (ih _ _ h)) λY=>rfl
    |cons a' as=>
     replace h:=Ms h;obtain⟨o,l,p,rfl,h⟩:=h;replace h:=Dq h;obtain⟨h0,h⟩:=h;obtain rfl:=AW h0;replace h:=JZ h;obtain⟨y,l,rfl,h⟩:=h;replace h:=JZ h;obtain⟨z,zs,rfl,h⟩:=h;exact SE.congr (WT (ih _ _ (Dq h).1) (ih _ _ (Dq h).2)) λY=>rfl
  |isi a ks=>
   replace h:=Qm h;obtain⟨i,rfl,h⟩:=h;replace h:=qF h;obtain⟨g,pp,w,pq,u,pr,rfl,h⟩:=h;simp only[An,A6]at h;obtain⟨⟨⟨⟨rfl,rfl⟩,h3⟩,h4⟩,h⟩:=h;obtain⟨g1,g2,_,_⟩:=Il v h3;replace h:=JZ h;obtain⟨kk,ks,rfl,h⟩:=h;cases kk with
   |verr=>
    replace h:=Dq h;obtain⟨h0,h⟩:=h;obtain rfl:=Jt h0;replace h:=G7 h;obtain⟨t,pt,rfl,h⟩:=h;simp only[An,A6]at h;obtain⟨h5,h6⟩:=h;obtain⟨b1,b2,_,_⟩:=Il v h6;rw[h5]at b1 b2 ⊢;exact uY (X:=Cx.hot X e) v.xt.xc g1 g2 b1 b2 (LF (Mv v h4)) rfl
   |cls c=>
    cases ks with
    |nil=>
     replace h:=G7 h;obtain⟨t,pt,rfl,h⟩:=h;simp only[An]at h;obtain⟨⟨h5,h6⟩,h7⟩:=h;obtain⟨C,m1,m3,_⟩:=v.xt.ex _ (ME h5);obtain⟨n2,_,_⟩:=II h7;exact vD (X:=Cx.hot X e) v.xt.xc g1 g2 (by unfold glB at h6;show X.env.scope.names.lookup _=_;rw[v.sc];exact eq_of_beq h6) m1 m3 n2 (LF (Mv v h4)) rfl
    |cons k2 ks=>
     replace h:=Lo h;obtain⟨ts,z1,z2,rfl,h⟩:=h;replace h:=Dq h;obtain⟨h5,h6⟩:=h;obtain⟨cs,e1,e2,e3,e4⟩:=lX v e _ _ h5;have hne:cs≠[]:=by rintro rfl;cases e1
     rw[e1];exact uZ (X:=Cx.hot X e) (W:=W0) (up:=Z.up) v.xt.xc g1 g2 e3 hne (by rw[e2];exact AW h6) e4 (LF (Mv v h4)) rfl
   |_=>exact noF h
  |call f as=>exact absurd (show Ad=Aa from h) AD
  |str s=>
   replace h:=Lp h;obtain⟨k,u,p,rfl,h⟩:=h;obtain rfl:=AW h;exact WR
  |lst es=>
   replace h:=Qn h;obtain⟨xs,p,rfl,h⟩:=h;simp only[An,A2]at h;obtain⟨q,ql⟩:=Oq (ih) _ _ h.1;exact(Q7 q λY ds z=>by rw[KH Z Y _ _ z,<-ql];omega).se
  |tup es=>
   replace h:=Lo h;obtain⟨xs,cc,p,rfl,h⟩:=h;simp only[An,A2]at h;obtain⟨q,ql⟩:=Oq (ih) _ _ h.1;exact WQ q λY ds z=>by rw[KH Z Y _ _ z,<-ql];omega
  |bin op a b=>
   replace h:=Dq h;obtain⟨h0,h⟩:=h;obtain rfl:=AW h0;replace h:=Qm h;obtain⟨i,rfl,h⟩:=h;replace h:=US h;obtain⟨l,o,y,p,rfl,h⟩:=h;replace h:=Dq h;obtain⟨h0,h⟩:=h;obtain rfl:=AW h0;replace h:=G7 h;obtain⟨w,pw,rfl,h⟩:=h;replace h:=Dq h;obtain⟨h1,h2⟩:=h;refine SE.congr (QV (QH .Add) (LF (Mv v h1)) (ih _ _ h2).st) λY=>?_
   show ((Dp Y i).bind λx=>(top Y b (evE Z Y b)).bind λy=>C4 .Add x y)=_
   rw[Wm h2]
  |fld o f=>
   replace h:=Qm h;obtain⟨i,rfl,h⟩:=h;replace h:=UT h;obtain⟨w,g,p,rfl,h⟩:=h;replace h:=G7 h;obtain⟨w,pw,rfl,h⟩:=h;simp only[An,A6]at h;obtain⟨⟨⟨rfl,rfl⟩,h3⟩,h4⟩:=h;exact oH (X:=Cx.hot X e) v.xt.xc (λc C z=>v.xt.nf c C z _ h3) (LF (Mv v h4)) rfl
  |_=>exact noF h
theorem ka(v:VX Z CL k W T X)(hf:DefX X)(e:Al)(x:Ag):∀(n:Ag)(sts:Ac AY)(ss:Ss),RW n T x sts ss=Aa->SSs (Cx.hot X e) CL W0 sts (λY=>evSs Z Y ss):=by
 intro n
 induction n with
 |zero=>intro t c h;exact noF h
 |succ n ih=>
  intro sts ss0 h;cases ss0 with
  |nil=>
   obtain rfl:=Jt h;exact VF
  |cons s ss0=>
   replace h:=JZ h;obtain⟨st,r,rfl,h⟩:=h;replace h:=Dq h;obtain⟨h,h5⟩:=h;cases s with
   |asg i b e0=>
    replace h:=Qq h;obtain⟨y,py,v0,pos,rfl,h⟩:=h;simp only[An,A6]at h;obtain⟨⟨⟨⟨h1,h2⟩,h3⟩,h4⟩,h6⟩:=h;cases b with
    |true=>
     cases e0 with
     |lst es=>
      have sc:SC (Cx.hot X e) CL W0 Aa v0 (λY=>evE Z Y (.lst es)):=by
       cases n with
       |zero=>exact absurd (show Ad=Aa from h4) AD
       |succ n=>
        replace h4:=Qn h4;obtain⟨l,pl,rfl,h4⟩:=h4;obtain⟨q,ql⟩:=Oq (Xn v e x n) _ _ (Dq h4).1;have hle:=AW (Dq h4).2;exact Q7 q λY ds z=>by rw[KH Z Y _ _ z,<-ql];omega
      have q:=QC (VG (SC.sas (X:=Cx.hot X e) (pos:=pos) (pos':=py) (by show X.N.Nodup;rw[v.N];exact v.nd) (by show X.N[i]?=_;rw[v.N];exact h1) (by show Loc X.env.scope _;rw[v.sc];exact LB h2) sc (LC h3) (.inl (hf.fn _)))) (ih _ _ h5)
      have ef:(λY=>evSs Z Y (.cons (.asg i Aa (.lst es)) ss0))=λY=>(O.of Y (evE Z Y (.lst es)) λd=>setF Y i d).seq λY=>evSs Z Y ss0:=by
       funext Y
       show (evS Z Y (.asg i Aa (.lst es))).seq _=_;rw[iO];rfl
      rw[ef];exact q
     |_=>exact absurd (show Ad=Aa from h6) AD
    |false=>
    exact QC (vW (X:=Cx.hot X e) (by show X.N.Nodup;rw[v.N];exact v.nd) (by show X.N[_]?=_;rw[v.N];exact h1) (by show Loc X.env.scope _;rw[v.sc];exact LB h2) (Xn v e x n _ _ h4) (LC h3) (.inl (hf.fn _))) (ih _ _ h5)
   |ife c a b=>exact absurd (show Ad=Aa from h) AD
   |ret e0=>exact absurd (show Ad=Aa from h) AD
   |app i e0=>exact absurd (show Ad=Aa from h) AD
   |_=>exact noF h
theorem zK(v:VX Z CL k W T X)(h:hdB T g c=Aa):Tq X CL Z.up g c:=by
 unfold hdB at h;simp only[An]at h;obtain⟨⟨⟨i1,i0⟩,i2⟩,i3⟩:=h;obtain⟨C,m1,m3,m4⟩:=v.xt.ex _ (ME i1);obtain⟨C0,r1,r2⟩:=v.xt.rz _ (ME i0);obtain⟨n2,_,_⟩:=II i3;refine⟨C,by unfold glB at i2;show X.env.scope.names.lookup g=_;rw[v.sc];exact eq_of_beq i2,m1,n2,?_,λc' D hD=>m4 c' D hD⟩
 have e0:=m1.symm.trans r2;cases e0;exact v.xt.xc _ _ r1
theorem fw(Z_:SndS Z CL k n)(W:XW)(T:Tc)(X:Cx)(st:AY)(c:S)(v:VX Z CL k W T X)(hf:DefX X)(h:M3 (n+1) T st c=Aa):SS X CL W st (λY=>evS Z Y c):=by
  have E:=snd (Z:=Z) (CL:=CL) (k:=k) n;cases c with
  |pass=>exact absurd (show Ad=Aa from h) AD
  |brk=>exact absurd (show Ad=Aa from h) AD
  |cont=>exact absurd (show Ad=Aa from h) AD
  |asg i fresh e=>
    replace h:=Qq h;obtain⟨x,px,v0,pos,rfl,h⟩:=h;simp only[An,A6]at h;obtain⟨⟨h1,h2⟩,h3⟩:=h;have o:=E.e W T X _ e v h3;cases fresh with
    |false=>exact WP (QY (fr:=Ad) v hf.fn h1 h2 o (λz=>nomatch z))
    |true=>
      cases hn:Eg Z e with
      |true=>
        refine SS.ref (VG (QY (fr:=Aa) v hf.fn h1 h2 o (λ_=>hn))) λY=>.inr ?_
        show O.of Y (evE Z Y e) (λd=>if Aa=Aa then (if Eg Z e=Aa then (match d with
          |.lst xs=>.next (Y.set i (Ab (.lst xs,Aa)))
          |.dic xs=>.next (Y.set i (Ab (.dic xs,Aa)))
          | _=>.bad) else .bad) else .next (Y.set i (Ab (d,Ad))))=_
        rw[hn];rfl
      |false=>
        refine SS.ref (WP (QY (fr:=Ad) v hf.fn h1 h2 o (λz=>nomatch z))) λY=>?_
        have e0:evS Z Y (.asg i Aa e)=O.of Y (evE Z Y e) (λd=>if Aa=Aa then (if Eg Z e=Aa then (match d with
          |.lst xs=>.next (Y.set i (Ab (.lst xs,Aa)))
          |.dic xs=>.next (Y.set i (Ab (.dic xs,Aa)))
          | _=>.bad) else .bad) else .next (Y.set i (Ab (d,Ad)))):=rfl
        rw[e0,hn];cases evE Z Y e with
        |ok d=>exact .inl rfl
        |exn y=>exact .inr rfl
        |bad=>exact .inl rfl
  |asgT ts e=>
    replace h:=UU h;obtain⟨t,v0,pos,rfl,h⟩:=h;replace h:=Lo h;obtain⟨ys,cc,pw,rfl,h⟩:=h;simp only[An]at h;obtain⟨⟨⟨h1,h2⟩,h3⟩,h5⟩:=h;exact nY (ke ts) (vN v hf.fn h1 h2) (E.e W T X _ e v h5).se (nZ (λ_ _ z=>by cases z)) (wU h3) rfl (hJ ts)
  |expr e=>
    replace h:=Qo h;obtain⟨v0,pos,rfl,h⟩:=h;simp only[An]at h;exact nX (E.e W T X _ e v h.2).se (LC h.1)
  |ret e=>
    replace h:=mC h;obtain⟨o,pos,rfl,h⟩:=h;cases o with
    |none=>exact noF h
    |some v0=>
    replace h:Bs n T v0 e=Aa:=h;have o:=E.e W T X _ e v h;cases hv:Eg Z e with
    |true=>
      refine SS.ref (nV (o.nw hv)) λY=>.inr ?_
      rw[T4 Y e (λi z=>by subst z;cases hv),hv]
    |false=>
      cases e with
      |var i=>
        cases n with
        |zero=>exact noF h
        |succ n=>
          replace h:=G7 h;obtain⟨y,py,rfl,h⟩:=h;exact nR (LI v h)
      |_=>
        refine SS.ref (nS o.se) λY=>.inr ?_
        rw[T4 Y _ (by intro i z;cases z),hv]
  |retN=>exact absurd (show Ad=Aa from h) AD
  |ife c a b=>
    replace h:=Vl h;obtain⟨t,xs,ys,pos,rfl,h⟩:=h;simp only[An]at h;exact gh (E.b W T X _ c v h.1.1) (Z_.ss W T X _ a v hf h.1.2) (Z_.ss W T X _ b v hf h.2)
  |fors t it body=>
    replace h:=UP h;obtain⟨tg,it',xs,ys,pos,rfl,h⟩:=h;replace h:=Dq h;obtain⟨hn,h⟩:=h;obtain rfl:=Jt hn;replace h:=G7 h;obtain⟨y,py,rfl,h⟩:=h;simp only[An]at h;obtain⟨⟨⟨h1,h2⟩,h3⟩,h4⟩:=h;exact WO v.own v.calm (tE t) (pH v hf.fn h1) (E.i W T X Ad _ _ it v rfl h3) (Z_.ss W T X _ body v hf h4) (N1 h2) (λ_ _ _ z=>nomatch z)
  |forT ts it body=>
    replace h:=UP h;obtain⟨tg,it',xs,zs,pos,rfl,h⟩:=h;replace h:=Dq h;obtain⟨hn,h⟩:=h;obtain rfl:=Jt hn;replace h:=Lo h;obtain⟨ys,cc,py,rfl,h⟩:=h;simp only[An]at h;obtain⟨⟨⟨⟨h0,h1⟩,h2⟩,h3⟩,h4⟩:=h;exact WO v.own v.calm (Wn ts) (pG v hf.fn h0 h1) (E.i W T X Aa _ _ it v rfl h3) (Z_.ss W T X _ body v hf h4) (N1 h2) (TV ts)
  |whl c body=>exact absurd (show Ad=Aa from h) AD
  |rais c as=>
    replace h:(!(T.rzs.any λp=>p.2==c)||(Ou st λa b=>b.isNone&&(match a with|some e=>MJ e λg x xs=>inX T.rzs g c&&glB T g&&HN g&&decide (xs.length<=1000)&&chkEs n T (x::xs) as|none=>Ad)))=Aa:=h
    cases hc:T.rzs.any (λp=>p.2==c) with
    |false=>
      have hb:∀ ds,Z.xn c ds=.bad:=v.xt.xb c λp hp z=>by
        have:T.rzs.any (λp=>p.2==c)=Aa:=List.any_eq_true.mpr ⟨p,hp,A6.mpr z⟩
        rw[hc]at this;cases this
      intro Fz B pI s U H D I ⟨Y,x,p⟩;have p':Cj X.K CL Fz B W (O.of Y (noX (evA Z Y as)) λxs=>O.of Y (Z.xn c xs) λx=>.exn x Y) D:=p
      cases e1:evA Z Y as with
      |bad=>rw[e1]at p';exact p'.elim
      |exn y=>rw[e1]at p';exact p'.elim
      |ok ds=>
        rw[e1]at p';have p2:Cj X.K CL Fz B W (O.of Y (Z.xn c ds) λx=>.exn x Y) D:=p'
        rw[hb ds]at p2;exact p2.elim
    |true=>
      rw[hc,Bool.not_true,Bool.false_or]at h;replace h:=mD h;obtain⟨ea,eb,pos,rfl,h⟩:=h;replace h:=Dq h;obtain⟨h0,h⟩:=h;obtain rfl:=YE.mp h0;cases ea with
      |none=>exact noF h
      |some e0=>
        replace h:=Ny h;obtain⟨g,np,x,xs,cpos,rfl,h⟩:=h;simp only[An,A2]at h;obtain⟨⟨⟨⟨h1,h2⟩,h3⟩,h4⟩,h5⟩:=h;obtain⟨C,m1,m2⟩:=v.xt.rz _ (ME h1);obtain⟨n2,_,_⟩:=II h3;obtain⟨s0,e,es',rfl,m,rfl,s1⟩:=Li h5;have q:=E.es W T X _ _ v h5;exact gW v.calm hf.ex v.room v.rz (by unfold glB at h2;show X.env.scope.names.lookup g=_;rw[v.sc];exact eq_of_beq h2) m2 n2 m1 q.1 (λds=>v.xt.made c C ds m1) (De s0) (Mn m xs es' s1) (λY ds z=>by rw[KH Z Y _ _ z,<-q.2.2.1,Bz];omega)
  |app i e=>
    replace h:=UO h;obtain⟨x,px,m,ap,l,cp,pos,rfl,h2,h⟩:=h;replace h:=GM h;obtain⟨v0,rfl,h⟩:=h;simp only[An,A6]at h;obtain⟨⟨⟨rfl,h1⟩,h3⟩,h4⟩:=h;exact vY (LI v h1) (E.e W T X _ e v h4).se rfl (by rw[De h3];rfl) (by rw[h2];exact EM _) (De h3) rfl
  |ext i e=>
    replace h:=UO h;obtain⟨x,px,m,ap,l,cp,pos,rfl,h2,h⟩:=h;replace h:=GM h;obtain⟨v0,rfl,h⟩:=h;simp only[An,A6]at h;rw[CU]at h;obtain⟨⟨⟨rfl,h1⟩,h3⟩,h5⟩:=h;rcases h5 with h5|h5
    · rw[An]at h5;obtain⟨h5,h4⟩:=h5;exact vX (LI v h1) ((E.e W T X _ e v h4).nw (pK Z h5)) rfl (by rw[De h3];rfl) (by rw[h2];exact EM _) (De h3) rfl
    · cases q:Ol e with
      |none=>rw[q]at h5;cases h5
      |some a=>
        rw[q]at h5;have eq:=kT q;subst eq;have fe:(λY=>evS Z Y (.ext i (.bi .list (.cons (.bin .Add a (.tup .nil)) .nil))))=λY=>O.of Y (D6 Y i) λxs=>O.of Y (top Y a (evE Z Y a)) λx=>O.of Y ((C4 .Add x (.tup [])).bind λy=>biD .list [y]) λd=>O.of Y (LS d) λys=>if DR (xs.length+ys.length)=Aa then .next (Y.set i (Ab (.lst (xs++ys),Aa))) else .bad:=funext λY=>by
          rw[sE];have e2:evE Z Y (.bi .list (.cons (.bin .Add a (.tup .nil)) .nil))=(top Y a (evE Z Y a)).bind λx=>(C4 .Add x (.tup [])).bind λy=>biD .list [y]:=by
            simp only[zC,evB,sH,pC,pB,sF,evA,R.bind_ok,R.bind_assoc]
          rw[e2];cases D6 Y i with
          |ok xs=>
            rw[O.of_ok,O.of_ok];cases top Y a (evE Z Y a)<;>rfl
          |exn z=>rfl
          |bad=>rfl
        show SS X CL W _ (λY=>evS Z Y (.ext i (.bi .list (.cons (.bin .Add a (.tup .nil)) .nil))))
        rw[fe];exact nW (LI v h1) (E.e W T X _ a v h5).st rfl (by rw[De h3];rfl) (by rw[h2];exact EM _) (De h3) rfl
  |rev i=>exact absurd (show Ad=Aa from h) AD
  |clr i=>exact absurd (show Ad=Aa from h) AD
  |put i k e=>exact absurd (show Ad=Aa from h) AD
  |tryx body c x hd=>
    cases body with
    |nil=>exact noF h
    |cons b bs=>
      cases bs with
      |cons=>exact noF h
      |nil=>
        unfold M3 at h;dsimp only at h;cases q:Sb st with
        |none=>rw[q]at h;cases h
        |some t=>
          obtain⟨bt,hl,es⟩:=t;rw[q]at h;obtain⟨pos,rfl⟩:=oR q;cases hl with
          |nil=>exact noF h
          |cons h1 hl=>
            cases hl with
            |cons=>exact noF h
            |nil=>
              cases es with
              |cons=>exact noF h
              |nil=>
                dsimp only at h;cases q1:xHd h1 with
                |none=>rw[q1]at h;cases h
                |some t1=>
                  obtain⟨g,m,h0,hs⟩:=t1;obtain⟨p1,hp,rfl⟩:=wM q1;rw[q1]at h;simp only[An,A6]at h;obtain⟨⟨⟨⟨i1,i4⟩,i5⟩,i6⟩,i7⟩:=h;obtain⟨t1,t2⟩:=dm E v hf 6 i6;refine SS.ref (vV (up:=Z.up) (c:=c) (i:=x) hf.ex hf.st hf.fm (by rw[v.N];exact v.nd) (by rw[v.N];exact i4) (by rw[v.sc];exact i5) (zK v i1) t1 t2 (λe=>ka v hf e x n _ _ i7)) λY=>.inr ?_
                  rw[lL];unfold SG;cases evSs Z Y (.cons b .nil)<;>rfl
  |try2 body c x hd c' hd' els=>exact absurd (show Ad=Aa from h) AD
  |swp i k l=>exact absurd (show Ad=Aa from h) AD
  |apop j i e=>exact absurd (show Ad=Aa from h) AD
  |ins i k e=>exact absurd (show Ad=Aa from h) AD
  |dput=>exact noF h
  |dsd=>exact noF h
  |rel=>exact noF h
theorem kS{c:Ss}(h:OU c=Aa)(Y:Rho):evSs Z Y c=.bad:=by
 cases c with
 |nil=>cases h
 |cons s ss=>
  cases s with
  |expr e=>
   cases e with
   |bi b as=>
    cases as with
    |nil=>
     cases b with
     |len=>rfl
     |_=>exact noF h
    |cons=>cases b<;>exact noF h
   |_=>exact noF h
  |_=>exact noF h
theorem vR(Z_:SndS Z CL k n)(W:XW)(T:Tc)(X:Cx)(xs:Ac AY)(c:Ss)(v:VX Z CL k W T X)(hf:DefX X)(h:chkSs (n+1) T xs c=Aa):SSs X CL W xs (λY=>evSs Z Y c):=by
 by_cases hb:OU c=Aa
 .exact λFz B pI s U H D I ⟨Y,x,p⟩=>by
   dsimp only at p;rw[kS hb]at p;exact p.elim
 have hb:OU c=Ad:=by simpa using hb
 cases c with
 |nil=>
  simp only[chkSs,hb,EU,H9]at h;subst h;exact VF
 |cons s ss=>
  by_cases hr:∃ i,s=.rel i
  .obtain⟨i,rfl⟩:=hr;simp only[chkSs,hb,EU]at h;exact nQ i (Z_.ss W T X xs ss v hf h)
  .cases xs with
   |nil=>cases s<;>first|(simp[chkSs,hb]at h;done)|exact absurd ⟨_,rfl⟩ hr
   |cons st r=>
    have h':M3 n T st s=Aa/\chkSs n T r ss=Aa:=by
     cases s<;>first|(simp only[chkSs,hb,EU,An]at h;exact h)|exact absurd ⟨_,rfl⟩ hr
    exact QC (Z_.s W T X st s v hf h'.1) (Z_.ss W T X r ss v hf h'.2)
theorem R6:∀ n,SndS Z CL k n
 |0=>⟨λ_ _ _ _ _ _ _ h=>noF h,λ_ _ _ _ _ _ _ h=>noF h⟩
 |n+1=>⟨fw (R6 n),vR (R6 n)⟩
end
theorem Mg{n:Ag}{ds:Ac D}{i:Ag}{o:Aj}(h:(BG n ds)[i]?=Ab (Ab (d,o))):o=Ad/\ds[i]?=Ab d:=by
 unfold BG at h;by_cases hi:i<ds.length
 .rw[FT (by simpa using hi),E8]at h
  cases e:ds[i]? with
  |none=>rw[e]at h;cases h
  |some x=>rw[e]at h;cases h;exact⟨rfl,rfl⟩
 .rw[Yi (by simpa using Nat.le_of_not_lt hi),Yk]at h
  split at h<;>cases h
theorem gU{N:Ac Ak}{vs:Ac V}{i:Ag}{v:V}(h:vs[i]?=Ab v):(L2.start N vs)[i]?=Ab (Ab v):=by
 unfold L2.start;have hi:=(Bh.mp h).1;rw[FT (by simpa using hi),E8,h]
 rfl
theorem jD{N:Ac Ak}{n:Ag}{vs:Ac V}{ds:Ac D}(hn:N.length=n)(hA:AOk H A)(r:Reps K CL H A vs ds):Sx K CL (λb o=>H b=Ab o) A (BG n ds) (L2.start N vs) H:=by
 have own:∀ a,B6 A (BG n ds) (L2.start N vs) a->A a:=λa h=>by
  rcases h with h|⟨j,d,h,_⟩
  .exact h
  .exact absurd (Mg h).1 (by decide)
 have hlen:(BG n ds).length=(L2.start N vs).length:=by
  unfold BG L2.start;simp only[BJ,BR,Yo,r.length,hn]
 refine⟨⟨λi d h=>?_,λi d h=>absurd (Mg h).1 (by decide),hlen⟩,λa h=>hA a (own a h),λj d a h _=>absurd (Mg h).1 (by decide),λi j d e a h _ _ _=>absurd (Mg h).1 (by decide),λb o h=>h,hlen⟩
 obtain⟨v,h1,h2⟩:=r.get (Mg h).2;exact⟨v,gU h1,Rep.sub own _ h2⟩
structure FunX (K:Fg) (x qual:Ak) (st:AY) (f:Al) (fd:Cf):Prop where
 ex:∃(oc:Ai)(od:Ap Al)(dV kV doc pm:Ai)(an:Ap Al)(cdv ct:Ai)(osl:A8 (Ap Ai)),
  fd=Dc x qual (IJ st) (Gq st) (C3 st) dV kV doc pm an cdv ct/\K.lookup f=Ab ⟨oc,od,.func fd,osl⟩/\Fk K cdv qual=Aa
 kp:CT K (.ref f)=Aa
theorem Xp{st:AY}{f:Al}(F:Fun K x qual st f fd):FunX K x qual st f fd:=by
 obtain⟨oc,od,kV,doc,pm,an,cdv,ct,osl,e,lk,hcd⟩:=F.ex;exact⟨⟨oc,od,.none,kV,doc,pm,an,cdv,ct,osl,e,lk,hcd⟩,F.kp⟩
def L7(K:Fg)(mg:Ak->Ap Ai)(fns:Ac (Ak×Ag×Ag))(bl:Ac Ak)(rzs exs gls:Ac (Ak×Ag))(Pg:Prg)(fuel:Ag)(p:Ak×Ag×Ag):Prop:=∃ f fd ps qual st N,mg p.1=Ab (.ref f)/\FunX K p.1 qual st f fd/\G9 K fd ps []/\ps.length=p.2.2%1000/\Iw fuel (DG 1000 p.2.2) fns bl rzs exs gls ps N st (Pg.defs p.2.1)=Aa
structure Tab (K:Fg) (mg:Ak->Ap Ai) (CL:ClA) (fns:Ac (Ak×Ag×Ag)) (bl:Ac Ak) (rzs exs gls:Ac (Ak×Ag)) (Pg:Prg) (fuel:Ag):Prop where
 xt:XT Pg.up Pg.xn CL rzs exs K mg
 bln:∀ x,x∈bl->mg x=Af
 gl:∀ p∈gls,O5 K mg CL p.1 (Pg.G p.2)
 fn:∀ p∈fns,L7 K mg fns bl rzs exs gls Pg fuel p
theorem zS(Pg:Prg)(n i:Ag):(gam Pg n).fr i=(Pg.defs i).fr:=by cases n<;>rfl
theorem zQ(Pg:Prg)(n:Ag):(gam Pg n).up=Pg.up:=by cases n<;>rfl
theorem kf(Pg:Prg)(n:Ag):(gam Pg n).G=Pg.G:=by cases n<;>rfl
theorem zP(Pg:Prg)(n:Ag):(gam Pg n).xn=Pg.xn:=by cases n<;>rfl
section
variable{P:AV}{w:AF}{K:Fg}{mg:Ak->Ap Ai}{base:AC}{CL:ClA}{fns:Ac (Ak×Ag×Ag)}{bl:Ac Ak}{rzs exs gls:Ac (Ak×Ag)}{Pg:Prg}{fuel:Ag}
def Lvl(P:AV)(w:AF)(K:Fg)(mg:Ak->Ap Ai)(base:AC)(CL:ClA)(Pg:Prg)(n:Ag)(p:Ak×Ag×Ag):Prop:=∃ f fd ps,mg p.1=Ab (.ref f)/\CT K (.ref f)=Aa/\G9 K fd ps []/\ps.length=p.2.2%1000/\(p.2.2<1000->FnOk P w K mg base (CXR P w) n f fd ps (spD K CL (p.2.2%1000) ((gam Pg n).fr p.2.1) ((gam Pg n).F p.2.1)))/\(1000<=p.2.2->HotOk P w K mg base n f fd ps (spH K CL (p.2.2%1000) ((gam Pg n).fr p.2.1) ((gam Pg n).F p.2.1)))
theorem Wv(t:Tab K mg CL fns bl rzs exs gls Pg fuel){n:Ag}(hlv:∀ q∈fns,Lvl P w K mg base CL Pg n q){st:AY}{f:Al}{ps N:Ac Ak}{m id:Ag}(h2:FunX K x qual st f fd)(h4:ps.length=m)(h5:Iw fuel Ad fns bl rzs exs gls ps N st (Pg.defs id)=Aa):FnOk P w K mg base (CXR P w) (n+1) f fd ps (spD K CL m ((gam Pg (n+1)).fr id) ((gam Pg (n+1)).F id)):=by
  unfold Iw at h5;simp only[An,A6,BL,Ey,CU,JB,ne_eq]at h5;obtain⟨⟨⟨⟨⟨⟨⟨⟨c1,c2⟩,c3⟩,c4⟩,c5⟩,c6⟩,c7⟩,c8⟩,c9⟩:=h5;obtain⟨oc,od,dV,kV,doc,pm,an,cdv,ct,osl,rfl,lk,hcd⟩:=h2.ex;refine Xj (N:=N) lk hcd ⟨c1,c2,c3,Mj c4,c5,c6,c7⟩ (λvs H Q E ⟨ds,A,z,_⟩=>z.trans h4.symm) λA outer s H vs Q E hr ⟨ds,B,hl,hA,hreps,hpost⟩=>?_
  have xt:XT (gam Pg n).up (gam Pg n).xn CL rzs exs K mg:=by rw[zQ,zP];exact t.xt
  have gl:∀ p∈gls,O5 K mg CL p.1 ((gam Pg n).G p.2):=by rw[kf];exact t.gl
  have key:∀ W:XW,(∀ x cls dx H',W x H'->GQ K CL H' cls dx x->E cls dx H')->Cj K CL (λb o=>H b=Ab o) B W (evSs (gam Pg n) (BG (Pg.defs id).n ds) (Pg.defs id).body) {nx:=λ_ H'=>Q .non H',rt:=Q} ->
      ∃ t,PSs (GS (CXR P w) P w K mg base N qual (C3 st) f cdv A outer s H E) (Gq st) t/\t {nx:=λ_ H'=>Q .non H',rt:=Q} (start N vs) H:=λW hW hp=>by
    have v:VX (gam Pg n) CL n W ⟨C3 st,N,fns,bl,rzs,exs,gls⟩ (GS (CXR P w) P w K mg base N qual (C3 st) f cdv A outer s H E):=⟨rfl,c1,rfl,Mj c4,rfl,hr,t.bln,hlv,ownR,lw hW,rzR hW,xt,gl⟩;exact⟨_,(R6 fuel).ss W _ _ _ (Pg.defs id).body v ⟨λ_=>rfl,rfl,rfl,rfl⟩ c9 (λb o=>H b=Ab o) B,_,jD c8 hA hreps,hp⟩
  have no:∀ x cls dx H',W0 x H'->GQ K CL H' cls dx x->E cls dx H':=λ_ _ _ _ z=>z.elim
  have e:(gam Pg (n+1)).F id ds=HQ Pg.xs ((evSs (gam Pg n) (BG (Pg.defs id).n ds) (Pg.defs id).body).ans (Pg.defs id).fr):=rfl;rw[e,zS]at hpost;have cutO:∀ r:R D,(∀ x,r≠.exn x)->HQ Pg.xs r=r:=λr hr=>by
    cases Pg.xs<;>cases r<;>first|rfl|exact absurd rfl (hr _)
  cases eo:evSs (gam Pg n) (BG (Pg.defs id).n ds) (Pg.defs id).body with
  |next Y'=>
    refine key W0 no ?_;rw[eo]at hpost ⊢;cases ef:(Pg.defs id).fr with
    |true=>rw[ef]at hpost;rw[cutO _ (by intro x z;cases z)]at hpost;exact hpost.elim
    |false=>
      rw[ef]at hpost;rw[cutO _ (by intro x z;cases z)]at hpost
      exact λU' H' x'=>hpost .non H' (λb o z=>x'.same b o z) ⟨rfl,λz=>nomatch z⟩
  |ret d b=>
    refine key W0 no ?_;rw[eo]at hpost ⊢;intro v H' sm rp fr;have hp2:(match HQ Pg.xs (if ((Pg.defs id).fr&&(!b&&isL d))=Aa then R.bad else R.ok d) with
      |.ok d=>∀ v H',AH H H'->EI K CL (Pg.defs id).fr H B H' v d->Q v H'
      |.exn x=>∀ cls dx H',AH H H'->GQ K CL H' cls dx x->E cls dx H'
      | .bad=>Bl):=hpost
    cases ec:((Pg.defs id).fr&&(!b&&isL d)) with
    |true=>rw[ec,AI rfl,cutO _ (by intro x z;cases z)]at hp2;exact hp2.elim
    |false=>
      rw[ec,AT (by decide),cutO _ (by intro x z;cases z)]at hp2
      refine hp2 v H' sm ⟨rp,λefr es hd=>?_⟩
      subst hd;have eb:b=Aa:=by
        cases b with
        |true=>rfl
        |false=>rw[efr]at ec;cases ec
      obtain⟨a,xs,h1,h2,h3,h4⟩:=fr eb es rfl;refine⟨a,xs,h1,?_,h3,h4⟩;cases ha:H a with
      |none=>rfl
      |some o=>exact absurd ha (h2 o)
  |brk Y'=>rw[eo]at hpost;have hp2:(match HQ Pg.xs (R.bad:R D) with | .ok _=>_ | .exn _=>_ | .bad=>Bl):=hpost;rw[cutO _ (by intro x z;cases z)]at hp2;exact hp2.elim
  |cont Y'=>rw[eo]at hpost;have hp2:(match HQ Pg.xs (R.bad:R D) with | .ok _=>_ | .exn _=>_ | .bad=>Bl):=hpost;rw[cutO _ (by intro x z;cases z)]at hp2;exact hp2.elim
  |bad=>rw[eo]at hpost;have hp2:(match HQ Pg.xs (R.bad:R D) with | .ok _=>_ | .exn _=>_ | .bad=>Bl):=hpost;rw[cutO _ (by intro x z;cases z)]at hp2;exact hp2.elim
  |exn x Y'=>
    rw[eo]at hpost;have hp2:(match HQ Pg.xs (R.exn x:R D) with
      |.ok d=>∀ v H',AH H H'->EI K CL (Pg.defs id).fr H B H' v d->Q v H'
      |.exn x=>∀ cls dx H',AH H H'->GQ K CL H' cls dx x->E cls dx H'
      | .bad=>Bl):=hpost
    cases ex:Pg.xs with
    |false=>rw[ex]at hp2;exact hp2.elim
    |true=>
      rw[ex]at hp2;have hp3:∀ cls dx H',AH H H'->GQ K CL H' cls dx x->E cls dx H':=hp2;refine key (λy H'=>y=x/\AH H H') (λy cls dx H' ⟨e1,sm⟩ xr=>?_) ?_
      · subst e1;exact hp3 cls dx H' sm xr
      · rw[eo];exact λH' sm=>⟨rfl,sm⟩
theorem zJ(t:Tab K mg CL fns bl rzs exs gls Pg fuel){n:Ag}(hlv:∀ q∈fns,Lvl P w K mg base CL Pg n q){st:AY}{f:Al}{ps N:Ac Ak}{m id:Ag}(h2:FunX K x qual st f fd)(h4:ps.length=m)(h5:Iw fuel Aa fns bl rzs exs gls ps N st (Pg.defs id)=Aa):HotOk P w K mg base (n+1) f fd ps (spH K CL m ((gam Pg (n+1)).fr id) ((gam Pg (n+1)).F id)):=by
 exfalso
 unfold Iw at h5;simp at h5
theorem Q6(t:Tab K mg CL fns bl rzs exs gls Pg fuel):∀ n,∀ p∈fns,Lvl P w K mg base CL Pg n p
 |0,p,hp=>by
  obtain⟨f,fd,ps,qual,st,N,h1,h2,h3,h4,h5⟩:=t.fn p hp;exact⟨f,fd,ps,h1,h2.kp,h3,h4,λ_=>⟨λvs H Q E ⟨ds,A,_,_,_,z⟩=>z.elim,λA outer s H args us vs Q E _ _ _ _ ⟨ds,A,_,_,_,z⟩=>z.elim⟩,λ_=>⟨λvs H Q E ⟨ds,A,_,_,_,z⟩=>z.elim,λA ev outer s H args us vs Q E _ _ _ _ ⟨ds,A,_,_,_,z⟩=>z.elim⟩⟩
 |n+1,p,hp=>by
  obtain⟨f,fd,ps,qual,st,N,h1,h2,h3,h4,h5⟩:=t.fn p hp;refine⟨f,fd,ps,h1,h2.kp,h3,h4,λhlt=>?_,λhge=>?_⟩
  .have eb:DG 1000 p.2.2=Ad:=by
    cases e:DG 1000 p.2.2 with
    |false=>rfl
    |true=>exact absurd (Fe e) (by omega)
   rw[eb]at h5;exact Wv t (λq hq=>Q6 t n q hq) h2 h4 h5
  .rw[Nat.ble_eq_true_of_le hge]at h5;exact zJ t (λq hq=>Q6 t n q hq) h2 h4 h5
theorem cm{s s':Ar}{e:Ai}(h:CXR P w [] H s (λ_ _ _=>Bl) e s'):Bl:=by
 obtain⟨_,_,_,_,_,_,_,_,_,_,_,_,_,_,_,z⟩:=h;exact z
noncomputable def Sv:AY->Ap (Ao×AO)
 |.Expr e p=>Ab (e,p)
 |_=>Af
theorem oV{e:AY}{t:Ao×AO}(h:Sv e=Ab t):e=.Expr t.1 t.2:=by
 cases e with
 |Expr x p=>cases h;rfl
 |_=>exact nomatch (show Af=Ab t from h)
noncomputable def Sz:AY->Ap (Ao×Ao×AO)
  | .Assign ts v p=>(match ts with
    |[t]=>Ab (t,v,p)
    | _=>Af)
  |_=>Af
theorem oY{e:AY}{t:Ao×Ao×AO}(h:Sz e=Ab t):e=.Assign [t.1] t.2.1 t.2.2:=by
 cases e with
 |Assign ts v p=>
  cases ts with
  |nil=>exact nomatch (show Af=Ab t from h)
  |cons a ts=>
   cases ts with
   |nil=>cases h;rfl
   |cons=>exact nomatch (show Af=Ab t from h)
 |_=>exact nomatch (show Af=Ab t from h)
noncomputable def Sc:Ao->Ap (Ao×Ak×AO)
 |.Attribute e x p=>Ab (e,x,p)
 |_=>Af
theorem U_3{e:Ao}{t:Ao×Ak×AO}(h:Sc e=Ab t):e=.Attribute t.1 t.2.1 t.2.2:=by
 cases e with
 |Attribute e x p=>cases h;rfl
 |_=>exact nomatch (show Af=Ab t from h)
noncomputable def Sr:Ao->Ap (Ac Ao×AO)
 |.JoinedStr l p=>Ab (l,p)
 |_=>Af
theorem oS{e:Ao}{t:Ac Ao×AO}(h:Sr e=Ab t):e=.JoinedStr t.1 t.2:=by
 cases e with
 |JoinedStr l p=>cases h;rfl
 |_=>exact nomatch (show Af=Ab t from h)
noncomputable def Su:Ao->Ap (Ao×Ae×AO)
  | .FormattedValue e n f p=>(match f with
    |none=>Ab (e,n,p)
    | _=>Af)
  |_=>Af
theorem oU{e:Ao}{t:Ao×Ae×AO}(h:Su e=Ab t):e=.FormattedValue t.1 t.2.1 Af t.2.2:=by
 cases e with
 |FormattedValue e n f p=>
  cases f with
  |none=>cases h;rfl
  |some=>exact nomatch (show Af=Ab t from h)
 |_=>exact nomatch (show Af=Ab t from h)
noncomputable def Sw:Ao->Ap (Ak×Ag×AO)
  | .Constant c k p=>(match c with
    |.str z=>Ab (z,k,p)
    | _=>Af)
  |_=>Af
theorem oW{e:Ao}{t:Ak×Ag×AO}(h:Sw e=Ab t):e=.Constant (.str t.1) t.2.1 t.2.2:=by
 cases e with
 |Constant c k p=>
  cases c with
  |str z=>cases h;rfl
  |_=>exact nomatch (show Af=Ab t from h)
 |_=>exact nomatch (show Af=Ab t from h)
noncomputable def SJ(g par f:Ak)(b:Ac AY):Ap Gp:=(OG b).bind λs=>(Sv s.1).bind λc=>(Sy c.1).bind λcl=>(Sc cl.1).bind λat1=>(Kj at1.1).bind λg1=>(OG cl.2.1).bind λab=>(Kj ab.1).bind λs1=>(Sr ab.2).bind λj=>(OG j.1).bind λfk=>(Su fk.1).bind λfm=>(Kj fm.1).bind λq1=>(Sw fk.2).bind λz=>(Sz s.2).bind λt=>(Sc t.1).bind λat2=>(Kj at2.1).bind λs2=>(Kj t.2.1).bind λq2=>
 if (g1.1==g&&(at1.2.1==("__init__" : Ak)&&(s1.1==("self" : Ak)&&(q1.1==par&&(decide (fm.2.1=-1)&&(s2.1==("self" : Ak)&&(at2.2.1==f&&(q2.1==par&&(at1.2.2.endLine==cl.2.2.line&&DG z.1.length 1000)))))))))=Aa then Ab () else Af
noncomputable def SK(g par f:Ak)(b:Ac AY):Aj:=(SJ g par f b).isSome
theorem sX{g par f:Ak}{b:Ac AY}(h:SK g par f b=Aa):∃ z k np apos p1 p2 p3 p4 p5 cpos p6 p7 p8 p9 p10,b=Si g par f z k np apos p1 p2 p3 p4 p5 cpos p6 p7 p8 p9 p10/\(apos.endLine==cpos.line)=Aa/\z.length<=1000:=by
 obtain⟨_,h⟩:=ED.mp (show (SJ g par f b).isSome=Aa from h)
 obtain⟨s,e1,h⟩:=AS.mp h;obtain⟨c,e2,h⟩:=AS.mp h;obtain⟨cl,e3,h⟩:=AS.mp h;obtain⟨at1,e4,h⟩:=AS.mp h;obtain⟨g1,e5,h⟩:=AS.mp h;obtain⟨ab,e6,h⟩:=AS.mp h;obtain⟨s1,e7,h⟩:=AS.mp h;obtain⟨j,e8,h⟩:=AS.mp h;obtain⟨fk,e9,h⟩:=AS.mp h;obtain⟨fm,f1,h⟩:=AS.mp h;obtain⟨q1,f2,h⟩:=AS.mp h;obtain⟨z,f3,h⟩:=AS.mp h;obtain⟨t,f4,h⟩:=AS.mp h;obtain⟨at2,f5,h⟩:=AS.mp h;obtain⟨s2,f6,h⟩:=AS.mp h;obtain⟨q2,f7,h⟩:=AS.mp h;split at h
 .rename_i hc;simp only[An,A6,A2]at hc;obtain⟨c1,c2,c3,c4,c5,c6,c7,c8,h1,h2⟩:=hc;rw[QD e1,oV e2,oX e3,U_3 e4,Lx e5,QD e6,Lx e7,oS e8,QD e9,oU f1,Lx f2,oW f3,oY f4,U_3 f5,Lx f6,Lx f7,c1,c2,c3,c4,c5,c6,c7,c8];exact⟨_,_,_,_,_,_,_,_,_,_,_,_,_,_,_,rfl,by rw[A6];exact h1,Fe h2⟩
 .cases h
noncomputable def MW(g par f:Ak)(st:AY):Aj:=
 (C3 st).kind==.function&&((C3 st).isCoroutine==Ad&&((C3 st).isGenerator==Ad&&(LG ["self",par]&&((C3 st).names.lookup ("self" : Ak)==Ab .local&&((C3 st).names.lookup par==Ab .local&&(((C3 st).names.all λy=>y.2 != .free) &&
  ((C3 st).names.lookup g==Ab .globalImplicit&&(g != ("__debug__" : Ak)&&(par != ("__debug__" : Ak)&&(par != ("__classdict__" : Ak)&&SK g par f (Gq st)))))))))))
noncomputable def Op(s:AY):AY:=match s with
  |.ClassDef _ _ _ (b::_) _ _ _ _ _ _ _=>b
  |s=>s
def InI(K:Fg)(f:Al)(qual:Ak)(st:AY):Prop:=∃ fd,Fun K "__init__" qual st f fd
theorem ini_mk{st:AY}{f:Al}{od an:Ap Al}{kV doc pm cdv ct:Ai}(l:K.lookup f=Ab ⟨oc,od,.func (Dc "__init__" qual (IJ st) (Gq st) (C3 st) .none kV doc pm an cdv ct),osl⟩)(c:Fk K cdv qual=Aa)(k:CT K (.ref f)=Aa):InI K f qual st:=⟨_,Wo l c k⟩
theorem wJ{fI:Al}{g par f qual:Ak}{st:AY}(a:InI K fI qual st)(hk:MW g par f st=Aa)(hb:∀(u0 u1 kV doc pm:Ai)(an:Ap Al)(cdv ct:Ai),Jg (Dc "__init__" qual (IJ st) (Gq st) (C3 st) .none kV doc pm an cdv ct) ⟨[u0,u1],[]⟩=pure ((["self",par]:Ac Ak).zip [u0,u1]))(xc:D4 K C (Ab (.ref fI))=Aa)(dc:Hd K C=Aa)(ty:DY K (.ref fI)=Ab (.type "function"))(mo:mg g=Ab (.ref OV))(s1:E9 K (.ref OV) "__getattribute__" = Ab (Ab (.builtin "type.__getattribute__")))(s2:FX K OV (.type "type")=Aa)(s3:FW K (.ref OV) (.type "type") "__init__" = Ab (.val (.builtin "ValueError.__init__")))(hf:AU K (.ref C) f=Ab Af)(hs:AU K (.ref C) "__setattr__" = Ab (Ab (.builtin "object.__setattr__"))):XIn K mg C f:=by
 obtain⟨fd,fn⟩:=a;unfold MW at hk;simp only[An,A6,Ey,JB,ne_eq]at hk;obtain⟨c1,c2,c3,c4,c5,c6,c7,c8,c9,c10,c11,c12⟩:=hk;obtain⟨z,k,np,apos,p1,p2,p3,p4,p5,cpos,p6,p7,p8,p9,p10,eb,hl,hz⟩:=sX c12;exact .mk xc dc fn ty ⟨c1,c2,c3,Mj c4,rfl,λx hx=>by
  rcases At.mp hx with rfl|hx
  .exact .inl c5
  .rw[BN.mp hx];exact .inl c6,c7⟩ c5 c6 (fn.binds λkV doc pm an cdv ct us hu=>match us,hu with | [u0,u1],_=>hb u0 u1 kV doc pm an cdv ct) eb c8 mo (by simpa using c9) (by simpa using c10) (by simpa using c11) s1 s2 s3 hl hz hf hs
theorem km(h:∀ ds,xn c ds=.bad\/xn c ds=.ok ⟨c,[]⟩)(e:D4 K C Af=Aa)(ds:Ac D):xn c ds=.bad\/(xn c ds=.ok ⟨c,[]⟩/\D4 K C Af=Aa)\/∃ f,XIn K mg C f/\MU xn c f ds:=(h ds).imp id λz=>.inl ⟨z,e⟩
theorem kl{f:Ak}(h:∀ ds,xn c ds=mkX c f ds)(x:XIn K mg C f)(ds:Ac D):xn c ds=.bad\/(xn c ds=.ok ⟨c,[]⟩/\D4 K C Af=Aa)\/∃ f,XIn K mg C f/\MU xn c f ds:=by
  have e:=h ds
  match ds,e with
  |[],e=>exact .inl e
  |_::_::_,e=>exact .inl e
  |[d],e=>
    have e':xn c [d]=if (xfD 1 d||xfD 2 d)=Aa then .ok ⟨c,[(f,d)]⟩ else .bad:=e
    by_cases z:(xfD 1 d||xfD 2 d)=Aa
    · rw[AI z]at e';refine .inr (.inr ⟨f,x,d,?_⟩);rw[CU]at z;rcases z with z|z
      · exact⟨0,rfl,z,by decide,e'⟩
      · exact⟨1,rfl,z,by decide,e'⟩
    · rw[AT z]at e';exact .inl e'
theorem Xy(dc:Hd K C=Aa)(h1:AU K (.ref C) "triple" = Ab Af)(h2:AU K (.ref C) "points" = Ab Af)(f:Ak)(h:(f==("triple" : Ak)||f==("points" : Ak))=Aa):Hd K C=Aa/\AU K (.ref C) f=Ab Af:=by
 rw[CU]at h;rcases h with h|h
 .rw[eq_of_beq h];exact⟨dc,h1⟩
 .rw[eq_of_beq h];exact⟨dc,h2⟩
structure XA (K:Fg) (c:Ak) (x:Al) (i:Ap Ai):Prop where
 n:BK K Ba c=Ab (Ab (.ref x))
 y:D4 K x i=Aa
 dc:Hd K x=Aa
 ft:AU K (.ref x) "triple" = Ab Af
 fp:AU K (.ref x) "points" = Ab Af
 ok:XcOk K x
theorem xcls_l{x:Al}(e:JF K x [.type "ValueError",.type "Exception",.type "BaseException",.type "object"] "ValueError.__new__" = Aa):D4 K x Af=Aa:=oM e
theorem xa_mk{c:Ak}{x:Al}{i:Ap Ai}(n:BK K Ba c=Ab (Ab (.ref x)))(e:D4 K x i=Aa)(dc:Hd K x=Aa)(ft:AU K (.ref x) "triple" = Ab Af)(fp:AU K (.ref x) "points" = Ab Af)(ga:AU K (.ref x) "__getattribute__" = Ab (Ab (.builtin "BaseException.__getattribute__")))(gt:AU K (.ref x) "__getattr__" = Ab Af)(cl:AU K (.ref x) "__class__" = Ab (Ab (.builtin "object.__class__")))(ob:Dh K x (.type "object")=Ab Aa)(be:BZ K (.ref x) (.type "BaseException")=Ab Aa)(sv:BZ K (.ref x) (.type "ValueError")=Ab Aa):XA K c x i:=⟨n,e,dc,ft,fp,gp e ga gt cl ob be sv⟩
structure XB (K:Fg) (c:Ak) (x i:Al) (q:Ak) (st:AY):Prop where
 fi:AU K (.ref x) "__init__" = Ab (Ab (.ref i))
 a:XA K c x (Ab (.ref i))
 ii:InI K i q st
 ti:DY K (.ref i)=Ab (.type "function")
 sn:AU K (.ref x) "__setattr__" = Ab (Ab (.builtin "object.__setattr__"))
structure XE (K:Fg) (c:Ak) (x:Al):Prop where
 n:BK K Ba c=Ab (Ab (.ref x))
 cs:Dh K x (.type "object")=Ab Aa
 ty:DY K (.ref x)=Ab (.type "type")
structure XO (K:Fg) (x:Al):Prop where
 sa:E9 K (.ref x) "__getattribute__" = Ab (Ab (.builtin "type.__getattribute__"))
 sb:FX K x (.type "type")=Aa
 sc:FW K (.ref x) (.type "type") "__init__" = Ab (.val (.builtin "ValueError.__init__"))
def SuC(K:Fg)(C:Al)(l:Ac (Al×Aj)):Prop:=∀ q∈l,BZ K (.ref q.1) (.ref C)=Ab q.2
def KC(K:Fg)(C:Al):Prop:=∀ x i v,D4 K x i=Aa->BZ K (.ref x) (.ref C)=Ab v->Dk K (.ref x) (.ref C)=Ab v
theorem XA.kc{c:Ak}{x:Al}{i:Ap Ai}(a:XA K c x i):KC K x:=λ_ _ _ y s=>sP y a.y s
theorem XE.kc{c:Ak}{x:Al}(a:XE K c x):KC K x:=λ_ _ _ y s=>kY y a.cs a.ty s
noncomputable def clL:Ac (Ag×Al)->Ag->Ap Al
 |[],_=>Af
 |p::r,c=>if Nat.beq c p.1=Aa then Ab p.2 else clL r c
theorem MG:∀{l:Ac (Ag×Al)},clL l c=Ab C->(c,C)∈l:=by
 intro l
 induction l with
 |nil=>intro q;cases q
 |cons p r ih=>
  intro q;obtain⟨n,x⟩:=p;by_cases e:Nat.beq c n=Aa
  .cases Nat.eq_of_beq_eq_true e;cases (show Ab x=Ab C from (AI e).symm.trans q)
   exact AE
  .exact Ay _ (ih ((AT e).symm.trans q))
structure XR (K:Fg) (mg:Ak->Ap Ai) (xn:Ag->Ac D->R Ex) (p:Ag×Al):Prop where
 ok:XcOk K p.2
 nf:∀ f:Ak,(f==("triple" : Ak)||f==("points" : Ak))=Aa->Hd K p.2=Aa/\AU K (.ref p.2) f=Ab Af
 md:∀ ds,xn p.1 ds=.bad\/(xn p.1 ds=.ok ⟨p.1,[]⟩/\D4 K p.2 Af=Aa)\/∃ f,XIn K mg p.2 f/\MU xn p.1 f ds
theorem XA.row{c:Ak}{x:Al}(a:XA K c x Af)(h:∀ ds,xn k ds=.bad\/xn k ds=.ok ⟨k,[]⟩):XR K mg xn (k,x):=⟨a.ok,Xy a.dc a.ft a.fp,km h a.y⟩
theorem XB.row{c q:Ak}{x i o:Al}{st:AY}{g par f:Ak}(X:K.In h)(G:h.Ns Ba mg)(b:XB K c x i q st)(w:XO K o)(no:BK K Ba g=Ab (Ab (.ref o)))(hf:f = "triple"\/f = "points")(hk:MW g par f st=Aa)(hb:∀(u0 u1 kV doc pm:Ai)(an:Ap Al)(cdv ct:Ai),Jg (Dc "__init__" q (IJ st) (Gq st) (C3 st) .none kV doc pm an cdv ct) ⟨[u0,u1],[]⟩=pure ((["self",par]:Ac Ak).zip [u0,u1]))(hx:∀ ds,xn k ds=mkX k f ds):XR K mg xn (k,x):=
 ⟨b.a.ok,Xy b.a.dc b.a.ft b.a.fp,kl hx (wJ b.ii hk hb b.a.y b.a.dc b.ti (B9 X G no) w.sa w.sb w.sc (by rcases hf with rfl|rfl;exact b.a.ft;exact b.a.fp) b.sn)⟩
theorem gm{l:Ac (Ag×Al)}{rzs exs:Ac (Ak×Ag)}(r:∀ p∈l,XR K mg xn p)(rz:∀ p∈rzs,∃ C,clL l p.2=Ab C/\mg p.1=Ab (.ref C))(ex:∀ p∈exs,∃ C,mg p.1=Ab (.ref C)/\KC K C/\SuC K C (l.map λq=>(q.2,(up q.1).contains p.2)))(xb:∀ c,(∀ p∈rzs,p.2≠c)->∀ ds,xn c ds=.bad):XT up xn (clL l) rzs exs K mg:=by
 refine⟨λc C q=>(r _ (MG q)).ok,rz,λp hp=>?_,λc C ds q=>(r _ (MG q)).md ds,λc C q=>(r _ (MG q)).nf,xb⟩
 obtain⟨C,e,kc,su⟩:=ex p hp;have s:∀ c D,clL l c=Ab D->BZ K (.ref D) (.ref C)=Ab ((up c).contains p.2):=λc D q=>su _ (List.mem_map_of_mem (f:=λq:Ag×Al=>(q.2,(up q.1).contains p.2)) (MG q))
 exact⟨C,e,λc D q=>let ⟨_,y⟩:=(r _ (MG q)).ok.exc;kc _ _ _ y (s c D q),s⟩
def Om(K:Fg):Sp:=λvs H Q _=>∃(a:Al)(ns:Ac Ae),vs=[.ref a]/\ns.length<=63/\SqL K H a (ns.map V.int)/\∀ v H',v=V.bl Aa->Q v H'
theorem law_fn{f:Al}{F:Ac D->R D}(G:FnOk P w K mg base CX k f fd ps (spD K CL 1 Ad F))(h:∀ ns:Ac Ae,F [.lst (ns.map .int)]=.ok (.bl Aa)):FnOk P w K mg base CX k f fd ps (Om K):=G.imp λvs H Q E ⟨a,ns,e,hl,hS,q⟩=>by
 subst e;have rs:∀ l:Ac Ae,Reps K CL H A0 (l.map V.int) (l.map D.int):=λl=>by
  induction l with
  |nil=>trivial
  |cons x l ih=>exact⟨rfl,ih⟩
 refine⟨[.lst (ns.map .int)],A0,rfl,λ_ z=>z.elim,⟨⟨a,_,rfl,.inl (λz=>z),hS,rs ns⟩,trivial⟩,?_⟩
 rw[h ns];exact λv H' _ r=>q v H' r.1
theorem all_nil{Q:α->Prop}:∀ x∈([]:Ac α),Q x:=λ_ h=>nomatch h
theorem all_cons{Q:α->Prop}{a:α}{l:Ac α}(h1:Q a)(h2:∀ x∈l,Q x):∀ x∈a::l,Q x:=List.forall_mem_cons.2 ⟨h1,h2⟩
def FnI(K:Fg)(f:Al)(n:Ak)(st:AY):Prop:=∃ fd,Fun K n n st f fd/\BK K Ba n=Ab (Ab (.ref f))
theorem fni{n:Ak}{st:AY}{f:Al}{od an:Ap Al}{kV doc pm cdv ct:Ai}(a:BK K Ba n=Ab (Ab (.ref f)))(l:K.lookup f=Ab ⟨oc,od,.func (Dc n n (IJ st) (Gq st) (C3 st) .none kV doc pm an cdv ct),osl⟩)(c:Fk K cdv n=Aa)(k:CT K (.ref f)=Aa):FnI K f n st:=⟨_,Wo l c k,a⟩
def Bd(n:Ak)(st:AY)(ps:Ac Ak)(us:Ac Ai):Prop:=∀(kV doc pm:Ai)(an:Ap Al)(cdv ct:Ai),Jg (Dc n n (IJ st) (Gq st) (C3 st) .none kV doc pm an cdv ct) ⟨us,[]⟩=pure (ps.zip us)
theorem N4{n:Ak}{f:Al}{st:AY}{ps N:Ac Ak}(m id:Ag)(X:K.In h)(G:h.Ns Ba mg)(A:FnI K f n st)(hl:ps.length=m%1000)(hc:Iw fuel (DG 1000 m) fns bl rzs exs gls ps N st (Pg.defs id)=Aa)(hb:∀ us:Ac Ai,us.length=ps.length->Bd n st ps us):L7 K mg fns bl rzs exs gls Pg fuel (n,id,m):=by
 obtain⟨fd,F,a⟩:=A;exact⟨_,_,_,_,_,_,B9 X G a,Xp F,F.binds λkV doc pm an cdv ct us hu=>hb us hu kV doc pm an cdv ct,hl,hc⟩
theorem OI{l:Ac α}(h:l.length=0):l=[]:=List.eq_nil_of_length_eq_zero h
theorem IT{l:Ac α}{n:Ag}(h:l.length=n+1):∃ a r,l=a::r/\r.length=n:=by
 cases l with
 |nil=>cases h
 |cons a r=>exact⟨a,r,rfl,Ib h⟩
theorem Kk{n:Ak}{f:Al}{st:AY}{N:Ac Ak}(m id:Ag)(X:K.In h)(G:h.Ns Ba mg)(A:FnI K f n st)(hl:1=m%1000)(hc:Iw fuel (DG 1000 m) fns bl rzs exs gls [x0] N st (Pg.defs id)=Aa)(hb:∀ u0,Bd n st [x0] [u0]):L7 K mg fns bl rzs exs gls Pg fuel (n,id,m):=
 N4 (ps:=[x0]) m id X G A hl hc λus hu=>by obtain⟨u0,v0,rfl,h0⟩:=IT hu;obtain rfl:=OI h0;exact hb u0
theorem Ef{n:Ak}{f:Al}{st:AY}{N:Ac Ak}(m id:Ag)(X:K.In h)(G:h.Ns Ba mg)(A:FnI K f n st)(hl:2=m%1000)(hc:Iw fuel (DG 1000 m) fns bl rzs exs gls [x0,x1] N st (Pg.defs id)=Aa)(hb:∀ u0 u1,Bd n st [x0,x1] [u0,u1]):L7 K mg fns bl rzs exs gls Pg fuel (n,id,m):=
 N4 (ps:=[x0,x1]) m id X G A hl hc λus hu=>by obtain⟨u0,v0,rfl,h0⟩:=IT hu;obtain⟨u1,v1,rfl,h1⟩:=IT h0;obtain rfl:=OI h1;exact hb u0 u1
theorem Hc{n:Ak}{f:Al}{st:AY}{N:Ac Ak}{x2:Ak}(m id:Ag)(X:K.In h)(G:h.Ns Ba mg)(A:FnI K f n st)(hl:3=m%1000)(hc:Iw fuel (DG 1000 m) fns bl rzs exs gls [x0,x1,x2] N st (Pg.defs id)=Aa)(hb:∀ u0 u1 u2,Bd n st [x0,x1,x2] [u0,u1,u2]):L7 K mg fns bl rzs exs gls Pg fuel (n,id,m):=
 N4 (ps:=[x0,x1,x2]) m id X G A hl hc λus hu=>by obtain⟨u0,v0,rfl,h0⟩:=IT hu;obtain⟨u1,v1,rfl,h1⟩:=IT h0;obtain⟨u2,v2,rfl,h2⟩:=IT h1;obtain rfl:=OI h2;exact hb u0 u1 u2
theorem Sf{n:Ak}{f:Al}{st:AY}{N:Ac Ak}{x2 x3:Ak}(m id:Ag)(X:K.In h)(G:h.Ns Ba mg)(A:FnI K f n st)(hl:4=m%1000)(hc:Iw fuel (DG 1000 m) fns bl rzs exs gls [x0,x1,x2,x3] N st (Pg.defs id)=Aa)(hb:∀ u0 u1 u2 u3,Bd n st [x0,x1,x2,x3] [u0,u1,u2,u3]):L7 K mg fns bl rzs exs gls Pg fuel (n,id,m):=
 N4 (ps:=[x0,x1,x2,x3]) m id X G A hl hc λus hu=>by obtain⟨u0,v0,rfl,h0⟩:=IT hu;obtain⟨u1,v1,rfl,h1⟩:=IT h0;obtain⟨u2,v2,rfl,h2⟩:=IT h1;obtain⟨u3,v3,rfl,h3⟩:=IT h2;obtain rfl:=OI h3;exact hb u0 u1 u2 u3
end
end Ov
namespace OvC
open PySem Ov
variable{p t k N d:Ae}{xs ns:Ac Ae}{m n i j:Ag}{Z:Gam}{Y:Rho}{T PP:D}{α:Type}
noncomputable def Qa:Df:=⟨4,Ad,(.cons (.ret (.call 1 (.cons (.var 0) (.cons (.bin .Add (.bin .Sub (.bin .Mult (.idx (.var 1) (.int 0)) (.bin .Sub (.bin .Mult (.idx (.var 2) (.int 1)) (.idx (.var 3) (.int 2))) (.bin .Mult (.idx (.var 2) (.int 2)) (.idx (.var 3) (.int 1))))) (.bin .Mult (.idx (.var 1) (.int 1)) (.bin .Sub (.bin .Mult (.idx (.var 2) (.int 0)) (.idx (.var 3) (.int 2))) (.bin .Mult (.idx (.var 2) (.int 2)) (.idx (.var 3) (.int 0)))))) (.bin .Mult (.idx (.var 1) (.int 2)) (.bin .Sub (.bin .Mult (.idx (.var 2) (.int 0)) (.idx (.var 3) (.int 1))) (.bin .Mult (.idx (.var 2) (.int 1)) (.idx (.var 3) (.int 0)))))) .nil)))) .nil)⟩
noncomputable abbrev tr(a b c:Ae):D:=.tup [.int a,.int b,.int c]
noncomputable def det(a0 a1 a2 b0 b1 b2 c0 c1 c2:Ae):Ae:=a0*(b1*c2-b2*c1)-a1*(b0*c2-b2*c0)+a2*(b0*c1-b1*c0)
def Sm(x:Ae):Prop:=0<=x/\x<11
theorem mo{x:Ae}(h:Sm x)(y:Ae):F9 x y=Aa:=LA (by have:=h.1;omega) (by have:=h.2;omega)
theorem Sm.of(h:P4 p)(x:Ae):Sm (x%p):=⟨A3 _ (by have:=h.pos;omega),by have:=AX x h.pos;have:=h.hi;omega⟩
theorem TQ{body:D->Rho->O}(I:Rho->Prop)(g:Ae->Aj):∀(L:Ac Ae),(∀ t∈L,∀ Y,I Y->(g t=Aa/\body (.int t) Y=.ret (.int t) Ad)\/(g t=Ad/\∃ Y',body (.int t) Y=.next Y'/\I Y'))->∀ Y,I Y->(∃ t∈L,g t=Aa/\CG body (L.map D.int) Y=.ret (.int t) Ad)\/((∀ t∈L,g t=Ad)/\∃ Y',CG body (L.map D.int) Y=.next Y'/\I Y')
 |[],_,Y,i=>.inr ⟨(λ_ h=>nomatch h),Y,rfl,i⟩
 |m::L,h,Y,i=>by
  rcases h m (AE ..) Y i with ⟨e1,e2⟩|⟨e1,Y',e2,i'⟩
  .refine .inl ⟨m,AE ..,e1,?_⟩;show (body (.int m) Y).turn _=_;rw[e2];rfl
  .rcases TQ I g L (λm' h'=>h m' (Ay _ h')) Y' i' with ⟨t,ht,a,b⟩|⟨a,r,b,c⟩
   .refine .inl ⟨t,Ay _ ht,a,?_⟩;show (body (.int m) Y).turn _=_;rw[e2];exact b
   .refine .inr ⟨λt ht=>?_,r,?_,c⟩
    .rcases At.mp ht with rfl|ht
     .exact e1
     .exact a t ht
    .show (body (.int m) Y).turn _=_;rw[e2];exact b
noncomputable def Le:Ss:=(.cons (.ife (.cmp .Eq (.call 1 (.cons (.var 0) (.cons (.bin .Mult (.var 1) (.var 2)) .nil))) (.int 1)) (.cons (.ret (.var 2)) .nil) .nil) .nil)
noncomputable def M8:Df:=⟨3,Ad,(.cons (.fors 2 (.rng2 (.int 1) (.var 0)) Le) (.cons (.rais 2 (.cons (.str (AQ "a number with the rest 0 is not turned over")) .nil)) .nil))⟩
noncomputable def LW(p:Ae):Ac Ae:=(Bm (p-1).toNat).map fun(k:Ag)=>1+(k:Ae)
theorem Qs:t∈LW p↔1<=t/\t<p:=by
 unfold LW;rw[List.mem_map];constructor
 .rintro⟨k,hk,rfl⟩;have:=BE.mp hk;omega
 .rintro⟨h1,h2⟩;exact⟨(t-1).toNat,BE.mpr (by omega),by omega⟩
theorem jP(h:P4 p):DJ 1 p=.ok ((LW p).map D.int):=by
 rcases h with rfl|rfl|rfl|rfl<;>rfl
theorem sU:∀ p:Fin 12,(p.val=3\/p.val=5\/p.val=7\/p.val=11)->∀ r:Fin 12,r.val<p.val->r.val≠0->∃ t:Fin 12,1<=t.val/\t.val<p.val/\r.val*t.val%p.val=1:=by decide+kernel
theorem Im{n:Ae}(h:P4 p)(hn:n%p≠0):∃ t,1<=t/\t<p/\n*t%p=1:=by
 have p0:0<p/\p<12:=by rcases h with rfl|rfl|rfl|rfl<;>decide
 obtain⟨q,rfl⟩:∃ q:Ag,p=q:=⟨p.toNat,by omega⟩
 have h0:=A3 n (b:=(q:Ae)) (by omega)
 have h1:=AX n p0.1;obtain⟨r,hr⟩:∃ r:Ag,n%(q:Ae)=r:=⟨(n%(q:Ae)).toNat,by omega⟩
 obtain⟨t,t1,t2,t3⟩:=sU ⟨q,by omega⟩ (by rcases h with e|e|e|e<;>simp<;>omega) ⟨r,by omega⟩ (by show r<q;omega) (by show r≠0;omega)
 refine⟨(t.val:Ae),by omega,by show (t.val:Ae)<q;exact Int.ofNat_lt.mpr t2,?_⟩
 have e:((r*t.val%q:Ag):Ae)=1:=by rw[show r*t.val%q=1 from t3];rfl
 rw[<-e,Int.natCast_emod,Int.natCast_mul,<-hr];exact(BV n _ _).trans (by rw[BV (n%(q:Ae)) (t.val:Ae) (q:Ae),BD n (CQ _)])
def FR(p n t:Ae):Prop:=1<=t/\t<p/\n*t%p=1
theorem iI{n u:Ae}(h1:FR p n t)(h2:FR p n u):t=u:=by
 have hp:1<p:=by have:=h1.1;have:=h1.2.1;omega
 have e:t%p=u%p:=by
  have a:t%p=t*(n*u)%p:=by rw[BV,h2.2.2,Et,BD _ (CQ p)]
  have b:u%p=(n*t)*u%p:=by rw[BV (n*t) u p,h1.2.2,Du,BD _ (CQ p)]
  rw[a,b]
  congr 1
  rw[<-GD,Cq t n]
 rw[AR (by have:=h1.1;omega) h1.2.1,AR (by have:=h2.1;omega) h2.2.1]at e
 exact e
theorem Ct{c x:Ae}(hp:P4 p)(hc:c%p≠0)(hx:x%p≠0):c*x%p≠0:=λz=>by
 obtain⟨t,_,_,e⟩:=Im hp hc;refine hx ?_;have e1:x%p=(c*t)*x%p:=by rw[BV (c*t) x p,e,Du,BD _ (CQ p)]
 rw[e1,show c*t*x=t*(c*x) by rw[Cq c t,GD],BV,z,CD,Bj]
noncomputable def Bg(p:Ae):Ac Ae->Ap Ae
 |[]=>Af
 |x::xs=>if x%p=0 then Bg p xs else Ab (x%p)
theorem Jr{p:Ae}:∀{xs:Ac Ae},Bg p xs=Af↔∀ x∈xs,x%p=0
 |[]=>by simp[Bg]
 |x::xs=>by
  unfold Bg;by_cases h:x%p=0
  .rw[AI h,Jr (xs:=xs)];simp[h]
  .rw[AT h];simp[h]
theorem Jm{p l:Ae}(hp:0<p):∀{xs:Ac Ae},Bg p xs=Ab l->l%p≠0/\0<l/\l<p
 |[],h=>by cases h
 |x::xs,h=>by
  unfold Bg at h;by_cases hx:x%p=0
  .rw[AI hx]at h;exact Jm hp h
  .rw[AT hx]at h;cases h;have h0:=A3 x (b:=p) (by omega)
   have h1:=AX x hp;exact⟨by rw[BD _ (CQ p)];exact hx,by omega,h1⟩
theorem Lq{p c:Ae}(hp:P4 p)(hc:c%p≠0){f:Ae->Ae}(hf:∀ x,f x%p=c*x%p):∀ xs:Ac Ae,Bg p (xs.map f)=(Bg p xs).map λl=>c*l%p
 |[]=>rfl
 |x::xs=>by
  rw[CC];unfold Bg;rw[hf x];by_cases hx:x%p=0
  .rw[AI hx,AI (by rw[BV,hx,CD,Bj]),Lq hp hc hf xs]
  .rw[AT hx,AT (Ct hp hc hx),FU]
   congr 1
   rw[BV c (x%p),BD _ (CQ p),<-BV]
noncomputable def ds(xs:Ac Ae):Ac D:=xs.map D.int
noncomputable def EL(b:Aj)(xs:Ac Ae):D:=if b=Aa then .tup (ds xs) else .lst (ds xs)
theorem TW(b xs):Ci (EL b xs)=.ok (ds xs):=by unfold EL;cases b<;>rfl
theorem Nu{g:D->R Aj}{f:D->R D}{φ:Ae->Ae}:∀(xs:Ac Ae),(∀ x∈xs,g (.int x)=.ok Aa/\f (.int x)=.ok (.int (φ x)))->Ce g f (ds xs)=.ok (ds (xs.map φ))
 |[],_=>rfl
 |x::xs,h=>by
  obtain⟨h1,h2⟩:=h x (AE ..);show (g (.int x)).bind _=_;rw[h1,R.bind_ok,AI rfl,h2,R.bind_ok];show (Ce g f (ds xs)).bind _=_;rw[Nu xs λy hy=>h y (Ay _ hy)]
  rfl
noncomputable def DQ:E:=(.bl Aa)
noncomputable def Pu:E:=(.call 1 (.cons (.var 0) (.cons (.var 5) .nil)))
noncomputable def Pt:E:=(.call 1 (.cons (.var 0) (.cons (.bin .Mult (.var 4) (.var 6)) .nil)))
noncomputable def Ik:Ss:=(.cons (.ife (.cmp .NotEq (.var 3) (.int 0)) (.cons (.asg 4 Ad (.call 9 (.cons (.var 0) (.cons (.var 3) .nil)))) (.cons (.ret (.bi .tuple (.cons (.comp Pt 6 (.e (.var 2)) DQ) .nil))) .nil)) .nil) .nil)
noncomputable def Nq:Df:=⟨7,Ad,(.cons (.asg 2 Ad (.comp Pu 5 (.e (.var 1)) DQ)) (.cons (.fors 3 (.e (.var 2)) Ik) (.cons (.rais 3 (.cons (.str (AQ "all the numbers have the rest 0")) .nil)) .nil)))⟩
noncomputable def fmI(p t:Ae)(xs:Ac Ae):Ac Ae:=xs.map λx=>t*(x%p)%p
section
variable{Z:Gam}{p:Ae}{xs:Ac Ae}{b:Aj}
end
theorem TC{g:D->R Aj}{f:D->R D}{q:Ae->Aj}:∀(xs:Ac Ae),(∀ x∈xs,g (.int x)=.ok (q x)/\f (.int x)=.ok (.int x))->Ce g f (ds xs)=.ok (ds (xs.filter q))
 |[],_=>rfl
 |x::xs,h=>by
  obtain⟨h1,h2⟩:=h x (AE ..);have ih:=TC xs λy hy=>h y (Ay _ hy)
  show (g (.int x)).bind _=_;rw[h1,R.bind_ok];cases hq:q x with
  |true=>
   rw[AI rfl,h2,R.bind_ok,Fo,hq,AI rfl];show (Ce g f (ds xs)).bind _=_;rw[ih];rfl
  |false=>
   rw[AT (by decide),Fo,hq,AT (by decide)]
   exact ih
theorem iL{l:Ae}(h:xs.head?=Ab l):EJ (ds xs) 0=.ok (.int l):=by
 cases xs with
 |nil=>cases h
 |cons x xs=>cases h;exact UC (by omega) rfl
theorem Wr:∀ xs:Ac Ae,eqDs (ds xs) (ds xs)=Aa
 |[]=>rfl
 |x::xs=>by
  show (eqD (.int x) (.int x)&&eqDs (ds xs) (ds xs))=Aa;rw[Wr xs];simp
theorem Vi:∀ xs:Ac Ae,HK (xs.map λ_=>D.bl Aa)=.ok Aa
 |[]=>rfl
 |x::xs=>by
  rw[CC,PL,Vi xs];rfl
theorem VY{g:D->R Aj}{f:D->R D}:∀(xs:Ac Ae),(∀ x∈xs,g (.int x)=.ok Aa/\f (.int x)=.ok (.bl Aa))->Ce g f (ds xs)=.ok (xs.map λ_=>D.bl Aa)
 |[],_=>rfl
 |x::xs,h=>by
  obtain⟨h1,h2⟩:=h x (AE ..);show (g (.int x)).bind _=_;rw[h1,R.bind_ok,AI rfl,h2,R.bind_ok];show (Ce g f (ds xs)).bind _=_;rw[VY xs λy hy=>h y (Ay _ hy)]
  rfl
noncomputable abbrev own(xs:Ac Ae):Sl:=Ab (.lst (ds xs),Aa)
section
variable{Z:Gam}{ns:Ac Ae}{a1 a2 a4 a6 a7 a8 a9 b0 b1 b2 b3 b4:Sl}{p:Ae}
end
section
variable{Z:Gam}{ns:Ac Ae}{a1 a4 a6 a7 a8 a9 b2 b3 b4:Sl}{p m:Ae}{xs:Ac Ae}
end
def Cg(p x y:Ae):Prop:=x%p=y%p
section
variable{p a b c d:Ae}
theorem Cg.rfl:Cg p a a:=Eq.refl _
theorem Cg.of(h:a=b):Cg p a b:=by unfold Cg;rw[h]
theorem Cg.trans{a b c:Ae}(h:Cg p a b)(g:Cg p b c):Cg p a c:=Eq.trans h g
theorem Cg.symm(h:Cg p a b):Cg p b a:=M5 h
theorem Cg.add(h:Cg p a b)(g:Cg p c d):Cg p (a+c) (b+d):=by unfold Cg at *;rw[X2,h,g,<-X2]
theorem Cg.sub(h:Cg p a b)(g:Cg p c d):Cg p (a-c) (b-d):=by unfold Cg at *;rw[X8,h,g,<-X8]
theorem Cg.mul(h:Cg p a b)(g:Cg p c d):Cg p (a*c) (b*d):=by unfold Cg at *;rw[BV,h,g,<-BV]
theorem Cg.md(h:a=b%p):Cg p a b:=by unfold Cg;rw[h,BD _ (CQ p)]
end
theorem Wt{p a0 a1 a2 b0 b1 b2 c0 c1 c2 x0 x1 x2 y0 y1 y2 z0 z1 z2:Ae}(h0:Cg p a0 x0)(h1:Cg p a1 x1)(h2:Cg p a2 x2)(h3:Cg p b0 y0)(h4:Cg p b1 y1)(h5:Cg p b2 y2)(h6:Cg p c0 z0)(h7:Cg p c1 z1)(h8:Cg p c2 z2):Cg p (a0*(b1*c2-b2*c1)-a1*(b0*c2-b2*c0)+a2*(b0*c1-b1*c0)) (x0*(y1*z2-y2*z1)-x1*(y0*z2-y2*z0)+x2*(y0*z1-y1*z0)):=
 ((h0.mul ((h4.mul h8).sub (h5.mul h7))).sub (h1.mul ((h3.mul h8).sub (h5.mul h6)))).add (h2.mul ((h3.mul h7).sub (h4.mul h6)))
theorem P4.m1(h:P4 p):(-1:Ae)%p≠0:=by rcases h with rfl|rfl|rfl|rfl<;>decide
theorem P4.o1(h:P4 p):(1:Ae)%p≠0:=by rcases h with rfl|rfl|rfl|rfl<;>decide
abbrev R3:=Ae×Ae×Ae
variable{a x' x y r g:R3}{pts:Ac R3}
noncomputable def IS(a:R3):D:=.lst [.int a.1,.int a.2.1,.int a.2.2]
noncomputable def Aq(a b c:R3):Ae:=det a.1 a.2.1 a.2.2 b.1 b.2.1 b.2.2 c.1 c.2.1 c.2.2
def In3(p:Ae)(a:R3):Prop:=(0<=a.1/\a.1<p)/\(0<=a.2.1/\a.2.1<p)/\(0<=a.2.2/\a.2.2<p)
structure GoodR (p:Ae) (a b c:R3):Prop where
 p4:P4 p
 ia:In3 p a
 ib:In3 p b
 ic:In3 p c
 nz:Aq a b c%p≠0
theorem GoodR.of{a b c a' b' c':R3}(h:GoodR p a b c)(hk:k%p≠0)(e:Cg p (Aq a' b' c') (k*Aq a b c))(hin:In3 p a'/\In3 p b'/\In3 p c'):GoodR p a' b' c':=⟨h.p4,hin.1,hin.2.1,hin.2.2,by rw[show Aq a' b' c'%p=_ from e];exact Ct h.p4 hk h.nz⟩
noncomputable def mdR(p:Ae)(a:R3):R3:=(a.1%p,a.2.1%p,a.2.2%p)
theorem kj(h:0<p)(a:R3):In3 p (mdR p a):=⟨⟨A3 _ (by omega),AX _ h⟩,⟨A3 _ (by omega),AX _ h⟩,⟨A3 _ (by omega),AX _ h⟩⟩
theorem rP(h0:0<=k)(h1:k<ns.length):EJ (ns.map D.int) k=.ok (.int (ns.getD k.toNat 0)):=UC h0 (by
 have:k.toNat<ns.length:=by omega
 simp[this])
noncomputable abbrev ownR(a b c:R3):Sl:=Ab (.lst [IS a,IS b,IS c],Aa)
section
variable{Z:Gam}{ns:Ac Ae}{at_ many s5 s0 s1 s2:Sl}{p t m:Ae}{a b c:R3}
end
section
variable{Z:Gam}{ns:Ac Ae}{many s5 s6 s7 s8 s9 s0 s1 s2:Sl}{p:Ae}{a b c:R3}
end
noncomputable def nine(a b c:R3):Ac Ae:=[a.1,a.2.1,a.2.2,b.1,b.2.1,b.2.2,c.1,c.2.1,c.2.2]
noncomputable def trR(a:R3):D:=.tup [.int a.1,.int a.2.1,.int a.2.2]
noncomputable def Ck(a b c:R3):D:=.tup [trR a,trR b,trR c]
noncomputable def fmR(p t:Ae)(a:R3):R3:=(t*(a.1%p)%p,t*(a.2.1%p)%p,t*(a.2.2%p)%p)
theorem rS(p t:Ae)(a b c:R3):fmI p t (nine a b c)=nine (fmR p t a) (fmR p t b) (fmR p t c):=rfl
theorem Ml{a b c:R3}(h:Aq a b c%p≠0):∃ l,Bg p (nine a b c)=Ab l:=by
 cases e:Bg p (nine a b c) with
 |some l=>exact⟨l,rfl⟩
 |none=>
  refine absurd ?_ h;have z:=Jr.mp e;have q:∀ x∈nine a b c,Cg p x 0:=λx hx=>by
   have:=z x hx;show x%p=0%p;rw[this];simp
  have:=Wt (p:=p) (q a.1 (by simp[nine])) (q a.2.1 (by simp[nine])) (q a.2.2 (by simp[nine])) (q b.1 (by simp[nine])) (q b.2.1 (by simp[nine])) (q b.2.2 (by simp[nine])) (q c.1 (by simp[nine])) (q c.2.1 (by simp[nine])) (q c.2.2 (by simp[nine]))
  have e2:Aq a b c%p=(0*(0*0-0*0)-0*(0*0-0*0)+0*(0*0-0*0))%p:=this;rw[e2];simp
theorem dR(a b c:R3):slD (.tup (ds (nine a b c))) Af (Ab 3)=.ok (trR a)/\slD (.tup (ds (nine a b c))) (Ab 3) (Ab 6)=.ok (trR b)/\slD (.tup (ds (nine a b c))) (Ab 6) Af=.ok (trR c):=⟨rfl,rfl,rfl⟩
theorem kW(a b c:R3):C4 .Add (IS a) (IS b)=.ok (.lst [.int a.1,.int a.2.1,.int a.2.2,.int b.1,.int b.2.1,.int b.2.2])/\C4 .Add (.lst [.int a.1,.int a.2.1,.int a.2.2,.int b.1,.int b.2.1,.int b.2.2]) (IS c)=.ok (.lst (ds (nine a b c))):=⟨rfl,rfl⟩
def Bd(n:Ag)(x:Ae):Prop:=x.natAbs<2 ^ n
theorem Bd.mul{x y:Ae}(h:Bd m x)(g:Bd n y):Bd (m+n) (x*y):=by
 unfold Bd at *;rw[Int.natAbs_mul,Nat.pow_add];exact Nat.mul_lt_mul'' h g
theorem Bd.sub{x y:Ae}(h:Bd n x)(g:Bd n y):Bd (n+1) (x-y):=by
 unfold Bd at *;rw[Nat.pow_succ];omega
theorem G8{x y:Ae}(h:Bd m x)(g:Bd n y)(hm:m<=2000)(hn:n<=2000):Fm x y=Aa:=by
 unfold Fm Bd at *;rw[An,A2,A2];exact⟨AN h (GZ (by decide) hm),AN g (GZ (by decide) hn)⟩
def B3(a:R3):Prop:=Bd 300 a.1/\Bd 300 a.2.1/\Bd 300 a.2.2
noncomputable def Am(q:Aj)(a:R3):D:=EL q [a.1,a.2.1,a.2.2]
theorem Fu(q:Aj)(a:R3):CJ (Am q a) (.int 0)=.ok (.int a.1)/\CJ (Am q a) (.int 1)=.ok (.int a.2.1)/\CJ (Am q a) (.int 2)=.ok (.int a.2.2):=by cases q<;>exact⟨rfl,rfl,rfl⟩
def HH(Z:Gam):Prop:=∀(p:Ae)(q:Aj)(a b c:R3),0<p->B3 a->B3 b->B3 c->Z.F 61 [.int p,Am q a,Am q b,Am q c]=.ok (.int (Aq a b c%p))
theorem qN(h:Io Z)(p:Ae)(q:Aj)(a b c:R3)(hp:0<p)(ha:B3 a)(hb:B3 b)(hc:B3 c):Qa.run Z [.int p,Am q a,Am q b,Am q c]=.ok (.int (Aq a b c%p)):=by
 obtain⟨a0,a1,a2⟩:=Fu q a;obtain⟨b0,b1,b2⟩:=Fu q b;obtain⟨c0,c1,c2⟩:=Fu q c;have k:∀ {x y},Bd 300 x->Bd 300 y->Fm x y=Aa:=λhx hy=>G8 hx hy (by decide) (by decide)
 have k2:∀ {x y z u v},Bd 300 x->Bd 300 y->Bd 300 z->Bd 300 u->Bd 300 v->Fm x (y*z-u*v)=Aa:=λhx hy hz hu hv=>G8 hx ((hy.mul hz).sub (hu.mul hv)) (by decide) (by decide)
 simp[Qa,Df.run,BG,a0,a1,a2,b0,b1,b2,c0,c1,c2,k hb.2.1 hc.2.2,k hb.2.2 hc.2.1,k hb.1 hc.2.2,k hb.2.2 hc.1,k hb.1 hc.2.1,k hb.2.1 hc.1,k2 ha.1 hb.2.1 hc.2.2 hb.2.2 hc.2.1,k2 ha.2.1 hb.1 hc.2.2 hb.2.2 hc.1,k2 ha.2.2 hb.1 hc.2.1 hb.2.1 hc.1,h p _ hp];rfl
noncomputable def PJ:Df:=⟨3,Ad,(.cons (.ife (.cmp .Eq (.call 61 (.cons (.var 0) (.cons (.idx (.var 1) (.int 0)) (.cons (.idx (.var 1) (.int 1)) (.cons (.idx (.var 1) (.int 2)) .nil))))) (.int 0)) (.cons (.rais 4 (.cons (.str (AQ "the measure of the rows is 0")) .nil)) .nil) .nil) (.cons (.asg 2 Ad (.call 17 (.cons (.var 0) (.cons (.bin .Add (.bin .Add (.bi .list (.cons (.idx (.var 1) (.int 0)) .nil)) (.bi .list (.cons (.idx (.var 1) (.int 1)) .nil))) (.bi .list (.cons (.idx (.var 1) (.int 2)) .nil))) .nil)))) (.cons (.ret (.tup (.cons (.sl (.var 2) .non (.int 3)) (.cons (.sl (.var 2) (.int 3) (.int 6)) (.cons (.sl (.var 2) (.int 6) .non) .nil))))) .nil)))⟩
theorem ak(q:Aj)(a:R3):biD .list [Am q a]=.ok (IS a):=by cases q<;>rfl
section
variable{Z:Gam}{ns:Ac Ae}{p t:Ae}{a b c r:R3}{made s6 s7:Sl}
end
theorem Np{p:Ae}:∀{xs ys:Ac Ae},xs.map (λx=>x%p)=ys.map (λx=>x%p)->Bg p xs=Bg p ys
 |[],[],_=>rfl
 |x::xs,y::ys,h=>by
  rw[CC,CC,Yc]at h;unfold Bg;rw[h.1,Np h.2]
 |[],_::_,h=>by simp at h
 |_::_,[],h=>by simp at h
theorem lJ{ys:Ac Ae}(h:xs.map (λx=>x%p)=ys.map (λx=>x%p)):fmI p t xs=fmI p t ys:=by
 have e:∀ zs:Ac Ae,fmI p t zs=(zs.map λx=>x%p).map λr=>t*r%p:=λzs=>by simp[fmI,F1,X1]
 rw[e,e,h]
theorem Gu(hp:0<p)(t:Ae)(a:R3):In3 p (fmR p t a):=⟨⟨A3 _ (by omega),AX _ hp⟩,⟨A3 _ (by omega),AX _ hp⟩,⟨A3 _ (by omega),AX _ hp⟩⟩
section
variable{Z:Gam}{ns:Ac Ae}{p m:Ae}{a b c:R3}{fa fb fc:R3}{q:Aj}{s9 s0 s1 s2:Sl}
end
def PU(Z:Gam):Prop:=∀ p n:Ae,P4 p->n%p≠0->∃ t,1<=t/\t<p/\n*t%p=1/\Z.F 9 [.int p,.int n]=.ok (.int t)
def NM(Z:Gam):Prop:=∀(p:Ae)(b:Aj)(xs:Ac Ae)(l t:Ae),P4 p->Bg p xs=Ab l->FR p l t->Z.F 17 [.int p,EL b xs]=.ok (.tup (ds (fmI p t xs)))
theorem gK(hr:Io Z)(p n:Ae)(hp:P4 p)(z:n%p≠0):∃ t,1<=t/\t<p/\n*t%p=1/\M8.run Z [.int p,.int n]=.ok (.int t):=by
 have p0:=hp.pos;have ph:=hp.hi;have body:∀ t∈LW p,∀ Y,(∃ s,Y=[si p,si n,s])->(decide (n*t%p=1)=Aa/\Br Z 2 Le (.int t) Y=.ret (.int t) Ad)\/(decide (n*t%p=1)=Ad/\∃ Y',Br Z 2 Le (.int t) Y=.next Y'/\∃ s,Y'=[si p,si n,s]):=by
  rintro t ht Y ⟨s,rfl⟩;obtain⟨t1,t2⟩:=Qs.mp ht;have m:F9 n t=Aa:=V9 (by omega) (by omega)
  by_cases e:n*t%p=1
  .exact .inl ⟨by simp[e],by simp[Br,Le,hr p (n*t) p0,m,e,Eg]⟩
  .exact .inr ⟨by simp[e],_,by simp[Br,Le,hr p (n*t) p0,m,e];rfl,_,rfl⟩
 have run:∀ o,CG (Br Z 2 Le) ((LW p).map D.int) [si p,si n,Af]=o->M8.run Z [.int p,.int n]=(Hr Z (.cons (.rais 2 (.cons (.str (AQ "a number with the rest 0 is not turned over")) .nil)) .nil) o).ans Ad:=by
  rintro o rfl;simp[M8,Df.run,BG,jP hp]
 rcases TQ (λY=>∃ s,Y=[si p,si n,s]) (λt=>decide (n*t%p=1)) (LW p) body [si p,si n,Af] ⟨_,rfl⟩ with ⟨t,ht,a,b⟩|⟨a,r,b,s,rfl⟩
 .obtain⟨t1,t2⟩:=Qs.mp ht;have a':n*t%p=1:=by simpa using a
  exact⟨t,t1,t2,a',by rw[run _ b];rfl⟩
 .obtain⟨t,t1,t2,e⟩:=Im hp z;have:=a t (Qs.mpr ⟨t1,t2⟩);simp[e]at this
section
variable{Z:Gam}{p:Ae}{xs:Ac Ae}{b:Aj}
theorem UV(hr:Io Z)(ht:PU Z)(hp:P4 p)(rs:Ac Ae):∀(ys:Ac Ae),(∀ y∈ys,0<=y/\y<p)->∀ s3,(Bg p ys=Af->∃ s3',CG (Br Z 3 Ik) (ds ys) [si p,sh (EL b xs),sh (.lst (ds rs)),s3,Af,Af,Af]=.next [si p,sh (EL b xs),sh (.lst (ds rs)),s3',Af,Af,Af])/\(∀ l t,Bg p ys=Ab l->FR p l t->CG (Br Z 3 Ik) (ds ys) [si p,sh (EL b xs),sh (.lst (ds rs)),s3,Af,Af,Af]=.ret (.tup (ds (rs.map λr=>t*r%p))) Ad)
 |[],_,s3=>⟨λ_=>⟨s3,rfl⟩,(λl t h=>nomatch h)⟩
 |y::ys,hy,s3=>by
  obtain⟨y0,y1⟩:=hy y (AE ..);have ym:y%p=y:=AR y0 y1;have ih:=UV hr ht hp rs ys (λz hz=>hy z (Ay _ hz)) (si y)
  have step:∀ o,Br Z 3 Ik (.int y) [si p,sh (EL b xs),sh (.lst (ds rs)),s3,Af,Af,Af]=o->CG (Br Z 3 Ik) (ds (y::ys)) [si p,sh (EL b xs),sh (.lst (ds rs)),s3,Af,Af,Af]=o.turn (CG (Br Z 3 Ik) (ds ys)):=by
   rintro o rfl;rfl
  unfold Bg;rw[ym];by_cases hz:y=0
  .have e:Br Z 3 Ik (.int y) [si p,sh (EL b xs),sh (.lst (ds rs)),s3,Af,Af,Af]=.next [si p,sh (EL b xs),sh (.lst (ds rs)),si y,Af,Af,Af]:=by
    simp[Br,Ik,hz]
   rw[AI hz,step _ e];exact ih
  .rw[AT hz];refine⟨(λz=>nomatch z),λl t e it=>?_⟩
   cases e;obtain⟨u,u1,u2,u3,u4⟩:=ht p y hp (by rw[ym];exact hz)
   have:t=u:=iI it ⟨u1,u2,u3⟩;subst this;have p0:=hp.pos;have ph:=hp.hi;have cp:Ce (cG Z [si p,sh (EL b xs),sh (.lst (ds rs)),si y,si t,Af,Af] 6 DQ) (cF Z [si p,sh (EL b xs),sh (.lst (ds rs)),si y,si t,Af,Af] 6 Pt) (ds rs)=.ok (ds (rs.map λr=>t*r%p)):=by
    refine Nu rs λr _=>⟨rfl,?_⟩
    have m:F9 t r=Aa:=LA (by omega) (by omega)
    simp[cF,Pt,m,hr p (t*r) p0]
   have e:Br Z 3 Ik (.int y) [si p,sh (EL b xs),sh (.lst (ds rs)),s3,Af,Af,Af]=.ret (.tup (ds (rs.map λr=>t*r%p))) Ad:=by
    simp[Br,Ik,hz,u4,cp,Eg]
   rw[step _ e];rfl
theorem qO(hr:Io Z)(ht:PU Z)(hp:P4 p){l t:Ae}(e:Bg p xs=Ab l)(it:FR p l t):Nq.run Z [.int p,EL b xs]=.ok (.tup (ds (fmI p t xs))):=by
 have p0:=hp.pos;have cp:Ce (cG Z [si p,sh (EL b xs),Af,Af,Af,Af,Af] 5 DQ) (cF Z [si p,sh (EL b xs),Af,Af,Af,Af,Af] 5 Pu) (ds xs)=.ok (ds (xs.map λx=>x%p)):=by
  refine Nu xs λx _=>⟨rfl,?_⟩
  simp[cF,Pu,hr p x p0]
 have run:∀ o,CG (Br Z 3 Ik) (ds (xs.map λx=>x%p)) [si p,sh (EL b xs),sh (.lst (ds (xs.map λx=>x%p))),Af,Af,Af,Af]=o->Nq.run Z [.int p,EL b xs]=(Hr Z (.cons (.rais 3 (.cons (.str (AQ "all the numbers have the rest 0")) .nil)) .nil) o).ans Ad:=by
  rintro o rfl;simp[Nq,Df.run,BG,TW,cp]
 have le:Bg p (xs.map λx=>x%p)=Bg p xs:=by
  have:=Lq (c:=1) hp (by rcases hp with rfl|rfl|rfl|rfl<;>decide) (f:=λx=>x%p) (λx=>by rw[Du,BD _ (CQ p)]) xs
  rw[this];cases e:Bg p xs with
  |none=>rfl
  |some l=>
   obtain⟨_,l0,l1⟩:=Jm p0 e;simp[AR (Int.le_of_lt l0) l1]
 obtain⟨a,c⟩:=UV (b:=b) (xs:=xs) hr ht hp (xs.map λx=>x%p) (xs.map λx=>x%p) (λy hy=>by
  obtain⟨x,_,rfl⟩:=Fd.mp hy;exact⟨A3 _ (by omega),AX _ p0⟩) Af
 rw[le]at a c;rw[run _ (c l t e it)];simp[fmI,F1,X1]
end
noncomputable def DP(t q:Aj)(a b c:R3):D:=if t=Aa then .tup [Am q a,Am q b,Am q c] else .lst [Am q a,Am q b,Am q c]
theorem Sh(t q:Aj)(a b c:R3):CJ (DP t q a b c) (.int 0)=.ok (Am q a)/\CJ (DP t q a b c) (.int 1)=.ok (Am q b)/\CJ (DP t q a b c) (.int 2)=.ok (Am q c):=by cases t<;>exact⟨rfl,rfl,rfl⟩
theorem NZ(q:Aj)(a:R3):Ci (Am q a)=.ok [.int a.1,.int a.2.1,.int a.2.2]:=by cases q<;>rfl
theorem cO(t q:Aj)(a b c:R3):Ci (DP t q a b c)=.ok [Am q a,Am q b,Am q c]:=by cases t<;>rfl
noncomputable def BA(a b c:R3):R3:=(a.1,b.1,c.1)
noncomputable def By(a b c:R3):R3:=(a.2.1,b.2.1,c.2.1)
noncomputable def Bx(a b c:R3):R3:=(a.2.2,b.2.2,c.2.2)
noncomputable def Qc:Df:=⟨1,Ad,(.cons (.ret (.tupI (.zip3 (.idx (.var 0) (.int 0)) (.idx (.var 0) (.int 1)) (.idx (.var 0) (.int 2))))) .nil)⟩
def MH(Z:Gam):Prop:=∀(t q:Aj)(a b c:R3),Z.F 104 [DP t q a b c]=.ok (DP Aa Aa (BA a b c) (By a b c) (Bx a b c))
theorem xF(Z:Gam)(t q:Aj)(a b c:R3):Qc.run Z [DP t q a b c]=.ok (DP Aa Aa (BA a b c) (By a b c) (Bx a b c)):=by
 obtain⟨r0,r1,r2⟩:=Sh t q a b c;have z:LU (Am q a) (Am q b) (Am q c)=.ok [Am Aa (BA a b c),Am Aa (By a b c),Am Aa (Bx a b c)]:=by
  unfold LU;rw[NZ,NZ,NZ];rfl
 simp[Qc,Df.run,BG,r0,r1,r2,z];rfl
noncomputable def AG(a x:R3):Ae:=a.1*x.1+a.2.1*x.2.1+a.2.2*x.2.2
noncomputable def Na:E:=(.call 1 (.cons (.var 0) (.cons (.bin .Add (.bin .Add (.bin .Mult (.idx (.var 3) (.int 0)) (.idx (.var 2) (.int 0))) (.bin .Mult (.idx (.var 3) (.int 1)) (.idx (.var 2) (.int 1)))) (.bin .Mult (.idx (.var 3) (.int 2)) (.idx (.var 2) (.int 2)))) .nil)))
noncomputable def P9:Df:=⟨4,Ad,(.cons (.ret (.bi .tuple (.cons (.comp Na 3 (.e (.var 1)) DQ) .nil))) .nil)⟩
def Q9(Z:Gam):Prop:=∀(p:Ae)(t q q':Aj)(a b c x:R3),0<p->B3 a->B3 b->B3 c->B3 x->Z.F 91 [.int p,DP t q a b c,Am q' x]=.ok (Am Aa (AG a x%p,AG b x%p,AG c x%p))
theorem yN(h:Io Z)(p:Ae)(t q q':Aj)(a b c x:R3)(hp:0<p)(ha:B3 a)(hb:B3 b)(hc:B3 c)(hx:B3 x):P9.run Z [.int p,DP t q a b c,Am q' x]=.ok (Am Aa (AG a x%p,AG b x%p,AG c x%p)):=by
 obtain⟨x0,x1,x2⟩:=Fu q' x;have k:∀ {u v},Bd 300 u->Bd 300 v->Fm u v=Aa:=λhu hv=>G8 hu hv (by decide) (by decide)
 have key:∀ r:R3,B3 r->cF Z [si p,sh (DP t q a b c),sh (Am q' x),Af] 3 Na (Am q r)=.ok (.int (AG r x%p)):=λr hr=>by
  obtain⟨y0,y1,y2⟩:=Fu q r;simp[cF,Na,x0,x1,x2,y0,y1,y2,k hr.1 hx.1,k hr.2.1 hx.2.1,k hr.2.2 hx.2.2,h p _ hp];rfl
 have g:∀ r,cG Z [si p,sh (DP t q a b c),sh (Am q' x),Af] 3 DQ r=.ok Aa:=λ_=>rfl
 have cp:Ce (cG Z [si p,sh (DP t q a b c),sh (Am q' x),Af] 3 DQ) (cF Z [si p,sh (DP t q a b c),sh (Am q' x),Af] 3 Na) [Am q a,Am q b,Am q c]=.ok [.int (AG a x%p),.int (AG b x%p),.int (AG c x%p)]:=by
  simp[Ce,g,key a ha,key b hb,key c hc]
 simp[P9,Df.run,BG,cO,cp];rfl
noncomputable def crs(a b:R3):R3:=(a.2.1*b.2.2-a.2.2*b.2.1,a.2.2*b.1-a.1*b.2.2,a.1*b.2.1-a.2.1*b.1)
theorem VT:∀ xs ys:Ac Ae,eqDs (ds xs) (ds ys)=decide (xs=ys)
 |[],[]=>rfl
 |[],_::_=>rfl
 |_::_,[]=>rfl
 |x::xs,y::ys=>by
  show ((x==y)&&eqDs (ds xs) (ds ys))=_;rw[VT xs ys,DL];simp
theorem Jv(a b:R3):eqD (Am Aa a) (Am Aa b)=decide (a=b):=by
 show eqDs (ds [a.1,a.2.1,a.2.2]) (ds [b.1,b.2.1,b.2.2])=_;rw[VT,DL];simp only[Yc,Ht,A2];exact⟨λ⟨h1,h2,h3⟩=>by obtain⟨a1,a2,a3⟩:=a;obtain⟨b1,b2,b3⟩:=b;simp at h1 h2 h3;rw[h1,h2,h3],λh=>by rw[h];exact⟨rfl,rfl,rfl⟩⟩
def Wg(Z:Gam):Prop:=∀ a b:R3,B3 a->B3 b->a≠b->Z.F 23 [Am Aa a,Am Aa b]=.ok (Am Aa (crs a b))
noncomputable def Pb:Df:=⟨1,Ad,(.cons (.ret (.tup (.cons (.call 23 (.cons (.idx (.var 0) (.int 1)) (.cons (.idx (.var 0) (.int 2)) .nil))) (.cons (.call 23 (.cons (.idx (.var 0) (.int 2)) (.cons (.idx (.var 0) (.int 0)) .nil))) (.cons (.call 23 (.cons (.idx (.var 0) (.int 0)) (.cons (.idx (.var 0) (.int 1)) .nil))) .nil))))) .nil)⟩
def VR(Z:Gam):Prop:=∀ a b c:R3,B3 a->B3 b->B3 c->a≠b->b≠c->c≠a->Z.F 98 [DP Aa Aa a b c]=.ok (DP Aa Aa (crs b c) (crs c a) (crs a b))
theorem qT(h:Wg Z)(a b c:R3)(ha:B3 a)(hb:B3 b)(hc:B3 c)(n1:a≠b)(n2:b≠c)(n3:c≠a):Pb.run Z [DP Aa Aa a b c]=.ok (DP Aa Aa (crs b c) (crs c a) (crs a b)):=by
 obtain⟨r0,r1,r2⟩:=Sh Aa Aa a b c;simp[Pb,Df.run,BG,r0,r1,r2,h b c hb hc n2,h c a hc ha n3,h a b ha hb n1];rfl
def Oe(Z:Gam):Prop:=∀(p:Ae)(t q:Aj)(a b c:R3),P4 p->B3 a->B3 b->B3 c->Aq a b c%p≠0->∀ l u,Bg p (nine a b c)=Ab l->FR p l u->Z.F 78 [.int p,DP t q a b c]=.ok (Ck (fmR p u a) (fmR p u b) (fmR p u c))
theorem yL(hm:HH Z)(hf:NM Z)(p:Ae)(t q:Aj)(a b c:R3)(hp:P4 p)(ha:B3 a)(hb:B3 b)(hc:B3 c)(z:Aq a b c%p≠0)(l u:Ae)(e:Bg p (nine a b c)=Ab l)(it:FR p l u):PJ.run Z [.int p,DP t q a b c]=.ok (Ck (fmR p u a) (fmR p u b) (fmR p u c)):=by
 obtain⟨r0,r1,r2⟩:=Sh t q a b c;have m:=hm p q a b c hp.pos ha hb hc;have f:=hf p Ad (nine a b c) l u hp e it;rw[rS]at f;have f':Z.F 17 [.int p,.lst (ds (nine a b c))]=.ok (.tup (ds (nine (fmR p u a) (fmR p u b) (fmR p u c)))):=f;obtain⟨x1,x2⟩:=kW a b c;obtain⟨y1,y2,y3⟩:=dR (fmR p u a) (fmR p u b) (fmR p u c);simp[PJ,Df.run,BG,r0,r1,r2,m,z,ak,x1,x2,f',y1,y2,y3,slE];rfl
noncomputable def Pp:Df:=⟨2,Ad,(.cons (.ret (.call 78 (.cons (.var 0) (.cons (.call 104 (.cons (.call 98 (.cons (.var 1) .nil)) .nil)) .nil)))) .nil)⟩
noncomputable def bk0(a b c:R3):R3:=BA (crs b c) (crs c a) (crs a b)
noncomputable def bk1(a b c:R3):R3:=By (crs b c) (crs c a) (crs a b)
noncomputable def bk2(a b c:R3):R3:=Bx (crs b c) (crs c a) (crs a b)
def Rn(Z:Gam):Prop:=∀(p:Ae)(a b c:R3),P4 p->In3 p a->In3 p b->In3 p c->Aq a b c%p≠0->∀ l u,Bg p (nine (bk0 a b c) (bk1 a b c) (bk2 a b c))=Ab l->FR p l u->Z.F 106 [.int p,Ck a b c]=.ok (Ck (fmR p u (bk0 a b c)) (fmR p u (bk1 a b c)) (fmR p u (bk2 a b c)))
theorem J6{x:Ae}(hp:P4 p)(h0:0<=x)(h1:x<p):Bd 10 x:=by
 unfold Bd;have:=hp.hi;omega
theorem Bd.mono{x:Ae}(h:Bd m x)(hm:m<=n):Bd n x:=AN h (GZ (by decide) hm)
def Bn(n:Ag)(a:R3):Prop:=Bd n a.1/\Bd n a.2.1/\Bd n a.2.2
theorem Bn.b3(h:Bn n a)(hn:n<=300):B3 a:=⟨h.1.mono hn,h.2.1.mono hn,h.2.2.mono hn⟩
theorem CY(hp:P4 p)(h:In3 p a):Bn 10 a:=⟨J6 hp h.1.1 h.1.2,J6 hp h.2.1.1 h.2.1.2,J6 hp h.2.2.1 h.2.2.2⟩
theorem RK{a b:R3}(ha:Bn n a)(hb:Bn n b):Bn (n+n+1) (crs a b):=
 ⟨(ha.2.1.mul hb.2.2).sub (ha.2.2.mul hb.2.1),(ha.2.2.mul hb.1).sub (ha.1.mul hb.2.2),(ha.1.mul hb.2.1).sub (ha.2.1.mul hb.1)⟩
theorem RM{a b c:R3}(ha:Bn n a)(hb:Bn n b)(hc:Bn n c):Bn n (BA a b c)/\Bn n (By a b c)/\Bn n (Bx a b c):=⟨⟨ha.1,hb.1,hc.1⟩,⟨ha.2.1,hb.2.1,hc.2.1⟩,⟨ha.2.2,hb.2.2,hc.2.2⟩⟩
theorem ck{a b c:R3}(z:Aq a b c%p≠0):a≠b/\b≠c/\c≠a:=by
 refine⟨λe=>z ?_,λe=>z ?_,λe=>z ?_⟩
 .subst e;rw[show Aq a a c=0 by unfold Aq det;grind,Bj]
 .subst e;rw[show Aq a b b=0 by unfold Aq det;grind,Bj]
 .subst e;rw[show Aq c b c=0 by unfold Aq det;grind,Bj]
theorem Ri(a b c:R3):Aq (bk0 a b c) (bk1 a b c) (bk2 a b c)=Aq a b c*Aq a b c:=by
 unfold Aq det bk0 bk1 bk2 BA By Bx crs;grind
theorem xH(h1:VR Z)(h2:MH Z)(h3:Oe Z)(p:Ae)(a b c:R3)(hp:P4 p)(ha:In3 p a)(hb:In3 p b)(hc:In3 p c)(z:Aq a b c%p≠0)(l u:Ae)(e:Bg p (nine (bk0 a b c) (bk1 a b c) (bk2 a b c))=Ab l)(it:FR p l u):Pp.run Z [.int p,Ck a b c]=.ok (Ck (fmR p u (bk0 a b c)) (fmR p u (bk1 a b c)) (fmR p u (bk2 a b c))):=by
 have ba:=CY hp ha;have bb:=CY hp hb;have bc:=CY hp hc;obtain⟨n1,n2,n3⟩:=ck z;have e1:Z.F 98 [Ck a b c]=.ok (DP Aa Aa (crs b c) (crs c a) (crs a b)):=h1 a b c (ba.b3 (by decide)) (bb.b3 (by decide)) (bc.b3 (by decide)) n1 n2 n3
 have e2:=h2 Aa Aa (crs b c) (crs c a) (crs a b);obtain⟨c0,c1,c2⟩:=RM (RK bb bc) (RK bc ba) (RK ba bb);have z2:Aq (bk0 a b c) (bk1 a b c) (bk2 a b c)%p≠0:=by rw[Ri];exact Ct hp z z
 have e3:Z.F 78 [.int p,DP Aa Aa (BA (crs b c) (crs c a) (crs a b)) (By (crs b c) (crs c a) (crs a b)) (Bx (crs b c) (crs c a) (crs a b))]=.ok (Ck (fmR p u (bk0 a b c)) (fmR p u (bk1 a b c)) (fmR p u (bk2 a b c))):=h3 p Aa Aa _ _ _ hp (c0.b3 (by decide)) (c1.b3 (by decide)) (c2.b3 (by decide)) z2 l u e it
 simp[Pp,Df.run,BG,e1,e2,e3]
noncomputable def mlR(p:Ae)(x a b c:R3):R3:=(AG (BA a b c) x%p,AG (By a b c) x%p,AG (Bx a b c) x%p)
noncomputable def Nm:E:=(.call 91 (.cons (.var 0) (.cons (.var 3) (.cons (.var 4) .nil))))
noncomputable def QM:Df:=⟨5,Ad,(.cons (.asg 3 Ad (.call 104 (.cons (.var 2) .nil))) (.cons (.ret (.call 78 (.cons (.var 0) (.cons (.comp Nm 4 (.e (.var 1)) DQ) .nil)))) .nil))⟩
def Wh(Z:Gam):Prop:=∀(p:Ae)(x y z a b c:R3),P4 p->In3 p x->In3 p y->In3 p z->In3 p a->In3 p b->In3 p c->Aq (mlR p x a b c) (mlR p y a b c) (mlR p z a b c)%p≠0->∀ l u,Bg p (nine (mlR p x a b c) (mlR p y a b c) (mlR p z a b c))=Ab l->FR p l u ->
 Z.F 105 [.int p,Ck x y z,Ck a b c]=.ok (Ck (fmR p u (mlR p x a b c)) (fmR p u (mlR p y a b c)) (fmR p u (mlR p z a b c)))
theorem RS(hp:0<p)(x a b c:R3):In3 p (mlR p x a b c):=⟨⟨A3 _ (by omega),AX _ hp⟩,⟨A3 _ (by omega),AX _ hp⟩,⟨A3 _ (by omega),AX _ hp⟩⟩
theorem qV(h2:MH Z)(hs:Q9 Z)(h3:Oe Z)(p:Ae)(x y z a b c:R3)(hp:P4 p)(hx:In3 p x)(hy:In3 p y)(hz:In3 p z)(ha:In3 p a)(hb:In3 p b)(hc:In3 p c)(nz:Aq (mlR p x a b c) (mlR p y a b c) (mlR p z a b c)%p≠0)(l u:Ae)(e:Bg p (nine (mlR p x a b c) (mlR p y a b c) (mlR p z a b c))=Ab l)(it:FR p l u):QM.run Z [.int p,Ck x y z,Ck a b c]=.ok (Ck (fmR p u (mlR p x a b c)) (fmR p u (mlR p y a b c)) (fmR p u (mlR p z a b c))):=by
 have p0:=hp.pos;have e1:Z.F 104 [Ck a b c]=.ok (DP Aa Aa (BA a b c) (By a b c) (Bx a b c)):=h2 Aa Aa a b c;obtain⟨c0,c1,c2⟩:=RM (CY hp ha) (CY hp hb) (CY hp hc);have es:∀ r:R3,In3 p r->Z.F 91 [.int p,DP Aa Aa (BA a b c) (By a b c) (Bx a b c),Am Aa r]=.ok (Am Aa (mlR p r a b c)):=λr hr=>hs p Aa Aa Aa _ _ _ r p0 (c0.b3 (by decide)) (c1.b3 (by decide)) (c2.b3 (by decide)) ((CY hp hr).b3 (by decide))
 have key:∀ r:R3,In3 p r->cF Z [si p,sh (Ck x y z),sh (Ck a b c),sh (DP Aa Aa (BA a b c) (By a b c) (Bx a b c)),Af] 4 Nm (Am Aa r)=.ok (Am Aa (mlR p r a b c)):=λr hr=>by
  simp[cF,Nm,es r hr]
 have g:∀ r,cG Z [si p,sh (Ck x y z),sh (Ck a b c),sh (DP Aa Aa (BA a b c) (By a b c) (Bx a b c)),Af] 4 DQ r=.ok Aa:=λ_=>rfl
 have sq:Ci (Ck x y z)=.ok [Am Aa x,Am Aa y,Am Aa z]:=rfl;have cp:Ce (cG Z [si p,sh (Ck x y z),sh (Ck a b c),sh (DP Aa Aa (BA a b c) (By a b c) (Bx a b c)),Af] 4 DQ) (cF Z [si p,sh (Ck x y z),sh (Ck a b c),sh (DP Aa Aa (BA a b c) (By a b c) (Bx a b c)),Af] 4 Nm) [Am Aa x,Am Aa y,Am Aa z]=.ok [Am Aa (mlR p x a b c),Am Aa (mlR p y a b c),Am Aa (mlR p z a b c)]:=by
  simp[Ce,g,key x hx,key y hy,key z hz]
 have e3:Z.F 78 [.int p,.lst [Am Aa (mlR p x a b c),Am Aa (mlR p y a b c),Am Aa (mlR p z a b c)]]=.ok (Ck (fmR p u (mlR p x a b c)) (fmR p u (mlR p y a b c)) (fmR p u (mlR p z a b c))):=
  h3 p Ad Aa _ _ _ hp ((CY hp (RS p0 x a b c)).b3 (by decide)) ((CY hp (RS p0 y a b c)).b3 (by decide)) ((CY hp (RS p0 z a b c)).b3 (by decide)) nz l u e it
 simp[QM,Df.run,BG,e1,sq,cp,e3]
noncomputable def PN:E:=(.bin .Mult (.var 0) (.var 2))
noncomputable def Qk:Df:=⟨3,Ad,(.cons (.ret (.comp PN 2 (.e (.var 1)) DQ)) .nil)⟩
def kX(Z:Gam):Prop:=∀(k:Ae)(a:R3),0<=k->k<100->Z.F 110 [.int k,Am Aa a]=.ok (Am Ad (k*a.1,k*a.2.1,k*a.2.2))
theorem jU(Z:Gam)(k:Ae)(a:R3)(h0:0<=k)(h1:k<100):Qk.run Z [.int k,Am Aa a]=.ok (Am Ad (k*a.1,k*a.2.1,k*a.2.2)):=by
 have m:∀ x,F9 k x=Aa:=λx=>LA (by omega) (by omega)
 have key:∀ x:Ae,cF Z [si k,sh (Am Aa a),Af] 2 PN (.int x)=.ok (.int (k*x)):=λx=>by
  simp[cF,PN,m]
 have g:∀ x,cG Z [si k,sh (Am Aa a),Af] 2 DQ x=.ok Aa:=λ_=>rfl
 simp[Qk,Df.run,BG,NZ,Ce,g,key];rfl
noncomputable def E4(a b c d:R3):D:=.lst [Am Aa a,Am Aa b,Am Aa c,Am Aa d]
noncomputable def Bv(k:Ae)(a:R3):R3:=(k*a.1,k*a.2.1,k*a.2.2)
theorem sR(a b c d:R3):CJ (E4 a b c d) (.int 0)=.ok (Am Aa a)/\CJ (E4 a b c d) (.int 1)=.ok (Am Aa b)/\CJ (E4 a b c d) (.int 2)=.ok (Am Aa c)/\CJ (E4 a b c d) (.int 3)=.ok (Am Aa d):=⟨rfl,rfl,rfl,rfl⟩
noncomputable def Pv:Df:=⟨3,Ad,(.cons (.asg 2 Ad (.tup (.cons (.call 110 (.cons (.call 61 (.cons (.var 0) (.cons (.idx (.var 1) (.int 3)) (.cons (.idx (.var 1) (.int 1)) (.cons (.idx (.var 1) (.int 2)) .nil))))) (.cons (.idx (.var 1) (.int 0)) .nil))) (.cons (.call 110 (.cons (.call 61 (.cons (.var 0) (.cons (.idx (.var 1) (.int 0)) (.cons (.idx (.var 1) (.int 3)) (.cons (.idx (.var 1) (.int 2)) .nil))))) (.cons (.idx (.var 1) (.int 1)) .nil))) (.cons (.call 110 (.cons (.call 61 (.cons (.var 0) (.cons (.idx (.var 1) (.int 0)) (.cons (.idx (.var 1) (.int 1)) (.cons (.idx (.var 1) (.int 3)) .nil))))) (.cons (.idx (.var 1) (.int 2)) .nil))) .nil))))) (.cons (.ret (.call 78 (.cons (.var 0) (.cons (.call 104 (.cons (.var 2) .nil)) .nil)))) .nil))⟩
noncomputable def fk0(p:Ae)(a b c d:R3):Ae:=Aq d b c%p
noncomputable def fk1(p:Ae)(a b c d:R3):Ae:=Aq a d c%p
noncomputable def fk2(p:Ae)(a b c d:R3):Ae:=Aq a b d%p
noncomputable def fs0(p:Ae)(a b c d:R3):R3:=Bv (fk0 p a b c d) a
noncomputable def fs1(p:Ae)(a b c d:R3):R3:=Bv (fk1 p a b c d) b
noncomputable def fs2(p:Ae)(a b c d:R3):R3:=Bv (fk2 p a b c d) c
noncomputable def fr0(p:Ae)(a b c d:R3):R3:=BA (fs0 p a b c d) (fs1 p a b c d) (fs2 p a b c d)
noncomputable def fr1(p:Ae)(a b c d:R3):R3:=By (fs0 p a b c d) (fs1 p a b c d) (fs2 p a b c d)
noncomputable def fr2(p:Ae)(a b c d:R3):R3:=Bx (fs0 p a b c d) (fs1 p a b c d) (fs2 p a b c d)
def Tp(Z:Gam):Prop:=∀(p:Ae)(a b c d:R3),P4 p->In3 p a->In3 p b->In3 p c->In3 p d->Aq (fr0 p a b c d) (fr1 p a b c d) (fr2 p a b c d)%p≠0->∀ l u,Bg p (nine (fr0 p a b c d) (fr1 p a b c d) (fr2 p a b c d))=Ab l->FR p l u ->
 Z.F 111 [.int p,E4 a b c d]=.ok (Ck (fmR p u (fr0 p a b c d)) (fmR p u (fr1 p a b c d)) (fmR p u (fr2 p a b c d)))
theorem Sg(hk:Bd n k)(ha:Bn m a):Bn (n+m) (Bv k a):=⟨hk.mul ha.1,hk.mul ha.2.1,hk.mul ha.2.2⟩
theorem cS(hm:HH Z)(hs:kX Z)(h2:MH Z)(h3:Oe Z)(p:Ae)(a b c d:R3)(hp:P4 p)(ha:In3 p a)(hb:In3 p b)(hc:In3 p c)(hd:In3 p d)(z:Aq (fr0 p a b c d) (fr1 p a b c d) (fr2 p a b c d)%p≠0)(l u:Ae)(e:Bg p (nine (fr0 p a b c d) (fr1 p a b c d) (fr2 p a b c d))=Ab l)(it:FR p l u):Pv.run Z [.int p,E4 a b c d]=.ok (Ck (fmR p u (fr0 p a b c d)) (fmR p u (fr1 p a b c d)) (fmR p u (fr2 p a b c d))):=by
 have p0:=hp.pos;have ph:=hp.hi;have ba:=(CY hp ha).b3 (by decide)
 have bb:=(CY hp hb).b3 (by decide)
 have bc:=(CY hp hc).b3 (by decide)
 have bd:=(CY hp hd).b3 (by decide)
 obtain⟨x0,x1,x2,x3⟩:=sR a b c d;have m0:=hm p Aa d b c p0 bd bb bc;have m1:=hm p Aa a d c p0 ba bd bc;have m2:=hm p Aa a b d p0 ba bb bd;have k0:0<=Aq d b c%p/\Aq d b c%p<p:=⟨A3 _ (by omega),AX _ p0⟩
 have k1:0<=Aq a d c%p/\Aq a d c%p<p:=⟨A3 _ (by omega),AX _ p0⟩
 have k2:0<=Aq a b d%p/\Aq a b d%p<p:=⟨A3 _ (by omega),AX _ p0⟩
 have s0:Z.F 110 [.int (Aq d b c%p),Am Aa a]=.ok (Am Ad (Bv (Aq d b c%p) a)):=hs (Aq d b c%p) a k0.1 (by omega)
 have s1:Z.F 110 [.int (Aq a d c%p),Am Aa b]=.ok (Am Ad (Bv (Aq a d c%p) b)):=hs (Aq a d c%p) b k1.1 (by omega)
 have s2:Z.F 110 [.int (Aq a b d%p),Am Aa c]=.ok (Am Ad (Bv (Aq a b d%p) c)):=hs (Aq a b d%p) c k2.1 (by omega)
 have e2:Z.F 104 [.tup [Am Ad (Bv (Aq d b c%p) a),Am Ad (Bv (Aq a d c%p) b),Am Ad (Bv (Aq a b d%p) c)]]=.ok (DP Aa Aa (fr0 p a b c d) (fr1 p a b c d) (fr2 p a b c d)):=h2 Aa Ad _ _ _;obtain⟨c0,c1,c2⟩:=RM (Sg (J6 hp k0.1 k0.2) (CY hp ha)) (Sg (J6 hp k1.1 k1.2) (CY hp hb)) (Sg (J6 hp k2.1 k2.2) (CY hp hc));have e3:=h3 p Aa Aa (fr0 p a b c d) (fr1 p a b c d) (fr2 p a b c d) hp (c0.b3 (by decide)) (c1.b3 (by decide)) (c2.b3 (by decide)) z l u e it
 simp[Pv,Df.run,BG,x0,x1,x2,x3,m0,m1,m2,s0,s1,s2,e2,e3]
noncomputable def JX:Ss:=(.cons (.ife (.cmp .Eq (.call 61 (.cons (.var 0) (.cons (.var 3) (.cons (.idx (.var 1) (.var 4)) (.cons (.idx (.var 1) (.var 5)) .nil))))) (.int 0)) (.cons (.ret (.tup (.cons (.var 3) (.cons (.idx (.var 1) (.var 4)) (.cons (.idx (.var 1) (.var 5)) .nil))))) .nil) .nil) .nil)
noncomputable def Kv:Ss:=(.cons (.fors 5 (.rng2 (.bin .Add (.var 4) (.int 1)) (.bi .len (.cons (.var 1) .nil))) JX) .nil)
noncomputable def Ij:Ss:=(.cons (.fors 4 (.rng2 (.bin .Add (.var 2) (.int 1)) (.bi .len (.cons (.var 1) .nil))) Kv) .nil)
noncomputable def Lf:Df:=⟨6,Ad,(.cons (.forT [2,3] (.enm (.var 1)) Ij) (.cons (.ret .non) .nil))⟩
theorem jY(p:Ae)(a b c d:D){m0 m1 m2 m3:Ae}(h0:Z.F 61 [.int p,a,b,c]=.ok (.int m0))(h1:Z.F 61 [.int p,a,b,d]=.ok (.int m1))(h2:Z.F 61 [.int p,a,c,d]=.ok (.int m2))(h3:Z.F 61 [.int p,b,c,d]=.ok (.int m3))(n0:m0≠0)(n1:m1≠0)(n2:m2≠0)(n3:m3≠0):Lf.run Z [.int p,.lst [a,b,c,d]]=.ok .non:=by
 have x0:EJ [a,b,c,d] 0=.ok a:=rfl;have x1:EJ [a,b,c,d] 1=.ok b:=rfl;have x2:EJ [a,b,c,d] 2=.ok c:=rfl;have x3:EJ [a,b,c,d] 3=.ok d:=rfl;have r14:DJ 1 4=.ok [.int 1,.int 2,.int 3]:=rfl;have r24:DJ 2 4=.ok [.int 2,.int 3]:=rfl;have r34:DJ 3 4=.ok [.int 3]:=rfl;have r44:DJ 4 4=.ok []:=rfl;simp[Lf,Df.run,BG,EK,CG,Br,D0,JX,Kv,Ij,F8,x0,x1,x2,x3,r14,r24,r34,r44,h0,h1,h2,h3,n0,n1,n2,n3]
def K0(p:Ae)(a b c d:R3):Prop:=Aq a b c%p≠0/\Aq a b d%p≠0/\Aq a c d%p≠0/\Aq b c d%p≠0
def XM(Z:Gam):Prop:=∀(p:Ae)(a b c d:R3),P4 p->In3 p a->In3 p b->In3 p c->In3 p d->K0 p a b c d->Z.F 109 [.int p,E4 a b c d]=.ok .non
def mT(Z:Gam):Prop:=∀(p:Ae)(a b c d:R3),P4 p->In3 p a->In3 p b->In3 p c->In3 p d->K0 p a b c d->Z.F 65 [.int p,E4 a b c d]=.ok .non
theorem qP(hm:HH Z)(p:Ae)(a b c d:R3)(hp:P4 p)(ha:In3 p a)(hb:In3 p b)(hc:In3 p c)(hd:In3 p d)(h:K0 p a b c d):Lf.run Z [.int p,E4 a b c d]=.ok .non:=by
 have p0:=hp.pos;have ba:=(CY hp ha).b3 (by decide)
 have bb:=(CY hp hb).b3 (by decide)
 have bc:=(CY hp hc).b3 (by decide)
 have bd:=(CY hp hd).b3 (by decide)
 exact jY p _ _ _ _ (hm p Aa a b c p0 ba bb bc) (hm p Aa a b d p0 ba bb bd) (hm p Aa a c d p0 ba bc bd) (hm p Aa b c d p0 bb bc bd) h.1 h.2.1 h.2.2.1 h.2.2.2
noncomputable def Mh:Df:=⟨3,Ad,(.cons (.ife (.or (.cons (.cmp .NotEq (.bi .len (.cons (.var 1) .nil)) (.int 4)) (.cons (.cmp .NotEq (.bi .len (.cons (.var 2) .nil)) (.int 4)) .nil))) (.cons (.rais 13 (.cons (.str (AQ "a frame has four points")) .nil)) .nil) .nil) (.cons (.expr (.call 109 (.cons (.var 0) (.cons (.var 1) .nil)))) (.cons (.expr (.call 109 (.cons (.var 0) (.cons (.var 2) .nil)))) (.cons (.ret (.call 105 (.cons (.var 0) (.cons (.call 111 (.cons (.var 0) (.cons (.var 2) .nil))) (.cons (.call 106 (.cons (.var 0) (.cons (.call 111 (.cons (.var 0) (.cons (.var 1) .nil))) .nil))) .nil))))) .nil))))⟩
theorem yR{a b c d a' b' c' d':R3}{M N B R:D}(e1:Z.F 109 [.int p,E4 a b c d]=.ok .non)(e2:Z.F 109 [.int p,E4 a' b' c' d']=.ok .non)(e3:Z.F 111 [.int p,E4 a' b' c' d']=.ok N)(e4:Z.F 111 [.int p,E4 a b c d]=.ok M)(e5:Z.F 106 [.int p,M]=.ok B)(e6:Z.F 105 [.int p,N,B]=.ok R):Mh.run Z [.int p,E4 a b c d,E4 a' b' c' d']=.ok R:=by
 have l1:biD .len [E4 a b c d]=.ok (.int 4):=rfl;have l2:biD .len [E4 a' b' c' d']=.ok (.int 4):=rfl;simp[Mh,Df.run,BG,l1,l2,e1,e2,e3,e4,e5,e6]
def CgR(p:Ae)(x y:R3):Prop:=Cg p x.1 y.1/\Cg p x.2.1 y.2.1/\Cg p x.2.2 y.2.2
section
variable{p:Ae}{a b c a' b' c' x y z x':R3}{k l m k':Ae}
theorem CgR.rfl:CgR p a a:=⟨Cg.rfl,Cg.rfl,Cg.rfl⟩
theorem CgR.of(h:a=b):CgR p a b:=by rw[h];exact CgR.rfl
theorem CgR.trans(h:CgR p a b)(g:CgR p b c):CgR p a c:=⟨h.1.trans g.1,h.2.1.trans g.2.1,h.2.2.trans g.2.2⟩
theorem CgR.symm(h:CgR p a b):CgR p b a:=⟨h.1.symm,h.2.1.symm,h.2.2.symm⟩
theorem CgR.sc(hk:Cg p k k')(h:CgR p a b):CgR p (Bv k a) (Bv k' b):=⟨hk.mul h.1,hk.mul h.2.1,hk.mul h.2.2⟩
theorem CgR.md(h:a=mdR p b):CgR p a b:=by rw[h];exact⟨Cg.md _root_.rfl,Cg.md _root_.rfl,Cg.md _root_.rfl⟩
theorem NI(ha:CgR p a a')(hb:CgR p b b')(hc:CgR p c c'):Cg p (Aq a b c) (Aq a' b' c'):=by
 unfold Aq det;exact Wt ha.1 ha.2.1 ha.2.2 hb.1 hb.2.1 hb.2.2 hc.1 hc.2.1 hc.2.2
theorem Hn(ha:CgR p a a')(hb:CgR p b b'):Cg p (AG a b) (AG a' b'):=((ha.1.mul hb.1).add (ha.2.1.mul hb.2.1)).add (ha.2.2.mul hb.2.2)
theorem cw(ha:CgR p a a')(hb:CgR p b b')(hc:CgR p c c'):CgR p (BA a b c) (BA a' b' c')/\CgR p (By a b c) (By a' b' c')/\CgR p (Bx a b c) (Bx a' b' c'):=⟨⟨ha.1,hb.1,hc.1⟩,⟨ha.2.1,hb.2.1,hc.2.1⟩,⟨ha.2.2,hb.2.2,hc.2.2⟩⟩
theorem cq(ha:CgR p a a')(hb:CgR p b b'):CgR p (crs a b) (crs a' b'):=
 ⟨(ha.2.1.mul hb.2.2).sub (ha.2.2.mul hb.2.1),(ha.2.2.mul hb.1).sub (ha.1.mul hb.2.2),(ha.1.mul hb.2.1).sub (ha.2.1.mul hb.1)⟩
theorem KP(p t:Ae)(a:R3):CgR p (fmR p t a) (Bv t a):=by
 have key:∀ x:Ae,Cg p (t*(x%p)%p) (t*x):=λx=>(Cg.md _root_.rfl).trans (Cg.rfl.mul (Cg.md _root_.rfl))
 exact⟨key _,key _,key _⟩
noncomputable def rm(a x y z:R3):R3:=(AG (BA x y z) a,AG (By x y z) a,AG (Bx x y z) a)
theorem RT(p:Ae)(a x y z:R3):CgR p (mlR p a x y z) (rm a x y z):=⟨Cg.md _root_.rfl,Cg.md _root_.rfl,Cg.md _root_.rfl⟩
noncomputable def ap(a b c x:R3):R3:=(AG a x,AG b x,AG c x)
theorem Wu(a b c x y z:R3):Aq (ap a b c x) (ap a b c y) (ap a b c z)=Aq a b c*Aq x y z:=by
 unfold Aq det ap AG;grind
theorem Oc(k l m:Ae)(x y z:R3):Aq (Bv k x) (Bv l y) (Bv m z)=k*l*m*Aq x y z:=by
 unfold Aq det Bv;grind
theorem Xh(k l:Ae)(x:R3):Bv k (Bv l x)=Bv (k*l) x:=by
 unfold Bv;simp only[GD]
theorem bH(a b c x:R3)(k:Ae):ap a b c (Bv k x)=Bv k (ap a b c x):=by
 unfold ap Bv AG;refine BP ?_ (BP ?_ ?_)<;>(simp only;grind)
theorem VU(x y z:R3):Aq (BA x y z) (By x y z) (Bx x y z)=Aq x y z:=by
 unfold Aq det BA By Bx;grind
end
theorem NH(a b:R3):AG a b=AG b a:=by unfold AG;grind
theorem RX{x y:Ae}(h:Cg p x y)(hy:y%p≠0):x%p≠0:=λz=>hy ((show x%p=y%p from h).symm.trans z)
theorem nz3{x y z:Ae}(hp:P4 p)(hx:x%p≠0)(hy:y%p≠0)(hz:z%p≠0):x*y*z%p≠0:=Ct hp (Ct hp hx hy) hz
section
variable{p:Ae}{a b c f0 f1 f2 f3 g0 g1 g2 g3:R3}{d0 d1 d2 d3:Ae}
theorem zU(p:Ae)(f0 f1 f2 f3:R3):Aq (fr0 p f0 f1 f2 f3) (fr1 p f0 f1 f2 f3) (fr2 p f0 f1 f2 f3)=fk0 p f0 f1 f2 f3*fk1 p f0 f1 f2 f3*fk2 p f0 f1 f2 f3*Aq f0 f1 f2:=by
 unfold fr0 fr1 fr2;rw[VU];unfold fs0 fs1 fs2;rw[Oc]
theorem RU{x:Ae}(h:x%p≠0):x%p%p≠0:=by rw[BD _ (CQ p)];exact h
theorem Xr(hp:P4 p)(h:K0 p f0 f1 f2 f3):Aq (fr0 p f0 f1 f2 f3) (fr1 p f0 f1 f2 f3) (fr2 p f0 f1 f2 f3)%p≠0:=by
 rw[zU];obtain⟨h1,h2,h3,h4⟩:=h;have k0:Aq f3 f1 f2%p≠0:=by rw[show Aq f3 f1 f2=Aq f1 f2 f3 by unfold Aq det;grind];exact h4
 have k1:Aq f0 f3 f2%p≠0:=by rw[show Aq f0 f3 f2=-1*Aq f0 f2 f3 by unfold Aq det;grind];exact Ct hp hp.m1 h3
 exact Ct hp (nz3 hp (RU k0) (RU k1) (RU h2)) h1
end
section
variable{Z:Gam}{ns:Ac Ae}
end
section
variable{Z:Gam}{ns:Ac Ae}{many s5 s6 s7 s8 s9 s0 s1 s2:Sl}{p:Ae}{a b c:R3}
end
noncomputable def Py:E:=(.call 1 (.cons (.var 0) (.cons (.var 3) .nil)))
noncomputable def PK:Df:=⟨4,Ad,(.cons (.asg 2 Ad (.comp Py 3 (.e (.var 1)) DQ)) (.cons (.ife (.no (.bi .any (.cons (.var 2) .nil))) (.cons (.rais 5 (.cons (.str (AQ "all six numbers have the rest 0")) .nil)) .nil) .nil) (.cons (.ret (.call 17 (.cons (.var 0) (.cons (.var 2) .nil)))) .nil)))⟩
noncomputable def M9:Df:=⟨1,Ad,(.cons (.ret (.call 122 (.cons (.var 0) (.cons (.tup (.cons (.int 0) (.cons (.int 1) (.cons (.int 0) (.cons (.int 0) (.cons (.un .USub (.int 1)) (.cons (.int 0) .nil))))))) .nil)))) .nil)⟩
theorem Vh:∀ xs:Ac Ae,Gv (ds xs)=.ok (xs.any λx=>x != 0)
 |[]=>rfl
 |x::xs=>by
  show (ES (.int x)).bind (λb=>(Gv (ds xs)).bind λc=>.ok (b||c))=_
  rw[Vh xs];rfl
theorem Uz{p:Ae}(hp:0<p):∀ xs:Ac Ae,((xs.map λx=>x%p).any λx=>x != 0)=(Bg p xs).isSome
 |[]=>rfl
 |x::xs=>by
  unfold Bg;rw[CC,GF];by_cases h:x%p=0
  .rw[AI h,h,Uz hp xs];rfl
  .rw[AT h];simp[h]
theorem Xz(xs:Ac Ae):(xs.map λx=>x%p).map (λx=>x%p)=xs.map λx=>x%p:=by
 rw[F1];refine FJ λx _=>?_
 show x%p%p=x%p;rw[BD _ (CQ p)]
def InL(p:Ae)(xs:Ac Ae):Prop:=∀ x∈xs,0<=x/\x<p
theorem InL.set(h:InL p xs)(k:Ag){v:Ae}(h0:0<=v)(h1:v<p):InL p (xs.set k v):=λx hx=>by
 rcases List.mem_or_eq_of_mem_set hx with z|rfl
 .exact h x z
 .exact⟨h0,h1⟩
section
variable{Z:Gam}{ns:Ac Ae}{p at_:Ae}
end
section
variable{Z:Gam}{ns:Ac Ae}{p t:Ae}
end
structure C6 where
 c0:Ae
 c1:Ae
 c2:Ae
 c3:Ae
 c4:Ae
 c5:Ae
variable{C:C6}
noncomputable def C6.l(C:C6):Ac Ae:=[C.c0,C.c1,C.c2,C.c3,C.c4,C.c5]
noncomputable def Cm(C:C6):D:=.tup (ds C.l)
noncomputable def vI(C:C6)(x:R3):Ae:=C.c0*x.1*x.1+C.c1*x.2.1*x.2.1+C.c2*x.2.2*x.2.2+(C.c3*x.1*x.2.1+C.c4*x.1*x.2.2+C.c5*x.2.1*x.2.2)
noncomputable def tw0(C:C6):R3:=(2*C.c0,C.c3,C.c4)
noncomputable def tw1(C:C6):R3:=(C.c3,2*C.c1,C.c5)
noncomputable def tw2(C:C6):R3:=(C.c4,C.c5,2*C.c2)
noncomputable def bI(C:C6)(x y:R3):Ae:=AG (ap (tw0 C) (tw1 C) (tw2 C) x) y
noncomputable def scC(k:Ae)(C:C6):C6:=⟨k*C.c0,k*C.c1,k*C.c2,k*C.c3,k*C.c4,k*C.c5⟩
def CgC(p:Ae)(C D:C6):Prop:=Cg p C.c0 D.c0/\Cg p C.c1 D.c1/\Cg p C.c2 D.c2/\Cg p C.c3 D.c3/\Cg p C.c4 D.c4/\Cg p C.c5 D.c5
noncomputable def pb(C:C6)(a b c:R3):C6:=⟨vI C (BA a b c),vI C (By a b c),vI C (Bx a b c),bI C (BA a b c) (By a b c),bI C (BA a b c) (Bx a b c),bI C (By a b c) (Bx a b c)⟩
section
variable{p:Ae}{C D E:C6}{a b c a' b' c' x y x' y':R3}{k k':Ae}
theorem C6.ext'(h0:C.c0=D.c0)(h1:C.c1=D.c1)(h2:C.c2=D.c2)(h3:C.c3=D.c3)(h4:C.c4=D.c4)(h5:C.c5=D.c5):C=D:=by
 cases C;cases D;simp_all
theorem CgC.rfl:CgC p C C:=⟨Cg.rfl,Cg.rfl,Cg.rfl,Cg.rfl,Cg.rfl,Cg.rfl⟩
theorem CgC.of(h:C=D):CgC p C D:=by rw[h];exact CgC.rfl
theorem CgC.symm(h:CgC p C D):CgC p D C:=⟨h.1.symm,h.2.1.symm,h.2.2.1.symm,h.2.2.2.1.symm,h.2.2.2.2.1.symm,h.2.2.2.2.2.symm⟩
theorem CgC.trans(h:CgC p C D)(g:CgC p D E):CgC p C E:=⟨h.1.trans g.1,h.2.1.trans g.2.1,h.2.2.1.trans g.2.2.1,h.2.2.2.1.trans g.2.2.2.1,h.2.2.2.2.1.trans g.2.2.2.2.1,h.2.2.2.2.2.trans g.2.2.2.2.2⟩
theorem CgC.sc(hk:Cg p k k')(h:CgC p C D):CgC p (scC k C) (scC k' D):=⟨hk.mul h.1,hk.mul h.2.1,hk.mul h.2.2.1,hk.mul h.2.2.2.1,hk.mul h.2.2.2.2.1,hk.mul h.2.2.2.2.2⟩
theorem Jw(h:CgC p C D)(hx:CgR p x x'):Cg p (vI C x) (vI D x'):=
 (((((h.1.mul hx.1).mul hx.1).add ((h.2.1.mul hx.2.1).mul hx.2.1)).add ((h.2.2.1.mul hx.2.2).mul hx.2.2))).add ((((h.2.2.2.1.mul hx.1).mul hx.2.1).add ((h.2.2.2.2.1.mul hx.1).mul hx.2.2)).add ((h.2.2.2.2.2.mul hx.2.1).mul hx.2.2))
theorem W9(h:CgC p C D):CgR p (tw0 C) (tw0 D)/\CgR p (tw1 C) (tw1 D)/\CgR p (tw2 C) (tw2 D):=
 ⟨⟨Cg.rfl.mul h.1,h.2.2.2.1,h.2.2.2.2.1⟩,⟨h.2.2.2.1,Cg.rfl.mul h.2.1,h.2.2.2.2.2⟩,⟨h.2.2.2.2.1,h.2.2.2.2.2,Cg.rfl.mul h.2.2.1⟩⟩
theorem bv(ha:CgR p a a')(hb:CgR p b b')(hc:CgR p c c')(hx:CgR p x x'):CgR p (ap a b c x) (ap a' b' c' x'):=⟨Hn ha hx,Hn hb hx,Hn hc hx⟩
theorem Oj(h:CgC p C D)(hx:CgR p x x')(hy:CgR p y y'):Cg p (bI C x y) (bI D x' y'):=
 let ⟨t0,t1,t2⟩:=W9 h
 Hn (bv t0 t1 t2 hx) hy
theorem MQ(h:CgC p C D)(ha:CgR p a a')(hb:CgR p b b')(hc:CgR p c c'):CgC p (pb C a b c) (pb D a' b' c'):=
 let ⟨s0,s1,s2⟩:=cw ha hb hc
 ⟨Jw h s0,Jw h s1,Jw h s2,Oj h s0 s1,Oj h s0 s2,Oj h s1 s2⟩
theorem KM(k l:Ae)(C:C6):scC k (scC l C)=scC (k*l) C:=by
 unfold scC;simp only[GD]
theorem J4(C:C6):scC 1 C=C:=by unfold scC;simp only[Du]
theorem Xa(k:Ae)(C:C6)(a b c:R3):pb (scC k C) a b c=scC k (pb C a b c):=by
 unfold pb scC vI bI ap tw0 tw1 tw2 AG;refine C6.ext' ?_ ?_ ?_ ?_ ?_ ?_<;>(simp only;grind)
theorem wW(k:Ae)(C:C6)(a b c:R3):pb C (Bv k a) (Bv k b) (Bv k c)=scC (k*k) (pb C a b c):=by
 unfold pb scC vI bI ap tw0 tw1 tw2 AG BA By Bx Bv;refine C6.ext' ?_ ?_ ?_ ?_ ?_ ?_<;>(simp only;grind)
theorem N8(C:C6)(x y z:R3)(k l m:Ae):vI C (k*x.1+l*y.1+m*z.1,k*x.2.1+l*y.2.1+m*z.2.1,k*x.2.2+l*y.2.2+m*z.2.2)=k*k*vI C x+l*l*vI C y+m*m*vI C z+(k*l*bI C x y+k*m*bI C x z+l*m*bI C y z):=by
 unfold vI bI ap tw0 tw1 tw2 AG;simp only;grind
theorem WA(C:C6)(x y z w:R3)(k l m:Ae):bI C (k*x.1+l*y.1+m*z.1,k*x.2.1+l*y.2.1+m*z.2.1,k*x.2.2+l*y.2.2+m*z.2.2) w=k*bI C x w+l*bI C y w+m*bI C z w:=by
 unfold bI ap tw0 tw1 tw2 AG;simp only;grind
theorem KI(C:C6)(x y:R3):bI C x y=bI C y x:=by
 unfold bI ap tw0 tw1 tw2 AG;simp only;grind
theorem LD(C:C6)(x:R3):bI C x x=2*vI C x:=by
 unfold vI bI ap tw0 tw1 tw2 AG;simp only;grind
theorem ko(v0 v1 v2 b0 b1 b2:Ae)(u:R3):vI ⟨v0,v1,v2,b0,b1,b2⟩ u=u.1*u.1*v0+u.2.1*u.2.1*v1+u.2.2*u.2.2*v2+(u.1*u.2.1*b0+u.1*u.2.2*b1+u.2.1*u.2.2*b2):=by
 unfold vI;simp only;grind
theorem kq(v0 v1 v2 b0 b1 b2:Ae)(u w:R3):bI ⟨v0,v1,v2,b0,b1,b2⟩ u w=u.1*(w.1*(2*v0)+w.2.1*b0+w.2.2*b1)+u.2.1*(w.1*b0+w.2.1*(2*v1)+w.2.2*b2)+u.2.2*(w.1*b1+w.2.1*b2+w.2.2*(2*v2)):=by
 unfold bI ap tw0 tw1 tw2 AG;simp only;grind
theorem dW(C:C6)(s0 s1 s2 u:R3):vI C (u.1*s0.1+u.2.1*s1.1+u.2.2*s2.1,u.1*s0.2.1+u.2.1*s1.2.1+u.2.2*s2.2.1,u.1*s0.2.2+u.2.1*s1.2.2+u.2.2*s2.2.2)=vI ⟨vI C s0,vI C s1,vI C s2,bI C s0 s1,bI C s0 s2,bI C s1 s2⟩ u:=by
 exact(N8 C s0 s1 s2 u.1 u.2.1 u.2.2).trans (ko _ _ _ _ _ _ u).symm
theorem Tk(C:C6)(s0 s1 s2 u w:R3):bI C (u.1*s0.1+u.2.1*s1.1+u.2.2*s2.1,u.1*s0.2.1+u.2.1*s1.2.1+u.2.2*s2.2.1,u.1*s0.2.2+u.2.1*s1.2.2+u.2.2*s2.2.2) (w.1*s0.1+w.2.1*s1.1+w.2.2*s2.1,w.1*s0.2.1+w.2.1*s1.2.1+w.2.2*s2.2.1,w.1*s0.2.2+w.2.1*s1.2.2+w.2.2*s2.2.2)=bI ⟨vI C s0,vI C s1,vI C s2,bI C s0 s1,bI C s0 s2,bI C s1 s2⟩ u w:=by
 have e:∀ s:R3,bI C s (w.1*s0.1+w.2.1*s1.1+w.2.2*s2.1,w.1*s0.2.1+w.2.1*s1.2.1+w.2.2*s2.2.1,w.1*s0.2.2+w.2.1*s1.2.2+w.2.2*s2.2.2)=w.1*bI C s0 s+w.2.1*bI C s1 s+w.2.2*bI C s2 s:=λs=>(KI C _ _).trans (WA C s0 s1 s2 s w.1 w.2.1 w.2.2)
 refine Eq.trans ?_ (kq _ _ _ _ _ _ u w).symm;rw[WA,e,e,e,LD C s0,LD C s1,LD C s2,KI C s1 s0,KI C s2 s0,KI C s2 s1]
theorem Xb(C:C6)(a b c x y z:R3):pb (pb C a b c) x y z=pb C (rm a x y z) (rm b x y z) (rm c x y z):=by
 have v:=λu=>(dW C (BA a b c) (By a b c) (Bx a b c) u).symm
 have w:=λu u'=>(Tk C (BA a b c) (By a b c) (Bx a b c) u u').symm
 exact C6.ext' (v (BA x y z)) (v (By x y z)) (v (Bx x y z)) (w (BA x y z) (By x y z)) (w (BA x y z) (Bx x y z)) (w (By x y z) (Bx x y z))
theorem Xc(C:C6)(k:Ae):pb C (k,0,0) (0,k,0) (0,0,k)=scC (k*k) C:=by
 unfold pb scC vI bI ap tw0 tw1 tw2 AG BA By Bx;refine C6.ext' ?_ ?_ ?_ ?_ ?_ ?_<;>(simp only;grind)
theorem WV(a b c:R3):rm a (bk0 a b c) (bk1 a b c) (bk2 a b c)=(Aq a b c,0,0)/\rm b (bk0 a b c) (bk1 a b c) (bk2 a b c)=(0,Aq a b c,0)/\rm c (bk0 a b c) (bk1 a b c) (bk2 a b c)=(0,0,Aq a b c):=by
 unfold rm AG bk0 bk1 bk2 BA By Bx crs Aq det;refine⟨?_,?_,?_⟩<;>refine BP ?_ (BP ?_ ?_)<;>(simp only;grind)
theorem ci(C:C6)(a b c:R3):Aq (tw0 (pb C a b c)) (tw1 (pb C a b c)) (tw2 (pb C a b c))=Aq a b c*Aq a b c*Aq (tw0 C) (tw1 C) (tw2 C):=by
 have row:∀ s:R3,(bI C s (BA a b c),bI C s (By a b c),bI C s (Bx a b c))=ap (BA a b c) (By a b c) (Bx a b c) (ap (tw0 C) (tw1 C) (tw2 C) s):=λs=>by
  unfold bI;rw[NH,NH _ (By a b c),NH _ (Bx a b c)];rfl
 have e0:tw0 (pb C a b c)=(bI C (BA a b c) (BA a b c),bI C (BA a b c) (By a b c),bI C (BA a b c) (Bx a b c)):=by rw[LD];rfl
 have e1:tw1 (pb C a b c)=(bI C (By a b c) (BA a b c),bI C (By a b c) (By a b c),bI C (By a b c) (Bx a b c)):=by rw[LD,KI C (By a b c) (BA a b c)];rfl
 have e2:tw2 (pb C a b c)=(bI C (Bx a b c) (BA a b c),bI C (Bx a b c) (By a b c),bI C (Bx a b c) (Bx a b c)):=by rw[LD,KI C (Bx a b c) (BA a b c),KI C (Bx a b c) (By a b c)];rfl
 rw[e0,e1,e2,row,row,row,Wu,Wu,VU];grind
theorem sK(k:Ae)(C:C6):Aq (tw0 (scC k C)) (tw1 (scC k C)) (tw2 (scC k C))=k*k*k*Aq (tw0 C) (tw1 C) (tw2 C):=by
 rw[<-Oc];unfold tw0 tw1 tw2 scC Bv;simp only[<-GD,Cq 2 k]
def PrC(p:Ae)(C D:C6):Prop:=∃ d,d%p≠0/\CgC p C (scC d D)
theorem PrC.rfl(hp:P4 p):PrC p C C:=⟨1,hp.o1,CgC.of (J4 C).symm⟩
theorem PrC.trans(hp:P4 p)(i:PrC p C D)(j:PrC p D E):PrC p C E:=by
 obtain⟨d,dz,e⟩:=i;obtain⟨d',dz',e'⟩:=j;exact⟨d*d',Ct hp dz dz',e.trans ((CgC.sc Cg.rfl e').trans (CgC.of (KM _ _ _)))⟩
theorem Rl(hp:P4 p)(dz:k%p≠0):∃ u,u%p≠0/\Cg p (u*k) 1:=by
 obtain⟨u,u1,u2,u3⟩:=Im hp dz;refine⟨u,by rw[AR (by omega) u2];omega,?_⟩
 show u*k%p=1%p;rw[Cq,u3,AR (by decide) (by have:=hp.lo;omega)]
theorem PrC.symm(hp:P4 p)(i:PrC p C D):PrC p D C:=by
 obtain⟨d,dz,e⟩:=i;obtain⟨u,uz,o⟩:=Rl hp dz;refine⟨u,uz,?_⟩;have q:=CgC.sc (k:=u) (k':=u) Cg.rfl e;rw[KM]at q;exact(q.trans ((CgC.sc o CgC.rfl).trans (CgC.of (J4 D)))).symm
theorem PrC.pb(i:PrC p C D):PrC p (OvC.pb C a b c) (OvC.pb D a b c):=by
 obtain⟨d,dz,e⟩:=i;exact⟨d,dz,(MQ e CgR.rfl CgR.rfl CgR.rfl).trans (CgC.of (Xa d D a b c))⟩
theorem PrC.tab(hp:P4 p)(kz:k%p≠0)(ha:CgR p a (Bv k a'))(hb:CgR p b (Bv k b'))(hc:CgR p c (Bv k c')):PrC p (OvC.pb C a b c) (OvC.pb C a' b' c'):=
 ⟨k*k,Ct hp kz kz,(MQ CgC.rfl ha hb hc).trans (CgC.of (wW k C a' b' c'))⟩
def InC(p:Ae)(C:C6):Prop:=∀ x∈C.l,0<=x/\x<p
theorem gE(hp:P4 p)(iC:InC p C)(iD:InC p D)(lC:Bg p C.l=Ab 1)(lD:Bg p D.l=Ab 1)(h:PrC p C D):C=D:=by
 obtain⟨d,dz,e⟩:=h;have p1:1<p:=by have:=hp.lo;omega
 have rs:C.l.map (λx=>x%p)=(D.l.map λx=>d*x).map (λx=>x%p):=by
  obtain⟨h0,h1,h2,h3,h4,h5⟩:=e;simp only[C6.l,CC,JJ];rw[show C.c0%p=d*D.c0%p from h0,show C.c1%p=d*D.c1%p from h1,show C.c2%p=d*D.c2%p from h2,show C.c3%p=d*D.c3%p from h3,show C.c4%p=d*D.c4%p from h4,show C.c5%p=d*D.c5%p from h5]
 have el:=Lq hp dz (f:=λx=>d*x) (λ_=>rfl) D.l
 rw[lD,<-Np rs,lC,FU,Cc,Et]at el;have o:Cg p d 1:=by
  show d%p=1%p;rw[<-el,AR (by decide) p1]
 obtain⟨h0,h1,h2,h3,h4,h5⟩:=e.trans ((CgC.sc o CgC.rfl).trans (CgC.of (J4 D)));have same:∀{u v:Ae},u∈C.l->v∈D.l->Cg p u v->u=v:=λhu hv huv=>by
  have:=show _%p=_%p from huv
  rwa [AR (iC _ hu).1 (iC _ hu).2,AR (iD _ hv).1 (iD _ hv).2]at this
 exact C6.ext' (same (by simp[C6.l]) (by simp[C6.l]) h0) (same (by simp[C6.l]) (by simp[C6.l]) h1) (same (by simp[C6.l]) (by simp[C6.l]) h2) (same (by simp[C6.l]) (by simp[C6.l]) h3) (same (by simp[C6.l]) (by simp[C6.l]) h4) (same (by simp[C6.l]) (by simp[C6.l]) h5)
theorem pT(hp:P4 p){l:Ae}(lC:Bg p C.l=Ab l)(z:Aq a b c%p≠0)(h:CgC p E (OvC.pb C a b c)):∃ l,Bg p E.l=Ab l:=by
 cases el:Bg p E.l with
 |some l=>exact⟨l,_root_.rfl⟩
 |none=>
  have hz:=Jr.mp el;have e0:CgC p E (scC 0 E):=by
   have k:∀ x∈E.l,Cg p x (0*x):=λx hx=>by show x%p=0*x%p;rw[hz x hx,Dv,Bj]
   exact⟨k _ (by simp[C6.l]),k _ (by simp[C6.l]),k _ (by simp[C6.l]),k _ (by simp[C6.l]),k _ (by simp[C6.l]),k _ (by simp[C6.l])⟩
  have q:CgC p (OvC.pb E (bk0 a b c) (bk1 a b c) (bk2 a b c)) (scC (Aq a b c*Aq a b c) C):=by
   refine(MQ h CgR.rfl CgR.rfl CgR.rfl).trans (CgC.of ?_);obtain⟨r0,r1,r2⟩:=WV a b c;rw[Xb,r0,r1,r2,Xc]
  have q0:CgC p (OvC.pb E (bk0 a b c) (bk1 a b c) (bk2 a b c)) (scC 0 (OvC.pb E (bk0 a b c) (bk1 a b c) (bk2 a b c))):=by
   have:=MQ e0 (CgR.rfl (a:=bk0 a b c)) (CgR.rfl (a:=bk1 a b c)) (CgR.rfl (a:=bk2 a b c))
   rwa [Xa]at this
  obtain⟨u,uz,o⟩:=Rl hp (Ct hp z z);have t:CgC p C (scC 0 (OvC.pb E (bk0 a b c) (bk1 a b c) (bk2 a b c))):=by
   have w:=CgC.sc (k:=u) (k':=u) Cg.rfl (q.symm.trans q0);rw[KM,KM,CD]at w;exact((CgC.of (J4 C).symm).trans (CgC.sc o.symm CgC.rfl)).trans w
  have z0:Bg p C.l=Af:=by
   refine Jr.mpr λx hx=>?_
   obtain⟨h0,h1,h2,h3,h4,h5⟩:=t;have k:∀{x y:Ae},Cg p x (0*y)->x%p=0:=λ{x y} h=>by rw[show x%p=_ from h,Dv,Bj]
   simp only[C6.l,At,AM,BH]at hx;rcases hx with rfl|rfl|rfl|rfl|rfl|rfl
   .exact k h0
   .exact k h1
   .exact k h2
   .exact k h3
   .exact k h4
   .exact k h5
  rw[z0]at lC;cases lC
end
noncomputable def MA:Df:=⟨5,Ad,(.cons (.asg 3 Ad (.bin .Add (.bin .Add (.bin .Mult (.bin .Mult (.idx (.var 1) (.int 0)) (.idx (.var 2) (.int 0))) (.idx (.var 2) (.int 0))) (.bin .Mult (.bin .Mult (.idx (.var 1) (.int 1)) (.idx (.var 2) (.int 1))) (.idx (.var 2) (.int 1)))) (.bin .Mult (.bin .Mult (.idx (.var 1) (.int 2)) (.idx (.var 2) (.int 2))) (.idx (.var 2) (.int 2))))) (.cons (.asg 4 Ad (.bin .Add (.bin .Add (.bin .Mult (.bin .Mult (.idx (.var 1) (.int 3)) (.idx (.var 2) (.int 0))) (.idx (.var 2) (.int 1))) (.bin .Mult (.bin .Mult (.idx (.var 1) (.int 4)) (.idx (.var 2) (.int 0))) (.idx (.var 2) (.int 2)))) (.bin .Mult (.bin .Mult (.idx (.var 1) (.int 5)) (.idx (.var 2) (.int 1))) (.idx (.var 2) (.int 2))))) (.cons (.ret (.call 1 (.cons (.var 0) (.cons (.bin .Add (.var 3) (.var 4)) .nil)))) .nil)))⟩
noncomputable def Ps:Df:=⟨2,Ad,(.cons (.ret (.tup (.cons (.tup (.cons (.call 1 (.cons (.var 0) (.cons (.bin .Mult (.int 2) (.idx (.var 1) (.int 0))) .nil))) (.cons (.idx (.var 1) (.int 3)) (.cons (.idx (.var 1) (.int 4)) .nil)))) (.cons (.tup (.cons (.idx (.var 1) (.int 3)) (.cons (.call 1 (.cons (.var 0) (.cons (.bin .Mult (.int 2) (.idx (.var 1) (.int 1))) .nil))) (.cons (.idx (.var 1) (.int 5)) .nil)))) (.cons (.tup (.cons (.idx (.var 1) (.int 4)) (.cons (.idx (.var 1) (.int 5)) (.cons (.call 1 (.cons (.var 0) (.cons (.bin .Mult (.int 2) (.idx (.var 1) (.int 2))) .nil))) .nil)))) .nil))))) .nil)⟩
noncomputable def QL:Df:=⟨5,Ad,(.cons (.asg 4 Ad (.call 91 (.cons (.var 0) (.cons (.call 131 (.cons (.var 0) (.cons (.var 1) .nil))) (.cons (.var 2) .nil))))) (.cons (.ret (.bin .Add (.bin .Add (.bin .Mult (.idx (.var 4) (.int 0)) (.idx (.var 3) (.int 0))) (.bin .Mult (.idx (.var 4) (.int 1)) (.idx (.var 3) (.int 1)))) (.bin .Mult (.idx (.var 4) (.int 2)) (.idx (.var 3) (.int 2))))) .nil))⟩
noncomputable def Nk:E:=(.call 126 (.cons (.var 0) (.cons (.var 1) (.cons (.var 6) .nil))))
noncomputable def NJ:Df:=⟨7,Ad,(.cons (.asg 3 Ad (.call 104 (.cons (.call 106 (.cons (.var 0) (.cons (.var 2) .nil))) .nil))) (.cons (.asg 4 Ad (.comp Nk 6 (.e (.var 3)) DQ)) (.cons (.asg 5 Ad (.lst (.cons (.call 132 (.cons (.var 0) (.cons (.var 1) (.cons (.idx (.var 3) (.int 0)) (.cons (.idx (.var 3) (.int 1)) .nil))))) (.cons (.call 132 (.cons (.var 0) (.cons (.var 1) (.cons (.idx (.var 3) (.int 0)) (.cons (.idx (.var 3) (.int 2)) .nil))))) (.cons (.call 132 (.cons (.var 0) (.cons (.var 1) (.cons (.idx (.var 3) (.int 1)) (.cons (.idx (.var 3) (.int 2)) .nil))))) .nil))))) (.cons (.ret (.call 122 (.cons (.var 0) (.cons (.bin .Add (.var 4) (.var 5)) .nil)))) .nil))))⟩
theorem ix6(C:C6):CJ (Cm C) (.int 0)=.ok (.int C.c0)/\CJ (Cm C) (.int 1)=.ok (.int C.c1)/\CJ (Cm C) (.int 2)=.ok (.int C.c2)/\CJ (Cm C) (.int 3)=.ok (.int C.c3)/\CJ (Cm C) (.int 4)=.ok (.int C.c4)/\CJ (Cm C) (.int 5)=.ok (.int C.c5):=⟨rfl,rfl,rfl,rfl,rfl,rfl⟩
structure BC (C:C6):Prop where
 b0:Bd 10 C.c0
 b1:Bd 10 C.c1
 b2:Bd 10 C.c2
 b3:Bd 10 C.c3
 b4:Bd 10 C.c4
 b5:Bd 10 C.c5
theorem InC.b(hp:P4 p)(h:InC p C):BC C:=by
 have k:∀ x∈C.l,Bd 10 x:=λx hx=>J6 hp (h x hx).1 (h x hx).2
 exact⟨k _ (by simp[C6.l]),k _ (by simp[C6.l]),k _ (by simp[C6.l]),k _ (by simp[C6.l]),k _ (by simp[C6.l]),k _ (by simp[C6.l])⟩
def QO(Z:Gam):Prop:=∀(p:Ae)(C:C6)(x:R3),P4 p->InC p C->In3 p x->Z.F 126 [.int p,Cm C,Am Aa x]=.ok (.int (vI C x%p))
theorem nE(hr:Io Z)(p:Ae)(C:C6)(x:R3)(hp:P4 p)(iC:InC p C)(ix:In3 p x):MA.run Z [.int p,Cm C,Am Aa x]=.ok (.int (vI C x%p)):=by
 obtain⟨i0,i1,i2,i3,i4,i5⟩:=ix6 C;obtain⟨x0,x1,x2⟩:=Fu Aa x;have bC:=iC.b hp;have bx:=CY hp ix;have k:∀ {u v},Bd 10 u->Bd 10 v->Fm u v=Aa:=λhu hv=>G8 hu hv (by decide) (by decide)
 have k2:∀ {u v w},Bd 10 u->Bd 10 v->Bd 10 w->Fm (u*v) w=Aa:=λhu hv hw=>G8 (hu.mul hv) hw (by decide) (by decide)
 simp[MA,Df.run,BG,i0,i1,i2,i3,i4,i5,x0,x1,x2,k bC.b0 bx.1,k bC.b1 bx.2.1,k bC.b2 bx.2.2,k bC.b3 bx.1,k bC.b4 bx.1,k bC.b5 bx.2.1,k2 bC.b0 bx.1 bx.1,k2 bC.b1 bx.2.1 bx.2.1,k2 bC.b2 bx.2.2 bx.2.2,k2 bC.b3 bx.1 bx.2.1,k2 bC.b4 bx.1 bx.2.2,k2 bC.b5 bx.2.1 bx.2.2,hr p _ hp.pos];rfl
noncomputable def t0(p:Ae)(C:C6):R3:=(2*C.c0%p,C.c3,C.c4)
noncomputable def t1(p:Ae)(C:C6):R3:=(C.c3,2*C.c1%p,C.c5)
noncomputable def t2(p:Ae)(C:C6):R3:=(C.c4,C.c5,2*C.c2%p)
theorem bS(hp:P4 p)(h:InC p C):In3 p (t0 p C)/\In3 p (t1 p C)/\In3 p (t2 p C):=by
 have p0:=hp.pos;have k:∀ x∈C.l,0<=x/\x<p:=h;have m:∀ x:Ae,0<=x%p/\x%p<p:=λx=>⟨A3 _ (by omega),AX _ p0⟩
 exact⟨⟨m _,k _ (by simp[C6.l,t0]),k _ (by simp[C6.l,t0])⟩,⟨k _ (by simp[C6.l,t1]),m _,k _ (by simp[C6.l,t1])⟩,⟨k _ (by simp[C6.l,t2]),k _ (by simp[C6.l,t2]),m _⟩⟩
theorem bT(p:Ae)(C:C6):CgR p (t0 p C) (tw0 C)/\CgR p (t1 p C) (tw1 C)/\CgR p (t2 p C) (tw2 C):=⟨⟨Cg.md rfl,Cg.rfl,Cg.rfl⟩,⟨Cg.rfl,Cg.md rfl,Cg.rfl⟩,⟨Cg.rfl,Cg.rfl,Cg.md rfl⟩⟩
def VN(Z:Gam):Prop:=∀(p:Ae)(C:C6),P4 p->Z.F 131 [.int p,Cm C]=.ok (Ck (t0 p C) (t1 p C) (t2 p C))
theorem qH(hr:Io Z)(p:Ae)(C:C6)(hp:P4 p):Ps.run Z [.int p,Cm C]=.ok (Ck (t0 p C) (t1 p C) (t2 p C)):=by
 obtain⟨i0,i1,i2,i3,i4,i5⟩:=ix6 C;have m22:∀ y,F9 2 y=Aa:=λy=>LA (by decide) (by decide)
 simp[Ps,Df.run,BG,i0,i1,i2,i3,i4,i5,m22,hr p _ hp.pos];rfl
noncomputable def mxI(p:Ae)(C:C6)(x y:R3):Ae:=AG (AG (t0 p C) x%p,AG (t1 p C) x%p,AG (t2 p C) x%p) y
theorem RC(p:Ae)(C:C6)(x y:R3):Cg p (mxI p C x y) (bI C x y):=by
 obtain⟨h0,h1,h2⟩:=bT p C;exact Hn ⟨(Cg.md rfl).trans (Hn h0 CgR.rfl),(Cg.md rfl).trans (Hn h1 CgR.rfl),(Cg.md rfl).trans (Hn h2 CgR.rfl)⟩ CgR.rfl
def Wi(Z:Gam):Prop:=∀(p:Ae)(C:C6)(x y:R3),P4 p->InC p C->In3 p x->In3 p y->Z.F 132 [.int p,Cm C,Am Aa x,Am Aa y]=.ok (.int (mxI p C x y))
theorem yS(ht:VN Z)(hs:Q9 Z)(p:Ae)(C:C6)(x y:R3)(hp:P4 p)(iC:InC p C)(ix:In3 p x)(iy:In3 p y):QL.run Z [.int p,Cm C,Am Aa x,Am Aa y]=.ok (.int (mxI p C x y)):=by
 have p0:=hp.pos;obtain⟨h0,h1,h2⟩:=bS hp iC;have e1:=ht p C hp;have e2:Z.F 91 [.int p,Ck (t0 p C) (t1 p C) (t2 p C),Am Aa x]=_:=hs p Aa Aa Aa (t0 p C) (t1 p C) (t2 p C) x p0 ((CY hp h0).b3 (by decide)) ((CY hp h1).b3 (by decide)) ((CY hp h2).b3 (by decide)) ((CY hp ix).b3 (by decide))
 have iw:In3 p (AG (t0 p C) x%p,AG (t1 p C) x%p,AG (t2 p C) x%p):=⟨⟨A3 _ (by omega),AX _ p0⟩,⟨A3 _ (by omega),AX _ p0⟩,⟨A3 _ (by omega),AX _ p0⟩⟩
 unfold mxI;generalize (AG (t0 p C) x%p,AG (t1 p C) x%p,AG (t2 p C) x%p)=w at *;obtain⟨x0,x1,x2⟩:=Fu Aa w;obtain⟨y0,y1,y2⟩:=Fu Aa y;have bw:=CY hp iw;have by_:=CY hp iy;have k:∀ {u v},Bd 10 u->Bd 10 v->Fm u v=Aa:=λhu hv=>G8 hu hv (by decide) (by decide)
 simp[QL,Df.run,BG,e1,e2,x0,x1,x2,y0,y1,y2,k bw.1 by_.1,k bw.2.1 by_.2.1,k bw.2.2 by_.2.2];rfl
def Oh(Z:Gam):Prop:=∀(p:Ae)(b:Aj)(xs:Ac Ae)(l t:Ae),P4 p->Bg p xs=Ab l->FR p l t->Z.F 122 [.int p,EL b xs]=.ok (.tup (ds (fmI p t xs)))
theorem xG(hr:Io Z)(hf:NM Z){b:Aj}{l t:Ae}(hp:P4 p)(e:Bg p xs=Ab l)(it:FR p l t):PK.run Z [.int p,EL b xs]=.ok (.tup (ds (fmI p t xs))):=by
 have p0:=hp.pos;have cp:Ce (cG Z [si p,sh (EL b xs),Af,Af] 3 DQ) (cF Z [si p,sh (EL b xs),Af,Af] 3 Py) (ds xs)=.ok (ds (xs.map λx=>x%p)):=by
  refine Nu xs λx _=>⟨rfl,?_⟩
  simp[cF,Py,hr p x p0]
 have an:=Vh (xs.map λx=>x%p)
 rw[Uz p0,e]at an;have le:Bg p (xs.map λx=>x%p)=Ab l:=by rw[Np (Xz xs)];exact e
 have f:=hf p Ad (xs.map λx=>x%p) l t hp le it
 rw[lJ (Xz xs)]at f;have f':Z.F 17 [.int p,.lst (ds (xs.map λx=>x%p))]=.ok (.tup (ds (fmI p t xs))):=f
 simp[PK,Df.run,BG,TW,cp,an,f']
theorem RO{E:C6}{l:Ae}(hp:P4 p)(el:Bg p E.l=Ab l):∃(t:Ae)(D:C6),FR p l t/\fmI p t E.l=D.l/\InC p D/\Bg p D.l=Ab 1/\PrC p D E:=by
 have p0:=hp.pos;obtain⟨lz,_,_⟩:=Jm p0 el;obtain⟨t,t1,t2,t3⟩:=Im hp lz;have tz:t%p≠0:=by rw[AR (by omega) t2];omega
 have ff:∀ x,(t*(x%p)%p)%p=t*x%p:=λx=>by rw[BD _ (CQ p),BV t (x%p) p,BD _ (CQ p),<-BV]
 have lv:=Lq hp tz (f:=λx=>t*(x%p)%p) ff E.l
 rw[el,FU,Cq,t3]at lv;have key:∀ x:Ae,Cg p (t*(x%p)%p) (t*x):=λx=>(Cg.md rfl).trans (Cg.rfl.mul (Cg.md rfl))
 refine⟨t,⟨t*(E.c0%p)%p,t*(E.c1%p)%p,t*(E.c2%p)%p,t*(E.c3%p)%p,t*(E.c4%p)%p,t*(E.c5%p)%p⟩,⟨t1,t2,t3⟩,rfl,λx hx=>?_,lv,t,tz,key _,key _,key _,key _,key _,key _⟩
 obtain⟨y,_,rfl⟩:=Fd.mp (show x∈E.l.map λx=>t*(x%p)%p from hx)
 exact⟨A3 _ (by omega),AX _ p0⟩
theorem qM(hb:Rn Z)(hc:MH Z)(hv:QO Z)(hm:Wi Z)(hf:Oh Z)(p:Ae)(C:C6)(a b c:R3)(iC:InC p C)(lC:Bg p C.l=Ab 1)(T:GoodR p a b c):∃ D:C6,InC p D/\Bg p D.l=Ab 1/\PrC p D (pb C (bk0 a b c) (bk1 a b c) (bk2 a b c))/\NJ.run Z [.int p,Cm C,Ck a b c]=.ok (Cm D):=by
 have hp:=T.p4;have p0:=hp.pos;have zB:Aq (bk0 a b c) (bk1 a b c) (bk2 a b c)%p≠0:=by rw[Ri];exact Ct hp T.nz T.nz
 obtain⟨l,el⟩:=Ml zB;obtain⟨u,u1,u2,u3⟩:=Im hp (Jm p0 el).1;have uz:u%p≠0:=by rw[AR (by omega) u2];omega
 have e1:=hb p a b c hp T.ia T.ib T.ic T.nz l u el ⟨u1,u2,u3⟩;have r0:=KP p u (bk0 a b c);have r1:=KP p u (bk1 a b c);have r2:=KP p u (bk2 a b c);have i0:=Gu p0 u (bk0 a b c);have i1:=Gu p0 u (bk1 a b c);have i2:=Gu p0 u (bk2 a b c);have zR:Aq (fmR p u (bk0 a b c)) (fmR p u (bk1 a b c)) (fmR p u (bk2 a b c))%p≠0:=RX ((NI r0 r1 r2).trans (Cg.of (Oc u u u _ _ _))) (Ct hp (nz3 hp uz uz uz) zB);have pr:PrC p (pb C (fmR p u (bk0 a b c)) (fmR p u (bk1 a b c)) (fmR p u (bk2 a b c))) (pb C (bk0 a b c) (bk1 a b c) (bk2 a b c)):=PrC.tab hp uz r0 r1 r2;generalize fmR p u (bk0 a b c)=x at *;generalize fmR p u (bk1 a b c)=y at *;generalize fmR p u (bk2 a b c)=z at *;have e2:Z.F 104 [Ck x y z]=.ok (Ck (BA x y z) (By x y z) (Bx x y z)):=hc Aa Aa x y z;have j0:In3 p (BA x y z):=⟨i0.1,i1.1,i2.1⟩;have j1:In3 p (By x y z):=⟨i0.2.1,i1.2.1,i2.2.1⟩;have j2:In3 p (Bx x y z):=⟨i0.2.2,i1.2.2,i2.2.2⟩;have m01:=hm p C _ _ hp iC j0 j1;have m02:=hm p C _ _ hp iC j0 j2;have m12:=hm p C _ _ hp iC j1 j2;have v0:=hv p C _ hp iC j0;have v1:=hv p C _ hp iC j1;have v2:=hv p C _ hp iC j2;have cg:CgC p ⟨vI C (BA x y z)%p,vI C (By x y z)%p,vI C (Bx x y z)%p,mxI p C (BA x y z) (By x y z),mxI p C (BA x y z) (Bx x y z),mxI p C (By x y z) (Bx x y z)⟩ (pb C x y z):=⟨Cg.md rfl,Cg.md rfl,Cg.md rfl,RC p C _ _,RC p C _ _,RC p C _ _⟩;obtain⟨l',el'⟩:=pT hp lC zR cg;obtain⟨t,D,it,eD,iD,lD,pD⟩:=RO hp el';have e3:=hf p Ad _ l' t hp el' it;rw[eD]at e3;refine⟨D,iD,lD,(pD.trans hp ⟨1,hp.o1,cg.trans (CgC.of (J4 _).symm)⟩).trans hp pr,?_⟩;generalize hX:(mxI p C (BA x y z) (By x y z))=M01 at *;generalize hY:(mxI p C (BA x y z) (Bx x y z))=M02 at *;generalize hZ:(mxI p C (By x y z) (Bx x y z))=M12 at *;generalize vI C (BA x y z)%p=V0 at *;generalize vI C (By x y z)%p=V1 at *;generalize vI C (Bx x y z)%p=V2 at *;have e3':Z.F 122 [.int p,.lst [.int V0,.int V1,.int V2,.int M01,.int M02,.int M12]]=.ok (Cm D):=e3;have key:∀(r:R3)(v:Ae),Z.F 126 [.int p,Cm C,Am Aa r]=.ok (.int v)->cF Z [si p,sh (Cm C),sh (Ck a b c),sh (Ck (BA x y z) (By x y z) (Bx x y z)),Af,Af,Af] 6 Nk (Am Aa r)=.ok (.int v):=λr v h=>by
  simp[cF,Nk,h]
 have gg:∀ r,cG Z [si p,sh (Cm C),sh (Ck a b c),sh (Ck (BA x y z) (By x y z) (Bx x y z)),Af,Af,Af] 6 DQ r=.ok Aa:=λ_=>rfl
 have cp:Ce (cG Z [si p,sh (Cm C),sh (Ck a b c),sh (Ck (BA x y z) (By x y z) (Bx x y z)),Af,Af,Af] 6 DQ) (cF Z [si p,sh (Cm C),sh (Ck a b c),sh (Ck (BA x y z) (By x y z) (Bx x y z)),Af,Af,Af] 6 Nk) [Am Aa (BA x y z),Am Aa (By x y z),Am Aa (Bx x y z)]=.ok [.int V0,.int V1,.int V2]:=by
  simp[Ce,gg,key _ _ v0,key _ _ v1,key _ _ v2]
 have sq:Ci (Ck (BA x y z) (By x y z) (Bx x y z))=.ok [Am Aa (BA x y z),Am Aa (By x y z),Am Aa (Bx x y z)]:=rfl;have k0:CJ (Ck (BA x y z) (By x y z) (Bx x y z)) (.int 0)=.ok (Am Aa (BA x y z)):=rfl;have k1:CJ (Ck (BA x y z) (By x y z) (Bx x y z)) (.int 1)=.ok (Am Aa (By x y z)):=rfl;have k2:CJ (Ck (BA x y z) (By x y z) (Bx x y z)) (.int 2)=.ok (Am Aa (Bx x y z)):=rfl;have ad:C4 .Add (.lst [.int V0,.int V1,.int V2]) (.lst [.int M01,.int M02,.int M12])=.ok (.lst [.int V0,.int V1,.int V2,.int M01,.int M02,.int M12]):=rfl;simp[NJ,Df.run,BG,e1,e2,cp,sq,k0,k1,k2,m01,m02,m12,ad,e3']
section
variable{Z:Gam}{ns:Ac Ae}{p at_:Ae}{φ:Ae->Ae}
end
structure Frm (p:Ae) (f0 f1 f2 f3:R3):Prop where
 i0:In3 p f0
 i1:In3 p f1
 i2:In3 p f2
 i3:In3 p f3
 gen:K0 p f0 f1 f2 f3
def Pr(p:Ae)(x y:R3):Prop:=∃ d,d%p≠0/\CgR p x (Bv d y)
section
variable{p:Ae}{a b c x y z f g h:R3}{k:Ae}
theorem QX(x:R3):Bv 1 x=x:=by unfold Bv;simp only[Du]
theorem Pr.rfl(hp:P4 p):Pr p x x:=⟨1,hp.o1,CgR.of (QX x).symm⟩
theorem Pr.trans(hp:P4 p)(i:Pr p x y)(j:Pr p y z):Pr p x z:=by
 obtain⟨d,dz,e⟩:=i;obtain⟨d',dz',e'⟩:=j;exact⟨d*d',Ct hp dz dz',e.trans ((CgR.sc Cg.rfl e').trans (CgR.of (Xh _ _ _)))⟩
theorem Pr.symm(hp:P4 p)(i:Pr p x y):Pr p y x:=by
 obtain⟨d,dz,e⟩:=i;obtain⟨u,u1,u2,u3⟩:=Im hp dz;have uz:u%p≠0:=by rw[AR (by omega) u2];omega
 have o:Cg p (u*d) 1:=by
  show u*d%p=1%p;rw[Cq,u3,AR (by decide) (by have:=hp.lo;omega)]
 refine⟨u,uz,?_⟩;have q:=CgR.sc (k:=u) (k':=u) Cg.rfl e;rw[Xh]at q;exact(q.trans ((CgR.sc o CgR.rfl).trans (CgR.of (QX y)))).symm
theorem XI{a' b' c':R3}(ha:CgR p a a')(hb:CgR p b b')(hc:CgR p c c')(hx:CgR p x x'):CgR p (ap a b c x) (ap a' b' c' x'):=⟨Hn ha hx,Hn hb hx,Hn hc hx⟩
theorem Pr.ap(i:Pr p x y):Pr p (OvC.ap a b c x) (OvC.ap a b c y):=by
 obtain⟨d,dz,e⟩:=i;exact⟨d,dz,(XI CgR.rfl CgR.rfl CgR.rfl e).trans (CgR.of (bH a b c y d))⟩
theorem bu(k:Ae)(a b c x:R3):ap (Bv k a) (Bv k b) (Bv k c) x=Bv k (ap a b c x):=by
 unfold ap Bv AG;refine BP ?_ (BP ?_ ?_)<;>(simp only;grind)
theorem Pr.tab{a' b' c':R3}(kz:k%p≠0)(ha:CgR p a (Bv k a'))(hb:CgR p b (Bv k b'))(hc:CgR p c (Bv k c')):Pr p (OvC.ap a b c x) (OvC.ap a' b' c' x):=
 ⟨k,kz,(XI ha hb hc CgR.rfl).trans (CgR.of (bu k a' b' c' x))⟩
theorem ce(a b c x y z:R3):Aq (rm a x y z) (rm b x y z) (rm c x y z)=Aq a b c*Aq x y z:=by
 unfold Aq det rm AG BA By Bx;grind
end
noncomputable def tri(g:R3):Ac Ae:=[g.1,g.2.1,g.2.2]
theorem Vy(hp:P4 p)(ix:In3 p x)(iy:In3 p y)(lx:Bg p (tri x)=Ab 1)(ly:Bg p (tri y)=Ab 1)(h:Pr p x y):x=y:=by
 obtain⟨d,dz,e⟩:=h;have p1:1<p:=by have:=hp.lo;omega
 have rs:(tri x).map (λx=>x%p)=((tri y).map λx=>d*x).map (λx=>x%p):=by
  simp only[tri,CC,JJ];rw[show x.1%p=d*y.1%p from e.1,show x.2.1%p=d*y.2.1%p from e.2.1,show x.2.2%p=d*y.2.2%p from e.2.2]
 have el:=Lq hp dz (f:=λx=>d*x) (λ_=>rfl) (tri y)
 rw[ly,<-Np rs,lx,FU,Cc,Et]at el;have o:Cg p d 1:=by
  show d%p=1%p;rw[<-el,AR (by decide) p1]
 have q:=e.trans ((CgR.sc o CgR.rfl).trans (CgR.of (QX y)));have same:∀{u v:Ae},(0<=u/\u<p)->(0<=v/\v<p)->Cg p u v->u=v:=λhu hv huv=>by
  have:=show _%p=_%p from huv
  rwa [AR hu.1 hu.2,AR hv.1 hv.2]at this
 exact BP (same ix.1 iy.1 q.1) (BP (same ix.2.1 iy.2.1 q.2.1) (same ix.2.2 iy.2.2 q.2.2))
structure Led (p:Ae) (a b c f0 f1 f2 f3 g0 g1 g2 g3:R3):Prop where
 h0:Pr p g0 (ap a b c f0)
 h1:Pr p g1 (ap a b c f1)
 h2:Pr p g2 (ap a b c f2)
 h3:Pr p g3 (ap a b c f3)
section
variable{p:Ae}{a b c a' b' c' f0 f1 f2 f3 g0 g1 g2 g3 h0 h1 h2 h3:R3}
end
section
variable{Z:Gam}{ns:Ac Ae}{p:Ae}
end
noncomputable def L3(a b c:R3):Ac D:=[IS a,IS b,IS c]
def Of(Z:Gam)(mid:Ag)(ns:Ac Ae):Prop:=∀ k:Ae,0<=k->∃ m,0<=m/\Z.F mid [scr ns,.int k]=.ok (.int m)
section
variable{Z:Gam}{ns:Ac Ae}{mid:Ag}{p:Ae}{a b c:R3}{s2 s4 s5 s6 s7 s8:Sl}
end
theorem Up{lo hi:Ae}(h1:-1000<=lo)(h2:lo<=1000)(h3:-1000<=hi)(h4:hi<=1000):DJ lo hi=.ok (D5 lo (hi-lo).toNat):=by
 unfold DJ;rw[AI (by refine⟨⟨by omega,by omega⟩,⟨by omega,by omega⟩,?_⟩;omega)]
theorem b9(h:1<p):Bg p [0,0,1]=Ab 1:=by
 simp[Bg,AR (by decide:(0:Ae)<=1) h]
theorem kr(h:1<p)(z:Ae):Bg p [0,1,z]=Ab 1:=by
 simp[Bg,AR (by decide:(0:Ae)<=1) h]
theorem bQ(h:1<p)(y z:Ae):Bg p [1,y,z]=Ab 1:=by
 simp[Bg,AR (by decide:(0:Ae)<=1) h]
noncomputable def prd(a b:R3):C6:=⟨a.1*b.1,a.2.1*b.2.1,a.2.2*b.2.2,a.1*b.2.1+a.2.1*b.1,a.1*b.2.2+a.2.2*b.1,a.2.1*b.2.2+a.2.2*b.2.1⟩
theorem jO{p l:Ae}(hp:P4 p)(el:Bg p (tri r)=Ab l):∃ u,FR p l u/\In3 p (fmR p u r)/\Bg p (tri (fmR p u r))=Ab 1/\Pr p (fmR p u r) r/\fmI p u (tri r)=tri (fmR p u r):=by
 have p0:=hp.pos;obtain⟨lz,_,_⟩:=Jm p0 el;obtain⟨t,t1,t2,t3⟩:=Im hp lz;have tz:t%p≠0:=by rw[AR (by omega) t2];omega
 have ff:∀ x,(t*(x%p)%p)%p=t*x%p:=λx=>by rw[BD _ (CQ p),BV t (x%p) p,BD _ (CQ p),<-BV]
 have lv:=Lq hp tz (f:=λx=>t*(x%p)%p) ff (tri r)
 rw[el,FU,Cq,t3]at lv;exact⟨t,⟨t1,t2,t3⟩,Gu p0 t r,lv,⟨t,tz,KP p t r⟩,rfl⟩
theorem kG(h:Bg p (tri g)=Af):CgR p g (0,0,0):=by
 have hz:=Jr.mp h;have k:∀ x∈tri g,Cg p x 0:=λx hx=>by show x%p=0%p;rw[hz x hx,Bj]
 exact⟨k _ (by simp[tri]),k _ (by simp[tri]),k _ (by simp[tri])⟩
theorem jN(h:CgR p g (0,0,0)):Bg p (tri g)=Af:=by
 refine Jr.mpr λx hx=>?_
 have k:∀{x:Ae},Cg p x 0->x%p=0:=λ{x} h=>by rw[show x%p=_ from h,Bj]
 simp only[tri,At,AM,BH]at hx;rcases hx with rfl|rfl|rfl
 .exact k h.1
 .exact k h.2.1
 .exact k h.2.2
theorem NY(x:R3):flD 5 (Am Aa x)=Aa/\eqD (Am Aa x) (Am Aa x)=Aa:=by
 refine⟨rfl,?_⟩;show eqDs (ds [x.1,x.2.1,x.2.2]) (ds [x.1,x.2.1,x.2.2])=Aa;rw[Wr]
section
variable{Z:Gam}{ns:Ac Ae}{p:Ae}{C:C6}{s3 s4 s5 s6 s7 s8:Sl}
end
section
variable{Z:Gam}{ns:Ac Ae}
end
noncomputable def Rg:Df:=⟨3,Ad,(.cons (.ret (.call 17 (.cons (.var 0) (.cons (.call 23 (.cons (.var 1) (.cons (.var 2) .nil))) .nil)))) .nil)⟩
theorem Qj{a b:R3}(hp:P4 p)(h:CgR p (crs a b) (0,0,0))(la:Bg p (tri a)=Ab 1)(lb:Bg p (tri b)=Ab 1):Pr p b a:=by
 obtain⟨h0,h1,h2⟩:=h;have p1:1<p:=by have:=hp.lo;omega
 have sw:∀{x y:Ae},Cg p (x-y) 0->Cg p x y:=λ{x y} h=>by
  have:=h.add (Cg.rfl (a:=y))
  rwa [X7,Ew]at this
 have e0:Cg p (a.2.1*b.2.2) (a.2.2*b.2.1):=sw h0;have e1:Cg p (a.2.2*b.1) (a.1*b.2.2):=sw h1;have e2:Cg p (a.1*b.2.1) (a.2.1*b.1):=sw h2;have one:∀{x:Ae},x%p=1->Cg p x 1:=λ{x} h=>by show x%p=1%p;rw[h,AR (by decide) p1]
 have fin:∀ k,CgR p b (Bv k a)->Pr p b a:=λk hk=>by
  refine⟨k,λz=>?_,hk⟩
  have:CgR p b (0,0,0):=by
   have kz:Cg p k 0:=by show k%p=0%p;rw[z,Bj]
   refine hk.trans ((CgR.sc kz CgR.rfl).trans (CgR.of ?_));unfold Bv;simp
  rw[jN this]at lb;cases lb
 unfold tri Bg at la;by_cases z0:a.1%p=0
 .rw[AI z0]at la;have c0:Cg p a.1 0:=by show a.1%p=0%p;rw[z0,Bj]
  unfold Bg at la;by_cases z1:a.2.1%p=0
  .rw[AI z1]at la;have c1:Cg p a.2.1 0:=by show a.2.1%p=0%p;rw[z1,Bj]
   unfold Bg at la;by_cases z2:a.2.2%p=0
   .rw[AI z2]at la;cases la
   .rw[AT z2,Cc]at la;have c2:=one la;refine fin b.2.2 ⟨?_,?_,?_⟩
    .have:=(c2.symm.mul (Cg.rfl (a:=b.1))).trans e1;rw[Du]at this;exact this.trans (Cg.of (Cq _ _))
    .have:=(c2.symm.mul (Cg.rfl (a:=b.2.1))).trans e0.symm;rw[Du]at this;exact this.trans (Cg.of (Cq _ _))
    .have:=(Cg.rfl (a:=b.2.2)).mul c2;rw[Et]at this;exact this.symm
  .rw[AT z1,Cc]at la;have c1:=one la;refine fin b.2.1 ⟨?_,?_,?_⟩
   .have:=(c1.symm.mul (Cg.rfl (a:=b.1))).trans e2.symm;rw[Du]at this;exact this.trans (Cg.of (Cq _ _))
   .have:=(Cg.rfl (a:=b.2.1)).mul c1;rw[Et]at this;exact this.symm
   .have:=(c1.symm.mul (Cg.rfl (a:=b.2.2))).trans e0;rw[Du]at this;exact this.trans (Cg.of (Cq _ _))
 .rw[AT z0,Cc]at la;have c0:=one la;refine fin b.1 ⟨?_,?_,?_⟩
  .have:=(Cg.rfl (a:=b.1)).mul c0;rw[Et]at this;exact this.symm
  .have:=(c0.symm.mul (Cg.rfl (a:=b.2.1))).trans e2;rw[Du]at this;exact this.trans (Cg.of (Cq _ _))
  .have:=(c0.symm.mul (Cg.rfl (a:=b.2.2))).trans e1.symm;rw[Du]at this;exact this.trans (Cg.of (Cq _ _))
def Og(Z:Gam):Prop:=∀(p:Ae)(a b:R3),P4 p->In3 p a->In3 p b->Bg p (tri a)=Ab 1->Bg p (tri b)=Ab 1->a≠b->∃ y,In3 p y/\Bg p (tri y)=Ab 1/\Pr p y (crs a b)/\Z.F 57 [.int p,Am Aa a,Am Aa b]=.ok (Am Aa y)
theorem xD(hc:Wg Z)(hf:NM Z)(p:Ae)(a b:R3)(hp:P4 p)(ia:In3 p a)(ib:In3 p b)(la:Bg p (tri a)=Ab 1)(lb:Bg p (tri b)=Ab 1)(ne:a≠b):∃ y,In3 p y/\Bg p (tri y)=Ab 1/\Pr p y (crs a b)/\Rg.run Z [.int p,Am Aa a,Am Aa b]=.ok (Am Aa y):=by
 have e1:=hc a b ((CY hp ia).b3 (by decide)) ((CY hp ib).b3 (by decide)) ne
 cases el:Bg p (tri (crs a b)) with
 |none=>exact absurd (Vy hp ib ia lb la (Qj hp (kG el) la lb)).symm ne
 |some l=>
  obtain⟨u,iu,j,l1,pr,ef⟩:=jO hp el;have e2:=hf p Aa _ l u hp el iu;rw[ef]at e2;have e2':Z.F 17 [.int p,Am Aa (crs a b)]=.ok (Am Aa (fmR p u (crs a b))):=e2;refine⟨_,j,l1,pr,?_⟩;generalize Am Aa (fmR p u (crs a b))=Y_ at *;simp[Rg,Df.run,BG,e1,e2']
theorem QK(a b:R3):AG (crs a b) a=0/\AG (crs a b) b=0:=by
 unfold AG crs;constructor<;>grind
theorem Ft{x:Ae}(hp:P4 p)(kz:k%p≠0):k*x%p=0↔x%p=0:=by
 constructor
 .intro z;exact CM λn=>Ct hp kz n z
 .intro z;rw[BV,z,CD,Bj]
theorem ma{y':R3}(hp:P4 p)(hx:Pr p x x')(hy:Pr p y y'):(AG x y%p=0)↔(AG x' y'%p=0):=by
 obtain⟨d,dz,e⟩:=hx;obtain⟨d',dz',e'⟩:=hy;have q:Cg p (AG x y) (d*d'*AG x' y'):=(Hn e e').trans (Cg.of (by unfold AG Bv;simp only;grind))
 rw[show AG x y%p=_ from q]
 exact Ft hp (Ct hp dz dz')
section
variable{Z:Gam}{ns:Ac Ae}{p:Ae}{C:C6}{s3 s4 s5 s6 s7 s8:Sl}
end
def NF(p:Ae)(x:R3):Prop:=In3 p x/\Bg p (tri x)=Ab 1
noncomputable def ptI(p n:Ae):R3:=if n=0 then (0,0,1) else if n<=p then (0,1,n-1) else (1,(n-p-1)/p,(n-p-1)%p)
noncomputable def E5(p:Ae):Ac R3:=(Bm (p*p+p+1).toNat).map fun(n:Ag)=>ptI p n
theorem Xe{n:Ae}(hp:P4 p)(h0:0<=n)(h1:n<p*p+p+1):NF p (ptI p n):=by
 have p1:1<p:=by have:=hp.lo;omega
 have p0:=hp.pos;unfold ptI;by_cases z:n=0
 .rw[AI z];exact⟨⟨⟨by decide,p0⟩,⟨by decide,p0⟩,⟨by decide,p1⟩⟩,b9 p1⟩
 .rw[AT z];by_cases z1:n<=p
  .rw[AI z1];exact⟨⟨⟨X4 0,p0⟩,⟨(by decide:(0:Ae)<=1),p1⟩,⟨by show 0<=n-1;omega,by show n-1<p;omega⟩⟩,kr p1 _⟩
  .rw[AT z1];have d0:0<=(n-p-1)/p:=Int.ediv_nonneg (by omega) (by omega)
   have d1:(n-p-1)/p<p:=by rw[Int.ediv_lt_iff_lt_mul p0];omega
   exact⟨⟨⟨(by decide:(0:Ae)<=1),p1⟩,⟨d0,d1⟩,⟨A3 _ (by omega),AX _ p0⟩⟩,bQ p1 _ _⟩
theorem ml(hp:P4 p)(h:NF p x):∃ n:Ae,0<=n/\n<p*p+p+1/\x=ptI p n:=by
 obtain⟨⟨i0,i1,i2⟩,l⟩:=h;have p1:1<p:=by have:=hp.lo;omega
 have p0:=hp.pos;have pp:=Ko p0 p0;obtain⟨x0,x1,x2⟩:=x;simp only at i0 i1 i2;unfold tri Bg at l;simp only at l;rw[AR i0.1 i0.2]at l;by_cases z0:x0=0
 .rw[AI z0]at l;unfold Bg at l;rw[AR i1.1 i1.2]at l;by_cases z1:x1=0
  .rw[AI z1]at l;unfold Bg at l;rw[AR i2.1 i2.2]at l;by_cases z2:x2=0
   .rw[AI z2]at l;cases l
   .rw[AT z2,Cc]at l;exact⟨0,X4 0,by omega,by rw[z0,z1,l];rfl⟩
  .rw[AT z1,Cc]at l;refine⟨x2+1,by omega,by omega,?_⟩
   unfold ptI;rw[AT (by omega),AI (by omega),z0,l,Int.add_sub_cancel]
 .rw[AT z0,Cc]at l;have m1:p*x1<=p*(p-1):=Int.mul_le_mul_of_nonneg_left (by omega) (by omega)
  have m0:0<=p*x1:=X5 (by omega) i1.1
  rw[X6,Et]at m1;refine⟨p+1+p*x1+x2,by omega,by omega,?_⟩
  unfold ptI;have e:p+1+p*x1+x2-p-1=x2+p*x1:=by omega
  rw[AT (by omega),AT (by omega),e,Int.add_mul_ediv_left _ _ (by omega),Int.ediv_eq_zero_of_lt i2.1 i2.2,Int.add_mul_emod_self_left,AR i2.1 i2.2,Ew,l]
theorem NR(hp:P4 p):x∈E5 p↔NF p x:=by
 have p0:=hp.pos;have pp:=Ko p0 p0;constructor
 .intro h;obtain⟨n,hn,rfl⟩:=Fd.mp h;have:=BE.mp hn;exact Xe hp (by omega) (by omega)
 .intro h;obtain⟨n,n0,n1,rfl⟩:=ml hp h;refine List.mem_map.mpr ⟨n.toNat,BE.mpr (by omega),?_⟩
  rw[Int.toNat_of_nonneg n0]
noncomputable def nrm(p:Ae)(r:R3):R3:=open Classical in if h:∃ y,NF p y/\Pr p y r then XZ h else r
theorem Rk(hp:P4 p)(hx:NF p x)(hy:NF p y)(h:Pr p x y):x=y:=Vy hp hx.1 hy.1 hx.2 hy.2 h
noncomputable def q4(w:Ag)(k:Ae)(y:R3):Ae:=match w with
  |0=>y.1*y.2.2-y.2.1*y.2.1
  |1=>y.1*y.1
  |2=>y.1*y.2.1
  |_=>y.1*y.1-k*(y.2.1*y.2.1)
theorem Q3(u v x:R3):vI (prd u v) x=AG u x*AG v x:=by
 unfold vI prd AG;simp only;grind
theorem Q2(k:Ae)(A:C6)(x:R3):vI (scC k A) x=k*vI A x:=by
 unfold vI scC;simp only;grind
noncomputable def OM(p:Ae)(C:C6):Ac R3:=(E5 p).filter λx=>decide (vI C x%p=0)
noncomputable def Aw(pts:Ac R3):D:=.lst (pts.map (Am Aa))
theorem PZ{g:D->R Aj}{f:D->R D}{q:R3->Aj}:∀(xs:Ac R3),(∀ x∈xs,g (Am Aa x)=.ok (q x)/\f (Am Aa x)=.ok (Am Aa x))->Ce g f (xs.map (Am Aa))=.ok ((xs.filter q).map (Am Aa))
 |[],_=>rfl
 |x::xs,h=>by
  obtain⟨h1,h2⟩:=h x (AE ..);have ih:=PZ xs λy hy=>h y (Ay _ hy)
  show (g (Am Aa x)).bind _=_;rw[h1,R.bind_ok,Fo];cases hq:q x with
  |true=>
   rw[AI rfl,AI rfl,h2,R.bind_ok,show Ce g f (List.map (Am Aa) xs)=_ from ih]
   rfl
  |false=>
   rw[AT (by decide),AT (by decide)]
   exact ih
noncomputable def eV:Ss:=(.cons (.app 1 (.tup (.cons (.int 0) (.cons (.int 1) (.cons (.var 2) .nil))))) .nil)
noncomputable def eW:E:=(.tup (.cons (.int 1) (.cons (.var 3) (.cons (.var 4) .nil))))
noncomputable def eU:Ss:=(.cons (.ext 1 (.comp eW 4 (.rng (.var 0)) DQ)) .nil)
noncomputable def P8:Df:=⟨5,Aa,(.cons (.asg 1 Aa (.lst (.cons (.tup (.cons (.int 0) (.cons (.int 0) (.cons (.int 1) .nil)))) .nil))) (.cons (.fors 2 (.rng (.var 0)) eV) (.cons (.fors 3 (.rng (.var 0)) eU) (.cons (.ret (.var 1)) .nil))))⟩
def R4(Z:Gam):Prop:=∀ p:Ae,P4 p->Z.F 69 [.int p]=.ok (Aw (E5 p))
theorem gw(Z:Gam)(p:Ae)(hp:P4 p):P8.run Z [.int p]=.ok (Aw (E5 p)):=by
 rcases hp with rfl|rfl|rfl|rfl<;>kernel_rfl!
noncomputable def Pf:E:=(.cmp .Eq (.call 126 (.cons (.var 0) (.cons (.var 1) (.cons (.var 2) .nil)))) (.int 0))
noncomputable def Ph:E:=(.var 2)
noncomputable def Nt:Df:=⟨3,Aa,(.cons (.ret (.comp Ph 2 (.e (.call 69 (.cons (.var 0) .nil))) Pf)) .nil)⟩
theorem qK(ht:R4 Z)(hv:QO Z)(p:Ae)(C:C6)(hp:P4 p)(iC:InC p C):Nt.run Z [.int p,Cm C]=.ok (Aw (OM p C)):=by
 have e1:=ht p hp;have cp:Ce (cG Z [si p,sh (Cm C),Af] 2 Pf) (cF Z [si p,sh (Cm C),Af] 2 Ph) ((E5 p).map (Am Aa))=.ok ((OM p C).map (Am Aa)):=by
  refine PZ (E5 p) λx hx=>⟨?_,?_⟩
  .have e:=hv p C x hp iC ((NR hp).mp hx).1;generalize vI C x%p=v at *;simp[cG,Pf,e];rw[DL];simp
  .simp[cF,Ph]
 have sq:Ci (Aw (E5 p))=.ok ((E5 p).map (Am Aa)):=rfl;generalize E5 p=A at *;generalize Aw A=AA at *;simp[Nt,Df.run,BG,e1,sq,cp];rfl
theorem rH(a b c:R3):AG (crs a b) c=Aq a b c:=by
 unfold AG crs Aq det;grind
section
variable{Z:Gam}{p i j k d N:Ae}{PP x y u:D}{RL:Ac D}{s t s' t' v:Sl}
end
section
variable{Z:Gam}{p:Ae}{pts:Ac R3}
end
theorem cn(k l:Ae)(a b:R3):crs (Bv k a) (Bv l b)=Bv (k*l) (crs a b):=by
 unfold crs Bv;simp only;refine BP ?_ (BP ?_ ?_)<;>(simp only;grind)
theorem Pr.crs{a b a' b':R3}(hp:P4 p)(h:Pr p a a')(g:Pr p b b'):Pr p (OvC.crs a b) (OvC.crs a' b'):=by
 obtain⟨d,dz,e⟩:=h;obtain⟨d',dz',e'⟩:=g;exact⟨d*d',Ct hp dz dz',(cq e e').trans (CgR.of (cn ..))⟩
noncomputable def Re:Df:=⟨3,Ad,(.cons (.ret (.cmp .Eq (.call 1 (.cons (.var 0) (.cons (.bin .Add (.bin .Add (.bin .Mult (.idx (.var 1) (.int 0)) (.idx (.var 2) (.int 0))) (.bin .Mult (.idx (.var 1) (.int 1)) (.idx (.var 2) (.int 1)))) (.bin .Mult (.idx (.var 1) (.int 2)) (.idx (.var 2) (.int 2)))) .nil))) (.int 0))) .nil)⟩
def Wk(Z:Gam):Prop:=∀(p:Ae)(x y:R3),P4 p->In3 p x->In3 p y->Z.F 24 [.int p,Am Aa x,Am Aa y]=.ok (.bl (decide (AG x y%p=0)))
theorem xC(hr:Io Z)(p:Ae)(x y:R3)(hp:P4 p)(ix:In3 p x)(iy:In3 p y):Re.run Z [.int p,Am Aa x,Am Aa y]=.ok (.bl (decide (AG x y%p=0))):=by
 have p0:=hp.pos;have bx:=CY hp ix;have by_:=CY hp iy;have k:∀ {u v},Bd 10 u->Bd 10 v->Fm u v=Aa:=λhu hv=>G8 hu hv (by decide) (by decide)
 have k0:=k bx.1 by_.1;have k1:=k bx.2.1 by_.2.1;have k2:=k bx.2.2 by_.2.2;obtain⟨x0,x1,x2⟩:=Fu Aa x;obtain⟨y0,y1,y2⟩:=Fu Aa y;have e:=hr p (AG x y) p0;unfold AG at *;generalize x.1=a0 at *;generalize x.2.1=a1 at *;generalize x.2.2=a2 at *;generalize y.1=b0 at *;generalize y.2.1=b1 at *;generalize y.2.2=b2 at *;generalize Am Aa x=xx at *;generalize Am Aa y=yy at *;generalize hs:(a0*b0+a1*b1+a2*b2)%p=s at *;simp[Re,Df.run,BG,x0,x1,x2,y0,y1,y2,k0,k1,k2,e];rw[DL];simp
noncomputable def OT:Df:=⟨3,Ad,(.cons (.ret (.call 24 (.cons (.var 0) (.cons (.var 1) (.cons (.var 2) .nil))))) .nil)⟩
def Ra(Z:Gam):Prop:=∀(p:Ae)(x y:R3),P4 p->In3 p x->In3 p y->Z.F 56 [.int p,Am Aa x,Am Aa y]=.ok (.bl (decide (AG x y%p=0)))
theorem yQ(h:Wk Z)(p:Ae)(x y:R3)(hp:P4 p)(ix:In3 p x)(iy:In3 p y):OT.run Z [.int p,Am Aa x,Am Aa y]=.ok (.bl (decide (AG x y%p=0))):=by
 have e:=h p x y hp ix iy;generalize Am Aa x=xx at *;generalize Am Aa y=yy at *;simp[OT,Df.run,BG,e]
noncomputable abbrev Whl(p:Ae)(C:C6):Prop:=Aq (tw0 C) (tw1 C) (tw2 C)%p≠0
noncomputable def b4(u v:R3):Ae:=u.1*v.2.2+u.2.2*v.1-2*(u.2.1*v.2.1)
section
variable{p:Ae}{a b c:R3}{C:C6}
end
noncomputable def sides:D:=.tup [.str (AQ "inner"),.str (AQ "on"),.str (AQ "outer")]
noncomputable def Mf:Df:=⟨2,Ad,(.cons (.asg 1 Ad (.bin .Mod (.var 1) (.bin .Add (.bin .Add (.bin .Mult (.var 0) (.var 0)) (.var 0)) (.int 1)))) (.cons (.ife (.cmp .Eq (.var 1) (.int 0)) (.cons (.ret (.tup (.cons (.int 0) (.cons (.int 0) (.cons (.int 1) .nil))))) .nil) .nil) (.cons (.ife (.cmp .LtE (.var 1) (.var 0)) (.cons (.ret (.tup (.cons (.int 0) (.cons (.int 1) (.cons (.bin .Sub (.var 1) (.int 1)) .nil))))) .nil) .nil) (.cons (.ret (.tup (.cons (.int 1) (.cons (.bin .FloorDiv (.bin .Sub (.bin .Sub (.var 1) (.var 0)) (.int 1)) (.var 0)) (.cons (.bin .Mod (.bin .Sub (.bin .Sub (.var 1) (.var 0)) (.int 1)) (.var 0)) .nil))))) .nil))))⟩
theorem pN{n:Ae}(hp:P4 p):0<p*p+p+1/\0<=n%(p*p+p+1)/\n%(p*p+p+1)<p*p+p+1:=by
 have p0:=hp.pos;have N0:0<p*p+p+1:=by have:=Ko p0 p0;omega
 exact⟨N0,A3 n (Int.ne_of_gt N0),AX n N0⟩
theorem yP(Z:Gam)(p n:Ae)(hp:P4 p):Mf.run Z [.int p,.int n]=.ok (Am Aa (ptI p (n%(p*p+p+1)))):=by
 have pp:F9 p p=Aa:=LA (by have:=hp.lo;omega) (by have:=hp.hi;omega)
 have p0:=hp.pos;have ph:=hp.hi;obtain⟨N0,h0,h1⟩:=pN (n:=n) hp;have pb:p<1073741824:=by omega
 generalize hr:n%(p*p+p+1)=r at *;unfold ptI;by_cases z0:r=0
 .rw[AI z0];simp[Mf,Df.run,BG,pp,N0,hr,z0];rfl
 .rw[AT z0];by_cases z1:r<=p
  .rw[AI z1];simp[Mf,Df.run,BG,pp,N0,hr,z0,z1];rfl
  .rw[AT z1];simp[Mf,Df.run,BG,pp,N0,hr,z0,z1,p0,pb];rfl
theorem Rx(C:C6)(a b c x:R3):vI (pb C a b c) x=vI C (ap a b c x):=by
 have e:ap a b c x=(x.1*(BA a b c).1+x.2.1*(By a b c).1+x.2.2*(Bx a b c).1,x.1*(BA a b c).2.1+x.2.1*(By a b c).2.1+x.2.2*(Bx a b c).2.1,x.1*(BA a b c).2.2+x.2.1*(By a b c).2.2+x.2.2*(Bx a b c).2.2):=by
  unfold ap AG BA By Bx;simp only;refine BP ?_ (BP ?_ ?_)<;>(simp only;grind)
 rw[e,N8];have e2:∀(u0 u1 u2 u3 u4 u5:Ae),vI ⟨u0,u1,u2,u3,u4,u5⟩ x=x.1*x.1*u0+x.2.1*x.2.1*u1+x.2.2*x.2.2*u2+(x.1*x.2.1*u3+x.1*x.2.2*u4+x.2.1*x.2.2*u5):=λu0 u1 u2 u3 u4 u5=>by
  unfold vI;simp only;grind
 exact e2 ..
theorem WG(C:C6)(k:Ae)(x:R3):vI C (Bv k x)=k*k*vI C x:=by
 unfold vI Bv;simp only;grind
theorem Rw(hp:P4 p)(h:Pr p x y):vI C x%p=0↔vI C y%p=0:=by
 obtain⟨d,dz,e⟩:=h;have q:=(Jw (D:=C) ⟨Cg.rfl,Cg.rfl,Cg.rfl,Cg.rfl,Cg.rfl,Cg.rfl⟩ e).trans (Cg.of (WG C d y));rw[show vI C x%p=_ from q]
 exact Ft hp (Ct hp dz dz)
section
variable{p:Ae}{a b c:R3}{C:C6}
end
noncomputable def cU(p:Ae)(C:C6)(l:R3):R3:=nrm p (ap (bk0 (tw0 C) (tw1 C) (tw2 C)) (bk1 (tw0 C) (tw1 C) (tw2 C)) (bk2 (tw0 C) (tw1 C) (tw2 C)) l)
structure FOn (p:Ae) (C:C6) (A B P U_:R3):Prop where
 vA:vI C A%p=0
 vB:vI C B%p=0
 vU:vI C U_%p=0
 bA:bI C A P%p=0
 bB:bI C B P%p=0
theorem cu(A B P x:R3):Bv (Aq A B P) x=(Aq x B P*A.1+Aq A x P*B.1+Aq A B x*P.1,Aq x B P*A.2.1+Aq A x P*B.2.1+Aq A B x*P.2.1,Aq x B P*A.2.2+Aq A x P*B.2.2+Aq A B x*P.2.2):=by
 unfold Bv Aq det;refine BP ?_ (BP ?_ ?_)<;>(simp only;grind)
section
variable{p:Ae}{C R:C6}{A B P U_ x:R3}
theorem cg0{k x:Ae}(h:x%p=0):Cg p (k*x) 0:=by
 show k*x%p=0%p;rw[BV,h,CD]
theorem Vz(h:FOn p C A B P U_)(x:R3):Cg p (Aq A B P*Aq A B P*vI C x) (Aq A B x*Aq A B x*vI C P+Aq x B P*Aq A x P*bI C A B):=by
 have e:=N8 C A B P (Aq x B P) (Aq A x P) (Aq A B x);rw[<-cu,WG]at e;rw[e];generalize Aq x B P=α;generalize Aq A x P=β;generalize Aq A B x=γ;have k1:Cg p (α*α*vI C A) 0:=cg0 h.vA;have k2:Cg p (β*β*vI C B) 0:=cg0 h.vB;have k3:Cg p (α*γ*bI C A P) 0:=cg0 h.bA;have k4:Cg p (β*γ*bI C B P) 0:=cg0 h.bB;refine(((k1.add k2).add Cg.rfl).add ((Cg.rfl.add k3).add k4)).trans (Cg.of ?_);grind
theorem Rv(h:FOn p C A B P U_)(x:R3):Cg p (Aq A B U_*Aq A B U_*(Aq A B P*Aq A B P*vI C x)) (bI C A B*(Aq A B U_*Aq A B U_*(Aq x B P*Aq A x P)-Aq A B x*Aq A B x*(Aq U_ B P*Aq A U_ P))):=by
 have e1:=Vz h x;have e2:=Vz h U_;have e0:Cg p (Aq A B P*Aq A B P*vI C U_) 0:=cg0 h.vU;have e3:Cg p (Aq A B U_*Aq A B U_*vI C P+Aq U_ B P*Aq A U_ P*bI C A B) 0:=e2.symm.trans e0;generalize Aq A B P=D at *;generalize Aq x B P=α at *;generalize Aq A x P=β at *;generalize Aq A B x=γ at *;generalize Aq U_ B P=α0 at *;generalize Aq A U_ P=β0 at *;generalize Aq A B U_=γ0 at *;generalize bI C A B=b at *;generalize vI C P=v at *;generalize vI C x=vx at *;have e4:Cg p (γ0*γ0*(D*D*vx)) (γ0*γ0*(γ*γ*v+α*β*b)):=Cg.rfl.mul e1;have e5:Cg p (γ*γ*(γ0*γ0*v+α0*β0*b)) (γ*γ*0):=Cg.rfl.mul e3;refine e4.trans ?_;have e6:γ0*γ0*(γ*γ*v+α*β*b)=γ*γ*(γ0*γ0*v+α0*β0*b)+b*(γ0*γ0*(α*β)-γ*γ*(α0*β0)):=by grind
 rw[e6];refine(e5.add Cg.rfl).trans (Cg.of ?_);grind
theorem Wy{k x y:Ae}(hp:P4 p)(kz:k%p≠0)(h:Cg p (k*x) (k*y)):Cg p x y:=by
 have e:k*(x-y)%p=0:=by
  have q:=h.sub (Cg.rfl (p:=p) (a:=k*y));have q2:(k*x-k*y)%p=(k*y-k*y)%p:=q;rw[Int.sub_self,Bj,<-X6]at q2;exact q2
 have z:=(Ft hp kz).mp e;have q3:=Cg.add (p:=p) (a:=x-y) (b:=0) (c:=y) (d:=y) (by show (x-y)%p=0%p;rw[z,Bj]) Cg.rfl
 have q4:Cg p (x-y+y) (0+y):=q3;rw[X7,Ew]at q4;exact q4
theorem wO(hp:P4 p)(d1:Aq A B P%p≠0)(d2:Aq A B U_%p≠0)(hC:FOn p C A B P U_)(hR:FOn p R A B P U_)(x:R3):Cg p (bI C A B*vI R x) (bI R A B*vI C x):=by
 have e1:=Rv hC x;have e2:=Rv hR x;generalize (Aq A B U_*Aq A B U_*(Aq x B P*Aq A x P)-Aq A B x*Aq A B x*(Aq U_ B P*Aq A U_ P))=F at *;refine Wy hp (k:=Aq A B U_*Aq A B U_*(Aq A B P*Aq A B P)) (Ct hp (Ct hp d2 d2) (Ct hp d1 d1)) ?_;generalize Aq A B U_=γ at *;generalize Aq A B P=D at *;generalize bI C A B=b at *;generalize bI R A B=r at *;have f1:Cg p (b*(γ*γ*(D*D*vI R x))) (b*(r*F)):=Cg.rfl.mul e2;have f2:Cg p (r*(γ*γ*(D*D*vI C x))) (r*(b*F)):=Cg.rfl.mul e1;refine(Cg.of (by grind)).trans (f1.trans ((Cg.of (by grind:b*(r*F)=r*(b*F))).trans (f2.symm.trans (Cg.of (by grind)))))
theorem Wz{k l:Ae}(h:∀ x,Cg p (k*vI R x) (l*vI C x)):CgC p (scC k R) (scC l C):=by
 have a0:=h (1,0,0);have a1:=h (0,1,0);have a2:=h (0,0,1);have b0:=h (1,1,0);have b1:=h (1,0,1);have b2:=h (0,1,1);have v0:∀ E:C6,vI E (1,0,0)=E.c0:=λE=>by unfold vI;simp
 have v1:∀ E:C6,vI E (0,1,0)=E.c1:=λE=>by unfold vI;simp
 have v2:∀ E:C6,vI E (0,0,1)=E.c2:=λE=>by unfold vI;simp
 have w0:∀ E:C6,vI E (1,1,0)=E.c0+E.c1+E.c3:=λE=>by unfold vI;simp
 have w1:∀ E:C6,vI E (1,0,1)=E.c0+E.c2+E.c4:=λE=>by unfold vI;simp
 have w2:∀ E:C6,vI E (0,1,1)=E.c1+E.c2+E.c5:=λE=>by unfold vI;simp
 rw[v0,v0]at a0;rw[v1,v1]at a1;rw[v2,v2]at a2;rw[w0,w0]at b0;rw[w1,w1]at b1;rw[w2,w2]at b2;refine⟨a0,a1,a2,?_,?_,?_⟩
 .have:=(b0.sub a0).sub a1;refine(Cg.of ?_).trans (this.trans (Cg.of ?_))<;>(unfold scC;simp only;grind)
 .have:=(b1.sub a0).sub a2;refine(Cg.of ?_).trans (this.trans (Cg.of ?_))<;>(unfold scC;simp only;grind)
 .have:=(b2.sub a1).sub a2;refine(Cg.of ?_).trans (this.trans (Cg.of ?_))<;>(unfold scC;simp only;grind)
theorem Tj(hp:P4 p)(w:Whl p C)(d1:Aq A B P%p≠0)(d2:Aq A B U_%p≠0)(hC:FOn p C A B P U_):bI C A B%p≠0:=λz=>by
 refine w ?_;have v0:∀ x,Cg p (1*vI C x) (0*vI C x):=λx=>by
  rw[Du,Dv];refine Wy hp (k:=Aq A B U_*Aq A B U_*(Aq A B P*Aq A B P)) (Ct hp (Ct hp d2 d2) (Ct hp d1 d1)) ?_;have e1:=Rv hC x;refine(Cg.of (by grind)).trans (e1.trans ?_)
  rw[CD];show _%p=0%p;rw[BV,z,Dv]
 have c:=Wz v0;rw[J4]at c;obtain⟨t0,t1,t2⟩:=W9 c;have e:=NI t0 t1 t2;rw[sK]at e;show Aq (tw0 C) (tw1 C) (tw2 C)%p=0;rw[show Aq (tw0 C) (tw1 C) (tw2 C)%p=_ from e]
 simp
theorem iU(hp:P4 p)(wC:Whl p C)(wR:Whl p R)(d1:Aq A B P%p≠0)(d2:Aq A B U_%p≠0)(hC:FOn p C A B P U_)(hR:FOn p R A B P U_):PrC p R C:=by
 have b1:=Tj hp wC d1 d2 hC;have b2:=Tj hp wR d1 d2 hR;obtain⟨u,uz,ue⟩:=Rl hp b1;refine⟨u*bI R A B,Ct hp uz b2,?_⟩;have c:=Wz (wO hp d1 d2 hC hR);have e1:CgC p (scC u (scC (bI C A B) R)) (scC u (scC (bI R A B) C)):=CgC.sc Cg.rfl c;rw[KM,KM]at e1;have e2:CgC p (scC (u*bI C A B) R) (scC 1 R):=CgC.sc ue CgC.rfl;rw[J4]at e2;exact e2.symm.trans e1
end
section
variable{p:Ae}{C E:C6}{a b c A B P U_ A' B' P' U_' x y:R3}
theorem XG(C:C6)(a b c x y:R3):bI (pb C a b c) x y=bI C (ap a b c x) (ap a b c y):=by
 have e:∀ u:R3,ap a b c u=(u.1*(BA a b c).1+u.2.1*(By a b c).1+u.2.2*(Bx a b c).1,u.1*(BA a b c).2.1+u.2.1*(By a b c).2.1+u.2.2*(Bx a b c).2.1,u.1*(BA a b c).2.2+u.2.1*(By a b c).2.2+u.2.2*(Bx a b c).2.2):=λu=>by
  unfold ap AG BA By Bx;simp only;refine BP ?_ (BP ?_ ?_)<;>(simp only;grind)
 rw[e x,e y,Tk];rfl
theorem br(C:C6)(k l:Ae)(x y:R3):bI C (Bv k x) (Bv l y)=k*l*bI C x y:=by
 unfold bI ap AG Bv;simp only;grind
theorem XF{y':R3}(hp:P4 p)(h:Pr p x x')(g:Pr p y y'):bI C x y%p=0↔bI C x' y'%p=0:=by
 obtain⟨d,dz,e⟩:=h;obtain⟨d',dz',e'⟩:=g;have q:=(Oj (CgC.rfl (C:=C)) e e').trans (Cg.of (br C d d' x' y'));rw[show bI C x y%p=_ from q]
 exact Ft hp (Ct hp dz dz')
theorem zV(hp:P4 p)(h:FOn p E A' B' P' U_')(hA:Pr p A' (ap a b c A))(hB:Pr p B' (ap a b c B))(hP:Pr p P' (ap a b c P))(hU:Pr p U_' (ap a b c U_)):FOn p (pb E a b c) A B P U_:=
 ⟨by rw[Rx];exact(Rw hp hA).mp h.vA,by rw[Rx];exact(Rw hp hB).mp h.vB,by rw[Rx];exact(Rw hp hU).mp h.vU,by rw[XG];exact(XF hp hA hP).mp h.bA,by rw[XG];exact(XF hp hB hP).mp h.bB⟩
theorem wN(hp:P4 p)(z:Aq a b c%p≠0)(w:Whl p E):Whl p (pb E a b c):=by
 show Aq _ _ _%p≠0;rw[ci];exact Ct hp (Ct hp z z) w
theorem iE(hp:P4 p)(z:Aq a b c%p≠0)(wC:Whl p C)(wE:Whl p E)(d1:Aq A B P%p≠0)(d2:Aq A B U_%p≠0)(hC:FOn p C A B P U_)(hE:FOn p E A' B' P' U_')(hA:Pr p A' (ap a b c A))(hB:Pr p B' (ap a b c B))(hP:Pr p P' (ap a b c P))(hU:Pr p U_' (ap a b c U_)):PrC p (pb E a b c) C:=
 iU hp wC (wN hp z wE) d1 d2 hC (zV hp hE hA hB hP hU)
end
noncomputable def Nj:Df:=⟨3,Ad,(.cons (.asg 2 Ad (.int 0)) (.cons (.ife (.cmp .Gt (.bi .len (.cons (.var 0) .nil)) (.int 0)) (.cons (.asg 2 Ad (.idx (.var 0) (.bin .Mod (.var 1) (.bi .len (.cons (.var 0) .nil))))) .nil) .nil) (.cons (.ret (.bin .Mod (.bin .Mult (.bin .Add (.bin .Add (.bin .Mod (.var 2) (.int 1000003)) (.bin .Mult (.int 7919) (.var 1))) (.int 11)) (.int 48271)) (.int 1000033))) .nil)))⟩
theorem yT(Z:Gam)(ns:Ac Ae)(k:Ae)(h0:0<=k):∃ m,0<=m/\Nj.run Z [scr ns,.int k]=.ok (.int m):=by
 have m1:F9 7919 k=Aa:=LA (by decide) (by decide)
 have m2:∀ x,F9 x 48271=Aa:=λx=>V9 (by decide) (by decide)
 have ln:biD .len [scr ns]=.ok (.int ns.length):=by simp[scr]
 by_cases h1:0<(ns.length:Ae)
 .have q0:=A3 k (b:=(ns.length:Ae)) (by omega)
  have q1:=AX k h1;have g:CJ (scr ns) (.int (k%(ns.length:Ae)))=.ok (.int (ns.getD (k%(ns.length:Ae)).toNat 0)):=rP (ns:=ns) q0 q1;generalize ns.getD (k%(ns.length:Ae)).toNat 0=x at g;refine⟨(x%1000003+7919*k+11)*48271%1000033,A3 _ (by decide),?_⟩
  generalize scr ns=S at *;generalize (ns.length:Ae)=N at *;simp[Nj,Df.run,BG,ln,h1,g,m1,m2]
 .refine⟨(0%1000003+7919*k+11)*48271%1000033,A3 _ (by decide),?_⟩
  generalize scr ns=S at *;generalize (ns.length:Ae)=N at *;simp[Nj,Df.run,BG,ln,h1,m1,m2]
noncomputable def O8:Df:=⟨1,Ad,(.cons (.ret (.idx (.lst (.cons (.int 3) (.cons (.int 5) (.cons (.int 7) (.cons (.int 5) (.cons (.int 7) (.cons (.int 11) .nil))))))) (.bin .Mod (.call 228 (.cons (.var 0) (.cons (.int 0) .nil))) (.int 6)))) .nil)⟩
theorem qL(h:Of Z 228 ns):∃ p,P4 p/\O8.run Z [scr ns]=.ok (.int p):=by
 obtain⟨m,m0,e⟩:=h 0 (by decide)
 have q:m%6=0\/m%6=1\/m%6=2\/m%6=3\/m%6=4\/m%6=5:=by omega
 have g:∃ p,P4 p/\EJ [.int 3,.int 5,.int 7,.int 5,.int 7,.int 11] (m%6)=.ok (.int p):=by
  rcases q with z|z|z|z|z|z<;>rw[z]
  .exact⟨3,.inl rfl,rfl⟩
  .exact⟨5,.inr (.inl rfl),rfl⟩
  .exact⟨7,.inr (.inr (.inl rfl)),rfl⟩
  .exact⟨5,.inr (.inl rfl),rfl⟩
  .exact⟨7,.inr (.inr (.inl rfl)),rfl⟩
  .exact⟨11,.inr (.inr (.inr rfl)),rfl⟩
 obtain⟨p,hp,g⟩:=g;refine⟨p,hp,?_⟩;simp[O8,Df.run,BG,e,g]
noncomputable def Pa:Df:=⟨6,Ad,(.cons (.asg 3 Ad (.bin .Sub (.bin .Mult (.idx (.var 1) (.int 1)) (.idx (.var 2) (.int 2))) (.bin .Mult (.idx (.var 1) (.int 2)) (.idx (.var 2) (.int 1))))) (.cons (.asg 4 Ad (.bin .Sub (.bin .Mult (.idx (.var 1) (.int 2)) (.idx (.var 2) (.int 0))) (.bin .Mult (.idx (.var 1) (.int 0)) (.idx (.var 2) (.int 2))))) (.cons (.asg 5 Ad (.bin .Sub (.bin .Mult (.idx (.var 1) (.int 0)) (.idx (.var 2) (.int 1))) (.bin .Mult (.idx (.var 1) (.int 1)) (.idx (.var 2) (.int 0))))) (.cons (.ret (.tup (.cons (.bin .Mod (.var 3) (.var 0)) (.cons (.bin .Mod (.var 4) (.var 0)) (.cons (.bin .Mod (.var 5) (.var 0)) .nil))))) .nil))))⟩
def Lm(Z:Gam):Prop:=∀(p:Ae)(q q':Aj)(a x:R3),0<p->B3 a->B3 x->Z.F 232 [.int p,Am q a,Am q' x]=.ok (Am Aa (mdR p (crs a x)))
theorem iQ(Z:Gam)(p:Ae)(q q':Aj)(a x:R3)(p0:0<p)(ha:B3 a)(hx:B3 x):Pa.run Z [.int p,Am q a,Am q' x]=.ok (Am Aa (mdR p (crs a x))):=by
 obtain⟨x0,x1,x2⟩:=Fu q a;obtain⟨y0,y1,y2⟩:=Fu q' x;have k:∀ {u v},Bd 300 u->Bd 300 v->Fm u v=Aa:=λhu hv=>G8 hu hv (by decide) (by decide)
 simp[Pa,Df.run,BG,x0,x1,x2,y0,y1,y2,k ha.1 hx.1,k ha.1 hx.2.1,k ha.1 hx.2.2,k ha.2.1 hx.1,k ha.2.1 hx.2.1,k ha.2.1 hx.2.2,k ha.2.2 hx.1,k ha.2.2 hx.2.1,k ha.2.2 hx.2.2,p0];rfl
noncomputable def Qb:Df:=⟨3,Ad,(.cons (.ret (.bin .Mod (.bin .Add (.bin .Add (.bin .Mult (.idx (.var 1) (.int 0)) (.idx (.var 2) (.int 0))) (.bin .Mult (.idx (.var 1) (.int 1)) (.idx (.var 2) (.int 1)))) (.bin .Mult (.idx (.var 1) (.int 2)) (.idx (.var 2) (.int 2)))) (.var 0))) .nil)⟩
def Ll(Z:Gam):Prop:=∀(p:Ae)(q q':Aj)(a x:R3),0<p->B3 a->B3 x->Z.F 233 [.int p,Am q a,Am q' x]=.ok (.int (AG a x%p))
theorem jT(Z:Gam)(p:Ae)(q q':Aj)(a x:R3)(p0:0<p)(ha:B3 a)(hx:B3 x):Qb.run Z [.int p,Am q a,Am q' x]=.ok (.int (AG a x%p)):=by
 obtain⟨x0,x1,x2⟩:=Fu q a;obtain⟨y0,y1,y2⟩:=Fu q' x;have k:∀ {u v},Bd 300 u->Bd 300 v->Fm u v=Aa:=λhu hv=>G8 hu hv (by decide) (by decide)
 simp[Qb,Df.run,BG,x0,x1,x2,y0,y1,y2,k ha.1 hx.1,k ha.2.1 hx.2.1,k ha.2.2 hx.2.2,p0];rfl
noncomputable def Pl:E:=(.and (.cons (.isi (.var 3) [.int]) (.cons (.no (.isi (.var 3) [.bool])) (.cons (.cmp2 .LtE .Lt (.int 0) (.var 3) (.var 0)) .nil))))
noncomputable def O7:Df:=⟨4,Ad,(.cons (.ife (.or (.cons (.no (.isi (.var 1) [.tuple])) (.cons (.cmp .NotEq (.bi .len (.cons (.var 1) .nil)) (.var 2)) .nil))) (.cons (.ret (.bl Ad)) .nil) .nil) (.cons (.ret (.bi .all (.cons (.comp Pl 3 (.e (.var 1)) DQ) .nil))) .nil))⟩
def VO(Z:Gam):Prop:=∀(p:Ae)(xs:Ac Ae),(∀ x∈xs,0<=x/\x<p)->Z.F 236 [.int p,.tup (ds xs),.int xs.length]=.ok (.bl Aa)
theorem qJ(Z:Gam)(p:Ae)(xs:Ac Ae)(hx:∀ x∈xs,0<=x/\x<p):O7.run Z [.int p,.tup (ds xs),.int xs.length]=.ok (.bl Aa):=by
 have c1:Ce (cG Z [si p,sh (.tup (ds xs)),si xs.length,Af] 3 DQ) (cF Z [si p,sh (.tup (ds xs)),si xs.length,Af] 3 Pl) (ds xs)=.ok (xs.map λ_=>D.bl Aa):=by
  refine VY xs λx hm=>⟨rfl,?_⟩
  obtain⟨h0,h1⟩:=hx x hm;simp[cF,Pl,kiD,Er,h0,h1]
 have dl:(ds xs).length=xs.length:=BR ..;simp[O7,Df.run,BG,kiD,Er,dl,c1,Vi]
noncomputable def Pc:E:=(.cmp .Gt (.var 3) (.int 0))
noncomputable def Pd:E:=(.var 3)
noncomputable def Pq:Df:=⟨4,Ad,(.cons (.ife (.or (.cons (.no (.call 236 (.cons (.var 0) (.cons (.var 1) (.cons (.var 2) .nil))))) (.cons (.cmp .Eq (.bi .sum (.cons (.var 1) .nil)) (.int 0)) .nil))) (.cons (.ret (.bl Ad)) .nil) .nil) (.cons (.ret (.cmp .Eq (.idx (.comp Pd 3 (.e (.var 1)) Pc) (.int 0)) (.int 1))) .nil))⟩
theorem Uy{p:Ae}:∀ xs:Ac Ae,(∀ v∈xs,0<=v/\v<p)->Bg p xs=(xs.filter λv=>decide (0<v)).head?
 |[],_=>rfl
 |v::xs,h=>by
  have hv:=h v (AE ..);have em:=AR hv.1 hv.2;have ih:=Uy xs λw hw=>h w (Ay _ hw)
  unfold Bg;rw[em,Fo,ih];by_cases z:v=0
  .rw[AI z,z];rfl
  .rw[AT z,AI (by simp;omega)]
   rfl
theorem WN:∀(xs:Ac Ae)(a:Ae),HM a (ds xs)=.ok (a+xs.sum)
 |[],a=>by show R.ok a=_;simp
 |x::xs,a=>by
  show HM (a+x) (ds xs)=_;rw[WN xs (a+x)];simp[Int.add_assoc]
theorem VE{p:Ae}:∀ xs:Ac Ae,(∀ v∈xs,0<=v/\v<p)->0<=xs.sum/\∀ v∈xs,v<=xs.sum
 |[],_=>⟨by simp,λv h=>nomatch h⟩
 |x::xs,h=>by
  obtain⟨h1,h2⟩:=VE xs λw hw=>h w (Ay _ hw)
  have hx:=h x (AE ..);rw[Ys];refine⟨by omega,λv hv=>?_⟩
  rcases At.mp hv with rfl|hv
  .omega
  .have:=h2 v hv;omega
theorem qR(hr:VO Z)(p:Ae)(xs:Ac Ae)(p0:0<p)(hx:∀ x∈xs,0<=x/\x<p)(l1:Bg p xs=Ab 1):Pq.run Z [.int p,.tup (ds xs),.int xs.length]=.ok (.bl Aa):=by
 have e1:=hr p xs hx;have hd:(xs.filter λv=>decide (0<v)).head?=Ab 1:=by rw[<-Uy xs hx];exact l1
 have m1:(1:Ae)∈xs:=by
  have:(1:Ae)∈xs.filter λv=>decide (0<v):=List.mem_of_mem_head? hd
  exact(EX.mp this).1
 obtain⟨s0,s1⟩:=VE xs hx;have sz:¬ xs.sum=0:=by have:=s1 1 m1;omega
 have sm:biD .sum [.tup (ds xs)]=.ok (.int xs.sum):=by
  show (HM 0 (ds xs)).bind (λi=>R.ok (D.int i))=_
  rw[WN,Ew];rfl
 have sq:Ci (.tup (ds xs))=.ok (ds xs):=rfl;have c1:∀ n:Ae,Ce (cG Z [si p,sh (.tup (ds xs)),si n,Af] 3 Pc) (cF Z [si p,sh (.tup (ds xs)),si n,Af] 3 Pd) (ds xs)=.ok (ds (xs.filter λv=>decide (0<v))):=λn=>by
  refine TC xs λv _=>⟨?_,?_⟩
  .simp[cG,Pc]
  .simp[cF,Pd]
 have g:=iL hd;generalize (xs.length:Ae)=N at *;generalize xs.sum=SS at *;generalize ds (xs.filter λv=>decide (0<v))=FL at *
 generalize D.tup (ds xs)=TT at *;generalize ds xs=XL at *;simp[Pq,Df.run,BG,e1,sm,sz,sq,c1,g]
section
variable{Z:Gam}{ns:Ac Ae}{p:Ae}{a b c:R3}{s2 s4 s5 s6 s7 s8:Sl}
end
section
variable{p:Ae}{C:C6}{a b c A B P U_ l m:R3}
theorem swp(h:AG U_ m%p=0):AG m U_%p=0:=by rw[NH];exact h
end
theorem kU(x:R3)(l:Ac R3):(l.map (Am Aa)).any (λy=>eqD y (Am Aa x))=decide (x∈l):=by
 induction l with
 |nil=>simp
 |cons y l ih=>
  rw[CC,GF,ih,Jv,DL,CU,A2,A2,A2,At];exact or_congr ⟨M5,M5⟩ Iff.rfl
theorem Qu(x:R3)(l:Ac R3):B4 .In (Am Aa x) (Aw l)=.ok (.bl (decide (x∈l))):=by
 have k1:(l.map (Am Aa)).all (flD 5)=Aa:=by
  rw[Ey];intro y hy;obtain⟨z,_,rfl⟩:=Fd.mp hy;exact(NY z).1
 show (if (flD 5 (Am Aa x)&&(l.map (Am Aa)).all (flD 5))=Aa then R.ok (D.bl ((l.map (Am Aa)).any λy=>eqD y (Am Aa x))) else R.bad)=_
 rw[k1,(NY x).1,AI (show (Aa&&Aa)=Aa from rfl),kU]
structure Fb (p:Ae) (C:C6) (A B P U_:R3):Prop where
 nA:NF p A
 nB:NF p B
 nP:NF p P
 nU:NF p U_
 ne:A≠B
 ne2:A≠U_
 ne3:B≠U_
 on:FOn p C A B P U_
 gen:K0 p A B P U_
 ln:∃ l,NF p l/\Pr p l (crs A B)/\P=cU p C l
theorem kept{a b c A B P U_ A' B' P' U_':R3}(T:GoodR p a b c)(w:Whl p C)(f:Fb p C A B P U_)(f':Fb p C A' B' P' U_')(L:Led p a b c A B P U_ A' B' P' U_'):PrC p (pb C a b c) C:=iE T.p4 T.nz w w f.gen.1 f.gen.2.1 f.on f'.on L.h0 L.h1 L.h2 L.h3
theorem UG{d:Ag}{i:Ae}(h0:0<=i):Hb n d (Ab i)=min i.toNat n:=by
 show (if i<0 then _ else _)=_
 rw[AT (by omega)]
theorem Rt(M:Ac R3){i:Ae}(h0:0<=i):slD (Aw M) Af (Ab i)=.ok (Aw (M.take i.toNat)):=by
 show R.ok (D.lst (((M.map (Am Aa)).drop 0).take (Hb (M.map (Am Aa)).length (M.map (Am Aa)).length (Ab i)-0)))=_;rw[UG h0,Yg,Nat.sub_zero,BR];unfold Aw;rw[List.map_take]
 congr 2
 by_cases h:i.toNat<=M.length
 .rw[Yz h]
 .rw[Nat.min_eq_right (by omega),E1 (by simp),E1 (by simp;omega)]
theorem oE(M:Ac R3){i:Ae}(h0:0<=i)(h1:i.toNat<=M.length):slD (Aw M) (Ab i) Af=.ok (Aw (M.drop i.toNat)):=by
 show R.ok (D.lst (((M.map (Am Aa)).drop (Hb (M.map (Am Aa)).length 0 (Ab i))).take ((M.map (Am Aa)).length-Hb (M.map (Am Aa)).length 0 (Ab i))))=_;rw[UG h0];unfold Aw;rw[List.map_drop,BR,Yz h1]
 congr 2
 exact E1 (by simp)
section
variable{Z:Gam}{ns:Ac Ae}{p:Ae}
end
noncomputable def Lj:Ss:=(.cons (.ife (.call 56 (.cons (.var 0) (.cons (.var 1) (.cons (.var 3) .nil)))) (.cons (.ret (.bl Aa)) .nil) .nil) .nil)
noncomputable def Mo:Df:=⟨4,Ad,(.cons (.fors 3 (.e (.var 2)) Lj) (.cons (.ret (.bl Ad)) .nil))⟩
noncomputable def M7:E:=(.call 57 (.cons (.var 0) (.cons (.var 5) (.cons (.var 2) .nil))))
noncomputable def Pi:E:=(.and (.cons (.cmp .NotEq (.var 6) (.var 2)) (.cons (.no (.call 221 (.cons (.var 0) (.cons (.var 6) (.cons (.var 4) .nil))))) .nil)))
noncomputable def Pj:E:=(.var 6)
noncomputable def Ng:Df:=⟨7,Aa,(.cons (.asg 4 Ad (.comp M7 5 (.e (.var 1)) DQ)) (.cons (.ret (.comp Pj 6 (.e (.var 3)) Pi)) .nil))⟩
noncomputable def Ld:Ss:=(.cons (.asg 2 Ad (.call 222 (.cons (.var 0) (.cons (.sl (.var 1) .non (.var 3)) (.cons (.var 4) (.cons (.var 2) .nil)))))) .nil)
noncomputable def Nv:Df:=⟨5,Ad,(.cons (.asg 2 Ad (.call 69 (.cons (.var 0) .nil))) (.cons (.forT [3,4] (.enm (.var 1)) Ld) (.cons (.ret (.var 2)) .nil)))⟩
section
variable{Z:Gam}{p:Ae}
noncomputable def Iu(p:Ae)(x:R3)(ls:Ac R3):Aj:=ls.any λl=>decide (AG x l%p=0)
theorem Vg(h:Ra Z){x:R3}(hp:P4 p)(ix:In3 p x){L:D}:∀(ls:Ac R3)(s3:Sl),(∀ l∈ls,In3 p l)->∃ s3',CG (Br Z 3 Lj) (ls.map (Am Aa)) [si p,sh (Am Aa x),sh L,s3]=if Iu p x ls=Aa then .ret (.bl Aa) Ad else .next [si p,sh (Am Aa x),sh L,s3']
 |[],s3,_=>⟨s3,rfl⟩
 |l::ls,s3,hl=>by
  have e:=h p x l hp ix (hl l AE);obtain⟨s3',ih⟩:=Vg h hp ix (L:=L) ls (sh (Am Aa l)) λy hy=>hl y (Ay _ hy)
  refine⟨s3',?_⟩;show (Br Z 3 Lj (Am Aa l) _).turn _=_;by_cases z:AG x l%p=0
  .have t:Iu p x (l::ls)=Aa:=by unfold Iu;simp[z]
   rw[AZ z]at e;rw[AI t];generalize Am Aa x=X at *;generalize Am Aa l=Y_ at *;simp[Br,Lj,e,Eg]
  .have t:Iu p x (l::ls)=Iu p x ls:=by unfold Iu;simp[z]
   rw[Cp z]at e;rw[t,<-ih];generalize Am Aa x=X at *;generalize Am Aa l=Y_ at *;have q:Br Z 3 Lj Y_ [si p,sh X,sh L,s3]=.next [si p,sh X,sh L,sh Y_]:=by simp[Br,Lj,e]
   rw[q];rfl
def XN(Z:Gam):Prop:=∀(p:Ae)(x:R3)(ls:Ac R3),P4 p->In3 p x->(∀ l∈ls,In3 p l)->Z.F 221 [.int p,Am Aa x,Aw ls]=.ok (.bl (Iu p x ls))
theorem i8(h:Ra Z)(x:R3)(ls:Ac R3)(hp:P4 p)(ix:In3 p x)(hl:∀ l∈ls,In3 p l):Mo.run Z [.int p,Am Aa x,Aw ls]=.ok (.bl (Iu p x ls)):=by
 obtain⟨s3,e⟩:=Vg h hp ix (L:=Aw ls) ls Af hl;have sq:Ci (Aw ls)=.ok (ls.map (Am Aa)):=rfl;generalize Aw ls=L at *;generalize ls.map (Am Aa)=M at *;generalize Am Aa x=X at *;cases hb:Iu p x ls with
 |true=>rw[hb,AI rfl]at e;simp[Mo,Df.run,BG,sq,e]
 |false=>rw[hb,AT AD]at e;simp[Mo,Df.run,BG,sq,e]
theorem aa(ny:NF p y)(pr:Pr p y r):NF p (nrm p r)/\Pr p (nrm p r) r:=by
 have ex:∃ y,NF p y/\Pr p y r:=⟨y,ny,pr⟩;unfold nrm;rw[dif_pos ex];exact Fa ex
theorem kv(hp:P4 p){a b:R3}(na:NF p a)(nb:NF p b)(ne:a≠b)(h:Og Z):NF p (nrm p (crs a b))/\Pr p (nrm p (crs a b)) (crs a b)/\Z.F 57 [.int p,Am Aa a,Am Aa b]=.ok (Am Aa (nrm p (crs a b))):=by
 obtain⟨y,i,l,pr,e⟩:=h p a b hp na.1 nb.1 na.2 nb.2 ne;obtain⟨n1,n2⟩:=aa ⟨i,l⟩ pr;have q:=Rk hp ⟨i,l⟩ n1 (pr.trans hp (n2.symm hp));rw[q]at e;exact⟨n1,n2,e⟩
theorem Xl(hp:P4 p){a b q:R3}(pr:Pr p (nrm p (crs a b)) (crs a b)):AG q (nrm p (crs a b))%p=0↔Aq a b q%p=0:=by
 rw[ma hp (show Pr p q q from ⟨1,hp.o1,CgR.of (by unfold Bv;simp)⟩) pr,show AG q (crs a b)=Aq a b q by unfold AG crs Aq det;grind]
noncomputable def stq(p:Ae)(pts:Ac R3)(f q:R3):Aj:=!decide (q=f) && !(pts.any λa=>decide (Aq a f q%p=0))
def QP(Z:Gam):Prop:=∀(p:Ae)(pts:Ac R3)(f:R3)(left:Ac R3),P4 p->(∀ x∈pts,NF p x)->NF p f->f∉pts->(∀ x∈left,NF p x)->Z.F 222 [.int p,Aw pts,Am Aa f,Aw left]=.ok (Aw (left.filter (stq p pts f)))
theorem qI(hj:Og Z)(ha:XN Z)(pts:Ac R3)(f:R3)(left:Ac R3)(hp:P4 p)(np:∀ x∈pts,NF p x)(nf:NF p f)(ni:f∉pts)(nl:∀ x∈left,NF p x):Ng.run Z [.int p,Aw pts,Am Aa f,Aw left]=.ok (Aw (left.filter (stq p pts f))):=by
 have jn:∀ a∈pts,NF p (nrm p (crs a f))/\Pr p (nrm p (crs a f)) (crs a f)/\Z.F 57 [.int p,Am Aa a,Am Aa f]=.ok (Am Aa (nrm p (crs a f))):=λa h=>kv hp (np a h) nf (λz=>ni (z ▸ h)) hj
 have c1:∀ xs:Ac R3,(∀ a∈xs,a∈pts)->Ce (cG Z [si p,sh (Aw pts),sh (Am Aa f),sh (Aw left),Af,Af,Af] 5 DQ) (cF Z [si p,sh (Aw pts),sh (Am Aa f),sh (Aw left),Af,Af,Af] 5 M7) (xs.map (Am Aa))=.ok ((xs.map λa=>nrm p (crs a f)).map (Am Aa)):=by
  intro xs
  induction xs with
  |nil=>intro _;rfl
  |cons a xs ih=>
   intro h;have e:=(jn a (h a AE)).2.2;have e1:cF Z [si p,sh (Aw pts),sh (Am Aa f),sh (Aw left),Af,Af,Af] 5 M7 (Am Aa a)=.ok (Am Aa (nrm p (crs a f))):=by
    generalize Am Aa (nrm p (crs a f))=Y_ at *;generalize Am Aa a=X at *;generalize Am Aa f=F at *;generalize Aw pts=T at *;generalize Aw left=TL at *;simp[cF,M7,e]
   have ih':=ih λb hb=>h b (Ay _ hb)
   show (R.ok Aa).bind _=_;rw[R.bind_ok,AI rfl,e1,R.bind_ok,show Ce _ _ (List.map _ xs)=_ from ih']
   rfl
 have c1:=c1 pts λ_ h=>h
 have il:∀ l∈(pts.map λa=>nrm p (crs a f)),In3 p l:=λl hl=>by
  obtain⟨a,h,rfl⟩:=Fd.mp hl;exact(jn a h).1.1
 have c2:=PZ (g:=cG Z [si p,sh (Aw pts),sh (Am Aa f),sh (Aw left),sh (Aw (pts.map λa=>nrm p (crs a f))),Af,Af] 6 Pi) (f:=cF Z [si p,sh (Aw pts),sh (Am Aa f),sh (Aw left),sh (Aw (pts.map λa=>nrm p (crs a f))),Af,Af] 6 Pj) (q:=stq p pts f) left λx hx=>by
  have e:=ha p x _ hp (nl x hx).1 il;have q1:Iu p x (pts.map λa=>nrm p (crs a f))=pts.any λa=>decide (Aq a f x%p=0):=by
   unfold Iu;rw[JI,DL,Ez,Ez];constructor
   .rintro⟨a,h,z⟩;exact⟨a,h,AZ ((Xl hp (jn a h).2.1).mp (AW z))⟩
   .rintro⟨a,h,z⟩;exact⟨a,h,AZ ((Xl hp (jn a h).2.1).mpr (AW z))⟩
  rw[q1]at e;have q2:=Jv x f;have f1:=(NY x).1;have f2:=(NY f).1;unfold stq;generalize (pts.any λa=>decide (Aq a f x%p=0))=B at *
  generalize decide (x=f)=B2 at *;generalize Aw (pts.map λa=>nrm p (crs a f))=T2 at *
  generalize Am Aa x=X at *;generalize Am Aa f=F at *;generalize Aw pts=T at *;generalize Aw left=TL at *;constructor
  .cases B2<;>cases B<;>simp[cG,Pi,e,q2,f1,f2]
  .simp[cF,Pj]
 have s1:Ci (Aw pts)=.ok (pts.map (Am Aa)):=rfl;have s2:Ci (Aw left)=.ok (left.map (Am Aa)):=rfl;have e3:Aw (pts.map λa=>nrm p (crs a f))=.lst ((pts.map λa=>nrm p (crs a f)).map (Am Aa)):=rfl
 have e4:Aw (left.filter (stq p pts f))=.lst ((left.filter (stq p pts f)).map (Am Aa)):=rfl;rw[e3]at c2;rw[e4];generalize (left.filter (stq p pts f)).map (Am Aa)=RL at *;generalize (pts.map λa=>nrm p (crs a f)).map (Am Aa)=LL at *
 generalize left.map (Am Aa)=M2 at *;generalize pts.map (Am Aa)=M1 at *;generalize Am Aa f=F at *;generalize Aw pts=T at *;generalize Aw left=TL at *;simp[Ng,Df.run,BG,s1,s2,c1,c2,Eg]
noncomputable def IU(p:Ae):Ac R3->Ac R3->Ac R3->Ac R3
 |_,[],left=>left
 |seen,f::rest,left=>IU p (seen++[f]) rest (left.filter (stq p seen f))
theorem UE(h:QP Z)(hp:P4 p){PT:Ac R3}(np:∀ x∈PT,NF p x)(nd:PT.Nodup)(hz:PT.length<=1000):∀(rest seen left:Ac R3)(s3 s4:Sl),PT=seen++rest->(∀ x∈left,NF p x)->∃ s3' s4',CG (D0 Z [3,4] Ld) (EK seen.length (rest.map (Am Aa))) [si p,sh (Aw PT),sh (Aw left),s3,s4]=.next [si p,sh (Aw PT),sh (Aw (IU p seen rest left)),s3',s4']
 |[],seen,left,s3,s4,_,_=>⟨s3,s4,rfl⟩
 |f::rest,seen,left,s3,s4,e,nl=>by
  have nf:NF p f:=np f (by rw[e];simp)
  have ns:∀ x∈seen,NF p x:=λx hx=>np x (by rw[e];simp[hx])
  have ni:f∉seen:=λz=>by
   rw[e,List.nodup_append]at nd;exact nd.2.2 f z f AE rfl
  have e1:=h p seen f left hp ns nf ni nl;obtain⟨s3',s4',ih⟩:=UE h hp np nd hz rest (seen++[f]) (left.filter (stq p seen f)) (si seen.length) (sh (Am Aa f)) (by rw[e];simp) λx hx=>nl x (EX.mp hx).1
  refine⟨s3',s4',?_⟩;rw[BJ,D9]at ih;rw[show IU p seen (f::rest) left=IU p (seen++[f]) rest (left.filter (stq p seen f)) from rfl,<-ih]
  have s1:slD (Aw PT) Af (Ab (seen.length:Ae))=.ok (Aw seen):=by
   rw[Rt PT (by omega),Gn,e,Yu]
   rfl
  show (D0 Z [3,4] Ld (.tup [.int seen.length,Am Aa f]) _).turn _=_;have t:D0 Z [3,4] Ld (.tup [.int seen.length,Am Aa f]) [si p,sh (Aw PT),sh (Aw left),s3,s4]=.next [si p,sh (Aw PT),sh (Aw (left.filter (stq p seen f))),si seen.length,sh (Am Aa f)]:=by
   generalize Aw (left.filter (stq p seen f))=T3 at *;generalize Aw left=T2 at *;generalize Aw PT=T1 at *;generalize Aw seen=T0 at *;generalize Am Aa f=F at *;simp[D0,Ld,F8,ER,s1,e1,slE]
  rw[t];rfl
noncomputable def KY(p:Ae)(pts:Ac R3):Ac R3:=IU p [] pts (E5 p)
def XJ(Z:Gam):Prop:=∀(p:Ae)(pts:Ac R3),P4 p->(∀ x∈pts,NF p x)->pts.Nodup->pts.length<=1000->Z.F 223 [.int p,Aw pts]=.ok (Aw (KY p pts))
theorem gy(h:QP Z)(ht:∀ p,P4 p->Z.F 69 [.int p]=.ok (Aw (E5 p)))(pts:Ac R3)(hp:P4 p)(np:∀ x∈pts,NF p x)(nd:pts.Nodup)(hz:pts.length<=1000):Nv.run Z [.int p,Aw pts]=.ok (Aw (KY p pts)):=by
 obtain⟨s3,s4,e⟩:=UE h hp np nd hz pts [] (E5 p) Af Af rfl λx hx=>(NR hp).mp hx
 have e1:=ht p hp;have sq:Ci (Aw pts)=.ok (pts.map (Am Aa)):=rfl;unfold KY;generalize Aw (IU p [] pts (E5 p))=T3 at *;generalize Aw (E5 p)=T2 at *;generalize pts.map (Am Aa)=M at *;generalize Aw pts=T at *;have e':CG (D0 Z [3,4] Ld) (EK 0 M) [si p,sh T,sh T2,Af,Af]=.next [si p,sh T,sh T3,s3,s4]:=e;simp[Nv,Df.run,BG,e1,sq,e']
end
noncomputable def PR:Df:=⟨2,Ad,(.cons (.ife (.cmp .Eq (.var 0) (.var 1)) (.cons (.rais 107 (.cons (.var 0) .nil)) .nil) .nil) (.cons (.ret (.tup (.cons (.bin .Sub (.bin .Mult (.idx (.var 0) (.int 1)) (.idx (.var 1) (.int 2))) (.bin .Mult (.idx (.var 0) (.int 2)) (.idx (.var 1) (.int 1)))) (.cons (.bin .Sub (.bin .Mult (.idx (.var 0) (.int 2)) (.idx (.var 1) (.int 0))) (.bin .Mult (.idx (.var 0) (.int 0)) (.idx (.var 1) (.int 2)))) (.cons (.bin .Sub (.bin .Mult (.idx (.var 0) (.int 0)) (.idx (.var 1) (.int 1))) (.bin .Mult (.idx (.var 0) (.int 1)) (.idx (.var 1) (.int 0)))) .nil))))) .nil))⟩
theorem Ur(Z:Gam)(a b:R3)(ha:B3 a)(hb:B3 b)(ne:a≠b):PR.run Z [Am Aa a,Am Aa b]=.ok (Am Aa (crs a b)):=by
 obtain⟨x0,x1,x2⟩:=Fu Aa a;obtain⟨y0,y1,y2⟩:=Fu Aa b;have k:∀ {u v},Bd 300 u->Bd 300 v->Fm u v=Aa:=λhu hv=>G8 hu hv (by decide) (by decide)
 have f:∀ r:R3,flD 5 (Am Aa r)=Aa:=λ_=>rfl
 have e:eqD (Am Aa a) (Am Aa b)=Ad:=by rw[Jv];exact Cp ne
 simp[PR,Df.run,BG,f,e,x0,x1,x2,y0,y1,y2,k ha.2.1 hb.2.2,k ha.2.2 hb.2.1,k ha.2.2 hb.1,k ha.1 hb.2.2,k ha.1 hb.2.1,k ha.2.1 hb.1];rfl
noncomputable def alk(a:R3):Ex:=⟨107,[(AQ "triple",Am Aa a)]⟩
theorem aj(hp:P4 p)(h:In3 p a):mkX 107 "triple" [Am Aa a]=.ok (alk a):=by
 have ph:=hp.hi;obtain⟨⟨x0,x1⟩,⟨y0,y1⟩,z0,z1⟩:=h;have e:xfD 1 (Am Aa a)=Aa:=by
  show (DG 3 8&&([D.int a.1,.int a.2.1,.int a.2.2].all (xfD 0)))=Aa;simp[xfD];omega
 show (if (xfD 1 (Am Aa a)||xfD 2 (Am Aa a))=Aa then R.ok (alk a) else .bad)=_
 rw[e];rfl
section
variable{Z:Gam}{ns:Ac Ae}
theorem in1(b:Aj):biD .int [.bl b]=.ok (.int (if b=Aa then 1 else 0)):=by cases b<;>rfl
end
theorem Kw{body:D->Rho->O}(I:Rho->Prop)(f:Ag->D)(g:Ag->Ap D):∀(L:Ac Ag),(∀ m∈L,∀ Y,I Y->(∃ d,g m=Ab d/\body (f m) Y=.ret d Ad)\/(g m=Af/\∃ Y',body (f m) Y=.next Y'/\I Y'))->∀ Y,I Y->(∃ d,L.findSome? g=Ab d/\CG body (L.map f) Y=.ret d Ad)\/(L.findSome? g=Af/\∃ Y',CG body (L.map f) Y=.next Y'/\I Y')
 |[],_,Y,i=>.inr ⟨rfl,Y,rfl,i⟩
 |m::L,h,Y,i=>by
  rcases h m (AE ..) Y i with ⟨d,e1,e2⟩|⟨e1,Y',e2,i'⟩
  .refine .inl ⟨d,by rw[Hg,e1],?_⟩
   show (body (f m) Y).turn _=_;rw[e2];rfl
  .rcases Kw I f g L (λm' h'=>h m' (Ay _ h')) Y' i' with ⟨d,a,b⟩|⟨a,r,b,c⟩
   .refine .inl ⟨d,by rw[Hg,e1];exact a,?_⟩
    show (body (f m) Y).turn _=_;rw[e2];exact b
   .refine .inr ⟨by rw[Hg,e1];exact a,r,?_,c⟩
    show (body (f m) Y).turn _=_;rw[e2];exact b
noncomputable def atZ(pts:Ac R3)(i:Ag):R3:=pts.getD i (0,0,0)
theorem inZ(hg:∀ t∈pts,In3 p t)(h:i<pts.length):In3 p (atZ pts i):=by
 have e:atZ pts i=pts[i]:=by simp[atZ,h]
 rw[e];exact hg _ (EB h)
theorem bZ(hp:P4 p)(hg:∀ t∈pts,In3 p t)(h:i<pts.length):B3 (atZ pts i):=(CY hp (inZ hg h)).b3 (by decide)
theorem rQ(h:i<pts.length):EJ (pts.map (Am Aa)) (i:Ae)=.ok (Am Aa (atZ pts i)):=by
 have h':i<(pts.map (Am Aa)).length:=by simpa using h
 rw[lI _ i h'];simp[atZ,h]
theorem Ha(h:i<pts.length):CJ (Aw pts) (.int (i:Ae))=.ok (Am Aa (atZ pts i)):=rQ h
def Kf(n:Ag):Prop:=n<20000
theorem yJ(hn:Kf n)(hj:j<n):DJ ((j:Ae)+1) (n:Ae)=.ok ((Bm (n-(j+1))).map λm=>D.int ((j+1+m:Ag):Ae)):=by
 have hn':n<20000:=hn;unfold DJ;rw[AI (by omega)]
 unfold D5;have e:((n:Ae)-((j:Ae)+1)).toNat=n-(j+1):=by omega
 rw[e]
 congr 1
theorem RQ:∀(xs:Ac D)(s:Ag),EK (s:Ae) xs=(Bm xs.length).map λm=>D.tup [.int ((s+m:Ag):Ae),xs.getD m .non]
 |[],s=>rfl
 |x::xs,s=>by
  have ih:=RQ xs (s+1);rw[EK,Bz,EZ,CC,F1];have e:((s:Ae)+1)=((s+1:Ag):Ae):=by omega
  rw[e,ih]
  congr 1
  apply FJ
  intro m _;show D.tup [.int ((s+1+m:Ag):Ae),xs.getD m .non]=D.tup [.int ((s+(m+1):Ag):Ae),(x::xs).getD (m+1) .non];have e2:s+1+m=s+(m+1):=by omega
  rw[e2];rfl
noncomputable def z3_(p:Ae)(pts:Ac R3)(i j k:Ag):Ap D:=if Aq (atZ pts i) (atZ pts j) (atZ pts k)%p=0 then Ab (.tup [Am Aa (atZ pts i),Am Aa (atZ pts j),Am Aa (atZ pts k)]) else Af
noncomputable def z2_(p:Ae)(pts:Ac R3)(i j:Ag):Ap D:=(Bm (pts.length-(j+1))).findSome? λm=>z3_ p pts i j (j+1+m)
noncomputable def z1_(p:Ae)(pts:Ac R3)(i:Ag):Ap D:=(Bm (pts.length-(i+1))).findSome? λm=>z2_ p pts i (i+1+m)
noncomputable def z0_(p:Ae)(pts:Ac R3):Ap D:=(Bm pts.length).findSome? (z1_ p pts)
theorem Mz{t:Ag}{it:I}{body:Ss}{xs:Ac D}(h:FQ Z Y it=.ok xs):evSs Z Y (.cons (.fors t it body) .nil)=CG (Br Z t body) xs Y:=by rw[J3,zL,NG,h,NS]
theorem ND{j a l:Ag}(hn:Kf pts.length)(hj:j<pts.length)(h1:Dp Y a=.ok (.int (j:Ae)))(h2:Dp Y l=.ok (Aw pts)):FQ Z Y (.rng2 (.bin .Add (.var a) (.int 1)) (.bi .len (.cons (.var l) .nil)))=.ok ((Bm (pts.length-(j+1))).map λm=>D.int ((j+1+m:Ag):Ae)):=by
 have e1:evE Z Y (.bin .Add (.var a) (.int 1))=.ok (.int ((j:Ae)+1)):=by
  show ((Dp Y a).bind λx=>R.bind (.ok (.int 1)) λy=>C4 .Add x y)=_
  rw[h1];rfl
 have e2:evE Z Y (.bi .len (.cons (.var l) .nil))=.ok (.int (pts.length:Ae)):=by
  show (((Dp Y l).bind λx=>R.bind (.ok []) λxs=>.ok (x::xs)).bind λxs=>biD .len xs)=_
  rw[h2];show R.ok (D.int (((pts.map (Am Aa)).length:Ag):Ae))=_;rw[BR]
 have e3:∀ x y:E,(∀ r,top Y x r=r)->(∀ r,top Y y r=r)->∀ i j:Ae,evE Z Y x=.ok (.int i)->evE Z Y y=.ok (.int j)->FQ Z Y (.rng2 x y)=DJ i j:=λx y tx ty i j hx hy=>by
  rw[gY,lP,tx,ty,hx,hy];simp only[R.bind_ok,Qd]
 rw[e3 _ _ (λ_=>rfl) (λ_=>rfl) _ _ e1 e2]
 exact yJ hn hj
section
variable{Z:Gam}{p:Ae}{pts:Ac R3}
theorem dO(h:HH Z)(hp:P4 p)(hg:∀ t∈pts,In3 p t){k:Ag}(hi:i<pts.length)(hj:j<pts.length)(hk:k<pts.length)(Y:Rho)(I:∃ s,Y=[si p,sh (Aw pts),si i,sh (Am Aa (atZ pts i)),si j,s]):(∃ d,z3_ p pts i j k=Ab d/\Br Z 5 JX (.int (k:Ae)) Y=.ret d Ad)\/(z3_ p pts i j k=Af/\∃ Y',Br Z 5 JX (.int (k:Ae)) Y=.next Y'/\∃ s,Y'=[si p,sh (Aw pts),si i,sh (Am Aa (atZ pts i)),si j,s]):=by
 obtain⟨s,rfl⟩:=I;have e:=h p Aa _ _ _ hp.pos (bZ hp hg hi) (bZ hp hg hj) (bZ hp hg hk);by_cases z:Aq (atZ pts i) (atZ pts j) (atZ pts k)%p=0
 .rw[z]at e;exact .inl ⟨_,AI z,by simp[Br,JX,Ha hj,Ha hk,e,Eg]⟩
 .exact .inr ⟨AT z,[si p,sh (Aw pts),si i,sh (Am Aa (atZ pts i)),si j,si k],by simp[Br,JX,Ha hj,Ha hk,e,z],_,rfl⟩
theorem dP(h:HH Z)(hp:P4 p)(hg:∀ t∈pts,In3 p t)(hn:Kf pts.length)(hi:i<pts.length)(hj:j<pts.length)(Y:Rho)(I:∃ s t,Y=[si p,sh (Aw pts),si i,sh (Am Aa (atZ pts i)),s,t]):(∃ d,z2_ p pts i j=Ab d/\Br Z 4 Kv (.int (j:Ae)) Y=.ret d Ad)\/(z2_ p pts i j=Af/\∃ Y',Br Z 4 Kv (.int (j:Ae)) Y=.next Y'/\∃ s t,Y'=[si p,sh (Aw pts),si i,sh (Am Aa (atZ pts i)),s,t]):=by
 obtain⟨s,t,rfl⟩:=I;have e:Br Z 4 Kv (.int (j:Ae)) [si p,sh (Aw pts),si i,sh (Am Aa (atZ pts i)),s,t]=CG (Br Z 5 JX) ((Bm (pts.length-(j+1))).map λm=>D.int ((j+1+m:Ag):Ae)) [si p,sh (Aw pts),si i,sh (Am Aa (atZ pts i)),si j,t]:=by
  exact Mz (ND hn hj rfl rfl)
 rw[e];rcases Kw (body:=Br Z 5 JX) (λY=>∃ s,Y=[si p,sh (Aw pts),si i,sh (Am Aa (atZ pts i)),si j,s]) (λm=>D.int ((j+1+m:Ag):Ae)) (λm=>z3_ p pts i j (j+1+m)) (Bm (pts.length-(j+1))) (λm hm Y I=>dO h hp hg hi hj (by have:=BE.mp hm;omega) Y I) [si p,sh (Aw pts),si i,sh (Am Aa (atZ pts i)),si j,t] ⟨t,rfl⟩ with ⟨d,a,b⟩|⟨a,r,b,u,c⟩
 .exact .inl ⟨d,a,b⟩
 .exact .inr ⟨a,r,b,_,u,c⟩
theorem dQ(h:HH Z)(hp:P4 p)(hg:∀ t∈pts,In3 p t)(hn:Kf pts.length)(hi:i<pts.length)(Y:Rho)(I:∃ a b s t,Y=[si p,sh (Aw pts),a,b,s,t]):(∃ d,z1_ p pts i=Ab d/\D0 Z [2,3] Ij (.tup [.int ((0+i:Ag):Ae),(pts.map (Am Aa)).getD i .non]) Y=.ret d Ad)\/(z1_ p pts i=Af/\∃ Y',D0 Z [2,3] Ij (.tup [.int ((0+i:Ag):Ae),(pts.map (Am Aa)).getD i .non]) Y=.next Y'/\∃ a b s t,Y'=[si p,sh (Aw pts),a,b,s,t]):=by
 obtain⟨a,b,s,t,rfl⟩:=I;have e0:(pts.map (Am Aa)).getD i .non=Am Aa (atZ pts i):=by simp[atZ,hi]
 have e:D0 Z [2,3] Ij (.tup [.int ((0+i:Ag):Ae),(pts.map (Am Aa)).getD i .non]) [si p,sh (Aw pts),a,b,s,t]=CG (Br Z 4 Kv) ((Bm (pts.length-(i+1))).map λm=>D.int ((i+1+m:Ag):Ae)) [si p,sh (Aw pts),si i,sh (Am Aa (atZ pts i)),s,t]:=by
  have e':∀(x y:D),D0 Z [2,3] Ij (.tup [x,y]) [si p,sh (Aw pts),a,b,s,t]=evSs Z [si p,sh (Aw pts),sh x,sh y,s,t] Ij:=λ_ _=>rfl
  rw[e0,YB,e'];unfold Ij;rw[Mz (ND hn hi rfl rfl)]
 rw[e];rcases Kw (body:=Br Z 4 Kv) (λY=>∃ s t,Y=[si p,sh (Aw pts),si i,sh (Am Aa (atZ pts i)),s,t]) (λm=>D.int ((i+1+m:Ag):Ae)) (λm=>z2_ p pts i (i+1+m)) (Bm (pts.length-(i+1))) (λm hm Y I=>dP h hp hg hn hi (by have:=BE.mp hm;omega) Y I) [si p,sh (Aw pts),si i,sh (Am Aa (atZ pts i)),s,t] ⟨s,t,rfl⟩ with ⟨d,a,b⟩|⟨a,r,b,u,v,c⟩
 .exact .inl ⟨d,a,b⟩
 .exact .inr ⟨a,r,b,_,_,u,v,c⟩
theorem jX(h:HH Z)(hp:P4 p)(hg:∀ t∈pts,In3 p t)(hn:Kf pts.length):Lf.run Z [.int p,Aw pts]=.ok ((z0_ p pts).getD .non):=by
 have en:=RQ (pts.map (Am Aa)) 0;rw[BR]at en;have en':EK 0 (pts.map (Am Aa))=(Bm pts.length).map λm=>D.tup [.int ((0+m:Ag):Ae),(pts.map (Am Aa)).getD m .non]:=en
 have hE:FQ Z [si p,sh (Aw pts),Af,Af,Af,Af] (.enm (.var 1))=.ok ((Bm pts.length).map λm=>D.tup [.int ((0+m:Ag):Ae),(pts.map (Am Aa)).getD m .non]):=by
  show R.ok (EK 0 (pts.map (Am Aa)))=_;rw[en']
 rcases Kw (body:=D0 Z [2,3] Ij) (λY=>∃ a b s t,Y=[si p,sh (Aw pts),a,b,s,t]) (λm=>D.tup [.int ((0+m:Ag):Ae),(pts.map (Am Aa)).getD m .non]) (z1_ p pts) (Bm pts.length) (λm hm Y I=>dQ h hp hg hn (BE.mp hm) Y I) [si p,sh (Aw pts),Af,Af,Af,Af] ⟨_,_,_,_,rfl⟩ with ⟨d,a,b⟩|⟨a,r,b,u1,u2,u3,u4,c⟩
 .have e:z0_ p pts=Ab d:=a;show (evSs Z [si p,sh (Aw pts),Af,Af,Af,Af] (.cons (.forT [2,3] (.enm (.var 1)) Ij) (.cons (.ret .non) .nil))).ans Ad=_;rw[J3,Qy,hE,Qv,b,e];rfl
 .have e:z0_ p pts=Af:=a;subst c;show (evSs Z [si p,sh (Aw pts),Af,Af,Af,Af] (.cons (.forT [2,3] (.enm (.var 1)) Ij) (.cons (.ret .non) .nil))).ans Ad=_;rw[J3,Qy,hE,Qv,b,e];rfl
noncomputable def Ku:Ss:=(.cons (.ife (.cmp .Eq (.call 233 (.cons (.var 0) (.cons (.var 4) (.cons (.idx (.var 1) (.var 5)) .nil)))) (.int 0)) (.cons (.ret (.tup (.cons (.idx (.var 1) (.var 2)) (.cons (.idx (.var 1) (.var 3)) (.cons (.idx (.var 1) (.var 5)) .nil))))) .nil) .nil) .nil)
noncomputable def JW:Ss:=(.cons (.asg 4 Ad (.call 232 (.cons (.var 0) (.cons (.idx (.var 1) (.var 2)) (.cons (.idx (.var 1) (.var 3)) .nil))))) (.cons (.fors 5 (.rng2 (.bin .Add (.var 3) (.int 1)) (.bi .len (.cons (.var 1) .nil))) Ku) .nil))
noncomputable def Kt:Ss:=(.cons (.fors 3 (.rng2 (.bin .Add (.var 2) (.int 1)) (.bi .len (.cons (.var 1) .nil))) JW) .nil)
noncomputable def O6:Df:=⟨6,Ad,(.cons (.fors 2 (.rng (.bi .len (.cons (.var 1) .nil))) Kt) (.cons (.ret .non) .nil))⟩
noncomputable def IH:Ss:=(.cons (.ife (.cmp .In (.idx (.var 0) (.var 1)) (.sl (.var 0) .non (.var 1))) (.cons (.ret (.idx (.var 0) (.var 1))) .nil) .nil) .nil)
noncomputable def Po:Df:=⟨2,Ad,(.cons (.fors 1 (.rng (.bi .len (.cons (.var 0) .nil))) IH) (.cons (.ret .non) .nil))⟩
theorem sO(hc:Lm Z)(hs:Ll Z)(hp:P4 p)(hg:∀ t∈pts,In3 p t){k:Ag}(hi:i<pts.length)(hj:j<pts.length)(hk:k<pts.length):Z.F 233 [.int p,Am Aa (mdR p (crs (atZ pts i) (atZ pts j))),Am Aa (atZ pts k)]=.ok (.int (Aq (atZ pts i) (atZ pts j) (atZ pts k)%p)):=by
 have e:=hs p Aa Aa (mdR p (crs (atZ pts i) (atZ pts j))) (atZ pts k) hp.pos ((CY hp (kj hp.pos _)).b3 (by decide)) (bZ hp hg hk)
 have q:AG (mdR p (crs (atZ pts i) (atZ pts j))) (atZ pts k)%p=Aq (atZ pts i) (atZ pts j) (atZ pts k)%p:=by
  have c:=Hn (CgR.md (p:=p) (a:=mdR p (crs (atZ pts i) (atZ pts j))) _root_.rfl) (CgR.rfl (a:=atZ pts k));have d:AG (crs (atZ pts i) (atZ pts j)) (atZ pts k)=Aq (atZ pts i) (atZ pts j) (atZ pts k):=by unfold AG crs Aq det;grind
  rw[d]at c;exact c
 rw[q]at e;exact e
theorem cX(hc:Lm Z)(hs:Ll Z)(hp:P4 p)(hg:∀ t∈pts,In3 p t){k:Ag}(hi:i<pts.length)(hj:j<pts.length)(hk:k<pts.length)(Y:Rho)(I:∃ s,Y=[si p,sh (Aw pts),si i,si j,sh (Am Aa (mdR p (crs (atZ pts i) (atZ pts j)))),s]):(∃ d,z3_ p pts i j k=Ab d/\Br Z 5 Ku (.int (k:Ae)) Y=.ret d Ad)\/(z3_ p pts i j k=Af/\∃ Y',Br Z 5 Ku (.int (k:Ae)) Y=.next Y'/\∃ s,Y'=[si p,sh (Aw pts),si i,si j,sh (Am Aa (mdR p (crs (atZ pts i) (atZ pts j)))),s]):=by
 obtain⟨s,rfl⟩:=I;have e:=sO hc hs hp hg hi hj hk;by_cases z:Aq (atZ pts i) (atZ pts j) (atZ pts k)%p=0
 .rw[z]at e;exact .inl ⟨_,AI z,by
   generalize Am Aa (mdR p (crs (atZ pts i) (atZ pts j)))=LN at *;simp[Br,Ku,Ha hi,Ha hj,Ha hk,e,Eg]⟩
 .exact .inr ⟨AT z,[si p,sh (Aw pts),si i,si j,sh (Am Aa (mdR p (crs (atZ pts i) (atZ pts j)))),si k],by
   generalize Am Aa (mdR p (crs (atZ pts i) (atZ pts j)))=LN at *;simp[Br,Ku,Ha hi,Ha hj,Ha hk,e,z],_,rfl⟩
theorem cY(hc:Lm Z)(hs:Ll Z)(hp:P4 p)(hg:∀ t∈pts,In3 p t)(hn:Kf pts.length)(hi:i<pts.length)(hj:j<pts.length)(Y:Rho)(I:∃ s t u,Y=[si p,sh (Aw pts),si i,s,t,u]):(∃ d,z2_ p pts i j=Ab d/\Br Z 3 JW (.int (j:Ae)) Y=.ret d Ad)\/(z2_ p pts i j=Af/\∃ Y',Br Z 3 JW (.int (j:Ae)) Y=.next Y'/\∃ s t u,Y'=[si p,sh (Aw pts),si i,s,t,u]):=by
 obtain⟨s,t,u,rfl⟩:=I;have e1:=hc p Aa Aa (atZ pts i) (atZ pts j) hp.pos (bZ hp hg hi) (bZ hp hg hj);have e:Br Z 3 JW (.int (j:Ae)) [si p,sh (Aw pts),si i,s,t,u]=CG (Br Z 5 Ku) ((Bm (pts.length-(j+1))).map λm=>D.int ((j+1+m:Ag):Ae)) [si p,sh (Aw pts),si i,si j,sh (Am Aa (mdR p (crs (atZ pts i) (atZ pts j)))),u]:=by
  have a1:evS Z [si p,sh (Aw pts),si i,si j,t,u] (.asg 4 Ad (.call 232 (.cons (.var 0) (.cons (.idx (.var 1) (.var 2)) (.cons (.idx (.var 1) (.var 3)) .nil)))))=.next [si p,sh (Aw pts),si i,si j,sh (Am Aa (mdR p (crs (atZ pts i) (atZ pts j)))),u]:=by
   generalize Am Aa (mdR p (crs (atZ pts i) (atZ pts j)))=LN at *;simp[Ha hi,Ha hj,e1]
  show evSs Z [si p,sh (Aw pts),si i,si j,t,u] JW=_;unfold JW;rw[J3,a1,tF];generalize Am Aa (mdR p (crs (atZ pts i) (atZ pts j)))=LN;exact Mz (ND hn hj rfl rfl)
 rw[e];rcases Kw (body:=Br Z 5 Ku) (λY=>∃ s,Y=[si p,sh (Aw pts),si i,si j,sh (Am Aa (mdR p (crs (atZ pts i) (atZ pts j)))),s]) (λm=>D.int ((j+1+m:Ag):Ae)) (λm=>z3_ p pts i j (j+1+m)) (Bm (pts.length-(j+1))) (λm hm Y I=>cX hc hs hp hg hi hj (by have:=BE.mp hm;omega) Y I) [si p,sh (Aw pts),si i,si j,sh (Am Aa (mdR p (crs (atZ pts i) (atZ pts j)))),u] ⟨_,rfl⟩ with ⟨d,a,b⟩|⟨a,r,b,w,c⟩
 .exact .inl ⟨d,a,b⟩
 .exact .inr ⟨a,r,b,_,_,w,c⟩
theorem cZ(hc:Lm Z)(hs:Ll Z)(hp:P4 p)(hg:∀ t∈pts,In3 p t)(hn:Kf pts.length)(hi:i<pts.length)(Y:Rho)(I:∃ r s t u,Y=[si p,sh (Aw pts),r,s,t,u]):(∃ d,z1_ p pts i=Ab d/\Br Z 2 Kt (.int (0+(i:Ae))) Y=.ret d Ad)\/(z1_ p pts i=Af/\∃ Y',Br Z 2 Kt (.int (0+(i:Ae))) Y=.next Y'/\∃ r s t u,Y'=[si p,sh (Aw pts),r,s,t,u]):=by
 obtain⟨r,s,t,u,rfl⟩:=I;rw[Ew];have e:Br Z 2 Kt (.int (i:Ae)) [si p,sh (Aw pts),r,s,t,u]=CG (Br Z 3 JW) ((Bm (pts.length-(i+1))).map λm=>D.int ((i+1+m:Ag):Ae)) [si p,sh (Aw pts),si i,s,t,u]:=by
  exact Mz (ND hn hi rfl rfl)
 rw[e];rcases Kw (body:=Br Z 3 JW) (λY=>∃ s t u,Y=[si p,sh (Aw pts),si i,s,t,u]) (λm=>D.int ((i+1+m:Ag):Ae)) (λm=>z2_ p pts i (i+1+m)) (Bm (pts.length-(i+1))) (λm hm Y I=>cY hc hs hp hg hn hi (by have:=BE.mp hm;omega) Y I) [si p,sh (Aw pts),si i,s,t,u] ⟨_,_,_,rfl⟩ with ⟨d,a,b⟩|⟨a,r,b,w,x,y,c⟩
 .exact .inl ⟨d,a,b⟩
 .exact .inr ⟨a,r,b,_,w,x,y,c⟩
theorem gv(hN:N=n)(l:biD .len [T]=.ok (.int N))(h:N<=1000)(h0:0<=N):FQ Z [si p,sh T,Af,Af,Af,Af] (.rng (.bi .len (.cons (.var 1) .nil)))=.ok (D5 0 n):=by
 have rg:DJ 0 N=.ok (D5 0 (N-0).toNat):=Up (by decide) (by decide) (by omega) (by omega)
 have q:(N-0).toNat=n:=by omega
 rw[q]at rg;generalize D5 0 n=RR at *;have e:evE Z [si p,sh T,Af,Af,Af,Af] (.bi .len (.cons (.var 1) .nil))=.ok (.int N):=by simp[l]
 rw[U_9,VS];simp only[WJ,e,R.bind_ok,Qd];exact rg
theorem Mk(pts:Ac R3):biD .len [Aw pts]=.ok (.int pts.length):=by unfold Aw;simp
theorem nC(hz:pts.length<=1000):FQ Z [si p,sh (Aw pts),Af,Af,Af,Af] (.rng (.bi .len (.cons (.var 1) .nil)))=.ok (D5 0 pts.length):=gv rfl (Mk pts) (by omega) (by omega)
theorem jR(hc:Lm Z)(hs:Ll Z)(hp:P4 p)(hg:∀ t∈pts,In3 p t)(hz:pts.length<=1000):O6.run Z [.int p,Aw pts]=.ok ((z0_ p pts).getD .non):=by
 have hn:Kf pts.length:=by show pts.length<20000;omega
 have r6:=nC (Z:=Z) (p:=p) hz;rw[show D5 0 pts.length=(Bm pts.length).map fun(i:Ag)=>D.int (0+(i:Ae)) by unfold D5;rfl]at r6
 rcases Kw (body:=Br Z 2 Kt) (λY=>∃ r s t u,Y=[si p,sh (Aw pts),r,s,t,u]) (fun(m:Ag)=>D.int (0+(m:Ae))) (z1_ p pts) (Bm pts.length) (λm hm Y I=>cZ hc hs hp hg hn (BE.mp hm) Y I) [si p,sh (Aw pts),Af,Af,Af,Af] ⟨_,_,_,_,rfl⟩ with ⟨d,a,b⟩|⟨a,r,b,r1,r2,r3,r4,c⟩
 .have e:z0_ p pts=Ab d:=a;show (evSs Z [si p,sh (Aw pts),Af,Af,Af,Af] (.cons (.fors 2 (.rng (.bi .len (.cons (.var 1) .nil))) Kt) (.cons (.ret .non) .nil))).ans Ad=_;rw[J3,NG,r6,NS,b,e];rfl
 .have e:z0_ p pts=Af:=a;subst c;show (evSs Z [si p,sh (Aw pts),Af,Af,Af,Af] (.cons (.fors 2 (.rng (.bi .len (.cons (.var 1) .nil))) Kt) (.cons (.ret .non) .nil))).ans Ad=_;rw[J3,NG,r6,NS,b,e];rfl
end
noncomputable def Jo:Ss:=(.cons (.ife (.cmp .In (.var 2) (.sl (.var 0) .non (.var 1))) (.cons (.rais 107 (.cons (.var 2) .nil)) .nil) .nil) .nil)
noncomputable def Lw:Df:=⟨3,Ad,(.cons (.forT [1,2] (.enm (.var 0)) Jo) .nil)⟩
section
variable{Z:Gam}{p:Ae}
noncomputable def DK:Ac R3->Ac R3->Ap R3
 |_,[]=>Af
 |seen,x::r=>if x∈seen then Ab x else DK (seen++[x]) r
noncomputable def alO:Ap R3->R D
 |some x=>.exn (alk x)
 |none=>.ok .non
theorem Vc{x:R3}:∀{r seen:Ac R3},DK seen r=Ab x->x∈r
 |[],_,h=>by cases h
 |y::r,seen,h=>by
  unfold DK at h;split at h
  .cases h;exact AE
  .exact Ay _ (Vc h)
theorem T7:∀{r seen:Ac R3},DK seen r=Af->r.Nodup/\∀ x∈r,x∉seen
 |[],_,_=>⟨DW,λx h=>by cases h⟩
 |y::r,seen,h=>by
  unfold DK at h;split at h
  .cases h
  .rename_i hy;obtain⟨h1,h2⟩:=T7 h;refine⟨BW.mpr ⟨λz=>h2 y z (by simp),h1⟩,λx hx=>?_⟩
   rcases At.mp hx with rfl|hx
   .exact hy
   .exact λz=>h2 x hx (by simp[z])
theorem VI(PT seen rest:Ac R3)(e:PT=seen++rest):slD (Aw PT) Af (Ab (seen.length:Ae))=.ok (Aw seen):=by
 rw[Rt PT (by omega),Gn,e,Yu]
 rfl
theorem VB{PT:Ac R3}(hx:∀ x∈PT,Z.xn 107 [Am Aa x]=.ok (alk x)):∀(rest seen:Ac R3)(s1 s2:Sl),PT=seen++rest ->
    ∃ Y':Rho,CG (D0 Z [1,2] Jo) (EK seen.length (rest.map (Am Aa))) [sh (Aw PT),s1,s2]=match DK seen rest with
      |some x=>.exn (alk x) Y'
      |none=>.next Y'
  |[],seen,s1,s2,_=>⟨_,rfl⟩
  |x::rest,seen,s1,s2,e=>by
    have s:=VI PT seen (x::rest) e;have xx:=hx x (by rw[e];simp)
    have c:=Qu x seen;by_cases hm:x∈seen
    · rw[AZ hm]at c;refine⟨[sh (Aw PT),si seen.length,sh (Am Aa x)],?_⟩;rw[show DK seen (x::rest)=Ab x by unfold DK;rw[AI hm]]
      show (D0 Z [1,2] Jo (.tup [.int seen.length,Am Aa x]) _).turn _=O.exn (alk x) [sh (Aw PT),si seen.length,sh (Am Aa x)];generalize alk x=AK at *;generalize Aw PT=T at *;generalize Aw seen=T0 at *;generalize Am Aa x=X at *;have t:D0 Z [1,2] Jo (.tup [.int seen.length,X]) [sh T,s1,s2]=.exn AK [sh T,si seen.length,sh X]:=by
        simp[D0,Jo,F8,ER,s,c,slE,xx]
      rw[t];rfl
    · rw[Cp hm]at c;obtain⟨Y',ih⟩:=VB hx rest (seen++[x]) (si seen.length) (sh (Am Aa x)) (by rw[e];simp)
      refine⟨Y',?_⟩;rw[show DK seen (x::rest)=DK (seen++[x]) rest by conv=>lhs;unfold DK;rw[AT hm]]
      rw[BJ,D9]at ih;rw[<-ih];show (D0 Z [1,2] Jo (.tup [.int seen.length,Am Aa x]) _).turn _=_;have t:D0 Z [1,2] Jo (.tup [.int seen.length,Am Aa x]) [sh (Aw PT),s1,s2]=.next [sh (Aw PT),si seen.length,sh (Am Aa x)]:=by
        generalize Aw PT=T at *;generalize Aw seen=T0 at *;generalize Am Aa x=X at *;simp[D0,Jo,F8,ER,s,c,slE]
      rw[t];rfl
theorem jQ(pts:Ac R3)(hx:∀ x∈pts,Z.xn 107 [Am Aa x]=.ok (alk x)):Lw.run Z [Aw pts]=alO (DK [] pts):=by
 obtain⟨Y',e⟩:=VB hx pts [] Af Af rfl;have sq:Ci (Aw pts)=.ok (pts.map (Am Aa)):=rfl;have e':CG (D0 Z [1,2] Jo) (EK 0 (pts.map (Am Aa))) [sh (Aw pts),Af,Af]=_:=e;generalize pts.map (Am Aa)=M at *;generalize Aw pts=T at *;cases hd:DK [] pts with
 |none=>rw[hd]at e';simp[Lw,Df.run,BG,sq,e',alO]
 |some x=>rw[hd]at e';simp[Lw,Df.run,BG,sq,e',alO]
theorem Uo(a:Ae)(n:Ag):D5 a (n+1)=.int a::D5 (a+1) n:=by
 unfold D5;rw[EZ,CC,F1]
 congr 1
 .simp
 .refine FJ λk _=>?_
  simp only[Function.comp]
  congr 1
  omega
noncomputable def SY:Ap R3->D
 |some x=>Am Aa x
 |none=>.non
theorem Wf{PT:Ac R3}:∀(rest seen:Ac R3)(s1:Sl),PT=seen++rest->∃ Y':Rho,CG (Br Z 1 IH) (D5 seen.length rest.length) [sh (Aw PT),s1]=match DK seen rest with
   |some x=>.ret (Am Aa x) Ad
   |none=>.next Y'
 |[],seen,s1,_=>⟨_,rfl⟩
 |x::rest,seen,s1,e=>by
  have s:=VI PT seen (x::rest) e;have c:=Qu x seen;have ix:CJ (Aw PT) (.int seen.length)=.ok (Am Aa x):=by
   have h:=Ha (pts:=PT) (i:=seen.length) (by rw[e];simp)
   rw[h];simp[atZ,e]
  rw[Bz,Uo];by_cases hm:x∈seen
  .rw[AZ hm]at c;refine⟨[],?_⟩;rw[show DK seen (x::rest)=Ab x by unfold DK;rw[AI hm]]
   show (Br Z 1 IH (.int seen.length) _).turn _=O.ret (Am Aa x) Ad;generalize Aw PT=T at *;generalize Aw seen=T0 at *;generalize Am Aa x=X at *;have t:Br Z 1 IH (.int seen.length) [sh T,s1]=.ret X Ad:=by
    simp[Br,IH,s,c,ix,slE,Eg]
   rw[t];rfl
  .rw[Cp hm]at c;obtain⟨Y',ih⟩:=Wf (PT:=PT) rest (seen++[x]) (si seen.length) (by rw[e];simp)
   refine⟨Y',?_⟩;rw[show DK seen (x::rest)=DK (seen++[x]) rest by conv=>lhs;unfold DK;rw[AT hm]]
   rw[BJ,D9]at ih;rw[<-ih];show (Br Z 1 IH (.int seen.length) _).turn _=_;have t:Br Z 1 IH (.int seen.length) [sh (Aw PT),s1]=.next [sh (Aw PT),si seen.length]:=by
    generalize Aw PT=T at *;generalize Aw seen=T0 at *;generalize Am Aa x=X at *;simp[Br,IH,s,c,ix,slE]
   rw[t];rfl
theorem yI(hN:N=n)(l:biD .len [T]=.ok (.int N))(h:N<=1000)(h0:0<=N):FQ Z [sh T,Af] (.rng (.bi .len (.cons (.var 0) .nil)))=.ok (D5 0 n):=by
 have rg:DJ 0 N=.ok (D5 0 (N-0).toNat):=Up (by decide) (by decide) (by omega) (by omega)
 have q:(N-0).toNat=n:=by omega
 rw[q]at rg;generalize D5 0 n=RR at *;have e:evE Z [sh T,Af] (.bi .len (.cons (.var 0) .nil))=.ok (.int N):=by simp[l]
 rw[U_9,VS];simp only[WJ,e,R.bind_ok,Qd];exact rg
theorem iP(pts:Ac R3)(hz:pts.length<=1000):Po.run Z [Aw pts]=.ok (SY (DK [] pts)):=by
 obtain⟨Y',e⟩:=Wf (Z:=Z) pts [] Af rfl;have e':CG (Br Z 1 IH) (D5 0 pts.length) [sh (Aw pts),Af]=_:=e;have r:=yI (Z:=Z) (T:=Aw pts) (n:=pts.length) rfl (Mk pts) (by omega) (by omega)
 generalize D5 0 pts.length=RR at *;generalize Aw pts=T at *;show (evSs Z [sh T,Af] (.cons (.fors 1 (.rng (.bi .len (.cons (.var 0) .nil))) IH) (.cons (.ret .non) .nil))).ans Ad=_;rw[J3,NG,r,NS,e'];cases DK [] pts<;>rfl
end
section
variable{Z:Gam}{p:Ae}
noncomputable abbrev ow(l:Ac R3):Sl:=Ab (.lst (l.map (Am Aa)),Aa)
end
noncomputable def O9:Df:=⟨2,Ad,(.cons (.asg 1 Ad (.bin .Mod (.var 1) (.bin .Add (.bin .Add (.bin .Mult (.var 0) (.var 0)) (.var 0)) (.int 1)))) (.cons (.ife (.cmp .Eq (.var 1) (.int 0)) (.cons (.ret (.tup (.cons (.int 0) (.cons (.int 0) (.cons (.int 1) .nil))))) .nil) .nil) (.cons (.ife (.cmp .LtE (.var 1) (.var 0)) (.cons (.ret (.tup (.cons (.int 0) (.cons (.int 1) (.cons (.bin .Sub (.var 1) (.int 1)) .nil))))) .nil) .nil) (.cons (.ret (.tup (.cons (.int 1) (.cons (.bin .FloorDiv (.bin .Sub (.bin .Sub (.var 1) (.var 0)) (.int 1)) (.var 0)) (.cons (.bin .Mod (.bin .Sub (.bin .Sub (.var 1) (.var 0)) (.int 1)) (.var 0)) .nil))))) .nil))))⟩
section
variable{Z:Gam}{ns:Ac Ae}{p:Ae}
theorem gH(x:R3)(l:Ac R3):B4 .NotIn (Am Aa x) (Aw l)=.ok (.bl (!decide (x∈l))):=by
 have h:=Qu x l;have h:(if (flD 5 (Am Aa x)&&(l.map (Am Aa)).all (flD 5))=Aa then R.ok (D.bl ((l.map (Am Aa)).any λy=>eqD y (Am Aa x))) else .bad)=_:=h
 show (if (flD 5 (Am Aa x)&&(l.map (Am Aa)).all (flD 5))=Aa then R.ok (D.bl (!(l.map (Am Aa)).any λy=>eqD y (Am Aa x))) else .bad)=_
 split at h
 .rename_i hc;rw[AI hc]
  injection h with h
  injection h with h
  rw[h]
 .cases h
end
section
variable{Z:Gam}{ns:Ac Ae}{p:Ae}
end
section
variable{p:Ae}
theorem gi(h:z0_ p pts=Af){k:Ag}(h1:i<j)(h2:j<k)(h3:k<pts.length):Aq (atZ pts i) (atZ pts j) (atZ pts k)%p≠0:=by
 unfold z0_ at h;rw[FA]at h;have a:=h i (BE.mpr (by omega))
 unfold z1_ at a;rw[FA]at a;have b:=a (j-(i+1)) (BE.mpr (by omega))
 rw[show i+1+(j-(i+1))=j by omega]at b
 unfold z2_ at b;rw[FA]at b;have c:=b (k-(j+1)) (BE.mpr (by omega))
 rw[show j+1+(k-(j+1))=k by omega]at c
 unfold z3_ at c;split at c
 .cases c
 .assumption
theorem Ru{d:D}(h:z0_ p pts=Ab d):∃ x∈pts,∃ y∈pts,∃ z∈pts,d=.tup [Am Aa x,Am Aa y,Am Aa z]:=by
 unfold z0_ at h;obtain⟨i,hi,h⟩:=EA h;unfold z1_ at h;obtain⟨m,hm,h⟩:=EA h;unfold z2_ at h;obtain⟨n,hn,h⟩:=EA h;have a:=BE.mp hi;have b:=BE.mp hm;have c:=BE.mp hn;have mem:∀{k:Ag},k<pts.length->atZ pts k∈pts:=λ{k} hk=>by
  have e:atZ pts k=pts[k]:=by simp[atZ,hk]
  rw[e];exact EB hk
 unfold z3_ at h;split at h
 .cases h;exact⟨_,mem (by omega),_,mem (by omega),_,mem (by omega),rfl⟩
 .cases h
theorem NL{k:Ag}(hk:k<pts.length):atZ pts k=pts[k]:=by simp[atZ,hk]
theorem wI{z:R3}(hx:x∈pts)(hy:y∈pts)(hz:z∈pts)(n1:x≠y)(n2:x≠z)(n3:y≠z)(h:Aq x y z%p=0):∃ d,z0_ p pts=Ab d:=by
 cases e:z0_ p pts with
 |some d=>exact⟨d,rfl⟩
 |none=>
  exfalso
  obtain⟨i,hi,rfl⟩:=Ds hx;obtain⟨j,hj,rfl⟩:=Ds hy;obtain⟨k,hk,rfl⟩:=Ds hz;have m1:i≠j:=λz=>n1 (by subst z;rfl)
  have m2:i≠k:=λz=>n2 (by subst z;rfl)
  have m3:j≠k:=λz=>n3 (by subst z;rfl)
  have nz:∀{a b c:Ag}(ha:a<pts.length)(hb:b<pts.length)(hc:c<pts.length),a<b->b<c->Aq pts[a] pts[b] pts[c]%p≠0:=λ{a b c} ha hb hc h1 h2=>by
   have q:=gi e h1 h2 hc;rw[NL ha,NL hb,NL hc]at q;exact q
  have s1:∀ x y z:R3,Aq x y z=- Aq y x z:=λx y z=>by unfold Aq det;grind
  have s2:∀ x y z:R3,Aq x y z=- Aq x z y:=λx y z=>by unfold Aq det;grind
  have ng:∀{u:Ae},u%p=0->(-u)%p=0:=λ{u} hu=>by
   have:=Int.dvd_of_emod_eq_zero hu;exact Int.emod_eq_zero_of_dvd (Int.dvd_neg.mpr this)
  have o1:∀{x y z:R3},Aq x y z%p=0->Aq y x z%p=0:=λ{x y z} h=>by rw[s1];exact ng h
  have o2:∀{x y z:R3},Aq x y z%p=0->Aq x z y%p=0:=λ{x y z} h=>by rw[s2];exact ng h
  rcases Hz m1 with a|a<;>rcases Hz m2 with b|b<;>rcases Hz m3 with c|c
  .exact nz hi hj hk a c h
  .exact nz hi hk hj b c (o2 h)
  .omega
  .exact nz hk hi hj b a (o1 (o2 h))
  .exact nz hj hi hk a b (o1 h)
  .omega
  .exact nz hj hk hi c b (o2 (o1 h))
  .exact nz hk hj hi c a (o1 (o2 (o1 h)))
end
noncomputable def r11(y:Ag):Ac R3:=(Bm 11).map fun(z:Ag)=>((1,(y:Ae),(z:Ae)):R3)
section
variable{p:Ae}{C D O W Z_:C6}{a b c x y z:R3}
end
section
variable{Z:Gam}{ns:Ac Ae}{p:Ae}{C E:C6}{a b c:R3}
end
noncomputable def pl(p:Ae):C6:=⟨0,1,0,0,p-1,0⟩
theorem jV(h:Oh Z)(p:Ae)(hp:P4 p):M9.run Z [.int p]=.ok (Cm (pl p)):=by
 have l1:Bg p [0,1,0,0,-1,0]=Ab 1:=by rcases hp with rfl|rfl|rfl|rfl<;>decide
 have i1:FR p 1 1:=by rcases hp with rfl|rfl|rfl|rfl<;>exact⟨by decide,by decide,by decide⟩
 have f1:fmI p 1 [0,1,0,0,-1,0]=(pl p).l:=by rcases hp with rfl|rfl|rfl|rfl<;>decide
 have e:=h p Aa _ 1 1 hp l1 i1;rw[f1]at e;have e':Z.F 122 [.int p,.tup [.int 0,.int 1,.int 0,.int 0,.int (-1),.int 0]]=.ok (Cm (pl p)):=e;generalize Cm (pl p)=X at *;simp[M9,Df.run,BG,e']
theorem third{a b:R3}(hp:P4 p)(na:NF p a)(nb:NF p b)(ne:a≠b):∃ c,Aq a b c%p≠0:=by
 refine CM λn=>?_
 have h:∀ c,Aq a b c%p=0:=λc=>CM λz=>n ⟨c,z⟩
 have e:∀ c,AG (crs a b) c%p=0:=λc=>by rw[rH];exact h c
 have c0:=e (1,0,0);have c1:=e (0,1,0);have c2:=e (0,0,1);unfold AG at c0 c1 c2;simp only[Et,CD,X3,Ew]at c0 c1 c2;have z:CgR p (crs a b) (0,0,0):=⟨by show _%p=0%p;rw[c0,Bj],by show _%p=0%p;rw[c1,Bj],by show _%p=0%p;rw[c2,Bj]⟩
 exact ne (Rk hp nb na (Qj hp z na.2 nb.2)).symm
noncomputable def lc2(a:Ae)(A:C6)(b:Ae)(B:C6):C6:=⟨a*A.c0+b*B.c0,a*A.c1+b*B.c1,a*A.c2+b*B.c2,a*A.c3+b*B.c3,a*A.c4+b*B.c4,a*A.c5+b*B.c5⟩
noncomputable def l3(a:Ae)(A:C6)(b:Ae)(B:C6)(c:Ae)(G:C6):C6:=⟨a*A.c0+b*B.c0+c*G.c0,a*A.c1+b*B.c1+c*G.c1,a*A.c2+b*B.c2+c*G.c2,a*A.c3+b*B.c3+c*G.c3,a*A.c4+b*B.c4+c*G.c4,a*A.c5+b*B.c5+c*G.c5⟩
section
variable{p:Ae}{x y z w:R3}{Q A B G L M:C6}
theorem Ho(hp:P4 p)(hx:NF p x)(hy:NF p y)(ne:x≠y):¬ CgR p (crs x y) (0,0,0):=λh=>ne (Rk hp hx hy (Pr.symm hp (Qj hp h hx.2 hy.2)))
theorem tS(x y z:R3):bk0 (x.1,y.1,z.1) (x.2.1,y.2.1,z.2.1) (x.2.2,y.2.2,z.2.2)=crs y z/\bk1 (x.1,y.1,z.1) (x.2.1,y.2.1,z.2.1) (x.2.2,y.2.2,z.2.2)=crs z x/\bk2 (x.1,y.1,z.1) (x.2.1,y.2.1,z.2.1) (x.2.2,y.2.2,z.2.2)=crs x y:=by
 refine⟨?_,?_,?_⟩<;>simp only[bk0,bk1,bk2,BA,By,Bx,crs]<;>refine BP ?_ (BP ?_ ?_)<;>simp only<;>grind
theorem lV(x y z:R3):Aq (x.1,y.1,z.1) (x.2.1,y.2.1,z.2.1) (x.2.2,y.2.2,z.2.2)=Aq x y z:=by
 unfold Aq det;simp only;grind
theorem lY(b0 b1 b2:Ae)(r0 r1 r2:R3):pb ⟨0,0,0,b0,b1,b2⟩ r0 r1 r2=l3 b0 (prd r0 r1) b1 (prd r0 r2) b2 (prd r1 r2):=by
 simp only[pb,l3,prd,vI,bI,AG,ap,tw0,tw1,tw2,BA,By,Bx]
 congr 1<;>grind
theorem gS(hx:vI Q x%p=0)(hy:vI Q y%p=0)(hz:vI Q z%p=0):CgC p (scC (Aq x y z*Aq x y z) Q) (l3 (bI Q x y) (prd (crs y z) (crs z x)) (bI Q x z) (prd (crs y z) (crs x y)) (bI Q y z) (prd (crs z x) (crs x y))):=by
 obtain⟨e0,e1,e2⟩:=WV (x.1,y.1,z.1) (x.2.1,y.2.1,z.2.1) (x.2.2,y.2.2,z.2.2);have h:=Xb Q (x.1,y.1,z.1) (x.2.1,y.2.1,z.2.1) (x.2.2,y.2.2,z.2.2) (bk0 (x.1,y.1,z.1) (x.2.1,y.2.1,z.2.1) (x.2.2,y.2.2,z.2.2)) (bk1 (x.1,y.1,z.1) (x.2.1,y.2.1,z.2.1) (x.2.2,y.2.2,z.2.2)) (bk2 (x.1,y.1,z.1) (x.2.1,y.2.1,z.2.1) (x.2.2,y.2.2,z.2.2));rw[e0,e1,e2,Xc,lV]at h;obtain⟨f0,f1,f2⟩:=tS x y z;rw[f0,f1,f2]at h;rw[<-h,<-lY];refine MQ ?_ ⟨Cg.rfl,Cg.rfl,Cg.rfl⟩ ⟨Cg.rfl,Cg.rfl,Cg.rfl⟩ ⟨Cg.rfl,Cg.rfl,Cg.rfl⟩;have k:∀{n:Ae},n%p=0->Cg p n 0:=λ{n} h=>by show n%p=0%p;rw[h,Bj]
 exact⟨k hx,k hy,k hz,Cg.rfl,Cg.rfl,Cg.rfl⟩
theorem cV(x y z w:R3):Bv (Aq x y z) w=(Aq w y z*x.1+Aq x w z*y.1+Aq x y w*z.1,Aq w y z*x.2.1+Aq x w z*y.2.1+Aq x y w*z.2.1,Aq w y z*x.2.2+Aq x w z*y.2.2+Aq x y w*z.2.2):=by
 unfold Bv Aq det;refine BP ?_ (BP ?_ ?_)<;>simp only<;>grind
theorem W6(x y z w:R3):Bv (Aq x y z) (crs z w)=(Aq w y z*(crs z x).1-Aq x w z*(crs y z).1,Aq w y z*(crs z x).2.1-Aq x w z*(crs y z).2.1,Aq w y z*(crs z x).2.2-Aq x w z*(crs y z).2.2):=by
 unfold Bv Aq det crs;refine BP ?_ (BP ?_ ?_)<;>simp only<;>grind
theorem W7(x y z w:R3):Bv (Aq x y z) (crs y w)=(Aq x y w*(crs y z).1-Aq w y z*(crs x y).1,Aq x y w*(crs y z).2.1-Aq w y z*(crs x y).2.1,Aq x y w*(crs y z).2.2-Aq w y z*(crs x y).2.2):=by
 unfold Bv Aq det crs;refine BP ?_ (BP ?_ ?_)<;>simp only<;>grind
theorem gk(x y z w:R3):Bv (Aq x y z) (crs x w)=(Aq x w z*(crs x y).1-Aq x y w*(crs z x).1,Aq x w z*(crs x y).2.1-Aq x y w*(crs z x).2.1,Aq x w z*(crs x y).2.2-Aq x y w*(crs z x).2.2):=by
 unfold Bv Aq det crs;refine BP ?_ (BP ?_ ?_)<;>simp only<;>grind
theorem dE(x y z w:R3):scC (Aq x y z) (prd (crs x y) (crs z w))=lc2 (Aq w y z) (prd (crs z x) (crs x y)) (-Aq x w z) (prd (crs y z) (crs x y)):=by
 have e:=W6 x y z w;unfold Bv at e;simp only[JC]at e;obtain⟨e0,e1,e2⟩:=e;generalize Aq x y z=d at *;generalize Aq w y z=u0 at *;generalize Aq x w z=u1 at *;generalize crs z w=c at *;generalize crs x y=r2 at *;generalize crs y z=r0 at *;generalize crs z x=r1 at *;simp only[scC,lc2,prd]
 congr 1<;>grind
theorem eC(x y z w:R3):scC (Aq x y z) (prd (crs x z) (crs y w))=lc2 (Aq w y z) (prd (crs z x) (crs x y)) (-Aq x y w) (prd (crs y z) (crs z x)):=by
 have e:=W7 x y z w;have f:crs x z=Bv (-1) (crs z x):=by
  unfold Bv crs;refine BP ?_ (BP ?_ ?_)<;>simp only<;>grind
 rw[f];unfold Bv at e ⊢;simp only[JC]at e;obtain⟨e0,e1,e2⟩:=e;generalize Aq x y z=d at *;generalize Aq w y z=u0 at *;generalize Aq x y w=u2 at *;generalize crs y w=c at *;generalize crs x y=r2 at *;generalize crs y z=r0 at *;generalize crs z x=r1 at *;simp only[scC,lc2,prd]
 congr 1<;>grind
theorem z0{n:Ae}(h:n%p=0):Cg p n 0:=by show n%p=0%p;rw[h,Bj]
theorem z0'{n:Ae}(h:Cg p n 0):n%p=0:=by
 have:n%p=0%p:=h;rw[this,Bj]
theorem cR(hx:vI Q x%p=0)(hy:vI Q y%p=0)(hz:vI Q z%p=0)(hw:vI Q w%p=0):Cg p (Aq w y z*Aq x w z*bI Q x y+Aq w y z*Aq x y w*bI Q x z+Aq x w z*Aq x y w*bI Q y z) 0:=by
 have e:=N8 Q x y z (Aq w y z) (Aq x w z) (Aq x y w);rw[<-cV]at e;have f:vI Q (Bv (Aq x y z) w)=Aq x y z*Aq x y z*vI Q w:=by
  unfold vI Bv;simp only;grind
 rw[f]at e;have h1:Cg p (Aq x y z*Aq x y z*vI Q w) 0:=(Cg.mul Cg.rfl (z0 hw)).trans (Cg.of (CD _));rw[e]at h1;have k:∀{a n:Ae},n%p=0->Cg p (a*a*n) 0:=λh=>(Cg.mul Cg.rfl (z0 h)).trans (Cg.of (CD _))
 have h2:=h1.sub (((k (a:=Aq w y z) hx).add (k (a:=Aq x w z) hy)).add (k (a:=Aq x y w) hz));refine(Cg.of ?_).trans (h2.trans (Cg.of (by rfl)))
 generalize vI Q x=q0;generalize vI Q y=q1;generalize vI Q z=q2;generalize bI Q x y=b0;generalize bI Q x z=b1;generalize bI Q y z=b2;generalize Aq w y z=u0;generalize Aq x w z=u1;generalize Aq x y w=u2;grind
def Spn(p:Ae)(Q L M:C6):Prop:=∃ g a b,g%p≠0/\CgC p (scC g Q) (lc2 a L b M)
section
variable{d u0 u1 u2 b0 b1 b2 q A B G l m:Ae}
theorem L5(h:Cg p (d*d*q) (b0*A+b1*B+b2*G))(r:Cg p (u0*u1*b0+u0*u2*b1+u1*u2*b2) 0)(hl:d*l=u0*G + -u1*B)(hm:d*m=u0*G + -u2*A):Cg p (u1*u2*(d*d)*q) (-(u2*b1*d)*l + -(u1*b0*d)*m):=by
 have h1:=(Cg.rfl (p:=p) (a:=u1*u2)).mul h;have h2:=(Cg.rfl (p:=p) (a:=G)).mul r;have h3:=h1.sub h2.symm;refine(Cg.of (by clear h r h1 h2 h3 hl hm;grind)).trans (h3.trans (Cg.of ?_))
 clear h r h1 h2 h3
 have e1:-(u2*b1*d)*l=-(u2*b1)*(d*l):=by grind
 have e2:-(u1*b0*d)*m=-(u1*b0)*(d*m):=by grind
 rw[e1,e2,hl,hm];grind
theorem LZ(h:Cg p (d*d*q) (b0*A+b1*B+b2*G))(h1:Cg p u1 0)(hb:Cg p b1 0)(hl:d*l=u0*G + -u1*B)(hm:d*m=u0*G + -u2*A):Cg p (u0*u2*(d*d)*q) ((u0*b0+u2*b2)*d*l + -(u0*b0*d)*m):=by
 have e1:=(Cg.rfl (p:=p) (a:=u0*u2)).mul h;have e2:=(Cg.rfl (p:=p) (a:=u0*u2*B)).mul hb;have e3:=(Cg.rfl (p:=p) (a:=(u0*b0+u2*b2)*B)).mul h1;have e4:=(e1.sub e2.symm).sub e3.symm;refine(Cg.of (by clear h e1 e2 e3 e4 hl hm;grind)).trans (e4.trans (Cg.of ?_))
 clear h e1 e2 e3 e4
 have f1:(u0*b0+u2*b2)*d*l=(u0*b0+u2*b2)*(d*l):=by grind
 have f2:-(u0*b0*d)*m=-(u0*b0)*(d*m):=by grind
 rw[f1,f2,hl,hm];grind
theorem LY(h:Cg p (d*d*q) (b0*A+b1*B+b2*G))(h2:Cg p u2 0)(hb:Cg p b0 0)(hl:d*l=u0*G + -u1*B)(hm:d*m=u0*G + -u2*A):Cg p (u0*u1*(d*d)*q) (-(u0*b1*d)*l+(u0*b1+u1*b2)*d*m):=by
 have e1:=(Cg.rfl (p:=p) (a:=u0*u1)).mul h;have e2:=(Cg.rfl (p:=p) (a:=u0*u1*A)).mul hb;have e3:=(Cg.rfl (p:=p) (a:=(u0*b1+u1*b2)*A)).mul h2;have e4:=(e1.sub e2.symm).sub e3.symm;refine(Cg.of (by clear h e1 e2 e3 e4 hl hm;grind)).trans (e4.trans (Cg.of ?_))
 clear h e1 e2 e3 e4
 have f1:-(u0*b1*d)*l=-(u0*b1)*(d*l):=by grind
 have f2:(u0*b1+u1*b2)*d*m=(u0*b1+u1*b2)*(d*m):=by grind
 rw[f1,f2,hl,hm];grind
end
theorem HP{a b c d:Ae}(ha:Cg p a 0)(hb:Cg p b 0):Cg p (a*c-b*d) 0:=((ha.mul Cg.rfl).sub (hb.mul Cg.rfl)).trans (Cg.of (by rw[Dv,Dv];rfl))
theorem QW(hp:P4 p)(dz:d%p≠0)(h:CgR p (Bv d r) (0,0,0)):CgR p r (0,0,0):=⟨z0 ((Ft hp dz).mp (z0' h.1)),z0 ((Ft hp dz).mp (z0' h.2.1)),z0 ((Ft hp dz).mp (z0' h.2.2))⟩
theorem W4(hp:P4 p)(dz:Aq x y z%p≠0)(hx:vI Q x%p=0)(hy:vI Q y%p=0)(hz:vI Q z%p=0)(hw:vI Q w%p=0)(n0:¬ CgR p (crs x w) (0,0,0))(n1:¬ CgR p (crs y w) (0,0,0))(n2:¬ CgR p (crs z w) (0,0,0)):Spn p Q (prd (crs x y) (crs z w)) (prd (crs x z) (crs y w)):=by
 have t:=gS (Q:=Q) hx hy hz;have r:=cR (Q:=Q) hx hy hz hw;have eL:=dE x y z w;have eM:=eC x y z w;have m01:¬ (Cg p (Aq w y z) 0/\Cg p (Aq x w z) 0):=λ⟨a,b⟩=>n2 (QW hp dz (by rw[W6];exact⟨HP a b,HP a b,HP a b⟩))
 have m02:¬ (Cg p (Aq w y z) 0/\Cg p (Aq x y w) 0):=λ⟨a,b⟩=>n1 (QW hp dz (by rw[W7];exact⟨HP b a,HP b a,HP b a⟩))
 have m12:¬ (Cg p (Aq x w z) 0/\Cg p (Aq x y w) 0):=λ⟨a,b⟩=>n0 (QW hp dz (by rw[gk];exact⟨HP a b,HP a b,HP a b⟩))
 generalize prd (crs x y) (crs z w)=L at *;generalize prd (crs x z) (crs y w)=M at *;generalize prd (crs z x) (crs x y)=G at *;generalize prd (crs y z) (crs x y)=B at *;generalize prd (crs y z) (crs z x)=A at *;generalize bI Q x y=b0 at *;generalize bI Q x z=b1 at *;generalize bI Q y z=b2 at *;generalize Aq x y z=d at *;generalize Aq w y z=u0 at *;generalize Aq x w z=u1 at *;generalize Aq x y w=u2 at *;obtain⟨t0,t1,t2,t3,t4,t5⟩:=t;simp only[scC,l3]at t0 t1 t2 t3 t4 t5;simp only[scC,lc2,C6.mk.injEq]at eL eM;obtain⟨l0,l1,l2,l3,l4,l5⟩:=eL;obtain⟨k0,k1,k2,k3,k4,k5⟩:=eM;have dd:=Ct hp dz dz;by_cases c1:Cg p u1 0
 .have v0:u0%p≠0:=λh=>m01 ⟨z0 h,c1⟩
  have v2:u2%p≠0:=λh=>m12 ⟨c1,z0 h⟩
  have hb:Cg p b1 0:=by
   have e:Cg p (u0*u2*b1) 0:=by
    have h1:=((c1.mul (Cg.rfl (a:=u0*b0))).add (c1.mul (Cg.rfl (a:=u2*b2))));exact(Cg.of (by clear r h1;grind)).trans ((r.sub h1).trans (Cg.of (by clear r h1;grind)))
   exact z0 ((Ft hp (Ct hp v0 v2)).mp (z0' e))
  exact⟨u0*u2*(d*d),_,_,Ct hp (Ct hp v0 v2) dd,LZ t0 c1 hb l0 k0,LZ t1 c1 hb l1 k1,LZ t2 c1 hb l2 k2,LZ t3 c1 hb l3 k3,LZ t4 c1 hb l4 k4,LZ t5 c1 hb l5 k5⟩
 .have v1:u1%p≠0:=λh=>c1 (z0 h)
  by_cases c2:Cg p u2 0
  .have v0:u0%p≠0:=λh=>m02 ⟨z0 h,c2⟩
   have hb:Cg p b0 0:=by
    have e:Cg p (u0*u1*b0) 0:=by
     have h1:=((c2.mul (Cg.rfl (a:=u0*b1))).add (c2.mul (Cg.rfl (a:=u1*b2))));exact(Cg.of (by clear r h1;grind)).trans ((r.sub h1).trans (Cg.of (by clear r h1;grind)))
    exact z0 ((Ft hp (Ct hp v0 v1)).mp (z0' e))
   exact⟨u0*u1*(d*d),_,_,Ct hp (Ct hp v0 v1) dd,LY t0 c2 hb l0 k0,LY t1 c2 hb l1 k1,LY t2 c2 hb l2 k2,LY t3 c2 hb l3 k3,LY t4 c2 hb l4 k4,LY t5 c2 hb l5 k5⟩
  .have v2:u2%p≠0:=λh=>c2 (z0 h)
   exact⟨u1*u2*(d*d),_,_,Ct hp (Ct hp v1 v2) dd,L5 t0 r l0 k0,L5 t1 r l1 k1,L5 t2 r l2 k2,L5 t3 r l3 k3,L5 t4 r l4 k4,L5 t5 r l5 k5⟩
theorem di(hp:P4 p)(hd:Aq x y z%p≠0\/Aq x y w%p≠0)(hx:vI Q x%p=0)(hy:vI Q y%p=0)(hz:vI Q z%p=0)(hw:vI Q w%p=0)(ax:NF p x)(ay:NF p y)(az:NF p z)(aw:NF p w)(xz:x≠z)(yz:y≠z)(zw:z≠w)(xw:x≠w)(yw:y≠w):Spn p Q (prd (crs x y) (crs z w)) (prd (crs x z) (crs y w)):=by
 rcases hd with hd|hd
 .exact W4 hp hd hx hy hz hw (Ho hp ax aw xw) (Ho hp ay aw yw) (Ho hp az aw zw)
 .have hd':Aq y x w%p≠0:=by
   have e:Aq y x w=-1*Aq x y w:=by unfold Aq det;grind
   rw[e];exact Ct hp hp.m1 hd
  have q:=W4 hp hd' hy hx hw hz (Ho hp ay az yz) (Ho hp ax az xz) (Ho hp aw az zw.symm);have e1:prd (crs y x) (crs w z)=prd (crs x y) (crs z w):=by
   unfold prd crs;congr 1<;>grind
  have e2:prd (crs y w) (crs x z)=prd (crs x z) (crs y w):=by
   unfold prd;congr 1<;>grind
  rw[e1,e2]at q;exact q
theorem WH(a b:Ae)(v:R3):vI (lc2 a L b M) v=a*vI L v+b*vI M v:=by
 unfold vI lc2;simp only;grind
theorem bf{a a' b b':Ae}{L' M':C6}(ha:Cg p a a')(hL:CgC p L L')(hb:Cg p b b')(hM:CgC p M M'):CgC p (lc2 a L b M) (lc2 a' L' b' M'):=
 ⟨(ha.mul hL.1).add (hb.mul hM.1),(ha.mul hL.2.1).add (hb.mul hM.2.1),(ha.mul hL.2.2.1).add (hb.mul hM.2.2.1),(ha.mul hL.2.2.2.1).add (hb.mul hM.2.2.2.1),(ha.mul hL.2.2.2.2.1).add (hb.mul hM.2.2.2.2.1),(ha.mul hL.2.2.2.2.2).add (hb.mul hM.2.2.2.2.2)⟩
theorem W2{l:Ae}(hp:P4 p)(lQ:Bg p Q.l=Ab l)(h:CgC p Q ⟨0,0,0,0,0,0⟩):Bl:=by
 have:Bg p Q.l=Af:=Jr.mpr λn hn=>by
  simp only[C6.l,At,AM,BH]at hn;obtain⟨h0,h1,h2,h3,h4,h5⟩:=h;rcases hn with rfl|rfl|rfl|rfl|rfl|rfl
  .exact z0' h0
  .exact z0' h1
  .exact z0' h2
  .exact z0' h3
  .exact z0' h4
  .exact z0' h5
 rw[this]at lQ;cases lQ
theorem Vn(hp:P4 p)(dz:d%p≠0)(h:CgC p (scC d Q) ⟨0,0,0,0,0,0⟩):CgC p Q ⟨0,0,0,0,0,0⟩:=⟨z0 ((Ft hp dz).mp (z0' h.1)),z0 ((Ft hp dz).mp (z0' h.2.1)),z0 ((Ft hp dz).mp (z0' h.2.2.1)),z0 ((Ft hp dz).mp (z0' h.2.2.2.1)),z0 ((Ft hp dz).mp (z0' h.2.2.2.2.1)),z0 ((Ft hp dz).mp (z0' h.2.2.2.2.2))⟩
theorem xP(hp:P4 p){l k n:Ae}{F:C6}(lQ:Bg p Q.l=Ab l)(kz:k%p≠0)(h:CgC p (scC k Q) (scC n F)):PrC p F Q:=by
 have nz:n%p≠0:=λz=>by
  refine W2 hp lQ (Vn hp kz (h.trans ?_));have q:∀ c:Ae,Cg p (n*c) 0:=λc=>((z0 z).mul Cg.rfl).trans (Cg.of (Dv c))
  exact⟨q _,q _,q _,q _,q _,q _⟩
 exact(PrC.symm hp ⟨n,nz,CgC.rfl⟩).trans hp (PrC.trans hp ⟨1,hp.o1,(h.symm).trans (CgC.of (J4 _).symm)⟩ ⟨k,kz,CgC.rfl⟩)
theorem rT(hp:P4 p){l:Ae}{v:R3}(lQ:Bg p Q.l=Ab l)(s:Spn p Q L M)(hv:vI Q v%p=0)(n:¬ (vI L v%p=0/\vI M v%p=0)):PrC p (lc2 (vI M v) L (-vI L v) M) Q:=by
 obtain⟨g,a,b,gz,e⟩:=s;have e1:Cg p (a*vI L v+b*vI M v) 0:=by
  have q:=Jw (x:=v) (x':=v) e ⟨Cg.rfl,Cg.rfl,Cg.rfl⟩;rw[Q2,WH]at q;exact q.symm.trans ((Cg.mul Cg.rfl (z0 hv)).trans (Cg.of (CD _)))
 generalize vI L v=L4 at *;generalize vI M v=M4 at *;have key:∀(k c:Ae),k%p≠0->(∀ A B:Ae,Cg p (k*(a*A+b*B)) (c*(M4*A + -L4*B)))->PrC p (lc2 M4 L (-L4) M) Q:=λk c kz h=>by
  refine xP hp (k:=k*g) (n:=c) lQ (Ct hp kz gz) ?_;have e':CgC p (scC (k*g) Q) (scC k (lc2 a L b M)):=by
   rw[<-KM];exact CgC.sc Cg.rfl e
  exact e'.trans ⟨h _ _,h _ _,h _ _,h _ _,h _ _,h _ _⟩
 by_cases c:L4%p=0
 .have c':M4%p≠0:=λz=>n ⟨c,z⟩
  refine key M4 a c' λA B=>?_
  have h:=(Cg.rfl (p:=p) (a:=B)).mul e1;refine(Cg.of ?_).trans (((Cg.rfl (p:=p) (a:=a*(M4*A + -L4*B))).add h).trans (Cg.of ?_))
  .clear e e1 h key;grind
  .clear e e1 h key;grind
 .refine key L4 (-b) c λA B=>?_
  have h:=(Cg.rfl (p:=p) (a:=A)).mul e1;refine(Cg.of ?_).trans (((Cg.rfl (p:=p) (a:=-b*(M4*A + -L4*B))).add h).trans (Cg.of ?_))
  .clear e e1 h key;grind
  .clear e e1 h key;grind
end
noncomputable def Tr:Ss:=(.cons (.ife (.cmp .In (.var 2) (.sl (.var 0) .non (.var 1))) (.cons (.rais 107 (.cons (.var 2) .nil)) .nil) .nil) .nil)
--
noncomputable def Nf:Df:=⟨3,Ad,(.cons (.forT [1,2] (.enm (.var 0)) Tr) .nil)⟩
--
noncomputable def Nh:Ss:=(.cons (.asg 3 Ad (.bin .Add (.sl (.var 1) .non (.var 2)) (.sl (.var 1) (.bin .Add (.var 2) (.int 1)) .non))) (.cons (.ife (.and (.cons (.cmp .Eq (.call 61 (.cons (.var 0) (.cons (.idx (.var 3) (.int 0)) (.cons (.idx (.var 3) (.int 1)) (.cons (.idx (.var 3) (.int 2)) .nil))))) (.int 0)) (.cons (.cmp .Eq (.call 61 (.cons (.var 0) (.cons (.idx (.var 3) (.int 0)) (.cons (.idx (.var 3) (.int 1)) (.cons (.idx (.var 3) (.int 3)) .nil))))) (.int 0)) .nil))) (.cons (.ret (.bi .tuple (.cons (.var 3) .nil))) .nil) .nil) .nil))
--
noncomputable def Nd:Df:=⟨4,Ad,(.cons (.fors 2 (.e (.tup (.cons (.int 4) (.cons (.int 3) (.cons (.int 2) (.cons (.int 1) (.cons (.int 0) .nil))))))) Nh) (.cons (.ret .non) .nil))⟩
--
noncomputable def Pk:Df:=⟨2,Ad,(.cons (.ret (.tup (.cons (.bin .Mult (.idx (.var 0) (.int 0)) (.idx (.var 1) (.int 0))) (.cons (.bin .Mult (.idx (.var 0) (.int 1)) (.idx (.var 1) (.int 1))) (.cons (.bin .Mult (.idx (.var 0) (.int 2)) (.idx (.var 1) (.int 2))) (.cons (.bin .Add (.bin .Mult (.idx (.var 0) (.int 0)) (.idx (.var 1) (.int 1))) (.bin .Mult (.idx (.var 0) (.int 1)) (.idx (.var 1) (.int 0)))) (.cons (.bin .Add (.bin .Mult (.idx (.var 0) (.int 0)) (.idx (.var 1) (.int 2))) (.bin .Mult (.idx (.var 0) (.int 2)) (.idx (.var 1) (.int 0)))) (.cons (.bin .Add (.bin .Mult (.idx (.var 0) (.int 1)) (.idx (.var 1) (.int 2))) (.bin .Mult (.idx (.var 0) (.int 2)) (.idx (.var 1) (.int 1)))) .nil)))))))) .nil)⟩
noncomputable def Pe:E:=(.bin .Sub (.bin .Mult (.var 4) (.var 6)) (.bin .Mult (.var 5) (.var 7)))
--
noncomputable def Nc:Df:=⟨8,Ad,(.cons (.asg 2 Ad (.call 196 (.cons (.call 57 (.cons (.var 0) (.cons (.idx (.var 1) (.int 0)) (.cons (.idx (.var 1) (.int 1)) .nil)))) (.cons (.call 57 (.cons (.var 0) (.cons (.idx (.var 1) (.int 2)) (.cons (.idx (.var 1) (.int 3)) .nil)))) .nil)))) (.cons (.asg 3 Ad (.call 196 (.cons (.call 57 (.cons (.var 0) (.cons (.idx (.var 1) (.int 0)) (.cons (.idx (.var 1) (.int 2)) .nil)))) (.cons (.call 57 (.cons (.var 0) (.cons (.idx (.var 1) (.int 1)) (.cons (.idx (.var 1) (.int 3)) .nil)))) .nil)))) (.cons (.asg 4 Ad (.call 126 (.cons (.var 0) (.cons (.var 3) (.cons (.idx (.var 1) (.int 4)) .nil))))) (.cons (.asg 5 Ad (.call 126 (.cons (.var 0) (.cons (.var 2) (.cons (.idx (.var 1) (.int 4)) .nil))))) (.cons (.ret (.call 122 (.cons (.var 0) (.cons (.compT Pe [6,7] (.zip (.var 2) (.var 3)) DQ) .nil)))) .nil)))))⟩
--
noncomputable def Ni:Df:=⟨3,Ad,(.cons (.ife (.cmp .NotEq (.bi .len (.cons (.var 1) .nil)) (.int 5)) (.cons (.rais 13 (.cons (.str (AQ "a curve is told by five points")) .nil)) .nil) .nil) (.cons (.expr (.call 194 (.cons (.var 1) .nil))) (.cons (.asg 2 Ad (.call 195 (.cons (.var 0) (.cons (.var 1) .nil)))) (.cons (.ife (.cmp .IsNot (.var 2) .non) (.cons (.rais 118 (.cons (.var 2) .nil)) .nil) .nil) (.cons (.ret (.call 197 (.cons (.var 0) (.cons (.var 1) .nil)))) .nil)))))⟩
section
variable{Z:Gam}{p:Ae}{P0 P1 P2 P3 P4:D}
noncomputable def five(P0 P1 P2 P3 P4:D):D:=.lst [P0,P1,P2,P3,P4]
theorem xI(f0:flD 5 P0=Aa)(f1:flD 5 P1=Aa)(f2:flD 5 P2=Aa)(f3:flD 5 P3=Aa)(f4:flD 5 P4=Aa)(n01:eqD P0 P1=Ad)(n02:eqD P0 P2=Ad)(n03:eqD P0 P3=Ad)(n04:eqD P0 P4=Ad)(n12:eqD P1 P2=Ad)(n13:eqD P1 P3=Ad)(n14:eqD P1 P4=Ad)(n23:eqD P2 P3=Ad)(n24:eqD P2 P4=Ad)(n34:eqD P3 P4=Ad):Nf.run Z [five P0 P1 P2 P3 P4]=.ok .non:=by
 simp[five,Nf,Df.run,BG,EK,CG,D0,Tr,KZ,Hb,f0,f1,f2,f3,f4,n01,n02,n03,n04,n12,n13,n14,n23,n24,n34]
theorem Mx{k a b:Ae}{q0 q1 q2 q3:D}{u v:Ac D}{s2 s3:Sl}(c0:slD PP Af (Ab k)=.ok (.lst u))(c1:slD PP (Ab (k+1)) Af=.ok (.lst v))(ad:C4 .Add (.lst u) (.lst v)=.ok (.lst [q0,q1,q2,q3]))(e0:Z.F 61 [.int p,q0,q1,q2]=.ok (.int a))(e1:Z.F 61 [.int p,q0,q1,q3]=.ok (.int b))(h:¬ (a=0/\b=0)):Br Z 2 Nh (.int k) [si p,sh PP,s2,s3]=.next [si p,sh PP,si k,sh (.lst [q0,q1,q2,q3])]:=by
 have i0:CJ (.lst [q0,q1,q2,q3]) (.int 0)=.ok q0:=rfl;have i1:CJ (.lst [q0,q1,q2,q3]) (.int 1)=.ok q1:=rfl;have i2:CJ (.lst [q0,q1,q2,q3]) (.int 2)=.ok q2:=rfl;have i3:CJ (.lst [q0,q1,q2,q3]) (.int 3)=.ok q3:=rfl;generalize D.lst [q0,q1,q2,q3]=FF at *;generalize D.lst u=U_ at *;generalize D.lst v=V at *;by_cases ha:a=0
 .have hb:b≠0:=λz=>h ⟨ha,z⟩
  simp[Br,Nh,c0,c1,ad,i0,i1,i2,i3,e0,e1,ha,hb]
 .simp[Br,Nh,c0,c1,ad,i0,i1,i2,i3,e0,e1,ha]
theorem cT{m012 m013 m014 m023 m024 m123 m124:Ae}(e012:Z.F 61 [.int p,P0,P1,P2]=.ok (.int m012))(e013:Z.F 61 [.int p,P0,P1,P3]=.ok (.int m013))(e014:Z.F 61 [.int p,P0,P1,P4]=.ok (.int m014))(e023:Z.F 61 [.int p,P0,P2,P3]=.ok (.int m023))(e024:Z.F 61 [.int p,P0,P2,P4]=.ok (.int m024))(e123:Z.F 61 [.int p,P1,P2,P3]=.ok (.int m123))(e124:Z.F 61 [.int p,P1,P2,P4]=.ok (.int m124))(h4:¬ (m012=0/\m013=0))(h3:¬ (m012=0/\m014=0))(h2:¬ (m013=0/\m014=0))(h1:¬ (m023=0/\m024=0))(h0:¬ (m123=0/\m124=0)):Nd.run Z [.int p,five P0 P1 P2 P3 P4]=.ok .non:=by
 have t4:=fun(s2 s3:Sl)=>Mx (Z:=Z) (p:=p) (k:=4) (PP:=five P0 P1 P2 P3 P4) (s2:=s2) (s3:=s3) rfl rfl rfl e012 e013 h4
 have t3:=fun(s2 s3:Sl)=>Mx (Z:=Z) (p:=p) (k:=3) (PP:=five P0 P1 P2 P3 P4) (s2:=s2) (s3:=s3) rfl rfl rfl e012 e014 h3
 have t2:=fun(s2 s3:Sl)=>Mx (Z:=Z) (p:=p) (k:=2) (PP:=five P0 P1 P2 P3 P4) (s2:=s2) (s3:=s3) rfl rfl rfl e013 e014 h2
 have t1:=fun(s2 s3:Sl)=>Mx (Z:=Z) (p:=p) (k:=1) (PP:=five P0 P1 P2 P3 P4) (s2:=s2) (s3:=s3) rfl rfl rfl e023 e024 h1
 have t0:=fun(s2 s3:Sl)=>Mx (Z:=Z) (p:=p) (k:=0) (PP:=five P0 P1 P2 P3 P4) (s2:=s2) (s3:=s3) rfl rfl rfl e123 e124 h0
 generalize five P0 P1 P2 P3 P4=PP at *;simp[Nd,Df.run,BG,CG,t4,t3,t2,t1,t0]
theorem yM{R:D}(e1:Z.F 194 [five P0 P1 P2 P3 P4]=.ok .non)(e2:Z.F 195 [.int p,five P0 P1 P2 P3 P4]=.ok .non)(e3:Z.F 197 [.int p,five P0 P1 P2 P3 P4]=.ok R):Ni.run Z [.int p,five P0 P1 P2 P3 P4]=.ok R:=by
 have ln:biD .len [five P0 P1 P2 P3 P4]=.ok (.int 5):=rfl;generalize five P0 P1 P2 P3 P4=PP at *;simp[Ni,Df.run,BG,ln,e1,e2,e3]
end
structure Five (p:Ae) (C:C6) (pts:Ac R3):Prop where
 len:pts.length=5
 nd:pts.Nodup
 nf:∀ x∈pts,NF p x
 on:∀ x∈pts,vI C x%p=0
 n4:∀ n:R3,¬ CgR p n (0,0,0)->(pts.filter λx=>decide (AG n x%p=0)).length<=3
theorem NU{l:Ac α}(h:l.length=5):∃ a b c d e,l=[a,b,c,d,e]:=by
  match l,h with
  |[a,b,c,d,e],_=>exact⟨a,b,c,d,e,rfl⟩
theorem Qh(a b c d e:R3):Aw [a,b,c,d,e]=five (Am Aa a) (Am Aa b) (Am Aa c) (Am Aa d) (Am Aa e):=rfl
theorem Mw(a:R3):flD 5 (Am Aa a)=Aa:=rfl
section
variable{Z:Gam}{p:Ae}{C:C6}
def Vj(Z:Gam):Prop:=∀(p:Ae)(C:C6)(pts:Ac R3),Five p C pts->Z.F 194 [Aw pts]=.ok .non
theorem iR(Z:Gam)(p:Ae)(C:C6)(pts:Ac R3)(h:Five p C pts):Nf.run Z [Aw pts]=.ok .non:=by
 obtain⟨a,b,c,d,e,rfl⟩:=NU h.len;have nd:=h.nd;simp only[BW,At,AM,BH,Dm,Ek,DW,Ht]at nd;obtain⟨⟨n01,n02,n03,n04⟩,⟨n12,n13,n14⟩,⟨n23,n24⟩,n34⟩:=nd;rw[Qh];have k:∀{x y:R3},¬ x=y->eqD (Am Aa x) (Am Aa y)=Ad:=λh=>by rw[Jv];exact Cp h
 exact xI (Mw _) (Mw _) (Mw _) (Mw _) (Mw _) (k n01) (k n02) (k n03) (k n04) (k n12) (k n13) (k n14) (k n23) (k n24) (k n34)
theorem We{a b c d e:R3}(hp:P4 p)(h:Five p C [a,b,c,d,e]):∀ n:R3,¬ CgR p n (0,0,0)->(decide (AG n a%p=0)).toNat+(decide (AG n b%p=0)).toNat+(decide (AG n c%p=0)).toNat+(decide (AG n d%p=0)).toNat+(decide (AG n e%p=0)).toNat<=3:=λn hn=>by
 have:=h.n4 n hn;have k:∀(q:R3->Aj)(x:R3)(l:Ac R3),((x::l).filter q).length=(q x).toNat+(l.filter q).length:=λq x l=>by
  rw[Fo];cases q x<;>simp<;>omega
 rw[k,k,k,k,k]at this;simp only[List.filter_nil,Yn]at this;omega
theorem Kg(x y z:R3):AG (crs x y) z=Aq x y z:=by
 unfold AG crs Aq det;grind
def VP(Z:Gam):Prop:=∀(p:Ae)(C:C6)(pts:Ac R3),P4 p->Five p C pts->Z.F 195 [.int p,Aw pts]=.ok .non
theorem qQ(hm:HH Z)(p:Ae)(C:C6)(pts:Ac R3)(hp:P4 p)(h:Five p C pts):Nd.run Z [.int p,Aw pts]=.ok .non:=by
 obtain⟨a,b,c,d,e,rfl⟩:=NU h.len;have nd:=h.nd;simp only[BW,At,AM,BH,Dm,Ek,DW,Ht]at nd;obtain⟨⟨n01,n02,n03,n04⟩,⟨n12,n13,n14⟩,⟨n23,n24⟩,n34⟩:=nd;have na:=h.nf a (by simp)
 have nb:=h.nf b (by simp)
 have nc:=h.nf c (by simp)
 have nd:=h.nf d (by simp)
 have ne:=h.nf e (by simp)
 have B:∀{x:R3},NF p x->B3 x:=λhx=>(CY hp hx.1).b3 (by decide)
 have m:∀{x y z:R3},NF p x->NF p y->NF p z->Z.F 61 [.int p,Am Aa x,Am Aa y,Am Aa z]=.ok (.int (Aq x y z%p)):=λhx hy hz=>hm p Aa _ _ _ hp.pos (B hx) (B hy) (B hz)
 have key:∀ x y:R3,NF p x->NF p y->x≠y->(decide (AG (crs x y) a%p=0)).toNat+(decide (AG (crs x y) b%p=0)).toNat+(decide (AG (crs x y) c%p=0)).toNat+(decide (AG (crs x y) d%p=0)).toNat+(decide (AG (crs x y) e%p=0)).toNat<=3:=λx y hx hy hne=>We hp h _ (Ho hp hx hy hne)
 have z:∀ x y:R3,decide (AG (crs x y) x%p=0)=Aa/\decide (AG (crs x y) y%p=0)=Aa:=λx y=>by
  obtain⟨h1,h2⟩:=QK x y;rw[h1,h2];exact⟨AZ (Bj p),AZ (Bj p)⟩
 have fin:∀{x y u v:R3},(decide (AG (crs x y) u%p=0)=Aa->decide (AG (crs x y) v%p=0)=Aa->Bl)->¬ (Aq x y u%p=0/\Aq x y v%p=0):=λf ⟨h1,h2⟩=>by
  rw[<-Kg]at h1 h2;exact f (AZ h1) (AZ h2)
 rw[Qh];refine cT (m na nb nc) (m na nb nd) (m na nb ne) (m na nc nd) (m na nc ne) (m nb nc nd) (m nb nc ne) (fin λh1 h2=>?_) (fin λh1 h2=>?_) (fin λh1 h2=>?_) (fin λh1 h2=>?_) (fin λh1 h2=>?_)
 .have q:=key a b na nb n01;rw[(z a b).1,(z a b).2,h1,h2]at q;simp only[C7]at q;omega
 .have q:=key a b na nb n01;rw[(z a b).1,(z a b).2,h1,h2]at q;simp only[C7]at q;omega
 .have q:=key a b na nb n01;rw[(z a b).1,(z a b).2,h1,h2]at q;simp only[C7]at q;omega
 .have q:=key a c na nc n02;rw[(z a c).1,(z a c).2,h1,h2]at q;simp only[C7]at q;omega
 .have q:=key b c nb nc n12;rw[(z b c).1,(z b c).2,h1,h2]at q;simp only[C7]at q;omega
def Wj(Z:Gam):Prop:=∀(p:Ae)(a b:R3),P4 p->In3 p a->In3 p b->Z.F 196 [Am Aa a,Am Aa b]=.ok (Cm (prd a b))
theorem yV(Z:Gam)(p:Ae)(a b:R3)(hp:P4 p)(ia:In3 p a)(ib:In3 p b):Pk.run Z [Am Aa a,Am Aa b]=.ok (Cm (prd a b)):=by
 have ba:=CY hp ia;have bb:=CY hp ib;have k:∀ {u v},Bd 10 u->Bd 10 v->Fm u v=Aa:=λhu hv=>G8 hu hv (by decide) (by decide)
 obtain⟨x0,x1,x2⟩:=Fu Aa a;obtain⟨y0,y1,y2⟩:=Fu Aa b;simp[Pk,Df.run,BG,x0,x1,x2,y0,y1,y2,k ba.1 bb.1,k ba.2.1 bb.2.1,k ba.2.2 bb.2.2,k ba.1 bb.2.1,k ba.2.1 bb.1,k ba.1 bb.2.2,k ba.2.2 bb.1,k ba.2.1 bb.2.2,k ba.2.2 bb.2.1];rfl
theorem N6{a b:R3}(hp:P4 p)(ia:In3 p a)(ib:In3 p b):BC (prd a b):=by
 have hh:=hp.hi;have k:∀{x y:Ae},0<=x/\x<p->0<=y/\y<p->0<=x*y/\x*y<=100:=λ{x y} hx hy=>by
  refine⟨X5 hx.1 hy.1,?_⟩;exact Int.le_trans (Int.mul_le_mul (show x<=10 by omega) (show y<=10 by omega) hy.1 (by decide)) (by decide)
 have b1:∀{n:Ae},0<=n/\n<=100->Bd 10 n:=λh=>by unfold Bd;omega
 have b2:∀{m n:Ae},0<=m/\m<=100->0<=n/\n<=100->Bd 10 (m+n):=λh g=>by unfold Bd;omega
 obtain⟨a0,a1,a2⟩:=ia;obtain⟨b0,b1',b2'⟩:=ib;exact⟨b1 (k a0 b0),b1 (k a1 b1'),b1 (k a2 b2'),b2 (k a0 b1') (k a1 b0),b2 (k a0 b2') (k a2 b0),b2 (k a1 b2') (k a2 b1')⟩
def WE(Z:Gam):Prop:=∀(p:Ae)(C:C6)(x:R3),P4 p->BC C->In3 p x->Z.F 126 [.int p,Cm C,Am Aa x]=.ok (.int (vI C x%p))
theorem yK(hr:Io Z)(p:Ae)(C:C6)(x:R3)(hp:P4 p)(bC:BC C)(ix:In3 p x):MA.run Z [.int p,Cm C,Am Aa x]=.ok (.int (vI C x%p)):=by
 obtain⟨i0,i1,i2,i3,i4,i5⟩:=ix6 C;obtain⟨x0,x1,x2⟩:=Fu Aa x;have bx:=CY hp ix;have k:∀ {u v},Bd 10 u->Bd 10 v->Fm u v=Aa:=λhu hv=>G8 hu hv (by decide) (by decide)
 have k2:∀ {u v w},Bd 10 u->Bd 10 v->Bd 10 w->Fm (u*v) w=Aa:=λhu hv hw=>G8 (hu.mul hv) hw (by decide) (by decide)
 simp[MA,Df.run,BG,i0,i1,i2,i3,i4,i5,x0,x1,x2,k bC.b0 bx.1,k bC.b1 bx.2.1,k bC.b2 bx.2.2,k bC.b3 bx.1,k bC.b4 bx.1,k bC.b5 bx.2.1,k2 bC.b0 bx.1 bx.1,k2 bC.b1 bx.2.1 bx.2.1,k2 bC.b2 bx.2.2 bx.2.2,k2 bC.b3 bx.1 bx.2.1,k2 bC.b4 bx.1 bx.2.2,k2 bC.b5 bx.2.1 bx.2.2,hr p _ hp.pos];rfl
theorem yX{P0 P1 P2 P3 P4 A B A' B' R:D}{L M:C6}{l m:Ae}(bL:BC L)(bM:BC M)(bl:Bd 10 l)(bm:Bd 10 m)(e01:Z.F 57 [.int p,P0,P1]=.ok A)(e23:Z.F 57 [.int p,P2,P3]=.ok B)(eL:Z.F 196 [A,B]=.ok (Cm L))(e02:Z.F 57 [.int p,P0,P2]=.ok A')(e13:Z.F 57 [.int p,P1,P3]=.ok B')(eM:Z.F 196 [A',B']=.ok (Cm M))(vM:Z.F 126 [.int p,Cm M,P4]=.ok (.int m))(vL:Z.F 126 [.int p,Cm L,P4]=.ok (.int l))(ec:Z.F 122 [.int p,.lst (ds (lc2 m L (-l) M).l)]=.ok R):Nc.run Z [.int p,five P0 P1 P2 P3 P4]=.ok R:=by
 have i0:CJ (five P0 P1 P2 P3 P4) (.int 0)=.ok P0:=rfl;have i1:CJ (five P0 P1 P2 P3 P4) (.int 1)=.ok P1:=rfl;have i2:CJ (five P0 P1 P2 P3 P4) (.int 2)=.ok P2:=rfl;have i3:CJ (five P0 P1 P2 P3 P4) (.int 3)=.ok P3:=rfl;have i4:CJ (five P0 P1 P2 P3 P4) (.int 4)=.ok P4:=rfl;have sL:Ci (Cm L)=.ok (ds L.l):=rfl;have sM:Ci (Cm M)=.ok (ds M.l):=rfl;have k:∀ {u v},Bd 10 u->Bd 10 v->Fm u v=Aa:=λhu hv=>G8 hu hv (by decide) (by decide)
 have cp:∀(PP cL cM:D),Ce (cGT Z [si p,sh PP,sh cL,sh cM,si m,si l,Af,Af] [6,7] DQ) (cFT Z [si p,sh PP,sh cL,sh cM,si m,si l,Af,Af] [6,7] Pe) (Gx (ds L.l) (ds M.l))=.ok (ds (lc2 m L (-l) M).l):=λPP cL cM=>by
  obtain⟨l0,l1,l2,l3,l4,l5⟩:=L;obtain⟨m0,m1,m2,m3,m4,m5⟩:=M;have n:∀ a b:Ae,m*a + -l*b=m*a-l*b:=λa b=>by rw[Int.neg_mul,Int.sub_eq_add_neg]
  simp[Ce,cGT,cFT,Gx,ds,C6.l,lc2,Pe,DQ,n,k bm bL.b0,k bm bL.b1,k bm bL.b2,k bm bL.b3,k bm bL.b4,k bm bL.b5,k bl bM.b0,k bl bM.b1,k bl bM.b2,k bl bM.b3,k bl bM.b4,k bl bM.b5]
 generalize five P0 P1 P2 P3 P4=PP at *;generalize ds (lc2 m L (-l) M).l=FF at *;generalize ds L.l=LL at *;generalize ds M.l=MM at *;generalize Cm L=cL at *;generalize Cm M=cM at *;simp[Nc,Df.run,BG,i0,i1,i2,i3,i4,e01,e23,eL,e02,e13,eM,vM,vL,sL,sM,cp,ec]
theorem xO{a a' b b':R3}(ha:CgR p a a')(hb:CgR p b b'):CgC p (prd a b) (prd a' b'):=
 ⟨ha.1.mul hb.1,ha.2.1.mul hb.2.1,ha.2.2.mul hb.2.2,(ha.1.mul hb.2.1).add (ha.2.1.mul hb.1),(ha.1.mul hb.2.2).add (ha.2.2.mul hb.1),(ha.2.1.mul hb.2.2).add (ha.2.2.mul hb.2.1)⟩
theorem Vr(hp:P4 p){a a' b b':R3}(ha:Pr p a a')(hb:Pr p b b'):PrC p (prd a b) (prd a' b'):=by
 obtain⟨d,dz,e⟩:=ha;obtain⟨d',dz',e'⟩:=hb;refine⟨d*d',Ct hp dz dz',(xO e e').trans (CgC.of ?_)⟩;unfold prd scC Bv
 congr 1<;>grind
theorem yY(hp:P4 p){L M L' M':C6}(hL:PrC p L' L)(hM:PrC p M' M)(v:R3):PrC p (lc2 (vI M' v%p) L' (-(vI L' v%p)) M') (lc2 (vI M v) L (-vI L v) M):=by
 obtain⟨d,dz,e⟩:=hL;obtain⟨d',dz',e'⟩:=hM;refine⟨d*d',Ct hp dz dz',?_⟩;have r:CgR p v v:=⟨Cg.rfl,Cg.rfl,Cg.rfl⟩;have q:=Jw e r;have q':=Jw e' r;rw[Q2]at q q';have neg:∀{a b:Ae},Cg p a b->Cg p (-a) (-b):=λ{a b} h=>by
  have:=(Cg.rfl (p:=p) (a:=0)).sub h
  rwa [X9,X9]at this
 refine(bf ((Cg.md rfl).trans q') e (neg ((Cg.md rfl).trans q)) e').trans (CgC.of ?_);generalize vI M v=m;generalize vI L v=l;unfold lc2 scC
 congr 1<;>grind
def VQ(Z:Gam):Prop:=∀(p:Ae)(C:C6)(pts:Ac R3),P4 p->InC p C->Bg p C.l=Ab 1->Five p C pts->Z.F 197 [.int p,Aw pts]=.ok (Cm C)
theorem mK(hp:P4 p){l:Ae}{E:C6}(lC:Bg p C.l=Ab l)(h:PrC p E C):∃ l',Bg p E.l=Ab l':=by
 cases e:Bg p E.l with
 |some l'=>exact⟨l',rfl⟩
 |none=>
  exfalso
  obtain⟨d,dz,q⟩:=h;have z:=Jr.mp e;have k:∀{n:Ae},n∈E.l->Cg p n 0:=λhn=>z0 (z _ hn)
  have q2:CgC p E ⟨0,0,0,0,0,0⟩:=⟨k (by simp[C6.l]),k (by simp[C6.l]),k (by simp[C6.l]),k (by simp[C6.l]),k (by simp[C6.l]),k (by simp[C6.l])⟩
  exact W2 hp lC (Vn hp dz (q.symm.trans q2))
noncomputable def Fc(a b c d e:R3):C6:=lc2 (vI (prd (crs a c) (crs b d)) e) (prd (crs a b) (crs c d)) (-vI (prd (crs a b) (crs c d)) e) (prd (crs a c) (crs b d))
theorem yW{a b c d e:R3}{l:Ae}(hp:P4 p)(lC:Bg p C.l=Ab l)(h:Five p C [a,b,c,d,e]):PrC p (Fc a b c d e) C:=by
 have nd:=h.nd;simp only[BW,At,AM,BH,Dm,Ek,DW,Ht]at nd;obtain⟨⟨n01,n02,n03,n04⟩,⟨n12,n13,n14⟩,⟨n23,n24⟩,n34⟩:=nd;have na:=h.nf a (by simp)
 have nb:=h.nf b (by simp)
 have nc:=h.nf c (by simp)
 have nd:=h.nf d (by simp)
 have ne:=h.nf e (by simp)
 have z:∀ x y:R3,AG (crs x y) x%p=0/\AG (crs x y) y%p=0:=λx y=>by
  obtain⟨h1,h2⟩:=QK x y;rw[h1,h2];exact⟨Bj p,Bj p⟩
 -- no four of them on a line
 have key:∀ n:R3,¬ CgR p n (0,0,0)->(decide (AG n a%p=0)).toNat+(decide (AG n b%p=0)).toNat+(decide (AG n c%p=0)).toNat+(decide (AG n d%p=0)).toNat+(decide (AG n e%p=0)).toNat<=3:=We hp h;have dd:Aq a b c%p≠0\/Aq a b d%p≠0:=by
  apply CM
  intro hn;have hn':Aq a b c%p=0/\Aq a b d%p=0:=⟨CM λz=>hn (.inl z),CM λz=>hn (.inr z)⟩
  have q:=key _ (Ho hp na nb n01);rw[AZ (z a b).1,AZ (z a b).2,Kg a b c,Kg a b d,AZ hn'.1,AZ hn'.2]at q;simp only[C7]at q;omega
 have sp:=di hp dd (h.on a (by simp)) (h.on b (by simp)) (h.on c (by simp)) (h.on d (by simp)) na nb nc nd n02 n12 n23 n03 n13
 have nn:¬ (vI (prd (crs a b) (crs c d)) e%p=0/\vI (prd (crs a c) (crs b d)) e%p=0):=λ⟨h1,h2⟩=>by
  rw[Q3]at h1 h2;have sw:∀ x y:R3,AG (crs x y) e%p=0->AG (crs x e) y%p=0:=λx y hz=>by
   have:AG (crs x e) y=-1*AG (crs x y) e:=by unfold AG crs;grind
   rw[this,BV,hz,CD,Bj]
  have sw':∀ x y:R3,AG (crs x y) e%p=0->AG (crs y e) x%p=0:=λx y hz=>by
   have:AG (crs y e) x=AG (crs x y) e:=by unfold AG crs;grind
   rw[this,hz]
  have spl:∀{u v:Ae},u*v%p=0->u%p=0\/v%p=0:=λ{u v} hz=>by
   by_cases hu:u%p=0
   .exact .inl hu
   .exact .inr ((Ft hp hu).mp hz)
  rcases spl h1 with g1|g1<;>rcases spl h2 with g2|g2
  .have q:=key _ (Ho hp na ne n04);rw[AZ (z a e).1,AZ (z a e).2,AZ (sw _ _ g1),AZ (sw _ _ g2)]at q;simp only[C7]at q;omega
  .have q:=key _ (Ho hp nb ne n14);rw[AZ (z b e).1,AZ (z b e).2,AZ (sw' _ _ g1),AZ (sw _ _ g2)]at q;simp only[C7]at q;omega
  .have q:=key _ (Ho hp nc ne n24);rw[AZ (z c e).1,AZ (z c e).2,AZ (sw _ _ g1),AZ (sw' _ _ g2)]at q;simp only[C7]at q;omega
  .have q:=key _ (Ho hp nd ne n34);rw[AZ (z d e).1,AZ (z d e).2,AZ (sw' _ _ g1),AZ (sw' _ _ g2)]at q;simp only[C7]at q;omega
 exact rT hp lC sp (h.on e (by simp)) nn
theorem qS(hj:Og Z)(hl:Wj Z)(hv:WE Z)(hc:Oh Z)(p:Ae)(C:C6)(pts:Ac R3)(hp:P4 p)(iC:InC p C)(lC:Bg p C.l=Ab 1)(h:Five p C pts):Nc.run Z [.int p,Aw pts]=.ok (Cm C):=by
 obtain⟨a,b,c,d,e,rfl⟩:=NU h.len;have fp:=yW hp lC h;have nd:=h.nd;simp only[BW,At,AM,BH,Dm,Ek,DW,Ht]at nd;obtain⟨⟨n01,n02,n03,n04⟩,⟨n12,n13,n14⟩,⟨n23,n24⟩,n34⟩:=nd;have na:=h.nf a (by simp)
 have nb:=h.nf b (by simp)
 have nc:=h.nf c (by simp)
 have nd:=h.nf d (by simp)
 have ne:=h.nf e (by simp)
 obtain⟨y01,i01,_,p01,e01⟩:=hj p a b hp na.1 nb.1 na.2 nb.2 n01;obtain⟨y23,i23,_,p23,e23⟩:=hj p c d hp nc.1 nd.1 nc.2 nd.2 n23;obtain⟨y02,i02,_,p02,e02⟩:=hj p a c hp na.1 nc.1 na.2 nc.2 n02;obtain⟨y13,i13,_,p13,e13⟩:=hj p b d hp nb.1 nd.1 nb.2 nd.2 n13;have pr:=(yY hp (Vr hp p01 p23) (Vr hp p02 p13) e).trans hp fp;obtain⟨l,el⟩:=mK hp lC pr;obtain⟨t,D,it,eD,iD,lD,pD⟩:=RO hp el;have ec:=hc p Ad _ l t hp el it;rw[eD]at ec;have eq:=gE hp iD iC lD lC (pD.trans hp pr);subst eq;have bd:∀ n:Ae,Bd 10 (n%p):=λn=>J6 hp (A3 _ (by have:=hp.pos;omega)) (AX _ hp.pos)
 rw[Qh];exact yX (N6 hp i01 i23) (N6 hp i02 i13) (bd _) (bd _) e01 e23 (hl p _ _ hp i01 i23) e02 e13 (hl p _ _ hp i02 i13) (hv p _ _ hp (N6 hp i02 i13) ne.1) (hv p _ _ hp (N6 hp i01 i23) ne.1) ec
def bz(Z:Gam):Prop:=∀(p:Ae)(C:C6)(pts:Ac R3),P4 p->InC p C->Bg p C.l=Ab 1->Five p C pts->Z.F 198 [.int p,Aw pts]=.ok (Cm C)
theorem jS(h1:Vj Z)(h2:VP Z)(h3:VQ Z)(p:Ae)(C:C6)(pts:Ac R3)(hp:P4 p)(iC:InC p C)(lC:Bg p C.l=Ab 1)(h:Five p C pts):Ni.run Z [.int p,Aw pts]=.ok (Cm C):=by
 have e1:=h1 p C pts h;have e2:=h2 p C pts hp h;have e3:=h3 p C pts hp iC lC h;obtain⟨a,b,c,d,e,rfl⟩:=NU h.len;exact yM e1 e2 e3
end
section
variable{p:Ae}{r n a b c x y z u:R3}
theorem lW(x y n:R3):crs (crs x y) n=(AG n x*y.1-AG n y*x.1,AG n x*y.2.1-AG n y*x.2.1,AG n x*y.2.2-AG n y*x.2.2):=by
 unfold crs AG;refine BP ?_ (BP ?_ ?_)<;>simp only<;>grind
theorem par(hp:P4 p)(h1:CgR p (crs r n) (0,0,0))(h2:CgR p (crs r a) (0,0,0))(rz:¬ CgR p r (0,0,0))(nz:¬ CgR p n (0,0,0))(e:AG n z%p=0):AG a z%p=0:=by
 obtain⟨f0,f1,f2⟩:=h1;obtain⟨g0,g1,g2⟩:=h2;simp only[crs]at f0 f1 f2 g0 g1 g2;have sw:∀{x y:Ae},Cg p (x-y) 0->Cg p x y:=λ{x y} h=>(Cg.of (by omega)).trans ((h.add (Cg.rfl (a:=y))).trans (Cg.of (by omega)))
 have d1:=sw f0;have d2:=sw f1;have d3:=sw f2;have c1:=sw g0;have c2:=sw g1;have c3:=sw g2
 -- r i n j=r j n i
 have key:∀ ri ni ai:Ae,Cg p (ri*n.1) (r.1*ni)->Cg p (ri*n.2.1) (r.2.1*ni)->Cg p (ri*n.2.2) (r.2.2*ni)->Cg p (ri*a.1) (r.1*ai)->Cg p (ri*a.2.1) (r.2.1*ai)->Cg p (ri*a.2.2) (r.2.2*ai)->ni%p≠0->AG a z%p=0:=λri ni ai k0 k1 k2 l0 l1 l2 hz=>by
  have rn:ri%p≠0:=λq=>rz ⟨?_,?_,?_⟩
  .have s1:Cg p (ni*AG r z) 0:=by
    have t:=(((k0.mul (Cg.rfl (a:=z.1))).add (k1.mul (Cg.rfl (a:=z.2.1)))).add (k2.mul (Cg.rfl (a:=z.2.2)))).symm;refine(Cg.of ?_).trans (t.trans ((Cg.of ?_).trans (((Cg.rfl (a:=ri)).mul (z0 e)).trans (Cg.of (CD _)))))
    .unfold AG;clear e k0 k1 k2 l0 l1 l2 t c1 c2 c3 d1 d2 d3 f0 f1 f2 g0 g1 g2 sw;grind
    .unfold AG;clear e k0 k1 k2 l0 l1 l2 t c1 c2 c3 d1 d2 d3 f0 f1 f2 g0 g1 g2 sw;grind
   have s2:=z0 ((Ft hp hz).mp (z0' s1));have s3:Cg p (ri*AG a z) 0:=by
    have t:=(((l0.mul (Cg.rfl (a:=z.1))).add (l1.mul (Cg.rfl (a:=z.2.1)))).add (l2.mul (Cg.rfl (a:=z.2.2))));refine(Cg.of ?_).trans (t.trans ((Cg.of ?_).trans (((Cg.rfl (a:=ai)).mul s2).trans (Cg.of (CD _)))))
    .unfold AG;clear e k0 k1 k2 l0 l1 l2 t c1 c2 c3 d1 d2 d3 f0 f1 f2 g0 g1 g2 sw s1 s2;grind
    .unfold AG;clear e k0 k1 k2 l0 l1 l2 t c1 c2 c3 d1 d2 d3 f0 f1 f2 g0 g1 g2 sw s1 s2;grind
   exact(Ft hp rn).mp (z0' s3)
  all_goals
   refine z0 ((Ft hp hz).mp (z0' ?_))
  .exact(Cg.of (Cq _ _)).trans (k0.symm.trans (((z0 q).mul Cg.rfl).trans (Cg.of (Dv _))))
  .exact(Cg.of (Cq _ _)).trans (k1.symm.trans (((z0 q).mul Cg.rfl).trans (Cg.of (Dv _))))
  .exact(Cg.of (Cq _ _)).trans (k2.symm.trans (((z0 q).mul Cg.rfl).trans (Cg.of (Dv _))))
 by_cases n0:n.1%p=0
 .by_cases n1:n.2.1%p=0
  .have n2:n.2.2%p≠0:=λq=>nz ⟨z0 n0,z0 n1,z0 q⟩
   exact key r.2.2 n.2.2 a.2.2 d2 d1.symm Cg.rfl c2 c1.symm Cg.rfl n2
  .exact key r.2.1 n.2.1 a.2.1 d3.symm Cg.rfl d1 c3.symm Cg.rfl c1 n1
 .exact key r.1 n.1 a.1 Cg.rfl d3 d2.symm Cg.rfl c3 c2.symm n0
theorem Tg(h1:AG n x%p=0)(h2:AG n y%p=0):CgR p (crs (crs x y) n) (0,0,0):=by
 rw[lW];exact⟨HP (z0 h1) (z0 h2),HP (z0 h1) (z0 h2),HP (z0 h1) (z0 h2)⟩
theorem wT(hp:P4 p)(hx:NF p x)(hy:NF p y)(ne:x≠y)(nz:¬ CgR p n (0,0,0))(n1:AG n x%p=0)(n2:AG n y%p=0)(a1:AG a x%p=0)(a2:AG a y%p=0)(e:AG n z%p=0):AG a z%p=0:=
 par hp (Tg n1 n2) (Tg a1 a2) (Ho hp hx hy ne) nz e
theorem jC(hp:P4 p)(hx:NF p x)(hy:NF p y)(ne:x≠y)(nz:¬ CgR p n (0,0,0))(n1:AG n x%p=0)(n2:AG n y%p=0)(e:AG n u%p=0):Aq x y u%p=0:=by
 rw[<-Kg];obtain⟨h1,h2⟩:=QK x y;exact wT hp hx hy ne nz n1 n2 (by rw[h1];exact Bj p) (by rw[h2];exact Bj p) e
end
theorem gR{q:R3->Aj}{l:Ac R3}(nd:l.Nodup)(h:3<=(l.filter q).length):∃ x y u,x∈l/\y∈l/\u∈l/\x≠y/\x≠u/\y≠u/\q x=Aa/\q y=Aa/\q u=Aa:=by
  have nf:(l.filter q).Nodup:=nd.filter (p:=q);have hm:∀ x∈l.filter q,x∈l/\q x=Aa:=λx hx=>EX.mp hx
  generalize l.filter q=F at *
  match F,h,nf,hm with
  |x::y::u::r,_,nf,hm=>
    simp only[BW,At,Dm]at nf;have a:=hm x (by simp)
    have b:=hm y (by simp)
    have c:=hm u (by simp)
    exact⟨x,y,u,a.1,b.1,c.1,nf.1.1,nf.1.2.1,nf.2.1.1,a.2,b.2,c.2⟩
section
variable{p:Ae}{C:C6}
structure N3 (p:Ae) (pts:Ac R3):Prop where
 nd:pts.Nodup
 nf:∀ x∈pts,NF p x
 n3:∀ x y u,x∈pts->y∈pts->u∈pts->x≠y->x≠u->y≠u->Aq x y u%p≠0
theorem N3.sub{a b:Ac R3}(h:N3 p a)(e:b.Sublist a):N3 p b:=⟨e.nodup h.nd,λx hx=>h.nf x (e.subset hx),λx y u hx hy hu=>h.n3 x y u (e.subset hx) (e.subset hy) (e.subset hu)⟩
theorem N3.five(hp:P4 p)(h:N3 p pts)(len:pts.length=5)(on:∀ x∈pts,vI C x%p=0):Five p C pts:=by
 refine⟨len,h.nd,h.nf,on,λn hn=>?_⟩
 apply CM
 intro hc;obtain⟨x,y,u,hx,hy,hu,n1,n2,n3,q1,q2,q3⟩:=gR (q:=λx=>decide (AG n x%p=0)) h.nd (by omega)
 exact h.n3 x y u hx hy hu n1 n2 n3 (jC hp (h.nf x hx) (h.nf y hy) n1 hn (AW q1) (AW q2) (AW q3))
noncomputable def Gc(a b c d e:R3):C6:=lc2 (Aq a b c*Aq b d e) (prd (crs c e) (crs a d)) (Aq a b d*Aq e b c) (prd (crs a c) (crs e d))
theorem LV(a b c d e f:R3):vI (Gc a b c d e) f=Aq a b c*Aq b d e*(Aq c e f*Aq d f a)+Aq a b d*Aq e b c*(Aq c f a*Aq e d f):=by
 unfold Gc;rw[WH,Q3,Q3,Kg,Kg,Kg,Kg];have h1:Aq a d f=Aq d f a:=by unfold Aq det;grind
 have h2:Aq a c f=Aq c f a:=by unfold Aq det;grind
 rw[h1,h2]
theorem bK(a b c d e:R3):vI (Gc a b c d e) a=0/\vI (Gc a b c d e) b=0/\vI (Gc a b c d e) c=0/\vI (Gc a b c d e) d=0/\vI (Gc a b c d e) e=0:=by
 have same:∀ x y:R3,Aq x x y=0/\Aq x y x=0/\Aq y x x=0:=λx y=>by unfold Aq det;refine⟨?_,?_,?_⟩<;>grind
 refine⟨?_,?_,?_,?_,?_⟩
 .rw[LV,(same a d).2.2,(same a c).2.2];simp
 .rw[LV];have h1:Aq c e b=Aq e b c:=by unfold Aq det;grind
  have h2:Aq d b a=-Aq a b d:=by unfold Aq det;grind
  have h3:Aq c b a=-Aq a b c:=by unfold Aq det;grind
  have h4:Aq e d b=-Aq b d e:=by unfold Aq det;grind
  rw[h1,h2,h3,h4];generalize Aq a b c=x;generalize Aq b d e=y;generalize Aq e b c=z;generalize Aq a b d=w;grind
 .rw[LV,(same c e).2.1,(same c a).1];simp
 .rw[LV,(same d a).1,(same d e).2.2];simp
 .rw[LV,(same e c).2.2,(same e d).2.1];simp
theorem bN(hp:P4 p){a b c d e:R3}(h1:Aq a b c%p≠0)(h2:Aq b d e%p≠0)(h3:Aq a c e%p≠0)(h4:Aq a c d%p≠0):∃ l,Bg p (Gc a b c d e).l=Ab l:=by
 cases q:Bg p (Gc a b c d e).l with
 |some l=>exact⟨l,rfl⟩
 |none=>
  exfalso
  have z:=Jr.mp q;have k:∀{n:Ae},n∈(Gc a b c d e).l->Cg p n 0:=λhn=>z0 (z _ hn)
  have q2:CgC p (Gc a b c d e) ⟨0,0,0,0,0,0⟩:=⟨k (by simp[C6.l]),k (by simp[C6.l]),k (by simp[C6.l]),k (by simp[C6.l]),k (by simp[C6.l]),k (by simp[C6.l])⟩
  have v:=Jw (x:=(a.1+c.1,a.2.1+c.2.1,a.2.2+c.2.2)) (x':=(a.1+c.1,a.2.1+c.2.1,a.2.2+c.2.2)) q2 ⟨Cg.rfl,Cg.rfl,Cg.rfl⟩;rw[LV]at v;have e1:Aq c e (a.1+c.1,a.2.1+c.2.1,a.2.2+c.2.2)=Aq a c e:=by unfold Aq det;simp only;grind
  have e2:Aq d (a.1+c.1,a.2.1+c.2.1,a.2.2+c.2.2) a=-Aq a c d:=by unfold Aq det;simp only;grind
  have e3:Aq c (a.1+c.1,a.2.1+c.2.1,a.2.2+c.2.2) a=0:=by unfold Aq det;simp only;grind
  rw[e1,e2,e3]at v;refine Ct hp (Ct hp h1 h2) (Ct hp h3 (Ct hp hp.m1 h4)) (z0' ((Cg.of ?_).trans (v.trans (Cg.of ?_))))
  .rw[Dv,CD,X3,Int.neg_one_mul]
  .unfold vI;simp
theorem rV(hp:P4 p){a b c d e:R3}(h:N3 p [a,b,c,d,e]):∃ C,InC p C/\Bg p C.l=Ab 1/\PrC p C (Gc a b c d e)/\Five p C [a,b,c,d,e]:=by
 have nd:=h.nd;simp only[BW,At,AM,BH,Dm,Ek,DW,Ht]at nd;obtain⟨⟨n01,n02,n03,n04⟩,⟨n12,n13,n14⟩,⟨n23,n24⟩,n34⟩:=nd;obtain⟨l,el⟩:=bN hp (h.n3 a b c (by simp) (by simp) (by simp) n01 n02 n12) (h.n3 b d e (by simp) (by simp) (by simp) n13 n14 n34) (h.n3 a c e (by simp) (by simp) (by simp) n02 n04 n24) (h.n3 a c d (by simp) (by simp) (by simp) n02 n03 n23)
 obtain⟨t,D,it,eD,iD,lD,pD⟩:=RO hp el;refine⟨D,iD,lD,pD,h.five hp rfl λx hx=>?_⟩
 have k:∀ x,vI (Gc a b c d e) x=0->vI D x%p=0:=λx hz=>by
  obtain⟨d,dz,q⟩:=pD;have q:=Jw (x:=x) (x':=x) q ⟨Cg.rfl,Cg.rfl,Cg.rfl⟩;rw[Q2,hz,CD]at q;exact z0' q
 obtain⟨g0,g1,g2,g3,g4⟩:=bK a b c d e;simp only[At,AM,BH]at hx;rcases hx with rfl|rfl|rfl|rfl|rfl
 .exact k _ g0
 .exact k _ g1
 .exact k _ g2
 .exact k _ g3
 .exact k _ g4
end
noncomputable def Kx:Df:=⟨3,Ad,(.cons (.ife (.cmp .Lt (.bi .len (.cons (.var 1) .nil)) (.int 5)) (.cons (.asg 2 Ad (.call 123 (.cons (.var 0) .nil))) (.cons (.ret (.call 133 (.cons (.var 0) (.cons (.var 2) (.cons (.call 112 (.cons (.var 0) (.cons (.call 128 (.cons (.var 0) (.cons (.var 2) .nil))) (.cons (.var 1) .nil)))) .nil))))) .nil)) .nil) (.cons (.ret (.call 198 (.cons (.var 0) (.cons (.sl (.var 1) .non (.int 5)) .nil)))) .nil))⟩
noncomputable def Ks:Ss:=(.cons (.ife (.cmp .Eq (.call 61 (.cons (.var 0) (.cons (.var 4) (.cons (.var 5) (.cons (.var 2) .nil))))) (.int 0)) (.cons (.ret (.tup (.cons (.var 4) (.cons (.var 5) .nil)))) .nil) .nil) .nil)
noncomputable def Jq:Ss:=(.cons (.fors 5 (.e (.sl (.var 1) (.bin .Add (.var 3) (.int 1)) .non)) Ks) .nil)
noncomputable def PQ:Df:=⟨6,Ad,(.cons (.forT [3,4] (.enm (.var 1)) Jq) (.cons (.ret .non) .nil))⟩
noncomputable def Pw:E:=(.cmp .NotIn (.var 2) (.var 1))
noncomputable def Px:E:=(.bin .Add (.tup (.cons (.var 2) .nil)) (.call 225 (.cons (.var 0) (.cons (.var 1) (.cons (.var 2) .nil)))))
noncomputable def Nl:Df:=⟨3,Ad,(.cons (.ret (.comp Px 2 (.e (.call 69 (.cons (.var 0) .nil))) Pw)) .nil)⟩
section
variable{Z:Gam}{p:Ae}{pts:Ac R3}
theorem Qw{α:Type}{body:D->Rho->O}(I:Rho->Prop)(Q:D->Prop)(hit:α->Prop)(f:α->D):∀(L:Ac α),(∀ x∈L,∀ Y,I Y->(∃ d,Q d/\body (f x) Y=.ret d Ad)\/(¬ hit x/\∃ Y',body (f x) Y=.next Y'/\I Y'))->∀ Y,I Y->(∃ d,Q d/\CG body (L.map f) Y=.ret d Ad)\/((∀ x∈L,¬ hit x)/\∃ Y',CG body (L.map f) Y=.next Y'/\I Y')
 |[],_,Y,i=>.inr ⟨(λ_ h=>nomatch h),Y,rfl,i⟩
 |m::L,h,Y,i=>by
  rcases h m (AE ..) Y i with ⟨d,e1,e2⟩|⟨e1,Y',e2,i'⟩
  .refine .inl ⟨d,e1,?_⟩;show (body (f m) Y).turn _=_;rw[e2];rfl
  .rcases Qw I Q hit f L (λm' h'=>h m' (Ay _ h')) Y' i' with ⟨d,a,b⟩|⟨a,r,b,c⟩
   .refine .inl ⟨d,a,?_⟩;show (body (f m) Y).turn _=_;rw[e2];exact b
   .refine .inr ⟨λx hx=>(At.mp hx).elim (λz=>z ▸ e1) (a x),r,?_,c⟩
    show (body (f m) Y).turn _=_;rw[e2];exact b
def KU(d:D):Prop:=∃ A B:R3,d=.tup [Am Aa A,Am Aa B]
theorem kg(h:HH Z)(hp:P4 p)(hg:∀ t∈pts,In3 p t)(ix:In3 p x)(ia:In3 p a)(iy:In3 p y){i:Ae}(Y:Rho)(I:∃ s,Y=[si p,sh (Aw pts),sh (Am Aa x),si i,sh (Am Aa a),s]):(∃ d,KU d/\Br Z 5 Ks (Am Aa y) Y=.ret d Ad)\/(¬ Aq a y x%p=0/\∃ Y',Br Z 5 Ks (Am Aa y) Y=.next Y'/\∃ s,Y'=[si p,sh (Aw pts),sh (Am Aa x),si i,sh (Am Aa a),s]):=by
 obtain⟨s,rfl⟩:=I;have b:∀ {r},In3 p r->B3 r:=λhr=>(CY hp hr).b3 (by decide)
 have e:=h p Aa _ _ _ hp.pos (b ia) (b iy) (b ix);generalize Aw pts=T;by_cases z:Aq a y x%p=0
 .rw[z]at e;refine .inl ⟨_,⟨a,y,rfl⟩,?_⟩;generalize Am Aa a=A at *;generalize Am Aa y=Y_ at *;generalize Am Aa x=X at *;simp[Br,Ks,e,Eg]
 .refine .inr ⟨z,[si p,sh T,sh (Am Aa x),si i,sh (Am Aa a),sh (Am Aa y)],?_,_,rfl⟩;generalize Am Aa a=A at *;generalize Am Aa y=Y_ at *;generalize Am Aa x=X at *;generalize Aq a y x%p=v at *;simp[Br,Ks,e,z]
theorem zT(h:HH Z)(hp:P4 p)(hg:∀ t∈pts,In3 p t)(hz:pts.length<=1000)(ix:In3 p x)(hi:i<pts.length)(Y:Rho)(I:∃ a b s,Y=[si p,sh (Aw pts),sh (Am Aa x),a,b,s]):(∃ d,KU d/\D0 Z [3,4] Jq (.tup [.int ((0+i:Ag):Ae),(pts.map (Am Aa)).getD i .non]) Y=.ret d Ad)\/(¬ (∃ y∈pts.drop (i+1),Aq (atZ pts i) y x%p=0)/\∃ Y',D0 Z [3,4] Jq (.tup [.int ((0+i:Ag):Ae),(pts.map (Am Aa)).getD i .non]) Y=.next Y'/\∃ a b s,Y'=[si p,sh (Aw pts),sh (Am Aa x),a,b,s]):=by
 obtain⟨a,b,s,rfl⟩:=I;have e0:(pts.map (Am Aa)).getD i .non=Am Aa (atZ pts i):=by simp[atZ,hi]
 have sl:slD (Aw pts) (Ab ((i:Ae)+1)) Af=.ok (Aw (pts.drop (i+1))):=by
  have:=oE pts (i:=(i:Ae)+1) (by omega) (by omega)
  rwa [show ((i:Ae)+1).toNat=i+1 by omega]at this
 have e:D0 Z [3,4] Jq (.tup [.int ((0+i:Ag):Ae),(pts.map (Am Aa)).getD i .non]) [si p,sh (Aw pts),sh (Am Aa x),a,b,s]=CG (Br Z 5 Ks) ((pts.drop (i+1)).map (Am Aa)) [si p,sh (Aw pts),sh (Am Aa x),si i,sh (Am Aa (atZ pts i)),s]:=by
  have e':∀(u v:D),D0 Z [3,4] Jq (.tup [u,v]) [si p,sh (Aw pts),sh (Am Aa x),a,b,s]=evSs Z [si p,sh (Aw pts),sh (Am Aa x),sh u,sh v,s] Jq:=λ_ _=>rfl
  rw[e0,YB,e'];unfold Jq;refine Mz ?_;have sq:Ci (Aw (pts.drop (i+1)))=.ok ((pts.drop (i+1)).map (Am Aa)):=rfl;generalize Aw (pts.drop (i+1))=T' at *;generalize (pts.drop (i+1)).map (Am Aa)=L at *;generalize Aw pts=T at *;generalize Am Aa (atZ pts i)=A;generalize Am Aa x=X;simp[sl,slE,sq]
 rw[e];rcases Qw (body:=Br Z 5 Ks) (λY=>∃ s,Y=[si p,sh (Aw pts),sh (Am Aa x),si i,sh (Am Aa (atZ pts i)),s]) KU (λy=>Aq (atZ pts i) y x%p=0) (Am Aa) (pts.drop (i+1)) (λy hy Y I=>kg h hp hg ix (inZ hg hi) (hg y (List.mem_of_mem_drop hy)) Y I) _ ⟨s,rfl⟩ with ⟨d,a,b⟩|⟨a,r,b,u,c⟩
 .exact .inl ⟨d,a,b⟩
 .exact .inr ⟨λ⟨y,hy,z⟩=>a y hy z,r,b,_,_,u,c⟩
theorem jZ(h:HH Z)(hp:P4 p)(hg:∀ t∈pts,In3 p t)(hz:pts.length<=1000)(ix:In3 p x)(hx:∃ i<pts.length,∃ y∈pts.drop (i+1),Aq (atZ pts i) y x%p=0):∃ d,KU d/\PQ.run Z [.int p,Aw pts,Am Aa x]=.ok d:=by
 have en:=RQ (pts.map (Am Aa)) 0;rw[BR]at en;have en':EK 0 (pts.map (Am Aa))=(Bm pts.length).map λm=>D.tup [.int ((0+m:Ag):Ae),(pts.map (Am Aa)).getD m .non]:=en
 have hE:FQ Z [si p,sh (Aw pts),sh (Am Aa x),Af,Af,Af] (.enm (.var 1))=.ok ((Bm pts.length).map λm=>D.tup [.int ((0+m:Ag):Ae),(pts.map (Am Aa)).getD m .non]):=by
  show R.ok (EK 0 (pts.map (Am Aa)))=_;rw[en']
 rcases Qw (body:=D0 Z [3,4] Jq) (λY=>∃ a b s,Y=[si p,sh (Aw pts),sh (Am Aa x),a,b,s]) KU (λi=>∃ y∈pts.drop (i+1),Aq (atZ pts i) y x%p=0) (λm=>D.tup [.int ((0+m:Ag):Ae),(pts.map (Am Aa)).getD m .non]) (Bm pts.length) (λm hm Y I=>zT h hp hg hz ix (BE.mp hm) Y I) [si p,sh (Aw pts),sh (Am Aa x),Af,Af,Af] ⟨_,_,_,rfl⟩ with ⟨d,a,b⟩|⟨a,_⟩
 .refine⟨d,a,?_⟩;show (evSs Z [si p,sh (Aw pts),sh (Am Aa x),Af,Af,Af] (.cons (.forT [3,4] (.enm (.var 1)) Jq) (.cons (.ret .non) .nil))).ans Ad=_;rw[J3,Qy,hE,Qv,b];rfl
 .obtain⟨i,hi,q⟩:=hx;exact absurd q (a i (BE.mpr hi))
theorem rX:∀{rest seen left:Ac R3},x∈left->x∉IU p seen rest left->x∈rest\/∃ r1 f r2,rest=r1++f::r2/\∃ a∈seen++r1,Aq a f x%p=0:=by
 intro rest
 induction rest with
 |nil=>intro seen left hx hn;exact absurd hx hn
 |cons f rest ih=>
  intro seen left hx hn;have hn':x∉IU p (seen++[f]) rest (left.filter (stq p seen f)):=hn;by_cases c:stq p seen f x=Aa
  .rcases ih (EX.mpr ⟨hx,c⟩) hn' with h|⟨r1,g,r2,e,a,ha,z⟩
   .exact .inl (Ay _ h)
   .refine .inr ⟨f::r1,g,r2,by rw[e];rfl,a,?_,z⟩
    simpa using ha
  .unfold stq at c;rw[An,BL,BL,mn]at c;by_cases e:x=f
   .exact .inl (by rw[e];exact AE)
   .have:(seen.any λa=>decide (Aq a f x%p=0))=Aa:=by
     cases q:seen.any λa=>decide (Aq a f x%p=0) with
     |true=>rfl
     |false=>exact absurd ⟨e,q⟩ c
    obtain⟨a,ha,z⟩:=List.any_eq_true.mp this;exact .inr ⟨[],f,rest,rfl,a,Fp _ ha,AW z⟩
theorem rW(hp:P4 p)(nx:NF p x)(h:KY p pts=[])(hn:x∉pts):∃ i<pts.length,∃ y∈pts.drop (i+1),Aq (atZ pts i) y x%p=0:=by
 have m:x∉IU p [] pts (E5 p):=by
  rw[show IU p [] pts (E5 p)=[] from h]
  exact λz=>nomatch z
 rcases rX ((NR hp).mpr nx) m with q|⟨r1,f,r2,e,a,ha,z⟩
 .exact absurd q hn
 .rw[List.nil_append]at ha;obtain⟨i,hi,rfl⟩:=Ds ha;have hi':i<pts.length:=by rw[e,BJ];omega
  refine⟨i,hi',f,?_,?_⟩
  .rw[e,List.drop_append_of_le_length (by omega)]
   exact Bw _ AE
  .have:atZ pts i=r1[i]:=by
    rw[NL hi'];simp only[e];exact List.getElem_append_left hi
   rw[this];exact z
theorem VW{g:D->R Aj}{f:D->R D}:∀ L:Ac D,(∀ x∈L,∃ b,g x=.ok b/\(b=Aa->∃ y,f x=.ok y))->∃ ys,Ce g f L=.ok ys
 |[],_=>⟨[],rfl⟩
 |x::L,h=>by
  obtain⟨b,e,hb⟩:=h x AE;obtain⟨ys,ih⟩:=VW L λy hy=>h y (Ay _ hy)
  cases b with
  |true=>
   obtain⟨y,ey⟩:=hb rfl;exact⟨y::ys,by simp[Ce,e,ey,ih]⟩
  |false=>exact⟨ys,by simp[Ce,e,ih]⟩
theorem xE(ht:R4 Z)(h2:∀ x,NF p x->x∉pts->∃ d,KU d/\Z.F 225 [.int p,Aw pts,Am Aa x]=.ok d)(hp:P4 p):∃ rows,Nl.run Z [.int p,Aw pts]=.ok (.lst rows):=by
 have e:=ht p hp;have sq:Ci (Aw (E5 p))=.ok ((E5 p).map (Am Aa)):=rfl;obtain⟨ys,cp⟩:=VW (g:=cG Z [si p,sh (Aw pts),Af] 2 Pw) (f:=cF Z [si p,sh (Aw pts),Af] 2 Px) ((E5 p).map (Am Aa)) λd hd=>by
  obtain⟨x,hx,rfl⟩:=Fd.mp hd;have n:=gH x pts;refine⟨!decide (x∈pts),?_,λq=>?_⟩
  .generalize Aw pts=T at *;generalize Am Aa x=X at *;simp[cG,Pw,n]
  .have q':x∉pts:=by simpa using q
   obtain⟨d,⟨A,B,rfl⟩,e2⟩:=h2 x ((NR hp).mp hx) q';refine⟨.tup [Am Aa x,Am Aa A,Am Aa B],?_⟩;generalize Aw pts=T at *;generalize Am Aa x=X at *;generalize Am Aa A=A' at *;generalize Am Aa B=B' at *;have ad:C4 .Add (.tup [X]) (.tup [A',B'])=.ok (.tup [X,A',B']):=rfl;have cl:Fw (Z.fr 225) (.tup [A',B'])=Fw (Z.fr 225) (.tup [A',B']):=rfl;simp[cF,Px,e2,ad]
 refine⟨ys,?_⟩;generalize Aw (E5 p)=AL at *;generalize (E5 p).map (Am Aa)=al at *;generalize Aw pts=T at *;simp[Nl,Df.run,BG,e,sq,cp]
end
noncomputable def GO:Df:=⟨4,Ad,(.cons (.expr (.call 194 (.cons (.var 1) .nil))) (.cons (.asg 2 Ad (.call 65 (.cons (.var 0) (.cons (.var 1) .nil)))) (.cons (.ife (.cmp .IsNot (.var 2) .non) (.cons (.ret (.tup (.cons (.str (AQ "line")) (.cons (.var 2) .nil)))) .nil) .nil) (.cons (.ife (.cmp .Eq (.bi .len (.cons (.var 1) .nil)) (.bin .Add (.var 0) (.int 1))) (.cons (.ret (.tup (.cons (.str (AQ "curve")) (.cons (.call 224 (.cons (.var 0) (.cons (.var 1) .nil))) .nil)))) .nil) .nil) (.cons (.asg 3 Ad (.call 223 (.cons (.var 0) (.cons (.var 1) .nil)))) (.cons (.ife (.cmp .Gt (.bi .len (.cons (.var 3) .nil)) (.int 0)) (.cons (.ret (.tup (.cons (.str (AQ "more")) (.cons (.idx (.var 3) (.int 0)) .nil)))) .nil) .nil) (.cons (.ret (.tup (.cons (.str (AQ "ends")) (.cons (.call 226 (.cons (.var 0) (.cons (.var 1) .nil))) .nil)))) .nil)))))))⟩
noncomputable def Lk:Df:=⟨5,Ad,(.cons (.asg 2 Ad .non) (.cons (.asg 3 Ad .non) (.cons (.tryx (.cons (.asg 2 Ad (.call 227 (.cons (.var 0) (.cons (.var 1) .nil)))) .nil) 107 4 (.cons (.asg 3 Ad (.lst (.cons (.fld (.var 4) (AQ "triple")) (.cons (.isi (.var 4) [.cls 0]) (.cons (.isi (.var 4) [.verr]) .nil))))) (.cons (.asg 3 Ad (.bin .Add (.var 3) (.lst (.cons (.isi (.var 4) [.cls 108,.cls 118,.cls 13]) .nil)))) .nil))) (.cons (.ret (.tup (.cons (.var 2) (.cons (.var 3) .nil)))) .nil))))⟩
theorem jW(hk:XM Z)(hf:Tp Z)(hb:Rn Z)(ha:Wh Z){f0 f1 f2 f3 g0 g1 g2 g3:R3}(hp:P4 p)(F:Frm p f0 f1 f2 f3)(G:Frm p g0 g1 g2 g3):∃ a b c,GoodR p a b c/\Mh.run Z [.int p,E4 f0 f1 f2 f3,E4 g0 g1 g2 g3]=.ok (Ck a b c):=by
 have p0:=hp.pos;have e1:=hk p f0 f1 f2 f3 hp F.i0 F.i1 F.i2 F.i3 F.gen;have e2:=hk p g0 g1 g2 g3 hp G.i0 G.i1 G.i2 G.i3 G.gen;have zM:=Xr hp F.gen;have zN:=Xr hp G.gen;have fmz:∀{v:Ae}{x y z:R3},v%p≠0->Aq x y z%p≠0->Aq (fmR p v x) (fmR p v y) (fmR p v z)%p≠0:=λ{v x y z} vz h=>RX ((NI (KP p v x) (KP p v y) (KP p v z)).trans (Cg.of (Oc v v v x y z))) (Ct hp (nz3 hp vz vz vz) h)
 obtain⟨lM,eM⟩:=Ml zM;obtain⟨v,v1,v2,v3⟩:=Im hp (Jm p0 eM).1;have e4:=hf p f0 f1 f2 f3 hp F.i0 F.i1 F.i2 F.i3 zM lM v eM ⟨v1,v2,v3⟩;obtain⟨lN,eN⟩:=Ml zN;obtain⟨u,u1,u2,u3⟩:=Im hp (Jm p0 eN).1;have e3:=hf p g0 g1 g2 g3 hp G.i0 G.i1 G.i2 G.i3 zN lN u eN ⟨u1,u2,u3⟩;have vz:v%p≠0:=by rw[AR (by omega) v2];omega
 have uz:u%p≠0:=by rw[AR (by omega) u2];omega
 have zM':=fmz vz zM;have zN':=fmz uz zN;have ix:=Gu p0 v (fr0 p f0 f1 f2 f3);have iy:=Gu p0 v (fr1 p f0 f1 f2 f3);have iz:=Gu p0 v (fr2 p f0 f1 f2 f3);have jx:=Gu p0 u (fr0 p g0 g1 g2 g3);have jy:=Gu p0 u (fr1 p g0 g1 g2 g3);have jz:=Gu p0 u (fr2 p g0 g1 g2 g3);generalize fmR p v (fr0 p f0 f1 f2 f3)=x at *;generalize fmR p v (fr1 p f0 f1 f2 f3)=y at *;generalize fmR p v (fr2 p f0 f1 f2 f3)=z at *;generalize fmR p u (fr0 p g0 g1 g2 g3)=x' at *;generalize fmR p u (fr1 p g0 g1 g2 g3)=y' at *;generalize fmR p u (fr2 p g0 g1 g2 g3)=z' at *;have zB:Aq (bk0 x y z) (bk1 x y z) (bk2 x y z)%p≠0:=by rw[Ri];exact Ct hp zM' zM'
 obtain⟨lB,eB⟩:=Ml zB;obtain⟨w,w1,w2,w3⟩:=Im hp (Jm p0 eB).1;have wz:w%p≠0:=by rw[AR (by omega) w2];omega
 have e5:=hb p _ _ _ hp ix iy iz zM' lB w eB ⟨w1,w2,w3⟩;have zB':=fmz wz zB;have k0:=Gu p0 w (bk0 x y z);have k1:=Gu p0 w (bk1 x y z);have k2:=Gu p0 w (bk2 x y z);generalize fmR p w (bk0 x y z)=B0 at *;generalize fmR p w (bk1 x y z)=B1 at *;generalize fmR p w (bk2 x y z)=B2 at *;have zR:Aq (mlR p x' B0 B1 B2) (mlR p y' B0 B1 B2) (mlR p z' B0 B1 B2)%p≠0:=RX ((NI (RT p x' B0 B1 B2) (RT p y' B0 B1 B2) (RT p z' B0 B1 B2)).trans (Cg.of (ce x' y' z' B0 B1 B2))) (Ct hp zN' zB');obtain⟨l,el⟩:=Ml zR;obtain⟨t,t1,t2,t3⟩:=Im hp (Jm p0 el).1;have e6:=ha p _ _ _ _ _ _ hp jx jy jz k0 k1 k2 zR l t el ⟨t1,t2,t3⟩;have tz:t%p≠0:=by rw[AR (by omega) t2];omega
 exact⟨_,_,_,⟨hp,Gu p0 t _,Gu p0 t _,Gu p0 t _,fmz tz zR⟩,yR e1 e2 e3 e4 e5 e6⟩
section
variable{Z:Gam}{p:Ae}{pts:Ac R3}
theorem n3Z(nd:pts.Nodup)(nf:∀ x∈pts,NF p x)(h:z0_ p pts=Af):N3 p pts:=⟨nd,nf,λx y u hx hy hu n1 n2 n3 z=>by
 obtain⟨d,e⟩:=wI hx hy hu n1 n2 n3 z;rw[h]at e;cases e⟩
structure HC71 (Z:Gam):Prop where
 pc:∀ p,P4 p->Z.F 123 [.int p]=.ok (Cm (pl p))
 po:∀ p C,P4 p->InC p C->Z.F 128 [.int p,Cm C]=.ok (Aw (OM p C))
 mv:∀(p:Ae)(f0 f1 f2 f3 g0 g1 g2 g3:R3),P4 p->Frm p f0 f1 f2 f3->Frm p g0 g1 g2 g3->∃ a b c,GoodR p a b c/\Z.F 112 [.int p,E4 f0 f1 f2 f3,E4 g0 g1 g2 g3]=.ok (Ck a b c)
 md:∀(p:Ae)(C:C6)(a b c:R3),InC p C->Bg p C.l=Ab 1->GoodR p a b c->∃ E:C6,Z.F 133 [.int p,Cm C,Ck a b c]=.ok (Cm E)
 th:bz Z
theorem bP{l:Ac α}(h:l.length=4):∃ a b c d,l=[a,b,c,d]:=by
  match l,h with
  |[a,b,c,d],_=>exact⟨a,b,c,d,rfl⟩
theorem bO{l:Ac α}(h:l.length=5):∃ a b c d e,l=[a,b,c,d,e]:=by
  match l,h with
  |[a,b,c,d,e],_=>exact⟨a,b,c,d,e,rfl⟩
theorem yH{T cC PT M R:D}{n:Ae}(ln:biD .len [T]=.ok (.int n))(h:n<5)(e1:Z.F 123 [.int p]=.ok cC)(e2:Z.F 128 [.int p,cC]=.ok PT)(e3:Z.F 112 [.int p,PT,T]=.ok M)(e4:Z.F 133 [.int p,cC,M]=.ok R):Kx.run Z [.int p,T]=.ok R:=by
 simp[Kx,Df.run,BG,ln,h,e1,e2,e3,e4]
theorem yG{T T5 R:D}{n:Ae}(ln:biD .len [T]=.ok (.int n))(h:¬ n<5)(sl:slD T Af (Ab 5)=.ok T5)(e:Z.F 198 [.int p,T5]=.ok R):Kx.run Z [.int p,T]=.ok R:=by
 simp[Kx,Df.run,BG,ln,h,sl,slE,e]
theorem gL(h:HC71 Z)(hp:P4 p)(n3:N3 p pts)(hl:(pts.length:Ae)=p+1):∃ C:C6,Kx.run Z [.int p,Aw pts]=.ok (Cm C):=by
 have ln:=Mk pts;by_cases p3:p=3
 .subst p3;obtain⟨a,b,c,d,rfl⟩:=bP (l:=pts) (by omega)
  have nd:=n3.nd;simp only[BW,At,AM,BH,Dm,Ek,DW,Ht]at nd;obtain⟨⟨n01,n02,n03⟩,⟨n12,n13⟩,n23⟩:=nd;have G:Frm 3 a b c d:=⟨(n3.nf _ (by simp)).1,(n3.nf _ (by simp)).1,(n3.nf _ (by simp)).1,(n3.nf _ (by simp)).1,n3.n3 _ _ _ (by simp) (by simp) (by simp) n01 n02 n12,n3.n3 _ _ _ (by simp) (by simp) (by simp) n01 n03 n13,n3.n3 _ _ _ (by simp) (by simp) (by simp) n02 n03 n23,n3.n3 _ _ _ (by simp) (by simp) (by simp) n12 n13 n23⟩
  have F:Frm 3 (0,0,1) (1,0,0) (1,1,1) (1,2,1):=⟨by unfold In3;decide,by unfold In3;decide,by unfold In3;decide,by unfold In3;decide,by unfold K0;decide⟩
  have iC:InC 3 (pl 3):=by unfold InC;decide
  have lC:Bg 3 (pl 3).l=Ab 1:=by decide
  have po:=h.po 3 (pl 3) hp iC;rw[show OM 3 (pl 3)=[(0,0,1),(1,0,0),(1,1,1),(1,2,1)] by decide]at po
  obtain⟨x,y,z,gT,mv⟩:=h.mv 3 _ _ _ _ _ _ _ _ hp F G;obtain⟨E,md⟩:=h.md 3 (pl 3) x y z iC lC gT;exact⟨E,yH ln (by simp) (h.pc 3 hp) po mv md⟩
 .have p5:5<=p:=by rcases hp with rfl|rfl|rfl|rfl<;>omega
  have sl:=Rt pts (i:=5) (by decide)
  obtain⟨a,b,c,d,e,e5⟩:=bO (l:=pts.take 5) (by rw[GI];omega)
  have s5:N3 p [a,b,c,d,e]:=by rw[<-e5];exact n3.sub (Yv 5 pts)
  obtain⟨C,iC,lC,_,F⟩:=rV hp s5;have th:=h.th p C _ hp iC lC F;rw[<-e5]at th;exact⟨C,yG ln (by omega) sl th⟩
structure HL71 (Z:Gam):Prop where
 un:∀(p:Ae)(pts:Ac R3),P4 p->(∀ x∈pts,NF p x)->Z.F 194 [Aw pts]=alO (DK [] pts)
 ft:∀(p:Ae)(pts:Ac R3),P4 p->(∀ x∈pts,NF p x)->pts.length<=1000->Z.F 65 [.int p,Aw pts]=.ok ((z0_ p pts).getD .non)
 co:∀(p:Ae)(pts:Ac R3),P4 p->N3 p pts->(pts.length:Ae)=p+1->∃ C:C6,Z.F 224 [.int p,Aw pts]=.ok (Cm C)
 fi:XJ Z
 en:∀(p:Ae)(pts:Ac R3),P4 p->(∀ x∈pts,NF p x)->pts.length<=1000->KY p pts=[]->∃ rows,Z.F 226 [.int p,Aw pts]=.ok (.lst rows)
theorem ar{e:Ex}(h:Z.F 194 [T]=.exn e):GO.run Z [.int p,T]=.exn e:=by
 simp[GO,Df.run,BG,h]
theorem b6{d:D}{ds:Ac D}(h:Z.F 194 [T]=.ok .non)(hd:d=.tup ds)(e:Z.F 65 [.int p,T]=.ok d):GO.run Z [.int p,T]=.ok (.tup [.str (AQ "line"),d]):=by
 have i:B4 .IsNot d .non=.ok (.bl Aa):=by rw[hd];rfl
 simp[GO,Df.run,BG,h,e,i]
theorem b8{C:D}{n:Ae}(h:Z.F 194 [T]=.ok .non)(e:Z.F 65 [.int p,T]=.ok .non)(ln:biD .len [T]=.ok (.int n))(hn:n=p+1)(ec:Z.F 224 [.int p,T]=.ok C):GO.run Z [.int p,T]=.ok (.tup [.str (AQ "curve"),C]):=by
 subst hn;simp[GO,Df.run,BG,h,e,ln,ec]
theorem av{L X:D}{n m:Ae}(h:Z.F 194 [T]=.ok .non)(e:Z.F 65 [.int p,T]=.ok .non)(ln:biD .len [T]=.ok (.int n))(hn:¬ n=p+1)(ef:Z.F 223 [.int p,T]=.ok L)(lm:biD .len [L]=.ok (.int m))(hm:0<m)(ix:CJ L (.int 0)=.ok X):GO.run Z [.int p,T]=.ok (.tup [.str (AQ "more"),X]):=by
 simp[GO,Df.run,BG,h,e,ln,hn,ef,lm,hm,ix]
theorem b7{L X:D}{n:Ae}(h:Z.F 194 [T]=.ok .non)(e:Z.F 65 [.int p,T]=.ok .non)(ln:biD .len [T]=.ok (.int n))(hn:¬ n=p+1)(ef:Z.F 223 [.int p,T]=.ok L)(lm:biD .len [L]=.ok (.int 0))(ee:Z.F 226 [.int p,T]=.ok X):GO.run Z [.int p,T]=.ok (.tup [.str (AQ "ends"),X]):=by
 simp[GO,Df.run,BG,h,e,ln,hn,ef,lm,ee]
theorem yU(h:HL71 Z)(hp:P4 p)(nf:∀ x∈pts,NF p x)(hz:pts.length<=1000):(∀ x,DK [] pts=Ab x->GO.run Z [.int p,Aw pts]=.exn (alk x)) /\
  (DK [] pts=Af->(∀ d,z0_ p pts=Ab d->GO.run Z [.int p,Aw pts]=.ok (.tup [.str (AQ "line"),d]))/\(z0_ p pts=Af->∃ s X,AQ "line"≠s/\GO.run Z [.int p,Aw pts]=.ok (.tup [.str s,X]))):=by
 have un:=h.un p pts hp nf;have ft:=h.ft p pts hp nf hz;refine⟨λx q=>ar (by rw[un,q];rfl),λq=>?_⟩
 rw[q]at un;have un':Z.F 194 [Aw pts]=.ok .non:=un;refine⟨λd z=>?_,λz=>?_⟩
 .rw[z]at ft;obtain⟨x,_,y,_,u,_,hd⟩:=Ru z;exact b6 un' hd ft
 .rw[z]at ft;have nd:=(T7 q).1;have ln:=Mk pts;by_cases c:(pts.length:Ae)=p+1
  .obtain⟨C,ec⟩:=h.co p pts hp (n3Z nd nf z) c;exact⟨AQ "curve",_,by decide,b8 un' ft ln c ec⟩
  .have ef:=h.fi p pts hp nf nd hz;have lm:=Mk (KY p pts);cases hf:KY p pts with
   |nil=>
    obtain⟨rows,ee⟩:=h.en p pts hp nf hz hf;rw[hf]at lm ef;exact⟨AQ "ends",_,by decide,b7 un' ft ln c ef lm ee⟩
   |cons x r=>
    rw[hf]at lm ef;exact⟨AQ "more",Am Aa x,by decide,av un' ft ln c ef lm (by simp) (Ha (pts:=x::r) (i:=0) (by simp))⟩
theorem h9(e:Z.F 227 [.int p,T]=.exn (alk x))(hu:Z.up 107=[107,0]):Lk.run Z [.int p,T]=.ok (.tup [.non,.lst [Am Aa x,.bl Aa,.bl Aa,.bl Ad]]):=by
 unfold alk at e;generalize Am Aa x=X at *;have s4:DR 4=Aa:=rfl;simp[Lk,Df.run,BG,e,hu,kiD,Er,MV,s4]
theorem Xd{d:D}(e:Z.F 227 [.int p,T]=.ok d):Lk.run Z [.int p,T]=.ok (.tup [d,.non]):=by
 simp[Lk,Df.run,BG,e]
end
noncomputable def Lc:Ss:=(.cons (.app 2 (.call 231 (.cons (.var 1) (.cons (.call 228 (.cons (.var 0) (.cons (.bin .Add (.int 2) (.var 3)) .nil))) .nil)))) .nil)
noncomputable def Nb:E:=(.call 237 (.cons (.var 1) (.cons (.var 10) (.cons (.int 3) .nil))))
noncomputable def Jn:Ss:=(.cons (.asgT [8,9] (.call 239 (.cons (.var 1) (.cons (.var 4) .nil)))) (.cons (.ife (.cmp .NotEq (.var 4) (.var 2)) (.cons (.ret (.bl Ad)) .nil) .nil) (.cons (.ife (.cmp .IsNot (.var 5) .non) (.cons (.ife (.or (.cons (.cmp .IsNot (.var 8) .non) (.cons (.cmp .NotEq (.var 9) (.lst (.cons (.var 5) (.cons (.bl Aa) (.cons (.bl Aa) (.cons (.bl Ad) .nil)))))) (.cons (.no (.call 237 (.cons (.var 1) (.cons (.idx (.var 9) (.int 0)) (.cons (.int 3) .nil))))) .nil)))) (.cons (.ret (.bl Ad)) .nil) .nil) .nil) (.cons (.ife (.or (.cons (.cmp .IsNot (.var 9) .non) (.cons (.no (.isi (.var 8) [.tuple])) (.cons (.cmp .NotEq (.bi .len (.cons (.var 8) .nil)) (.int 2)) .nil)))) (.cons (.ret (.bl Ad)) .nil) .nil) (.cons (.ife (.cmp .NotEq (.cmp .Eq (.idx (.var 8) (.int 0)) (.str (AQ "line"))) (.cmp .IsNot (.var 6) .non)) (.cons (.ret (.bl Ad)) .nil) .nil) (.cons (.ife (.and (.cons (.cmp .IsNot (.var 6) .non) (.cons (.or (.cons (.cmp .NotEq (.idx (.var 8) (.int 1)) (.var 6)) (.cons (.no (.isi (.idx (.var 8) (.int 1)) [.tuple])) .nil))) .nil))) (.cons (.ret (.bl Ad)) .nil) .nil) (.cons (.ife (.and (.cons (.cmp .IsNot (.var 6) .non) (.cons (.no (.bi .all (.cons (.comp Nb 10 (.e (.idx (.var 8) (.int 1))) DQ) .nil))) .nil))) (.cons (.ret (.bl Ad)) .nil) .nil) .nil))))) .nil)))
noncomputable def Mm:Df:=⟨11,Ad,(.cons (.asg 1 Ad (.call 229 (.cons (.var 0) .nil))) (.cons (.asg 2 Aa (.lst .nil)) (.cons (.fors 3 (.rng (.bin .Mod (.call 228 (.cons (.var 0) (.cons (.int 1) .nil))) (.int 14))) Lc) (.cons (.asg 4 Ad (.bi .list (.cons (.var 2) .nil))) (.cons (.asg 5 Ad (.call 238 (.cons (.var 2) .nil))) (.cons (.asg 6 Ad (.call 234 (.cons (.var 1) (.cons (.var 2) .nil)))) (.cons (.fors 7 (.rng (.int 2)) Jn) (.cons (.ret (.bl Aa)) .nil))))))))⟩
noncomputable def NK:Df:=⟨3,Ad,(.cons (.asg 2 Ad (.call 65 (.cons (.var 0) (.cons (.var 1) .nil)))) (.cons (.ife (.cmp .IsNot (.var 2) .non) (.cons (.rais 118 (.cons (.var 2) .nil)) .nil) .nil) .nil))⟩
section
variable{Z:Gam}{ns:Ac Ae}{p:Ae}{pts:Ac R3}
theorem qU(e:Z.F 65 [.int p,PP]=.ok .non):NK.run Z [.int p,PP]=.ok .non:=by
 simp[NK,Df.run,BG,e]
theorem kh(l:Ac R3):flD 5 (Aw l)=Aa/\eqD (Aw l) (Aw l)=Aa:=by
 constructor
 .exact(List.all_eq_true.mpr λx hx=>by
   obtain⟨r,_,rfl⟩:=Fd.mp hx;rfl:((l.map (Am Aa)).all (flD 4))=Aa)
 .show eqDs (l.map (Am Aa)) (l.map (Am Aa))=Aa
  induction l with
  |nil=>rfl
  |cons x l ih=>
   show (eqD (Am Aa x) (Am Aa x)&&eqDs _ _)=Aa;rw[ih,Jv];simp
def WF(Z:Gam):Prop:=∀(p n:Ae),P4 p->∃ x,NF p x/\Z.F 231 [.int p,.int n]=.ok (Am Aa x)
theorem S6(hm:Of Z 228 ns)(ht:WF Z)(hp:P4 p){r:Rho}:∀(n:Ag)(k:Ae)(l:Ac R3)(s3:Sl),0<=k->l.length+n<=100->(∀ x∈l,NF p x)->∃ l' s3',l'.length=l.length+n/\(∀ x∈l',NF p x)/\CG (Br Z 3 Lc) (D5 k n) (sh (scr ns)::si p::ow l::s3::r)=.next (sh (scr ns)::si p::ow l'::s3'::r)
 |0,k,l,s3,_,_,hl=>⟨l,s3,rfl,hl,rfl⟩
 |n+1,k,l,s3,hk,hz,hl=>by
  obtain⟨m,_,e⟩:=hm (2+k) (by omega)
  obtain⟨x,nx,ex⟩:=ht p m hp;obtain⟨l',s3',a1,a2,a3⟩:=S6 hm ht hp (r:=r) n (k+1) (l++[x]) (si k) (by omega) (by rw[BJ];simp;omega) (λy hy=>(GW.mp hy).elim (hl y) λz=>BN.mp z ▸ nx)
  refine⟨l',s3',by rw[a1,BJ];simp;omega,a2,?_⟩
  rw[Uo];show (Br Z 3 Lc (.int k) _).turn _=_;have sz:DR (l.length+1)=Aa:=by
   unfold DR;exact Nat.ble_eq.mpr (by omega)
  have o2:∀(a b c:Sl),D6 (a::b::ow l::c::r) 2=.ok (l.map (Am Aa)):=λ_ _ _=>rfl
  have st:Br Z 3 Lc (.int k) (sh (scr ns)::si p::ow l::s3::r)=.next (sh (scr ns)::si p::ow (l++[x])::si k::r):=by
   have oe:ow (l++[x])=Ab (D.lst (l.map (Am Aa)++[Am Aa x]),Aa):=by simp[ow]
   rw[oe];have lm:(l.map (Am Aa)).length=l.length:=BR ..;generalize scr ns=S at *;generalize Am Aa x=X at *;generalize l.map (Am Aa)=LM at *;generalize ow l=OL at *;simp[Br,Lc,o2,e,ex,lm,sz]
  rw[st];exact a3
section
variable{S T X K th fd Y_:D}{OP s3 s7 s8 s9:Sl}{m:Ae}
theorem dC(vp:∀(a b c d e f g h i j:Sl),Dp [a,b,OP,c,d,e,f,g,h,i,j] 2=.ok T)(fT:flD 5 T=Aa)(eT:eqD T T=Aa)(hK:K=.lst [X,.bl Aa,.bl Aa,.bl Ad])(fK:flD 5 K=Aa)(eK:eqD K K=Aa)(iX:B4 .IsNot X .non=.ok (.bl Aa))(ix:CJ K (.int 0)=.ok X)(ea:Z.F 239 [.int p,T]=.ok (.tup [.non,K]))(ef:Z.F 237 [.int p,X,.int 3]=.ok (.bl Aa)):Br Z 7 Jn (.int m) [sh S,si p,OP,s3,sh T,sh X,sh th,s7,s8,s9,Af]=.next [sh S,si p,OP,s3,sh T,sh X,sh th,si m,sh .non,sh K,Af]:=by
 have as:∀ Y:Rho,IP [8,9] (.tup [.non,K]) Y=.ok ((Y.set 8 (sh .non)).set 9 (sh K)):=λ_=>rfl
 generalize D.tup [.non,K]=R at *;simp[Br,Jn,ea,as,vp,fT,eT,iX,<-hK,fK,eK,ix,ef]
theorem dB(vp:∀(a b c d e f g h i j:Sl),Dp [a,b,OP,c,d,e,f,g,h,i,j] 2=.ok T)(fT:flD 5 T=Aa)(eT:eqD T T=Aa)(iY:B4 .IsNot Y_ .non=.ok (.bl Aa))(fY:flD 5 Y_=Aa)(eY:eqD Y_ Y_=Aa)(it:Ep Z.up [.tuple] Y_=.ok (.bl Aa)){ys zs:Ac D}(sq:Ci Y_=.ok ys)(cp:Ce (cG Z [sh S,si p,OP,s3,sh T,sh .non,sh Y_,si m,sh (.tup [.str (AQ "line"),Y_]),sh .non,Af] 10 DQ) (cF Z [sh S,si p,OP,s3,sh T,sh .non,sh Y_,si m,sh (.tup [.str (AQ "line"),Y_]),sh .non,Af] 10 Nb) ys=.ok zs)(al:biD .all [.lst zs]=.ok (.bl Aa))(ea:Z.F 239 [.int p,T]=.ok (.tup [.tup [.str (AQ "line"),Y_],.non])):
  Br Z 7 Jn (.int m) [sh S,si p,OP,s3,sh T,sh .non,sh Y_,s7,s8,s9,Af]=.next [sh S,si p,OP,s3,sh T,sh .non,sh Y_,si m,sh (.tup [.str (AQ "line"),Y_]),sh .non,Af]:=by
 have i0:CJ (.tup [.str (AQ "line"),Y_]) (.int 0)=.ok (.str (AQ "line")):=rfl;have i1:CJ (.tup [.str (AQ "line"),Y_]) (.int 1)=.ok Y_:=rfl;have ln:biD .len [.tup [.str (AQ "line"),Y_]]=.ok (.int 2):=rfl;have it2:Ep Z.up [.tuple] (.tup [.str (AQ "line"),Y_])=.ok (.bl Aa):=rfl;generalize hF:D.tup [.str (AQ "line"),Y_]=F at *;have as:∀ Y:Rho,IP [8,9] (.tup [F,.non]) Y=.ok ((Y.set 8 (sh F)).set 9 (sh .non)):=λ_=>rfl
 generalize D.tup [F,.non]=R at *;simp[Br,Jn,ea,as,vp,fT,eT,iY,i0,i1,ln,it,it2,fY,eY,sq,cp,al]
theorem dA(vp:∀(a b c d e f g h i j:Sl),Dp [a,b,OP,c,d,e,f,g,h,i,j] 2=.ok T)(fT:flD 5 T=Aa)(eT:eqD T T=Aa){so:Ak}(hs:AQ "line"≠so)(ea:Z.F 239 [.int p,T]=.ok (.tup [.tup [.str so,Y_],.non])):Br Z 7 Jn (.int m) [sh S,si p,OP,s3,sh T,sh .non,sh .non,s7,s8,s9,Af]=.next [sh S,si p,OP,s3,sh T,sh .non,sh .non,si m,sh (.tup [.str so,Y_]),sh .non,Af]:=by
 have i0:CJ (.tup [.str so,Y_]) (.int 0)=.ok (.str so):=rfl;have ln:biD .len [.tup [.str so,Y_]]=.ok (.int 2):=rfl;have it2:Ep Z.up [.tuple] (.tup [.str so,Y_])=.ok (.bl Aa):=rfl;have hb:(so==AQ "line")=Ad:=Dt.mpr λz=>hs z.symm
 generalize hF:D.tup [.str so,Y_]=F at *;have as:∀ Y:Rho,IP [8,9] (.tup [F,.non]) Y=.ok ((Y.set 8 (sh F)).set 9 (sh .non)):=λ_=>rfl
 generalize D.tup [F,.non]=R at *;simp[Br,Jn,ea,as,vp,fT,eT,i0,ln,it2,hb]
end
theorem jq{S T tw th:D}{OP s3:Sl}{m:Ae}{RL:Ac D}{Y':Rho}(e1:Z.F 229 [S]=.ok (.int p))(em:Z.F 228 [S,.int 1]=.ok (.int m))(hN:m%14=N)(rg:DJ 0 N=.ok RL)(lp:CG (Br Z 3 Lc) RL [sh S,si p,Ab (.lst [],Aa),Af,Af,Af,Af,Af,Af,Af,Af]=.next [sh S,si p,OP,s3,Af,Af,Af,Af,Af,Af,Af])(vp:∀(a b c d e f g h i j:Sl),Dp [a,b,OP,c,d,e,f,g,h,i,j] 2=.ok T)(so:∀(a b c d e f g h i j:Sl),shE [a,b,OP,c,d,e,f,g,h,i,j] (.var 2)=Ad)(li:biD .list [T]=.ok T)(e5:Z.F 238 [T]=.ok tw)(c5:Fw (Z.fr 238) tw=Aa)(e6:Z.F 234 [.int p,T]=.ok th)(c6:Fw (Z.fr 234) th=Aa)(l2:CG (Br Z 7 Jn) [.int 0,.int 1] [sh S,si p,OP,s3,sh T,sh tw,sh th,Af,Af,Af,Af]=.next Y'):Mm.run Z [S]=.ok (.bl Aa):=by
 have rg2:DJ 0 2=.ok [.int 0,.int 1]:=rfl;simp[Mm,Df.run,BG,e1,em,hN,rg,lp,vp,so,li,e5,c5,e6,c6,rg2,l2,Eg]
structure H71 (Z:Gam) (ns:Ac Ae):Prop where
 pr:∃ p,P4 p/\Z.F 229 [scr ns]=.ok (.int p)
 mi:Of Z 228 ns
 pt:WF Z
 fa:∀ pts:Ac R3,pts.length<=1000->Z.F 238 [Aw pts]=.ok (SY (DK [] pts))
 th:∀(p:Ae)(pts:Ac R3),P4 p->(∀ x∈pts,NF p x)->pts.length<=1000->Z.F 234 [.int p,Aw pts]=.ok ((z0_ p pts).getD .non)
 fd:∀(p:Ae)(x:R3),P4 p->NF p x->Z.F 237 [.int p,Am Aa x,.int 3]=.ok (.bl Aa)
 f8:Z.fr 238=Ad
 f4:Z.fr 234=Ad
 ax:∀(p:Ae)(pts:Ac R3)(x:R3),P4 p->(∀ x∈pts,NF p x)->pts.length<=1000->DK [] pts=Ab x->Z.F 239 [.int p,Aw pts]=.ok (.tup [.non,.lst [Am Aa x,.bl Aa,.bl Aa,.bl Ad]])
 al:∀(p:Ae)(pts:Ac R3)(d:D),P4 p->(∀ x∈pts,NF p x)->pts.length<=1000->DK [] pts=Af->z0_ p pts=Ab d->Z.F 239 [.int p,Aw pts]=.ok (.tup [.tup [.str (AQ "line"),d],.non])
 ao:∀(p:Ae)(pts:Ac R3),P4 p->(∀ x∈pts,NF p x)->pts.length<=1000->DK [] pts=Af->z0_ p pts=Af->∃ s X,AQ "line"≠s/\Z.F 239 [.int p,Aw pts]=.ok (.tup [.tup [.str s,X],.non])
theorem Qe{body:D->Rho->O}{Y1 Y2:Rho}(h1:body (.int 0) Y=.next Y1)(h2:body (.int 1) Y1=.next Y2):CG body [.int 0,.int 1] Y=.next Y2:=by
 show (body (.int 0) Y).turn _=_;rw[h1];show (body (.int 1) Y1).turn _=_;rw[h2];rfl
theorem zA(h:H71 Z ns):Mm.run Z [scr ns]=.ok (.bl Aa):=by
 obtain⟨p,hp,e1⟩:=h.pr;obtain⟨m,_,em⟩:=h.mi 1 (by decide)
 have q0:=A3 m (show (14:Ae)≠0 by decide)
 have q1:=AX m (show (0:Ae)<14 by decide)
 obtain⟨n,hn⟩:∃ n:Ag,m%14=(n:Ae):=⟨(m%14).toNat,by omega⟩
 have rg:DJ 0 (n:Ae)=.ok (D5 0 n):=by
  unfold DJ;rw[AI (by omega)]
  simp
 obtain⟨pts,s3,pl,nf,lp⟩:=S6 h.mi h.pt hp (r:=[Af,Af,Af,Af,Af,Af,Af]) n 0 [] Af (by decide) (by simp;omega) (λ_ z=>by cases z)
 have lz:pts.length<=1000:=by rw[pl];simp;omega
 have fa:=h.fa pts lz;have th:=h.th p pts hp nf lz;obtain⟨fT,eT⟩:=kh pts;have vp:∀(a b c d e f g h i j:Sl),Dp [a,b,ow pts,c,d,e,f,g,h,i,j] 2=.ok (Aw pts):=λ_ _ _ _ _ _ _ _ _ _=>rfl
 have so:∀(a b c d e f g h i j:Sl),shE [a,b,ow pts,c,d,e,f,g,h,i,j] (.var 2)=Ad:=λ_ _ _ _ _ _ _ _ _ _=>rfl
 have c6:Fw (Z.fr 234) ((z0_ p pts).getD .non)=Aa:=by
  rw[h.f4];cases e:z0_ p pts with
  |none=>rfl
  |some d=>obtain⟨x,_,y,_,z,_,rfl⟩:=Ru e;rfl
 have li:biD .list [Aw pts]=.ok (Aw pts):=rfl;have go:∀{tw:D}{Y':Rho},Z.F 238 [Aw pts]=.ok tw->Fw (Z.fr 238) tw=Aa->CG (Br Z 7 Jn) [.int 0,.int 1] [sh (scr ns),si p,ow pts,s3,sh (Aw pts),sh tw,sh ((z0_ p pts).getD .non),Af,Af,Af,Af]=.next Y'->Mm.run Z [scr ns]=.ok (.bl Aa):=λe c l2=>jq e1 em hn rg lp vp so li e c th c6 l2
 cases hd:DK [] pts with
 |some x=>
  rw[hd]at fa;have nx:=nf x (Vc hd);have ax:=h.ax p pts x hp nf lz hd;have t:=fun(m:Ae)(s7 s8 s9:Sl)=>dC (Z:=Z) (p:=p) (S:=scr ns) (th:=(z0_ p pts).getD .non) (s3:=s3) (s7:=s7) (s8:=s8) (s9:=s9) (m:=m) vp fT eT rfl rfl (by
   show (eqD (Am Aa x) (Am Aa x)&&Aa)=Aa;rw[Jv];simp) rfl rfl ax (h.fd p x hp nx)
  exact go fa (by rw[h.f8];rfl) (Qe (t 0 _ _ _) (t 1 _ _ _))
 |none=>
  rw[hd]at fa;cases hz:z0_ p pts with
  |none=>
   rw[hz]at go;obtain⟨s,X,ns',ao⟩:=h.ao p pts hp nf lz hd hz;have t:=fun(m:Ae)(s7 s8 s9:Sl)=>dA (Z:=Z) (p:=p) (S:=scr ns) (s3:=s3) (s7:=s7) (s8:=s8) (s9:=s9) (m:=m) vp fT eT ns' ao
   exact go fa (by rw[h.f8];rfl) (Qe (t 0 _ _ _) (t 1 _ _ _))
  |some d=>
   rw[hz]at go;have al:=h.al p pts d hp nf lz hd hz;obtain⟨x,hx,y,hy,u,hu,rfl⟩:=Ru hz;have f1:=h.fd p x hp (nf x hx);have f2:=h.fd p y hp (nf y hy);have f3:=h.fd p u hp (nf u hu);have cp:∀(a c d e f g h i j:Sl),Ce (cG Z [a,si p,c,d,e,f,g,h,i,j,Af] 10 DQ) (cF Z [a,si p,c,d,e,f,g,h,i,j,Af] 10 Nb) [Am Aa x,Am Aa y,Am Aa u]=.ok [.bl Aa,.bl Aa,.bl Aa]:=λ_ _ _ _ _ _ _ _ _=>by
    generalize Am Aa x=X at *;generalize Am Aa y=Y_ at *;generalize Am Aa u=U_ at *;simp[Ce,cG,cF,DQ,Nb,f1,f2,f3]
   have eY:eqD (.tup [Am Aa x,Am Aa y,Am Aa u]) (.tup [Am Aa x,Am Aa y,Am Aa u])=Aa:=by
    show (eqD (Am Aa x) (Am Aa x)&&(eqD (Am Aa y) (Am Aa y)&&(eqD (Am Aa u) (Am Aa u)&&Aa)))=Aa;rw[Jv,Jv,Jv];simp
   have t:=fun(m:Ae)(s7 s8 s9:Sl)=>dB (Z:=Z) (p:=p) (S:=scr ns) (s3:=s3) (s7:=s7) (s8:=s8) (s9:=s9) (m:=m) vp fT eT rfl rfl eY rfl rfl (cp _ _ _ _ _ _ _ _ _) rfl al
   exact go fa (by rw[h.f8];rfl) (Qe (t 0 _ _ _) (t 1 _ _ _))
end
noncomputable def cW:Ag->Ac Ag
 |2=>[2,0]
 |3=>[3,0]
 |107=>[107,0]
 |118=>[118,0]
 |4=>[4,0]
 |5=>[5,0]
 |13=>[13,0]
 |_=>[]
noncomputable def Sa:Ag->Ac D->R Ex
 |2,_=>.ok ⟨2,[]⟩
 |3,_=>.ok ⟨3,[]⟩
 |107,ds=>mkX 107 "triple" ds
 |118,ds=>mkX 118 "points" ds
 |4,_=>.ok ⟨4,[]⟩
 |5,_=>.ok ⟨5,[]⟩
 |13,_=>.ok ⟨13,[]⟩
 |_,_=>.bad
noncomputable def Q71:Prg:=⟨Aa,fun
 |1=>Rc
 |9=>M8
 |17=>Nq
 |23=>PR
 |24=>Re
 |56=>OT
 |57=>Rg
 |61=>Qa
 |65=>Lf
 |194=>Lw
 |109=>NK
 |69=>P8
 |104=>Qc
 |91=>P9
 |78=>PJ
 |98=>Pb
 |105=>QM
 |106=>Pp
 |122=>PK
 |123=>M9
 |126=>MA
 |128=>Nt
 |131=>Ps
 |132=>QL
 |133=>NJ
 |110=>Qk
 |111=>Pv
 |112=>Mh
 |195=>Nd
 |196=>Pk
 |197=>Nc
 |198=>Ni
 |221=>Mo
 |222=>Ng
 |223=>Nv
 |224=>Kx
 |225=>PQ
 |226=>Nl
 |227=>GO
 |228=>Nj
 |229=>O8
 |231=>O9
 |232=>Pa
 |233=>Qb
 |234=>O6
 |236=>O7
 |237=>Pq
 |238=>Po
 |239=>Lk
 |240=>Mm
 | _=>⟨0,Ad,.nil⟩,λ_=>.non,cW,Sa⟩
theorem ku(ns:Ac Ae):(gam Q71 10).F 240 [scr ns]=.ok (.bl Aa):=by
 have gF:∀ n i ds,(gam Q71 (n+1)).F i ds=(Q71.defs i).run (gam Q71 n) ds:=λ_ _ _=>rfl
 have d56:Q71.defs 56=OT:=rfl;have d65:Q71.defs 65=Lf:=rfl;have d69:Q71.defs 69=P8:=rfl;have d109:Q71.defs 109=NK:=rfl;have d112:Q71.defs 112=Mh:=rfl;have d123:Q71.defs 123=M9:=rfl;have d128:Q71.defs 128=Nt:=rfl;have d133:Q71.defs 133=NJ:=rfl;have d194:Q71.defs 194=Lw:=rfl;have d221:Q71.defs 221=Mo:=rfl;have d222:Q71.defs 222=Ng:=rfl;have d223:Q71.defs 223=Nv:=rfl;have d224:Q71.defs 224=Kx:=rfl;have d225:Q71.defs 225=PQ:=rfl;have d226:Q71.defs 226=Nl:=rfl;have d227:Q71.defs 227=GO:=rfl;have d231:Q71.defs 231=O9:=rfl;have d234:Q71.defs 234=O6:=rfl;have d238:Q71.defs 238=Po:=rfl;have d239:Q71.defs 239=Lk:=rfl;have rs:∀ n,Io (gam Q71 (n+1)):=λn=>yO _
 have mi:∀ n,Of (gam Q71 (n+1)) 228 ns:=λn=>yT _ ns
 have tu:∀ n,PU (gam Q71 (n+2)):=λn=>gK (rs n)
 have fo:∀ n,NM (gam Q71 (n+3)):=λn p b xs l t hp e it=>qO (rs (n+1)) (tu n) hp e it
 have me:∀ n,HH (gam Q71 (n+2)):=λn=>qN (rs n)
 have jo:∀ n,Og (gam Q71 (n+4)):=λn=>xD (Ur _) (fo n)
 have ly:∀ n,Wk (gam Q71 (n+2)):=λn=>xC (rs n)
 have on:∀ n,Ra (gam Q71 (n+3)):=λn p x y hp ix iy=>by rw[gF,d56,yQ (ly n) p x y hp ix iy]
 have an:∀ n,XN (gam Q71 (n+4)):=λn p x ls hp ix hl=>by rw[gF,d221,i8 (on n) x ls hp ix hl]
 have st:∀ n,QP (gam Q71 (n+5)):=λn p pts f left hp np nf ni nl=>by rw[gF,d222,qI (jo n) (an n) pts f left hp np nf ni nl]
 have tr:∀ n,R4 (gam Q71 (n+1)):=λn p hp=>by rw[gF,d69,gw _ p hp]
 have ft:∀ n,XJ (gam Q71 (n+6)):=λn p pts hp np nd hz=>by rw[gF,d223,gy (st n) (λp hp=>tr (n+4) p hp) pts hp np nd hz]
 have x7:∀ n (p:Ae) (a:R3),P4 p->In3 p a->(gam Q71 n).xn 107 [Am Aa a]=.ok (alk a):=λn p a hp ia=>by cases n<;>exact aj hp ia
 have un:∀ n (p:Ae) (pts:Ac R3),P4 p->(∀ x∈pts,NF p x)->(gam Q71 (n+1)).F 194 [Aw pts]=alO (DK [] pts):=λn p pts hp np=>by rw[gF,d194,jQ pts λx hx=>x7 n p x hp (np x hx).1]
 have fi:∀ n (p:Ae) (pts:Ac R3),P4 p->(∀ x∈pts,NF p x)->pts.length<=1000->(gam Q71 (n+3)).F 65 [.int p,Aw pts]=.ok ((z0_ p pts).getD .non):=λn p pts hp np hz=>by rw[gF,d65,jX (me n) hp (λx hx=>(np x hx).1) (by show pts.length<20000;omega)]
 have tf:∀ n,Oe (gam Q71 (n+4)):=λn p t q a b c hp ha hb hc z l u e it=>yL (me (n+1)) (fo n) p t q a b c hp ha hb hc z l u e it
 have co:∀ n,MH (gam Q71 (n+1)):=λn=>xF _
 have su:∀ n,Q9 (gam Q71 (n+2)):=λn=>yN (rs n)
 have cr:∀ n,VR (gam Q71 (n+2)):=λn=>qT (Ur _)
 have ba:∀ n,Rn (gam Q71 (n+5)):=λn=>xH (cr (n+2)) (co (n+3)) (tf n)
 have af:∀ n,Wh (gam Q71 (n+5)):=λn=>qV (co (n+3)) (su (n+2)) (tf n)
 have fq:∀ n,Tp (gam Q71 (n+5)):=λn=>cS (me (n+2)) (jU _) (co (n+3)) (tf n)
 have f4:∀ n,mT (gam Q71 (n+3)):=λn p a b c d hp ha hb hc hd h=>by rw[gF,d65,qP (me n) p a b c d hp ha hb hc hd h]
 have ask:∀ n,XM (gam Q71 (n+4)):=λn p a b c d hp ha hb hc hd h=>by rw[gF,d109,qU (f4 n p a b c d hp ha hb hc hd h)]
 have cf:∀ n,Oh (gam Q71 (n+4)):=λn p b xs l t hp e it=>xG (rs (n+2)) (fo n) hp e it
 have va:∀ n,QO (gam Q71 (n+2)):=λn=>nE (rs n)
 have vb:∀ n,WE (gam Q71 (n+2)):=λn=>yK (rs n)
 have tw:∀ n,VN (gam Q71 (n+2)):=λn=>qH (rs n)
 have lm:∀ n,Wj (gam Q71 (n+1)):=λn=>yV _
 have fc:∀ n,VQ (gam Q71 (n+5)):=λn=>qS (jo n) (lm (n+3)) (vb (n+2)) (cf n)
 have ff:∀ n,VP (gam Q71 (n+3)):=λn=>qQ (me n)
 have au:∀ n,Vj (gam Q71 (n+1)):=λn p C pts h=>by rw[gF,d194,show Lw=Nf from rfl,iR _ p C pts h]
 have mx:∀ n,Wi (gam Q71 (n+3)):=λn=>yS (tw n) (su n)
 have cok:HC71 (gam Q71 6):=by
  refine⟨λp hp=>?_,λp C hp iC=>?_,λp f0 f1 f2 f3 g0 g1 g2 g3 hp F G=>?_,λp C a b c iC lC T=>?_,λp C pts hp iC lC h=>jS (au 4) (ff 2) (fc 0) p C pts hp iC lC h⟩
  .rw[gF,d123,jV (cf 1) p hp]
  .rw[gF,d128,qK (tr 4) (va 3) p C hp iC]
  .obtain⟨a,b,c,T,e⟩:=jW (ask 1) (fq 0) (ba 0) (af 0) hp F G;exact⟨a,b,c,T,by rw[gF,d112,e]⟩
  .obtain⟨E,_,_,_,e⟩:=qM (ba 0) (co 4) (va 3) (mx 2) (cf 1) p C a b c iC lC T;exact⟨E,by rw[gF,d133,e]⟩
 have lok:HL71 (gam Q71 7):=by
  refine⟨un 6,fi 4,λp pts hp n3 hl=>?_,ft 1,λp pts hp nf hz hf=>?_⟩
  .obtain⟨C,e⟩:=gL cok hp n3 hl;exact⟨C,by rw[gF,d224,e]⟩
  .have h2:∀ x,NF p x->x∉pts->∃ d,KU d/\(gam Q71 6).F 225 [.int p,Aw pts,Am Aa x]=.ok d:=λx nx hx=>by
    obtain⟨d,t,e⟩:=jZ (me 3) hp (λy hy=>(nf y hy).1) hz nx.1 (rW hp nx hf hx)
    exact⟨d,t,by rw[gF,d225,e]⟩
   obtain⟨rows,e⟩:=xE (tr 5) h2 hp;exact⟨rows,by rw[gF,d226,e]⟩
 have lk:∀{p:Ae}{pts:Ac R3},P4 p->(∀ x∈pts,NF p x)->pts.length<=1000->_:=λ{p pts} hp nf hz=>yU (p:=p) (pts:=pts) lok hp nf hz
 have u7:(gam Q71 8).up 107=[107,0]:=rfl;have rq:∀ n,VO (gam Q71 (n+1)):=λn=>qJ _
 have sm:∀ n,Ll (gam Q71 (n+1)):=λn=>jT _
 have cs:∀ n,Lm (gam Q71 (n+1)):=λn=>iQ _
 have h:H71 (gam Q71 9) ns:=by
  refine⟨qL (mi 7),mi 8,λp n hp=>?_,λpts hz=>?_,λp pts hp np hz=>?_,λp x hp nx=>?_,rfl,rfl,λp pts x hp np hz hd=>?_,λp pts d hp np hz hd h0=>?_,λp pts hp np hz hd h0=>?_⟩
  .refine⟨_,Xe hp (pN hp).2.1 (pN hp).2.2,by rw[gF,d231,show O9=Mf from rfl,yP _ p n hp]⟩
  .rw[gF,d238,iP pts hz]
  .rw[gF,d234,jR (cs 7) (sm 7) hp (λx hx=>(np x hx).1) hz]
  .exact qR (rq 7) p [x.1,x.2.1,x.2.2] hp.pos (by
    obtain⟨⟨a,b,c⟩,_⟩:=nx;simpa using ⟨a,b,c⟩) nx.2
  .rw[gF,d239,h9 (by rw[gF,d227,(lk hp np hz).1 x hd]) u7]
  .rw[gF,d239,Xd (by rw[gF,d227,((lk hp np hz).2 hd).1 d h0])]
  .obtain⟨s,X,n,e⟩:=((lk hp np hz).2 hd).2 h0;exact⟨s,X,n,by rw[gF,d239,Xd (by rw[gF,d227,e])]⟩
 exact zA h
end OvC
namespace OvC
open PySem PySem.Spec PyProof.Rows Ov L2
variable{l:GB}
noncomputable def Xu:Ac (Ak×Ag×Ag):=([("rest",1,2),("turned_over",9,2),("one_form",17,2),("crossed",23,2),("lies",24,3),("on",56,3),("join",57,3),("measure",61,4),("first_three",65,2),("ask_unlike",194,1),("ask_no_three",109,2),("triples",69,1),("columns",104,1),("sums_by",91,3),("table_of",78,2),("crossed_rows",98,1),("after",105,3),("table_back",106,2),("curve_of",122,2),("plain_curve",123,1),("value",126,3),("points_of",128,2),("twice_table",131,2),("mixed",132,4),("moved",133,3),("scaled",110,2),("frame_table",111,2),("frame_move",112,3),("first_four",195,2),("lines_multiplied",196,2)]:Ac (Ak×Ag×Ag))++([("five_curve",197,2),("curve_through",198,2),("on_any",221,3),("still_fitting",222,4),("fitting",223,2),("curve_on",224,2),("first_two",225,3),("end_rows",226,2),("look",227,2),("_law_mixed",228,2),("_law_prime",229,1),("_law_point",231,2),("_law_cross",232,3),("_law_sum",233,3),("_law_three",234,2),("_law_rests",236,3),("_law_formed",237,3),("_law_first_alike",238,1),("_law_asked",239,2),("law",240,1)]:Ac (Ak×Ag×Ag))
noncomputable def Ti:Ac Ak:=["ValueError", "all", "any", "bool", "enumerate", "int", "isinstance", "len", "list", "range", "sum", "tuple", "zip"]
noncomputable def Rr:Ac (Ak×Ag):=[("NoOver",2),("NoTriple",3),("Alike",107),("OnLine",118),("NoTable",4),("NoCurve",5),("NoCount",13)]
noncomputable def RP:Ac (Ak×Ag):=[("Alike",107),("OvalError",0),("NotOn",108),("OnLine",118),("NoCount",13)]
noncomputable def Xo:Ac (Ak×Ag):=[]
noncomputable abbrev C71(h:Aj)(n:Ag)(N:Ac Ak)(i d:Ag):Aj:=Iw 80 h Xu Ti Rr RP Xo (N.take n) N (tp71 i) (Q71.defs d)
theorem de:C71 Ad 2 ["p", "n"] 11 1=Aa:=by decide+kernel
theorem db:C71 Ad 2 ["p", "n", "turned"] 12 9=Aa:=by decide+kernel
theorem da:C71 Ad 2 ["p", "numbers", "rests", "first", "factor", "#5", "#6"] 14 17=Aa:=by decide+kernel
theorem d9:C71 Ad 2 ["one", "other"] 15 23=Aa:=by decide+kernel
theorem d8:C71 Ad 3 ["p", "point", "line"] 16 24=Aa:=by decide+kernel
theorem d7:C71 Ad 3 ["p", "point", "line"] 18 56=Aa:=by decide+kernel
theorem d6:C71 Ad 3 ["p", "one", "other"] 19 57=Aa:=by decide+kernel
theorem d5:C71 Ad 4 ["p", "one", "other", "third"] 20 61=Aa:=by decide+kernel
theorem cz:C71 Ad 2 ["p", "points", "i", "one", "j", "k"] 21 65=Aa:=by decide+kernel
theorem cy:C71 Ad 1 ["points", "place", "point"] 22 194=Aa:=by decide+kernel
theorem tR:C71 Ad 2 ["p", "points", "three"] 23 109=Aa:=by decide+kernel
theorem tQ:C71 Ad 1 ["p", "told", "z", "y", "#4"] 24 69=Aa:=by decide+kernel
theorem tP:C71 Ad 1 ["rows"] 26 104=Aa:=by decide+kernel
theorem tO:C71 Ad 3 ["p", "rows", "numbers", "#3"] 27 91=Aa:=by decide+kernel
theorem tN:C71 Ad 2 ["p", "rows", "nine"] 28 78=Aa:=by decide+kernel
theorem tM:C71 Ad 1 ["table"] 29 98=Aa:=by decide+kernel
theorem tL:C71 Ad 3 ["p", "one", "other", "sides", "#4"] 30 105=Aa:=by decide+kernel
theorem tK:C71 Ad 2 ["p", "table"] 31 106=Aa:=by decide+kernel
theorem tJ:C71 Ad 2 ["p", "numbers", "rests", "#3"] 33 122=Aa:=by decide+kernel
theorem tI:C71 Ad 1 ["p"] 34 123=Aa:=by decide+kernel
theorem tH:C71 Ad 3 ["p", "curve", "point", "squares", "products"] 35 126=Aa:=by decide+kernel
theorem uV:C71 Ad 2 ["p", "curve", "#2"] 36 128=Aa:=by decide+kernel
theorem uU:C71 Ad 2 ["p", "curve"] 37 131=Aa:=by decide+kernel
theorem uT:C71 Ad 4 ["p", "curve", "one", "other", "sums"] 38 132=Aa:=by decide+kernel
theorem uS:C71 Ad 3 ["p", "curve", "table", "sides", "squares", "products", "#6"] 39 133=Aa:=by decide+kernel
theorem uR:C71 Ad 2 ["factor", "point", "#2"] 41 110=Aa:=by decide+kernel
theorem uQ:C71 Ad 2 ["p", "four", "sides"] 42 111=Aa:=by decide+kernel
theorem uP:C71 Ad 3 ["p", "four", "goals"] 43 112=Aa:=by decide+kernel
theorem uO:C71 Ad 2 ["p", "points", "place", "four"] 45 195=Aa:=by decide+kernel
theorem uN:C71 Ad 2 ["one", "other"] 46 196=Aa:=by decide+kernel
theorem uM:C71 Ad 2 ["p", "points", "one", "other", "by_one", "by_other", "#6", "#7"] 47 197=Aa:=by decide+kernel
theorem uL:C71 Ad 2 ["p", "points", "four"] 48 198=Aa:=by decide+kernel
theorem uK:C71 Ad 3 ["p", "point", "lines", "line"] 50 221=Aa:=by decide+kernel
theorem uJ:C71 Ad 4 ["p", "points", "further_point", "left", "lines", "#5", "#6"] 51 222=Aa:=by decide+kernel
theorem uI:C71 Ad 2 ["p", "points", "left", "place", "point"] 52 223=Aa:=by decide+kernel
theorem uH:C71 Ad 2 ["p", "points", "plain"] 53 224=Aa:=by decide+kernel
theorem uG:C71 Ad 3 ["p", "points", "point", "place", "one", "other"] 54 225=Aa:=by decide+kernel
theorem uF:C71 Ad 2 ["p", "points", "#2"] 55 226=Aa:=by decide+kernel
theorem uE:C71 Ad 2 ["p", "points", "three", "left"] 56 227=Aa:=by decide+kernel
theorem uD:C71 Ad 2 ["_law_script", "_law_k", "_law_cell"] 58 228=Aa:=by decide+kernel
theorem uC:C71 Ad 1 ["_law_script"] 59 229=Aa:=by decide+kernel
theorem uB:C71 Ad 2 ["_law_p", "_law_number"] 61 231=Aa:=by decide+kernel
theorem uA:C71 Ad 3 ["_law_p", "_law_one", "_law_other", "_law_x", "_law_y", "_law_z"] 62 232=Aa:=by decide+kernel
theorem tZ:C71 Ad 3 ["_law_p", "_law_one", "_law_other"] 63 233=Aa:=by decide+kernel
theorem tY:C71 Ad 2 ["_law_p", "_law_points", "_law_i", "_law_j", "_law_line", "_law_k"] 64 234=Aa:=by decide+kernel
theorem tX:C71 Ad 3 ["_law_p", "_law_found", "_law_many", "#3"] 66 236=Aa:=by decide+kernel
theorem tW:C71 Ad 3 ["_law_p", "_law_found", "_law_many", "#3"] 67 237=Aa:=by decide+kernel
theorem rO:C71 Ad 1 ["_law_points", "_law_k"] 68 238=Aa:=by decide+kernel
theorem rN:C71 Ad 2 ["_law_p", "_law_points", "_law_found", "_law_kinds", "e"] 69 239=Aa:=by decide+kernel
theorem V4:C71 Ad 1 ["_law_script", "_law_p", "_law_points", "_law_k", "_law_handed", "_law_twice", "_law_three_here", "_law_turn", "_law_found", "_law_kinds", "#10"] 70 240=Aa:=by decide+kernel
theorem sZ:MW "OvalError" "triple" "triple" (Op (tp71 7))=Aa:=by decide+kernel
theorem sY:MW "OvalError" "points" "points" (Op (tp71 9))=Aa:=by decide+kernel
set_option maxHeartbeats 0 in
theorem all71{w:AF}{K:Fg}{h:AC}{mg:Ak->Ap Ai}{fa f0 f1 f2 f3 f4 f5 f6 f7 f8 f9 f10 f11 f12 f13 f14 f15 f16 f17 f18 f19 f20 f21 f22 f23 f24 f25 f26 f27 f28 f29 f30 f31 f32 f33 f34 f35 f36 f37 f38 f39 f40 f41 f42 f43 f44 f45 f46 f47 f48 f49 x0 x1 x2 x3 x4 x5 x6 x7 x8 ix2 ix3:Al}(X:K.In h)(G:h.Ns Ba mg)(hfa:mg "law" = Ab (.ref fa))(a0:FnI K f0 "rest" (tp71 11))(a1:FnI K f1 "turned_over" (tp71 12))(a2:FnI K f2 "one_form" (tp71 14))(a3:FnI K f3 "crossed" (tp71 15))(a4:FnI K f4 "lies" (tp71 16))(a5:FnI K f5 "on" (tp71 18))(a6:FnI K f6 "join" (tp71 19))(a7:FnI K f7 "measure" (tp71 20))(a8:FnI K f8 "first_three" (tp71 21))(a9:FnI K f9 "ask_unlike" (tp71 22))(a10:FnI K f10 "ask_no_three" (tp71 23))(a11:FnI K f11 "triples" (tp71 24))(a12:FnI K f12 "columns" (tp71 26))(a13:FnI K f13 "sums_by" (tp71 27))(a14:FnI K f14 "table_of" (tp71 28))(a15:FnI K f15 "crossed_rows" (tp71 29))(a16:FnI K f16 "after" (tp71 30))(a17:FnI K f17 "table_back" (tp71 31))(a18:FnI K f18 "curve_of" (tp71 33))(a19:FnI K f19 "plain_curve" (tp71 34))(a20:FnI K f20 "value" (tp71 35))(a21:FnI K f21 "points_of" (tp71 36))(a22:FnI K f22 "twice_table" (tp71 37))(a23:FnI K f23 "mixed" (tp71 38))(a24:FnI K f24 "moved" (tp71 39))(a25:FnI K f25 "scaled" (tp71 41))(a26:FnI K f26 "frame_table" (tp71 42))(a27:FnI K f27 "frame_move" (tp71 43))(a28:FnI K f28 "first_four" (tp71 45))(a29:FnI K f29 "lines_multiplied" (tp71 46))(a30:FnI K f30 "five_curve" (tp71 47))(a31:FnI K f31 "curve_through" (tp71 48))(a32:FnI K f32 "on_any" (tp71 50))(a33:FnI K f33 "still_fitting" (tp71 51))(a34:FnI K f34 "fitting" (tp71 52))(a35:FnI K f35 "curve_on" (tp71 53))(a36:FnI K f36 "first_two" (tp71 54))(a37:FnI K f37 "end_rows" (tp71 55))(a38:FnI K f38 "look" (tp71 56))(a39:FnI K f39 "_law_mixed" (tp71 58))(a40:FnI K f40 "_law_prime" (tp71 59))(a41:FnI K f41 "_law_point" (tp71 61))(a42:FnI K f42 "_law_cross" (tp71 62))(a43:FnI K f43 "_law_sum" (tp71 63))(a44:FnI K f44 "_law_three" (tp71 64))(a45:FnI K f45 "_law_rests" (tp71 66))(a46:FnI K f46 "_law_formed" (tp71 67))(a47:FnI K f47 "_law_first_alike" (tp71 68))(a48:FnI K f48 "_law_asked" (tp71 69))(a49:FnI K f49 "law" (tp71 70))(cx0:XA K "NoOver" x0 Af)(cx1:XA K "NoTriple" x1 Af)(cx2:XB K "Alike" x2 ix2 "Alike.__init__" (Op (tp71 7)))(cx3:XB K "OnLine" x3 ix3 "OnLine.__init__" (Op (tp71 9)))(cx4:XA K "NoTable" x4 Af)(cx5:XA K "NoCurve" x5 Af)(cx6:XA K "NoCount" x6 Af)(cx7:XE K "OvalError" x7)(ox7:XO K x7)(cx8:XE K "NotOn" x8)(sx2:SuC K x2 [(x0,Ad),(x1,Ad),(x2,Aa),(x3,Ad),(x4,Ad),(x5,Ad),(x6,Ad)])(sx7:SuC K x7 [(x0,Aa),(x1,Aa),(x2,Aa),(x3,Aa),(x4,Aa),(x5,Aa),(x6,Aa)])(sx8:SuC K x8 [(x0,Ad),(x1,Ad),(x2,Ad),(x3,Ad),(x4,Ad),(x5,Ad),(x6,Ad)])(sx3:SuC K x3 [(x0,Ad),(x1,Ad),(x2,Ad),(x3,Aa),(x4,Ad),(x5,Ad),(x6,Ad)])(sx6:SuC K x6 [(x0,Ad),(x1,Ad),(x2,Ad),(x3,Ad),(x4,Ad),(x5,Ad),(x6,Aa)])(z0:BK K Ba "ValueError" = Ab Af)(z1:BK K Ba "all" = Ab Af)(z2:BK K Ba "any" = Ab Af)(z3:BK K Ba "bool" = Ab Af)(z4:BK K Ba "enumerate" = Ab Af)(z5:BK K Ba "int" = Ab Af)(z6:BK K Ba "isinstance" = Ab Af)(z7:BK K Ba "len" = Ab Af)(z8:BK K Ba "list" = Ab Af)(z9:BK K Ba "range" = Ab Af)(z10:BK K Ba "sum" = Ab Af)(z11:BK K Ba "tuple" = Ab Af)(z12:BK K Ba "zip" = Ab Af):
    ∃ fd:Cf,(∀(s:Ar)(v:Ai),Hk s fd ⟨[v],[]⟩ [("_law_script",v)])/\∀ base:AC,K.In base->base.Ns Ba mg->FnOk l.prog w K mg base (CXR l.prog w) 10 fa fd ["_law_script"] (Om K):=by
  obtain⟨_,F,e⟩:=a49;obtain⟨_,_,_,_,_,_,_,_,_,rfl,_,_⟩:=F.ex;cases hfa.symm.trans (B9 X G e);have XT71:XT Q71.up Q71.xn (clL [(2,x0),(3,x1),(107,x2),(118,x3),(4,x4),(5,x5),(13,x6)]) Rr RP K mg:=by
    refine gm (all_cons (cx0.row λ_=>by first|exact .inr rfl|exact .inl rfl) (all_cons (cx1.row λ_=>by first|exact .inr rfl|exact .inl rfl) (all_cons (XB.row X G cx2 ox7 cx7.n (.inl rfl) sZ (λ_ _ _ _ _ _ _ _=>rfl) λ_=>rfl) (all_cons (XB.row X G cx3 ox7 cx7.n (.inr rfl) sY (λ_ _ _ _ _ _ _ _=>rfl) λ_=>rfl) (all_cons (cx4.row λ_=>by first|exact .inr rfl|exact .inl rfl) (all_cons (cx5.row λ_=>by first|exact .inr rfl|exact .inl rfl) (all_cons (cx6.row λ_=>by first|exact .inr rfl|exact .inl rfl) (all_nil)))))))) (all_cons ⟨_,rfl,B9 X G cx0.n⟩ (all_cons ⟨_,rfl,B9 X G cx1.n⟩ (all_cons ⟨_,rfl,B9 X G cx2.a.n⟩ (all_cons ⟨_,rfl,B9 X G cx3.a.n⟩ (all_cons ⟨_,rfl,B9 X G cx4.n⟩ (all_cons ⟨_,rfl,B9 X G cx5.n⟩ (all_cons ⟨_,rfl,B9 X G cx6.n⟩ (all_nil)))))))) (all_cons ⟨_,B9 X G cx2.a.n,cx2.a.kc,sx2⟩ (all_cons ⟨_,B9 X G cx7.n,cx7.kc,sx7⟩ (all_cons ⟨_,B9 X G cx8.n,cx8.kc,sx8⟩ (all_cons ⟨_,B9 X G cx3.a.n,cx3.a.kc,sx3⟩ (all_cons ⟨_,B9 X G cx6.n,cx6.kc,sx6⟩ (all_nil)))))) ?_
    intro c q ds;show Sa c ds=.bad;unfold Sa;split<;>first|rfl|exact absurd rfl (q ("NoOver",2) (by decide))|exact absurd rfl (q ("NoTriple",3) (by decide))|exact absurd rfl (q ("Alike",107) (by decide))|exact absurd rfl (q ("OnLine",118) (by decide))|exact absurd rfl (q ("NoTable",4) (by decide))|exact absurd rfl (q ("NoCurve",5) (by decide))|exact absurd rfl (q ("NoCount",13) (by decide))
  have T:Tab K mg (clL [(2,x0),(3,x1),(107,x2),(118,x3),(4,x4),(5,x5),(13,x6)]) Xu Ti Rr RP Xo Q71 80:=⟨XT71,all_cons (BS X G z0) (all_cons (BS X G z1) (all_cons (BS X G z2) (all_cons (BS X G z3) (all_cons (BS X G z4) (all_cons (BS X G z5) (all_cons (BS X G z6) (all_cons (BS X G z7) (all_cons (BS X G z8) (all_cons (BS X G z9) (all_cons (BS X G z10) (all_cons (BS X G z11) (all_cons (BS X G z12) (all_nil))))))))))))),all_nil,all_cons (Ef 2 1 X G a0 rfl de λ_ _ _ _ _ _ _ _=>rfl) (all_cons (Ef 2 9 X G a1 rfl db λ_ _ _ _ _ _ _ _=>rfl) (all_cons (Ef 2 17 X G a2 rfl da λ_ _ _ _ _ _ _ _=>rfl) (all_cons (Ef 2 23 X G a3 rfl d9 λ_ _ _ _ _ _ _ _=>rfl) (all_cons (Hc 3 24 X G a4 rfl d8 λ_ _ _ _ _ _ _ _ _=>rfl) (all_cons (Hc 3 56 X G a5 rfl d7 λ_ _ _ _ _ _ _ _ _=>rfl) (all_cons (Hc 3 57 X G a6 rfl d6 λ_ _ _ _ _ _ _ _ _=>rfl) (all_cons (Sf 4 61 X G a7 rfl d5 λ_ _ _ _ _ _ _ _ _ _=>rfl) (all_cons (Ef 2 65 X G a8 rfl cz λ_ _ _ _ _ _ _ _=>rfl) (all_cons (Kk 1 194 X G a9 rfl cy λ_ _ _ _ _ _ _=>rfl) (all_cons (Ef 2 109 X G a10 rfl tR λ_ _ _ _ _ _ _ _=>rfl) (all_cons (Kk 1 69 X G a11 rfl tQ λ_ _ _ _ _ _ _=>rfl) (all_cons (Kk 1 104 X G a12 rfl tP λ_ _ _ _ _ _ _=>rfl) (all_cons (Hc 3 91 X G a13 rfl tO λ_ _ _ _ _ _ _ _ _=>rfl) (all_cons (Ef 2 78 X G a14 rfl tN λ_ _ _ _ _ _ _ _=>rfl) (all_cons (Kk 1 98 X G a15 rfl tM λ_ _ _ _ _ _ _=>rfl) (all_cons (Hc 3 105 X G a16 rfl tL λ_ _ _ _ _ _ _ _ _=>rfl) (all_cons (Ef 2 106 X G a17 rfl tK λ_ _ _ _ _ _ _ _=>rfl) (all_cons (Ef 2 122 X G a18 rfl tJ λ_ _ _ _ _ _ _ _=>rfl) (all_cons (Kk 1 123 X G a19 rfl tI λ_ _ _ _ _ _ _=>rfl) (all_cons (Hc 3 126 X G a20 rfl tH λ_ _ _ _ _ _ _ _ _=>rfl) (all_cons (Ef 2 128 X G a21 rfl uV λ_ _ _ _ _ _ _ _=>rfl) (all_cons (Ef 2 131 X G a22 rfl uU λ_ _ _ _ _ _ _ _=>rfl) (all_cons (Sf 4 132 X G a23 rfl uT λ_ _ _ _ _ _ _ _ _ _=>rfl) (all_cons (Hc 3 133 X G a24 rfl uS λ_ _ _ _ _ _ _ _ _=>rfl) (all_cons (Ef 2 110 X G a25 rfl uR λ_ _ _ _ _ _ _ _=>rfl) (all_cons (Ef 2 111 X G a26 rfl uQ λ_ _ _ _ _ _ _ _=>rfl) (all_cons (Hc 3 112 X G a27 rfl uP λ_ _ _ _ _ _ _ _ _=>rfl) (all_cons (Ef 2 195 X G a28 rfl uO λ_ _ _ _ _ _ _ _=>rfl) (all_cons (Ef 2 196 X G a29 rfl uN λ_ _ _ _ _ _ _ _=>rfl) (all_cons (Ef 2 197 X G a30 rfl uM λ_ _ _ _ _ _ _ _=>rfl) (all_cons (Ef 2 198 X G a31 rfl uL λ_ _ _ _ _ _ _ _=>rfl) (all_cons (Hc 3 221 X G a32 rfl uK λ_ _ _ _ _ _ _ _ _=>rfl) (all_cons (Sf 4 222 X G a33 rfl uJ λ_ _ _ _ _ _ _ _ _ _=>rfl) (all_cons (Ef 2 223 X G a34 rfl uI λ_ _ _ _ _ _ _ _=>rfl) (all_cons (Ef 2 224 X G a35 rfl uH λ_ _ _ _ _ _ _ _=>rfl) (all_cons (Hc 3 225 X G a36 rfl uG λ_ _ _ _ _ _ _ _ _=>rfl) (all_cons (Ef 2 226 X G a37 rfl uF λ_ _ _ _ _ _ _ _=>rfl) (all_cons (Ef 2 227 X G a38 rfl uE λ_ _ _ _ _ _ _ _=>rfl) (all_cons (Ef 2 228 X G a39 rfl uD λ_ _ _ _ _ _ _ _=>rfl) (all_cons (Kk 1 229 X G a40 rfl uC λ_ _ _ _ _ _ _=>rfl) (all_cons (Ef 2 231 X G a41 rfl uB λ_ _ _ _ _ _ _ _=>rfl) (all_cons (Hc 3 232 X G a42 rfl uA λ_ _ _ _ _ _ _ _ _=>rfl) (all_cons (Hc 3 233 X G a43 rfl tZ λ_ _ _ _ _ _ _ _ _=>rfl) (all_cons (Ef 2 234 X G a44 rfl tY λ_ _ _ _ _ _ _ _=>rfl) (all_cons (Hc 3 236 X G a45 rfl tX λ_ _ _ _ _ _ _ _ _=>rfl) (all_cons (Hc 3 237 X G a46 rfl tW λ_ _ _ _ _ _ _ _ _=>rfl) (all_cons (Kk 1 238 X G a47 rfl rO λ_ _ _ _ _ _ _=>rfl) (all_cons (Ef 2 239 X G a48 rfl rN λ_ _ _ _ _ _ _ _=>rfl) (all_cons (Kk 1 240 X G ⟨_,F,e⟩ rfl V4 λ_ _ _ _ _ _ _=>rfl) (all_nil))))))))))))))))))))))))))))))))))))))))))))))))))⟩
  exact⟨_,λs v=>.of_eq rfl,λbase _ _=>law_fn (Wv T (Q6 T 9) (Xp F) rfl V4) ku⟩
theorem walk71{q:AV}{loose:Ac Ak}{XP:(Ak->Ap Ai)->AC->Prop}{YP:AF->AC->Prop}{d:DefRec}{K:Me->Fg}(hn:l.most=Ab 63)(hdf:d.params.defaults=[])(hY:∀(w:AF)(h:AC),YP w h->(K w.params).In h)(F:∀(w:AF)(mg:Ak->Ap Ai)(fa:Al)(h:AC),(K w.params).In h->h.Ns Ba mg->mg d.name=Ab (.ref fa) ->
   ∃ fd:Cf,(∀(s:Ar)(u:Ai),Hk s fd ⟨[u],[]⟩ [("_law_script",u)])/\∀ base:AC,(K w.params).In base->base.Ns Ba mg->FnOk l.prog w (K w.params) mg base (CXR l.prog w) 10 fa fd ["_law_script"] (Om (K w.params))):Z_2 q loose XP YP l.row.toRowW d [] (λf vs=>K7 f vs):=
 L2.walk_of (n:=63) (k:=10) (x := "_law_script") (CX:=λw=>CXR l.prog w) (sp:=λw=>Om (K w.params)) hn (by decide) hdf ⟨rfl,by decide,by decide,rfl⟩ hY F (λ_ H a ns hl _ hS=>⟨a,ns,rfl,hl,hS,λ_ _ z=>z⟩) λ_ _ _ _ _ z=>cm z
end OvC
open PySem PySem.W PyProof.Rows
set_option hygiene false
set_option maxRecDepth 100000 in
set_option maxHeartbeats 0 in
theorem PySem.Challenge.cw_ovalfield_k71_three_on_a_line_holds : PySem.Challenge.rw_ovalfield_k71_three_on_a_line.Holds := by
 refine OvC.hold71.go OvC.reck71_1 OvC.reck71_2 OvC.reck71_3 OvC.reck71_4 OvC.reck71_5 OvC.reck71_6 OvC.reck71_7 OvC.reck71_8 OvC.reck71_9 OvC.reck71_10 OvC.reck71_11 ?_;intro said;refine OvC.walk71 (l:=PySem.Challenge.rw_ovalfield_k71_three_on_a_line) rfl rfl (λw h Y_=>Z_8 Y_) ?F
 case F=>
  intro w mg fa h KX G hmg
  refine' OvC.all71 KX G hmg ?a0 ?a1 ?a2 ?a3 ?a4 ?a5 ?a6 ?a7 ?a8 ?a9 ?a10 ?a11 ?a12 ?a13 ?a14 ?a15 ?a16 ?a17 ?a18 ?a19 ?a20 ?a21 ?a22 ?a23 ?a24 ?a25 ?a26 ?a27 ?a28 ?a29 ?a30 ?a31 ?a32 ?a33 ?a34 ?a35 ?a36 ?a37 ?a38 ?a39 ?a40 ?a41 ?a42 ?a43 ?a44 ?a45 ?a46 ?a47 ?a48 ?a49 ?cx0 ?cx1 ?cx2 ?cx3 ?cx4 ?cx5 ?cx6 ?cx7 ?ox7 ?cx8 ?sx2 ?sx7 ?sx8 ?sx3 ?sx6 ?z0 ?z1 ?z2 ?z3 ?z4 ?z5 ?z6 ?z7 ?z8 ?z9 ?z10 ?z11 ?z12
  case a0|a1|a2|a3|a4|a5|a6|a7|a8|a9|a10|a11|a12|a13|a14|a15|a16|a17|a18|a19|a20|a21|a22|a23|a24|a25|a26|a27|a28|a29|a30|a31|a32|a33|a34|a35|a36|a37|a38|a39|a40|a41|a42|a43|a44|a45|a46|a47|a48|a49=>(refine' Ov.fni ?a ?l ?c ?k;(case a=>k_is);(case l=>k_is);(case c=>k_is);(case k=>k_is))
  case cx0|cx1|cx4|cx5|cx6=>(refine' Ov.xa_mk ?n (Ov.xcls_l ?e) ?d ?f ?g ?a ?b ?c ?o ?h ?v;(case n=>k_is);(case e=>k_exc);(case d=>kernel_rfl);(case f|g|a|b|c|o|h|v=>k_is))
  case cx2|cx3=>(refine' Ov.XB.mk ?i (Ov.xa_mk ?n ?e ?d ?f ?g ?a ?b ?c ?o ?h ?v) (Ov.ini_mk ?l ?m ?k) ?t ?s;(case n=>k_is);(case i=>k_is);(case l=>k_is);(case e|d=>kernel_rfl);(case m|k|t|s|f|g|a|b|c|o|h|v=>k_is))
  case cx7|cx8=>(refine' Ov.XE.mk ?a ?b ?c;(case a=>k_is);(case b|c=>k_is))
  case ox7=>(refine' Ov.XO.mk ?a ?b ?c;(case a|b|c=>k_is))
  case sx2|sx7|sx8|sx3|sx6=>(refine' Ov.all_cons ?q0 (Ov.all_cons ?q1 (Ov.all_cons ?q2 (Ov.all_cons ?q3 (Ov.all_cons ?q4 (Ov.all_cons ?q5 (Ov.all_cons ?q6 (Ov.all_nil)))))));(case q0|q1|q2|q3|q4|q5|q6=>dsimp only;k_is))
  case z0|z1|z2|z3|z4|z5|z6|z7|z8|z9|z10|z11|z12=>k_is
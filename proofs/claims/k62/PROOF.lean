import PyProof.Rows.All
import Wide.All
import OpenK.AllK
import Wide.FinOn
import PyProof.EqAt
import KE.KSortTup
import PyProof.EqKinds
import PyProof.TupleCall
import Lean
import PySem.Challenge.RW_ovalfield_k62_whole_any_five_points
set_option Elab.async false
set_option linter.all false
set_option maxRecDepth 100000
set_option maxHeartbeats 4000000
open Option renaming some→Aa,none→Ae,bind_eq_some_iff→AI,isSome_iff_exists→DP,map_some→ET,map→Ff,bind_some→UK,getD_none→UL
open Bool renaming true→Ab,false→Ac,and_eq_true→Ak,false_ne_true→As,not_eq_true'→Bp,or_eq_true→Ce,eq_iff_iff→CQ,false_eq_true→Gs,or_true→GW,and_false→HE,and_true→T8,or_false→T9
open _root_ renaming List→Ad,Int→Af,Nat→Ag,Option→An,Bool→Ao,if_pos→Aw,if_neg→Az,False→AS,decide_eq_true_eq→AU,beq_iff_eq→AW,Array→Bl,or_false→Cd,decide_eq_false→CU,Decidable→Dg,beq_eq_false_iff_ne→Do,String→Dv,not_or→D4,of_decide_eq_true→Eb,if_true→Eo,Unit→FL,decide_eq_true→Gq,bne_iff_ne→GQ,beq_self_eq_true→Hk,if_false→Hl,True→Hw,ne_eq→KA,decide_eq_decide→nK,decide_eq_false_iff_not→nL
open PySem renaming Str→Ah,Value→Ai,Addr→Aj,wpAny_bind→Am,Expr→Ap,Shared→Ar,wpAny→Ay,starEach→AA,World→AC,Heap→AD,wpAny_pure→AJ,mainGlobals→AK,Pos→AM,Program→AR,Around→AZ,Stmt→A9,wpAny_mono→Bg,wpAny_field→BO,FuncData→BP,wpAny_loadPart_at→BX,cLine→BY,binaryOp→BZ,assignEach→B2,Env→B5,excClassObj→B6,backTo→B8,Scope→B9,wpAny_holding→Ca,compareOp→Ct,wpAny_truthy_bool→Cu,mem_of_lookup→Cv,cellsFrom→CD,Tok→CM,foldedSetIterable→CN,wpAny_newObj_type→CO,Obj→CW,bootBuiltins→CY,swapsWith→Di,wpAny_callSpecial?_slot→Dm,wpAny_seqItems→Dp,sizeLine_eq→Ds,wpAny_setField_rec→Du,wpAny_standAt→DD,wpAny_pyIter_list→DF,codeAny_call_builtin→DH,OwnTail→DL,NameKind→DR,rawInt→DS,CmpOp→D0,wpAny_Call_Name_kw→D3,IsPair→Ei,wpAny_call_entry→Er,ExceptHandler→ED,wpAny_newFunctionEnv_cells→EG,sliceBounds→EJ,wpAny_isSubtype_exc→EK,wpAny_execs_nil→EX,wpAny_passesOwn→EY,GenState→E3,PassesOwn→E4,codeAny_mono→E5,wpAny_pyIter_tuple→E6,codeAny→Fi,wpAny_setField→Fj,swappedStores→FE,wpAny_onRaise→FH,checkBuiltinCall→FK,BindsTo→FV,codeAny_call_function→FW,IsZip→F6,letOwnedTupleGo→F8,wpAny_call→F9,wpAny_updateSeq_pair→Ga,recursionLimit→Gi,Model→Gr,noteFrame→Gy,pushCells→Gz,behindInMarks→GA,swapsWithSole→GB,OsState→GR,callerA→GS,ExcBaseFacts→G0,IsPart→G1,Operator→G2,Paired→G3,wpAny_execs_cons→G4,Drawn→Hq,pushCells_keeps→Hs,setFlight→Ht,isTrue→HK,newFunctionEnv→HL,notedBy→HM,pyNext→HN,bindC→HP,bindL→HQ,builtinsNs→HR,isInstance→HS,numAt→HU,Result→Iw,callSpecial?→Iz,codeAny_func→IA,concat_meets→IB,lastMarks→IC,onTheHeap→ID,preSum→IE,seqIndex_neg→IF,getItem→IU,standAt→IV,seqIndex_of→IY,wpAny_letGo→IZ,wpAny_of_eq→Ja,bindArgs→Jb,handleBy→Jc,PyData→JD,StoreFacts→JF,call→JJ,sysModules→JK,wpAny_Name→JL,wpAny_rule→JM,Arguments→Kw,IntMulOk→KC,Params→KD,intItems→KG,pyIter→KH,call_sum_walkG→Vx,firstArgMember→Vy,noFill_tuple_add→Vz,refuseLoop_ref→VA,slot_list_getitem→VB,wpAny_Try_except→VC,wpAny_assign_Name→VD,wpAny_comprehension_free→VE,wpAny_pyIter_enum→VF,wpAny_pyIter_zip→VG,wpAny_pyNext_list_end→VH,wpAny_pyNext_list_item→VI
open PySem.W renaming subIn→Al,findIn→Av,nsIn→AX,mg_of→Ba,mroIn→Bj,mg_none_of→Bv,typeIn→Bw,keepIn→B0,looks_findIn→Cj,fnOf→CC,fencedOpening→CI,kitOne→C9,clsIn→Dh,openEnds→D6,specialIn→Ea,codeIn→Ek,excIn→EF,topFrom→EI,findCls→EV,readsIn→EW,OpenLaw→Fw,cellsFrom_some→Fx,callWith_K→Gw,codeRec_of→Gx,methodObj→GO,kitAny→HJ,WalkO→Vo,isNs_of_in→Vp,kIn_of→Vr,kitMeta→Vs,looks_subIn→Vt,nsOkIn→Vu,tail_of_in→Vv
open PySem.Heap renaming get?_push_of_some→Au,lt_size→AG,get?_push_size→AN,size_push→Cc,get?_update_other→Cq,get?_update_self→CB,get?_none_of_le→Dd,SameBut→Eh,ExtBut→Hv,MadeExcOf→HI,get?_push_at→U9,get?_push_cases→Va,get?_update_ne→Vb
open List renaming mem_cons_of_mem→Ax,mem_cons→AB,mem_cons_self→AH,size_toArray→AO,length_set→A2,getElem?_eq_some_iff→A7,not_mem_nil→Bc,mem_append_right→Br,length_cons→Bs,range→Bz,mem_range→BA,mem_singleton→BE,mem_filter→BU,append_nil→B1,lookup_cons→B4,getElem?_eq_getElem→Cb,length_map→Cf,mem_map→Cn,isEmpty_eq_false_iff→Cz,map_cons→CH,nodup_cons→CS,getElem?_set_self→CV,findSome?_eq_none_iff→CZ,all_eq_true→C4,length_append→Dt,getD_eq_getElem?_getD→DA,exists_of_findSome?_eq_some→DN,getElem_mem→DO,any_eq_true→Ep,drop_eq_getElem_cons→ER,getElem?_append_left→ES,toArray→E1,getElem?_set_self'→Fk,getElem?_map→Fl,lookup→Fu,all_cons→FB,any_cons→FC,filter_cons→FI,getElem?_set_ne→FX,mem_append_left→FY,nil_append→FZ,of_mem_zip→F0,filterMap_cons→Gd,findSome?_cons→Ge,getElem_of_mem→Gf,forIn_nil→Gg,replicate→Gh,contains_cons→Gu,filter_congr→GM,getElem?_set→GN,length_take→GY,forIn_cons→Hm,mem_append→Hn,nodup_nil→HF,any_map→Ip,map_map→Iq,all_map→Uh,contains_eq_mem→Uj,drop_eq_nil_of_le→Uk,ext_getElem?→Ul,getElem?_append_right→Um,getElem?_cons_succ→Uo,getElem?_cons_zero→Up,getElem?_replicate→Uq,isEmpty_iff→Ur,length→Us,length_drop→Ut,length_pos_of_mem→Uu,length_replicate→Uv,map_congr_left→Uw,map_nil→Ux,map_set→Uy,mem_of_getElem?→Uz,mem_or_eq_of_mem_set→UA,range_succ_eq_map→UB,reverse_cons→UC,set_set→UD,take_append_drop→UE,zipIdx_cons→UF,zipIdx_nil→UG
open Nat renaming lt_of_lt_of_le→AQ,le_refl→AY,ne_of_lt→Bb,lt_irrefl→Bu,le_trans→Co,ble→C7,lt_succ_of_lt→De,le_of_ble_eq_true→Ee,ne_of_gt→Ef,lt_of_le_of_lt→E2,zero_le→Fv,lt_succ_self→FJ,le_of_lt→F1,pow_le_pow_right→F2,mod_eq_of_lt→GZ,not_lt_zero→Ho,le_succ→UH,min_self→UI,not_lt→UJ
open PySem.Str renaming ofString→AV,empty→Iy
open Int renaming emod_eq_of_lt→A1,emod_nonneg→Bm,emod_lt_of_pos→Bo,emod_emod_of_dvd→Bt,zero_emod→BD,mul_emod→BG,mul_comm→BV,dvd_refl→Cm,one_mul→Dc,zero_add→DM,mul_zero→Ed,mul_one→EH,zero_mul→EZ,mul_assoc→FA,toNat_natCast→GL,sub_zero→GX,mul_pos→Hu,le_trans→Io,le_refl→IW,add_emod→Uc,ediv_nonneg→Ud,mul_nonneg→Ue,sub_emod→Uf,zero_sub→Ug
open PySem.W.Fast renaming te10274390034422433532→A3,te14082659384304107361→A4,te14289696077712309145→A5,te14364793385576792824→A6,te1435165496053646825→A8
open False renaming elim→Be
open Option.some renaming inj→Bf,injEq→Cr
open PySem.Builtin.SmallTypes renaming nextOf→BH,ownedTupleIsFree→CK,ownedTupleHandOut→UU
open PySem.NameKind renaming cell→BQ,free→DC
open PySem.Value renaming ref→Ci,builtin→C3,none→Dr,bool→JG,type→JH,int→Ky,str→Kz,bytes→Vk,float→Vl
open Ne renaming symm→CJ
open PyProof.Rows renaming callWith_type1→CT,envOfC→Eg,AllBare→Fh,boot_isinstance→F3,IntsAre→HG,IsTup→JC,boot_list→UM,boot_tuple→UN,slicePart_none→UO,slot_tuple_getitem→UP,subscriptTail_builtinR→UQ
open PySem.Obj renaming data_mapFields→C8,isFreed_of_fields→Ej,mapFields→FD,mapSeq→GP,cls_mapFields→Vc
open PySem.PyData renaming shownAll→Dz,depthAll→Hr,hasDictAll→Vg,showableAll→Vh
open PySem.F renaming slot_tuple_iterator_next→DB,excBase_ValueError→EE,attr_ValueError→Fm,slot_zip_next→F5,args_tuple_add_2→UY,args_tuple_iterator_next_1→UZ,args_zip_next_1→U0,entry_bexc_ga→U1,entry_tuple_add→U2,entry_tuple_iterator_next→U3,entry_zip_next→U4,slot_tuple_add→U5,typeOf_object_class→U6
open PySem.Builtin.Slice renaming slicePlaces→DG,sliceAdjust→EU,sliceApplied→UT
open PySem.Builtin.Tuple renaming tupleExact→DQ
open ForInStep renaming yield→DZ
open Prod renaming ext→D5
open Classical renaming choose_spec→Ec,byContradiction→Ua,choose→Ub
open PySem.Calls renaming evalArgs_plain→F4,Name_function_global→UV
open PySem.SeqAt renaming EqAt→F7,RcNeAt→Ix,RcAt→JE
open Array renaming length_toList→Gc,toList→Im,getElem?_eq_getElem→T7
open PySem.Code renaming quiet_builtin→Gv,isFrame→Iu,frames→UW
open Function renaming comp_def→GK
open Sum renaming inl→GU,inr→GV
open PySem.Value.ref renaming inj→Il
open PySem.Around renaming under→Ir
open PySem.Shared renaming heap→IX
open PySem.Walks renaming list→JI,tuple→Vw
open NeZero renaming ne→Ku
open PyProof.Rows.IsTup renaming new→Kv
open PySem.Data renaming cell→Kx,seq→KB
open List.cons renaming injEq→Ui
open PySem.Builtin.Int renaming intBits→UR
open PySem.Builtin.ObjectAttr renaming storeInDict→US
open PySem.EntryCells renaming newEntry→UX
open PySem.Heap.SameBut renaming refl→U7,update→U8
open PySem.Paired renaming length→Vd
open PySem.PassesOwn renaming leaving→Ve,looking→Vf
open PySem.SeqAt.EqAt renaming of_refs→Vi,same→Vj
open PySem.W.WData renaming int→Vm
open PySem.W.WShape renaming has→Vn
abbrev Fg:=PySem.W.Frag
abbrev Pn:=Ad (PySem.Addr×PySem.Obj)
abbrev Vq:=PySem.Value->PySem.Shared->Prop
set_option genSizeOfSpec false
section
open PySem PySem.W PyProof.Rows
namespace OvC
set_option genInjectivity false in
structure Eleven (P:Prop) where
 (α1 α2 α3 α4 α5 α6 α7 α8 α9 α10 α11:Type)
 (l1 r1:AC->α1)
 (l2 r2:AC->α2)
 (l3 r3:AC->α3)
 (l4 r4:AC->α4)
 (l5 r5:AC->α5)
 (l6 r6:AC->α6)
 (l7 r7:AC->α7)
 (l8 r8:AC->α8)
 (l9 r9:AC->α9)
 (l10 r10:AC->α10)
 (l11 r11:AC->α11)
 X : Prop
 go : (∀ w,l1 w=r1 w)->(∀ w,l2 w=r2 w)->(∀ w,l3 w=r3 w)->(∀ w,l4 w=r4 w)->(∀ w,l5 w=r5 w)->(∀ w,l6 w=r6 w)->(∀ w,l7 w=r7 w)->(∀ w,l8 w=r8 w)->(∀ w,l9 w=r9 w)->(∀ w,l10 w=r10 w)->(∀ w,l11 w=r11 w)->X -> P
theorem map_pair{σ α β:Type}{A:σ->α}{B:σ->β}{r:An σ}{a:α}{b:β}(h1:Ff A r=Aa a)(h2:Ff B r=Aa b):Ff (fun s=>(A s,B s)) r=Aa (a,b):=by
 cases r with
 |none=>cases h1
 |some s=>cases h1;cases h2;rfl
theorem map_take{σ α:Type}{B:σ->Ad α}{r:An σ}{v:Ad α}(n:Ag)(h1:Ff (fun s=>(B s).take n) r=Aa (v.take n))(h2:Ff (fun s=>(B s).drop n) r=Aa (v.drop n)):Ff B r=Aa v:=by
 cases r with
 |none=>cases h1
 |some s=>
  have e1:(B s).take n=v.take n:=by injection h1
  have e2:(B s).drop n=v.drop n:=by injection h2
  show Aa (B s)=Aa v;rw[<-UE n (B s),<-UE n v,e1,e2]
end OvC
namespace OvC
noncomputable def tp62(i:Ag):A9:=PySem.Challenge.pw_ovalfield_k62_whole_any_five_points.main.body.getD i (.Pass ⟨0,0,0,0⟩)
end OvC
noncomputable def OvC.view62:PySem.Program:={ PySem.Challenge.pw_ovalfield_k62_whole_any_five_points with main:={PySem.Challenge.pw_ovalfield_k62_whole_any_five_points.main with body:=[OvC.tp62 1,OvC.tp62 2,OvC.tp62 3,OvC.tp62 4,OvC.tp62 5,OvC.tp62 6,OvC.tp62 7,OvC.tp62 8,OvC.tp62 9,OvC.tp62 10,OvC.tp62 11,OvC.tp62 12,OvC.tp62 13,OvC.tp62 14,OvC.tp62 15,OvC.tp62 16,OvC.tp62 18,OvC.tp62 19,OvC.tp62 21,OvC.tp62 22,OvC.tp62 24,OvC.tp62 25,OvC.tp62 26,OvC.tp62 28,OvC.tp62 29,OvC.tp62 30,OvC.tp62 31,OvC.tp62 33,OvC.tp62 34,OvC.tp62 35,OvC.tp62 36,OvC.tp62 38,OvC.tp62 39,OvC.tp62 40,OvC.tp62 41,OvC.tp62 42,OvC.tp62 43,OvC.tp62 44,OvC.tp62 45,OvC.tp62 46,OvC.tp62 47,OvC.tp62 48,OvC.tp62 49,OvC.tp62 50,OvC.tp62 51]} }
set_option hygiene false
local macro_rules | `(tactic| o_head $H)=>`(tactic| refine holds_open (q:=OvC.view62) (loose:=[]) (Xt:=fun s=>xlAt OvC.view62 [] s&&recOk (RowW.records (OpenRow.toRowW (PySem.Challenge.rw_ovalfield_k62_whole_any_five_points.row))) s) (XP:=XL OvC.view62 []) (Yf:=Hook.obs $H) (Ya:=Hook.val $H) (YP:=Hook.says $H) (N:=8998) ?hl (Hook.of $H) (Hook.keeps $H) (fun s e=>xl_of s (Bool.and_eq_true_iff.mp e).1) XL.keeps (by rfl) (by rfl) (by rfl) (fun s e=>recFacts_of (Bool.and_eq_true_iff.mp e).2) (by rfl) (by first|assumption|decide +kernel) (by decide +kernel) ⟨rfl,rfl,rfl,rfl,rfl,by decide +kernel⟩ ?hw ?hc)
set_option maxRecDepth 100000 in
set_option maxHeartbeats 0 in
noncomputable def OvC.hold62:OvC.Eleven PySem.Challenge.rw_ovalfield_k62_whole_any_five_points.Holds:=by
 refine' ⟨_, _, _,_,_,_,_,_,_,_,_,_,_,_,_,_,_,_,_,_,_,_,_,_,_,_,_,_,_,_,_,_,_,_,fun g1 g2 g3 g4 g5 g6 g7 g8 g9 g10 g11 x => _⟩
 rotate_right
 w_on;refine holds_law (by decide +kernel) fun said=>?_;k_head
 (case hl=>intro w;refine OvC.map_pair ?p1 (OvC.map_take 100 ?p2 ?p3);(case p1=>rw[PySem.W.Fast.te4187177175401517315];unfold PySem.W.Fast.tw4187177175401517315 openGood;refine OvC.map_pair ?q1 (OvC.map_pair ?q2 (OvC.map_pair ?q3 (OvC.map_pair ?q4 (OvC.map_pair ?q5 (OvC.map_pair ?q6 (OvC.map_pair ?q7 (OvC.map_pair ?q8 ?q9)))))));(case q1=>unfold D6 CI EI;rw[A3,A6,A8,A5,A4];exact g1 w);(case q2=>unfold D6 CI EI;rw[A3,A6,A8,A5,A4];exact g2 w);(case q3=>unfold D6 CI EI;rw[A3,A6,A8,A5,A4];exact g3 w);(case q4=>unfold D6 CI EI;rw[A3,A6,A8,A5,A4];exact g4 w);(case q5=>unfold D6 CI EI;rw[A3,A6,A8,A5,A4];exact g5 w);(case q6=>unfold D6 CI EI;rw[A3,A6,A8,A5,A4];exact g6 w);(case q7=>unfold D6 CI EI;rw[A3,A6,A8,A5,A4];exact g7 w);(case q8=>unfold D6 CI EI;rw[A3,A6,A8,A5,A4];exact g8 w);(case q9=>unfold D6 CI EI;rw[A3,A6,A8,A5,A4];exact g9 w);skip);(case p2=>unfold D6 CI EI;rw[A3,A6,A8,A5,A4];exact g10 w);(case p3=>unfold D6 CI EI;rw[A3,A6,A8,A5,A4];exact g11 w))
 (case hw=>w_witness2)
 k_fill
 revert said
 exact x
theorem OvC.reck62_1(w:AC):OvC.hold62.l1 w=OvC.hold62.r1 w:=by kernel_rfl
theorem OvC.reck62_2(w:AC):OvC.hold62.l2 w=OvC.hold62.r2 w:=by kernel_rfl
theorem OvC.reck62_3(w:AC):OvC.hold62.l3 w=OvC.hold62.r3 w:=by kernel_rfl
theorem OvC.reck62_4(w:AC):OvC.hold62.l4 w=OvC.hold62.r4 w:=by kernel_rfl
theorem OvC.reck62_5(w:AC):OvC.hold62.l5 w=OvC.hold62.r5 w:=by kernel_rfl
theorem OvC.reck62_6(w:AC):OvC.hold62.l6 w=OvC.hold62.r6 w:=by kernel_rfl
theorem OvC.reck62_7(w:AC):OvC.hold62.l7 w=OvC.hold62.r7 w:=by kernel_rfl
theorem OvC.reck62_8(w:AC):OvC.hold62.l8 w=OvC.hold62.r8 w:=by kernel_rfl
theorem OvC.reck62_9(w:AC):OvC.hold62.l9 w=OvC.hold62.r9 w:=by kernel_rfl
theorem OvC.reck62_10(w:AC):OvC.hold62.l10 w=OvC.hold62.r10 w:=by kernel_rfl
theorem OvC.reck62_11(w:AC):OvC.hold62.l11 w=OvC.hold62.r11 w:=by kernel_rfl
end
-- CHANGE: your row's module here,as the last of these rows
namespace L2
open PySem PySem.Spec PyProof.Rows
abbrev Key:=Sum Af Ah
noncomputable def Sz:Key->Ai->Ao
 |.inl k,v=>Value.isInt k v
 |.inr x,v=>Value.isStrOf x v
noncomputable def mT(w:AC):Key->Af
 |.inl k=>hashInt k
 |.inr x=>hashStr w x
theorem HV:∀{k:Key}{v:Ai},Sz k v=Ab->(∃ i t,k=GU i/\v=Ky i t)\/(∃ x t,k=GV x/\v=Kz x t)
 |.inl i,v,h=>by
  obtain⟨t,e⟩:=Value.isInt_shape (k:=i) (v:=v) h;exact .inl ⟨i,t,rfl,e⟩
 |.inr x,v,h=>by
  obtain⟨t,e⟩:=Value.isStrOf_shape (x:=x) (v:=v) h;exact .inr ⟨x,t,rfl,e⟩
theorem cH(a b:Af):decide ((GU a:Key)=GU b)=(a==b):=by
 by_cases e:a=b
 ·subst e;simp
 ·have h:¬ (GU a:Key)=GU b:=fun q=>e (Sum.inl.inj q)
  rw[CU h];exact(Do.mpr e).symm
theorem cA(a b:Ah):decide ((GV a:Key)=GV b)=decide (a=b):=by
 by_cases e:a=b
 ·subst e;simp
 ·have h:¬ (GV a:Key)=GV b:=fun q=>e (Sum.inr.inj q)
  rw[CU h,CU e]
theorem cE(a:Af)(b:Ah):decide ((GU a:Key)=GV b)=Ac:=CU (fun q=>nomatch q)
theorem cB(a:Ah)(b:Af):decide ((GV a:Key)=GU b)=Ac:=CU (fun q=>nomatch q)
noncomputable def ND(prog:AR)(w:AC):PySem.KeyKind prog w Key where
 is:=Sz
 hash:=mT w
 inj:=fun v a b ha hb=>by
  rcases HV ha with ⟨i,t,rfl,rfl⟩|⟨x,t,rfl,rfl⟩
  ·rcases HV hb with ⟨j,u,rfl,e⟩|⟨y,u,rfl,e⟩
   ·injection e with e1 _;rw[e1]
   ·exact nomatch e
  ·rcases HV hb with ⟨j,u,rfl,e⟩|⟨y,u,rfl,e⟩
   ·exact nomatch e
   ·injection e with e1 _;rw[e1]
 byValue:=fun k v h=>by
  rcases HV h with ⟨i,t,rfl,rfl⟩|⟨x,t,rfl,rfl⟩<;>rfl
 pyHash:=fun hv h=>by
  rcases HV hv with ⟨i,t,rfl,rfl⟩|⟨x,t,rfl,rfl⟩
  ·exact wpAny_pyHash_int h
  ·exact wpAny_pyHash_str h
 eqBool:=fun hu hv h=>by
  rcases HV hu with ⟨i,t,rfl,rfl⟩|⟨x,t,rfl,rfl⟩
  ·rcases HV hv with ⟨j,u,rfl,rfl⟩|⟨y,u,rfl,rfl⟩
   ·rw[cH]at h;exact wpAny_eqBool_int h
   ·rw[cE]at h;exact SeqAt.EqAt.int_str i t y u _ _ _ _ h
  ·rcases HV hv with ⟨j,u,rfl,rfl⟩|⟨y,u,rfl,rfl⟩
   ·rw[cB]at h;exact SeqAt.EqAt.str_int x t j u _ _ _ _ h
   ·rw[cA]at h;exact wpAny_eqBool_str h
 «strs»:=fun k x t v h=>by
  rcases HV h with ⟨i,u,rfl,e⟩|⟨y,u,rfl,e⟩
  ·exact nomatch e
  ·injection e with e1 _
   subst e1;cases v<;>rfl
end L2
namespace L2
open PySem PySem.Spec PyProof.Rows
variable{us:Ad Ai}{a b it:Aj}{P:AR}{h:AD}{o:CW}{g':Bl E3}{t' i k n:Ag}{d':Hq}{ch fp:Ad Aj}{x qual:Ah}{M:Gr}{u:Ai}{Q:FL->Ar->Prop}{e tg:Ap}{s:Ar}{pos p:AM}{pI:Pn}{es:Ad Ap}{body:Ad A9}{f:Ai->Ai->Sem Ai}{g:Af->Af->Af}{op:D0}{kw:Ad (Ah×Ai)}{fd:BP}{ps:Ad Ah}{scope:B9}
inductive V where
 |non|bl (b:Ao)|int (i:Af)|str (x:Ah)|byt (b:Bl UInt8)|flt (b:UInt64)|ref (a:Aj)|ty (n:Dv)
 deriving DecidableEq
variable{xs vs:Ad V}{v:V}
def BB:V->Ai->Prop
 |.non,u=>u=Dr
 |.bl b,u=>u=JG b
 |.int i,u=>∃ t,u=Ky i t
 |.str x,u=>∃ t,u=Kz x t
 |.byt b,u=>∃ t,u=Vk b t
 |.flt b,u=>∃ t,u=Vl b t
 |.ref a,u=>u=Ci a
 |.ty n,u=>u=JH n
noncomputable abbrev Bi:Ad V->Ad Ai->Prop:=G3 BB
theorem Bi.length(r:Bi xs us):xs.length=us.length:=Vd r
theorem Bi.get:∀{xs:Ad V}{us:Ad Ai}{i:Ag}{x:V},Bi xs us->xs[i]?=Aa x->∃ u,us[i]?=Aa u/\BB x u
 |_,_,_,_,.nil,e=>by simp at e
 |_,_,0,_,.cons r _,e=>by simp at e;subst e;exact⟨_,rfl,r⟩
 |_,_,i+1,x,.cons _ t,e=>by
  obtain⟨u,h1,h2⟩:=Bi.get (i:=i) (x:=x) t (by simpa using e)
  exact⟨u,by simpa using h1,h2⟩
theorem Bi.set{x:V}{u:Ai}(r:BB x u):∀{xs:Ad V}{us:Ad Ai}(i:Ag),Bi xs us->Bi (xs.set i x) (us.set i u)
 |_,_,_,.nil=>.nil
 |_,_,0,.cons _ t=>.cons r t
 |_,_,i+1,.cons q t=>.cons q (Bi.set r i t)
theorem Bi.append:∀{xs ys:Ad V}{us ws:Ad Ai},Bi xs us->Bi ys ws->Bi (xs++ys) (us++ws)
 |_,_,_,_,.nil,s=>s
 |_,_,_,_,.cons r t,s=>.cons r (Bi.append t s)
theorem Bi.take:∀{xs:Ad V}{us:Ad Ai}(n:Ag),Bi xs us->Bi (xs.take n) (us.take n)
 |_,_,0,_=>.nil
 |_,_,_+1,.nil=>.nil
 |_,_,n+1,.cons r t=>.cons r (Bi.take n t)
theorem Bi.drop:∀{xs:Ad V}{us:Ad Ai}(n:Ag),Bi xs us->Bi (xs.drop n) (us.drop n)
 |_,_,0,r=>r
 |_,_,_+1,.nil=>.nil
 |_,_,n+1,.cons _ t=>Bi.drop n t
def Ls:An V->An Ai->Prop
 |some v,Aa u=>BB v u
 |none,Ae=>Hw
 |_,_=>AS
def KV{κ:Type}:Ad (κ×V)->Ad (κ×Ai)->Prop:=G3 fun(p:κ×V)(q:κ×Ai)=>p.1=q.1/\BB p.2 q.2
noncomputable def kV:Key->V
 |.inl i=>.int i
 |.inr x=>.str x
inductive HO where
 /-- a list -/
 |lst (xs:Ad V)
 /-- a tuple (never changes) -/
 |tup (xs:Ad V)
 /-- a dict whose keys are ints and texts;one whose keys are tuples of ints and texts (the empty one is both) -/
 |dK (kvs:Ad (Key×V))|dT (kvs:Ad (Ad Key×V))
 /-- a set of ints: its members,its size -/
 |set (S:Af->Ao) (n:Ag)
 /-- an instance of the class at C,its dict at dx,its attributes -/
 |ins (C dx:Aj) (fs:Ad (Ah×V))
 /-- the dict of the instance at x -/
 |own (x:Aj)
 /-- the dict of an exception -/
 |xd (fs:Ad (Ah×V))
 /-- a bound method,f of x -/
 |met (f x:Aj)
 /-- a range object lo,lo+1,.. below hi -/
 |rng (lo hi:Af)
 /-- a thing that is known to the object (the script;a dict while a loop walks it): read,never written while it is so -/
 |frz (o:CW) (u:HO)
 /-- a code object's table -/
 |tbl (ps:Bl Ai)
 /-- any other thing,by what is Ab of its one object (a def of one's own: SetO a S n:=HO.ext fun h=>..) -/
 |ext (φ:AD->Prop)
abbrev Hp:=Aj->An HO
variable{H:Hp}
noncomputable def upd(H:Hp)(a:Aj)(o:HO):Hp:=fun b=>if b=a then Aa o else H b
theorem E8{o:HO}:upd H a o a=Aa o:=by unfold upd;rw[Aw rfl]
theorem By{o:HO}(h:b≠a):upd H a o b=H b:=by unfold upd;rw[Az h]
theorem QZ{o u:HO}:upd (upd H a o) a u=upd H a u:=by
 funext b;unfold upd;split<;>rfl
theorem Fo{o:HO}(h:H a=Aa o)(h':H b=Ae):a≠b:=by
 intro e;subst e;rw[h]at h';cases h'
section
variable(P:AR)(w:AC)
def ObjOk(H:Hp)(h:AD)(a:Aj):HO->Prop
  |.lst xs=>xs.length<=sizeLine/\∃(its:Ad Ai)(n:Ag),Bi xs its/\h.get? a=Aa { cls:=.type "list", data:=.seq its.toArray n }
  |.tup xs=>xs.length<=sizeLine/\∃ its:Ad Ai,Bi xs its/\JC h a its.toArray
  |.dK kvs=>kvs.length<=sizeLine/\(a==JK)=Ac/\∃ vs,KV kvs vs/\h.DictOf (ND P w) a vs
  |.dT kvs=>kvs.length<=sizeLine/\(a==JK)=Ac/\∃ xs:Ad (Ad Key×Aj×Ai),
      G3 (fun(p:Ad Key×V)(q:Ad Key×Aj×Ai)=>p.1=q.1/\H q.2.1=Aa (.tup (p.1.map kV))/\BB p.2 q.2.2) kvs xs /\
      ∃ o es ep,h.get? a=Aa o/\o.ExactDict/\o.data=.dict es ep/\es.toList=xs.map (entryOfKey (tupleKind (ND P w)))/\(xs.map (·.1)).Nodup
  |.set S n=>h.SetOf (intKind P w) a S n
  |.ins C dx fs=>H dx=Aa (.own a)/\fs.length<=1000/\dx≠a/\h.get? a=Aa (PySem.W.instObj C dx) /\
      ∃ mA,h.Ns1 dx mA/\(∀ f,Ls (fs.lookup f) (mA f))/\PySem.Within mA (fs.map (·.1))
  |.own _=>∃ o,h.get? a=Aa o
  |.xd fs=>∃ mA,h.Ns1 a mA/\∀ f,Ls (fs.lookup f) (mA f)
  |.rng lo hi=>∃ t u v,h.get? a=Aa { cls:=.type "range", data:=.fields #[.int lo t,.int hi u,.int 1 v] }
  |.frz o u=>h.get? a=Aa o/\ObjOk H h a u
  |.tbl ps=>h.get? a=Aa {cls:=.none,data:=.fields ps}
  |.met f x=>h.get? a=Aa (GO (.ref f) (.ref x))
  |.ext φ=>φ h/\(∃ o,h.get? a=Aa o)/\∀ h1 h2:AD,φ h1->(∀ o,h1.get? a=Aa o->h2.get? a=Aa o)->φ h2
def HOk(H:Hp)(h:AD):Prop:=∀ a o,H a=Aa o->ObjOk P w H h a o
end
section
variable{P:AR}{w:AC}{H H':Hp}{h h':AD}{a:Aj}{o:HO}
theorem ObjOk.lt(x:ObjOk P w H h a o):a<h.objs.size:=by
 cases o with
 |lst xs=>obtain⟨_,_,_,_,e⟩:=x;exact AG e
 |tup xs=>obtain⟨_,_,_,p⟩:=x;exact p.lt
 |dK kvs=>obtain⟨_,_,_,_,o,_,_,e,_⟩:=x;exact AG e
 |dT kvs=>obtain⟨_,_,_,_,o,_,_,e,_⟩:=x;exact AG e
 |set S n=>obtain⟨o,_,_,_,e,_⟩:=x;exact AG e
 |ins C dx fs=>obtain⟨_,_,_,e,_⟩:=x;exact AG e
 |own y=>obtain⟨_,e⟩:=x;exact AG e
 |xd fs=>obtain⟨_,⟨_,_,_,e,_⟩,_⟩:=x;exact AG e
 |rng lo hi=>obtain⟨_,_,_,e⟩:=x;exact AG e
 |frz ob u=>obtain⟨e,_⟩:=x;exact AG e
 |tbl ps=>exact AG (show h.get? a=Aa _ from x)
 |met f y=>exact AG (show h.get? a=Aa _ from x)
 |ext φ=>obtain⟨_,⟨_,e⟩,_⟩:=x;exact AG e
theorem G3.mapP{α β:Type}{F G:α->β->Prop}:∀{l₁:Ad α}{l₂:Ad β},G3 F l₁ l₂->(∀ a b,F a b->G a b)->G3 G l₁ l₂
 |_,_,.nil,_=>.nil
 |_,_,.cons r t,f=>.cons (f _ _ r) (G3.mapP t f)
theorem ObjOk.stay(x:ObjOk P w H h a o)(k:∀ b u,(b=a\/H b=Aa (.own a))->h.get? b=Aa u->h'.get? b=Aa u)(ho:∀ b,H b=Aa (.own a)->H' b=Aa (.own a))(ht:∀ b xs,H b=Aa (.tup xs)->H' b=Aa (.tup xs)):ObjOk P w H' h' a o:=by
 induction o with
 |lst xs=>obtain⟨z,its,n,r,e⟩:=x;exact⟨z,its,n,r,k _ _ (.inl rfl) e⟩
 |tup xs=>obtain⟨z,its,r,ob,e,c⟩:=x;exact⟨z,its,r,ob,k _ _ (.inl rfl) e,c⟩
 |dK kvs=>obtain⟨z,y,vs,r,ob,es,ep,e,c⟩:=x;exact⟨z,y,vs,r,ob,es,ep,k _ _ (.inl rfl) e,c⟩
 |dT kvs=>
  obtain⟨z,y,xs,r,ob,es,ep,e,c⟩:=x;exact⟨z,y,xs,G3.mapP r fun p q z=>⟨z.1,ht _ _ z.2.1,z.2.2⟩,ob,es,ep,k _ _ (.inl rfl) e,c⟩
 |set S n=>obtain⟨ob,es,ep,t,e,c⟩:=x;exact⟨ob,es,ep,t,k _ _ (.inl rfl) e,c⟩
 |ins C dx fs=>
  obtain⟨d,z,ne,e,mA,⟨od,es,ep,e2,c⟩,r⟩:=x;exact⟨ho _ d,z,ne,k _ _ (.inl rfl) e,mA,⟨od,es,ep,k _ _ (.inr d) e2,c⟩,r⟩
 |own y=>obtain⟨ob,e⟩:=x;exact⟨ob,k _ _ (.inl rfl) e⟩
 |xd fs=>obtain⟨mA,⟨od,es,ep,e,c⟩,r⟩:=x;exact⟨mA,⟨od,es,ep,k _ _ (.inl rfl) e,c⟩,r⟩
 |rng lo hi=>obtain⟨t,u,v,e⟩:=x;exact⟨t,u,v,k _ _ (.inl rfl) e⟩
 |frz ob u ih=>obtain⟨e,q⟩:=x;exact⟨k _ _ (.inl rfl) e,ih q⟩
 |tbl ps=>
  have e:h.get? a=Aa {cls:=.none,data:=.fields ps}:=x;show h'.get? a=Aa {cls:=.none,data:=.fields ps};exact k a _ (.inl rfl) e
 |met f y=>
  have e:h.get? a=Aa (GO (.ref f) (.ref y)):=x;show h'.get? a=Aa (GO (.ref f) (.ref y));exact k a _ (.inl rfl) e
 |ext φ=>obtain⟨p,⟨o,e⟩,st⟩:=x;exact⟨st _ _ p fun o q=>k _ _ (.inl rfl) q,⟨o,k _ _ (.inl rfl) e⟩,st⟩
theorem HOk.lt(x:HOk P w H h)(e:H a=Aa o):a<h.objs.size:=(x a o e).lt
theorem HOk.fresh(x:HOk P w H h)(e:h.objs.size<=a):H a=Ae:=by
 cases q:H a with
 |none=>rfl
 |some u=>exact absurd (AQ (x.lt q) e) (Bu _)
theorem HOk.kept(x:HOk P w H h)(k:∀ b u,h.get? b=Aa u->h'.get? b=Aa u):HOk P w H h':=fun a o e=>
 (x a o e).stay (fun b u _ q=>k b u q) (fun _ q=>q) fun _ _ q=>q
theorem HOk.laid(x:HOk P w H h)(k:∀ b u,h.get? b=Aa u->h'.get? b=Aa u)(hp:h.objs.size<=a)(new:ObjOk P w (upd H a o) h' a o):HOk P w (upd H a o) h':=fun b u e=>by
 have hn:=x.fresh hp;by_cases hb:b=a
 ·subst hb;rw[E8]at e;cases e;exact new
 ·rw[By hb]at e;exact(x b u e).stay (fun c v _ q=>k c v q) (fun c q=>by rw[By (Fo q hn)];exact q) fun c xs q=>by rw[By (Fo q hn)];exact q
end
def Rd(H:Hp)(a:Aj)(u:HO):Prop:=H a=Aa u\/∃ o,H a=Aa (.frz o u)
theorem Rd.ok{w:AC}{u:HO}(r:Rd H a u)(x:HOk P w H h):ObjOk P w H h a u:=by
 rcases r with r|⟨o,r⟩
 ·exact x a u r
 ·obtain⟨_,q⟩:=x a _ r;exact q
def Mut:An HO->Prop
 |some (.lst _)=>Hw
 |some (.dK _)=>Hw
 |some (.dT _)=>Hw
 |some (.set _ _)=>Hw
 |some (.ins _ _ _)=>Hw
 |some (.ext _)=>Hw
 |_=>AS
section
variable{P:AR}{w:AC}{H:Hp}{h h':AD}{x e:Aj}{o':HO}
theorem HOk.write(ok:HOk P w H h)(mu:Mut (H x))(he:e=x\/H e=Aa (.own x))(k:∀ b u,b≠e->h.get? b=Aa u->h'.get? b=Aa u)(heo:∃ u,h'.get? e=Aa u)(new:ObjOk P w (upd H x o') h' x o'):HOk P w (upd H x o') h':=fun b u q=>by
 have nown:∀ c y,H c=Aa (.own y)->c≠x:=fun c y r z=>by subst z;rw[r]at mu;exact mu
 have ntup:∀ c xs,H c=Aa (.tup xs)->c≠x:=fun c xs r z=>by subst z;rw[r]at mu;exact mu
 by_cases hb:b=x
 ·subst hb;rw[E8]at q;cases q;exact new
 ·rw[By hb]at q;by_cases hbe:b=e
  ·have q':H b=Aa (.own x):=by
    rcases he with z|z
    ·exact absurd (hbe.trans z) hb
    ·rw[hbe];exact z
   rw[q]at q';cases q';obtain⟨v,hv⟩:=heo;exact⟨v,by rw[hbe];exact hv⟩
  ·refine(ok b u q).stay (fun c v hc r=>k c v ?_ r) (fun c r=>by rw[By (nown c b r)];exact r) fun c xs r=>by rw[By (ntup c xs r)];exact r
   rcases hc with rfl|hc
   ·exact hbe
   ·rintro rfl;rcases he with z|z
    ·exact nown c b hc z
    ·rw[hc]at z;cases z;exact hb rfl
end
structure Un (fs ex:Ad Aj) (H H':Hp) (h h':AD):Prop where
 keep:∀ b o,h.get? b=Aa o->H b=Ae->b∉fs->b∉ex->h'.get? b=Aa o
 slot:∀ b o,h.get? b=Aa o->H b=Ae->b∈fs->b∉ex->∃ sl,h'.get? b=Aa {o with slots:=sl}
 free:∀ b o,h.get? b=Aa o->H b=Ae->b∉ex->H' b=Ae
 there:∀ b o,h.get? b=Aa o->b∉ex->∃ o',h'.get? b=Aa o'
 tups:∀ b xs,H b=Aa (.tup xs)->H' b=Aa (.tup xs)
 frzs:∀ b o u,H b=Aa (.frz o u)->H' b=Aa (.frz o u)
 tbls:∀ b ps,H b=Aa (.tbl ps)->∃ more,H' b=Aa (.tbl (ps++more))
section
variable{fs fs' ex ex':Ad Aj}{H H1 H2:Hp}{h h1 h2 h':AD}{a x e:Aj}{o:HO}
theorem Un.any(u:Un fs ex H H1 h h1){ob:CW}(q:h.get? b=Aa ob)(n:H b=Ae)(hx:b∉ex):∃ sl,h1.get? b=Aa {ob with slots:=sl}:=by
 by_cases hb:b∈fs
 ·exact u.slot b ob q n hb hx
 ·exact⟨ob.slots,u.keep b ob q n hb hx⟩
theorem Un.kept(k:∀ b u,h.get? b=Aa u->h'.get? b=Aa u):Un fs ex H H h h':=
 ⟨fun b ob q _ _ _=>k b ob q,fun b ob q _ _ _=>⟨ob.slots,k b ob q⟩,fun _ _ _ n _=>n,fun b ob q _=>⟨ob,k b ob q⟩,fun _ _ q=>q,fun _ _ _ q=>q,fun _ ps q=>⟨#[],by rw[q];simp⟩⟩
theorem Un.refl:Un fs ex H H h h:=Un.kept fun _ _ q=>q
theorem Un.laid(k:∀ b u,h.get? b=Aa u->h'.get? b=Aa u)(hp:h.objs.size<=a)(hn:H a=Ae):Un fs ex H (upd H a o) h h' where
 keep:=fun b u q _ _ _=>k b u q
 slot:=fun b u q _ _ _=>⟨u.slots,k b u q⟩
 free:=fun b u q n _=>by rw[By (Bb (AQ (AG q) hp))];exact n
 there:=fun b u q _=>⟨u,k b u q⟩
 tups:=fun b xs q=>by rw[By (Fo q hn)];exact q
 frzs:=fun b u xs q=>by rw[By (Fo q hn)];exact q
 tbls:=fun b ps q=>⟨#[],by rw[By (Fo q hn),q];simp⟩
theorem Un.write(mu:Mut (H x))(he:e=x\/H e=Aa (.own x))(k:∀ b u,b≠e->h.get? b=Aa u->h'.get? b=Aa u)(heo:∃ u,h'.get? e=Aa u):Un fs ex H (upd H x o) h h':=by
 have hx:∀ b,H b=Ae->b≠x:=fun b n z=>by subst z;rw[n]at mu;exact mu
 have hb:∀ b,H b=Ae->b≠e:=fun b n z=>by
  subst z;rcases he with r|r
  ·exact hx b n r
  ·rw[n]at r;cases r
 have hm:∀ b u,H b=Aa u->¬ Mut (Aa u)->b≠x:=fun b u q nm z=>by subst z;rw[q]at mu;exact nm mu
 refine⟨fun b u q n _ _=>k b u (hb b n) q,fun b u q n _ _=>⟨u.slots,k b u (hb b n) q⟩,fun b u q n _=>by rw[By (hx b n)];exact n,fun b u q _=>?_,
  fun b xs q=>by rw[By (hm b _ q fun z=>z)];exact q,fun b u xs q=>by rw[By (hm b _ q fun z=>z)];exact q,fun b ps q=>⟨#[],by rw[By (hm b _ q fun z=>z),q];simp⟩⟩
 by_cases hbe:b=e
 ·subst hbe;exact heo
 ·exact⟨u,k b u hbe q⟩
end
noncomputable def trk(h:AD)(H:Hp):Ad Aj:=(Bz h.objs.size).filter fun a=>(H a).isSome
noncomputable def Ib(h:AD)(H:Hp):AD:=PySem.W.hideAll h (trk h H)
theorem WN(h:AD)(H:Hp):(Ib h H).objs.size=h.objs.size:=PySem.W.hideAll_size _ _
theorem Xi(e:h.get? b=Aa o)(n:H b=Ae):(Ib h H).get? b=Aa o:=
 PySem.W.hideAll_get _ e fun hm=>by
  have q:(H b).isSome=Ab:=(BU.mp hm).2;rw[n]at q;simp at q
theorem YS(e:(Ib h H).get? b=Aa o):h.get? b=Aa o/\H b=Ae:=by
 have e':h.get? b=Aa o:=PySem.W.of_hideAll (trk h H) e;refine⟨e',?_⟩;cases q:H b with
 |none=>rfl
 |some x=>
  have hm:b∈trk h H:=BU.mpr ⟨BA.mpr (AG e'),by simp[q]⟩
  have z:(Ib h H).get? b=Ae:=PySem.W.hideAll_none (trk h H) hm;rw[z]at e;cases e
noncomputable def ZM(g h:AD)(L:Aj):Pn:=(Bz h.objs.size).filterMap fun a=>if a=L\/(g.get? a).isSome=Ab then Ae else (h.get? a).map fun o=>(a,o)
noncomputable def rest(g h:AD)(L d:Aj):Pn:=(ZM g h L).filter fun p=>decide (p.1≠d)
structure Mod (K:Fg) (mg:Ah->An Ai) (base:AD):Prop where
 kin:K.In base
 glob:base.Ns AK mg
 blt:∃ mb,base.Ns HR mb/\∀ x:Ah,x≠"__name__"->mb x=CY x
 nolimit:base.NoLimit
structure Cx where
 prog:AR
 w:AC
 K:Fg
 mg:Ah->An Ai
 base:AD
 A:AZ
 N:Ad Ah
 s₀:Ar
 H₀:Hp
 env:B5
 outer:Ad B5
 stack:Ad B5
 ex:Ad Aj
 fn:Ah->Ao
 calm:Ao
 pn:Pn
 xe:Ai->Ar->Prop
variable{X:Cx}
noncomputable def frs(l:Ad B5):Ad Aj:=l.filterMap (·.frame)
noncomputable abbrev Cx.fs(X:Cx):Ad Aj:=frs X.outer
def Vis(sc:B9)(x:Ah):Prop:=sc.names.lookup x=Aa .local\/sc.names.lookup x=Aa .cell\/sc.names.lookup x=Aa .free
def Loc(sc:B9)(x:Ah):Prop:=sc.names.lookup x=Aa .local\/sc.names.lookup x=Aa .cell
noncomputable def mP(env:B5)(h:AD)(m:Ah->An Ai)(x:Ah)(u:Ai):Prop:=
 (env.kindOf x=Aa .local/\m x=Aa u)\/((env.kindOf x=Aa .cell\/env.kindOf x=Aa .free)/\∃ c,env.cells.lookup x=Aa c/\h.IsCell c (Aa u))
structure Cx.Ok (X:Cx):Prop where
 mod:Mod X.K X.mg X.base
 kind:X.env.scope.kind=.function
 glob:X.env.globals=AK
 blt:X.env.builtins=HR
 above:X.s₀.heap.objs.size<=X.env.locals
 inj:∀ x y c,X.env.cells.lookup x=Aa c->X.env.cells.lookup y=Aa c->x=y
 has:∀ x,(X.env.kindOf x=Aa .cell\/X.env.kindOf x=Aa .free)->∃ c,X.env.cells.lookup x=Aa c
 cab:∀ x c,X.fn x=Ab->X.env.cells.lookup x=Aa c->X.s₀.heap.objs.size<=c
 hd:X.calm=Ab->X.A.handled=Ae
 frames:X.A.frames=Aa X.stack
 stk:X.stack=X.outer\/(X.stack=X.env::X.outer/\X.env.frame=Aa X.env.locals)
 exf:∀ b∈X.ex,b≠X.env.locals/\∀ x c,X.env.cells.lookup x=Aa c->c≠b
 bs:∀ b o,X.base.get? b=Aa o->X.s₀.heap.get? b=Aa o/\X.H₀ b=Ae
 bsz:X.base.objs.size<=X.s₀.heap.objs.size
 noex:∀ b o,X.base.get? b=Aa o->b∉X.ex
 exfs:∀ b∈X.ex,b∉X.fs
 funs:X.s₀.heap.FunFrames X.base X.outer
 frf:∀ b∈X.fs,X.H₀ b=Ae
structure Inv (X:Cx) (pI:Pn) (σ:Ad (An V)) (H:Hp) (s:Ar):Prop where
 ok:X.Ok
 os:s.os=X.s₀.os
 bare:Fh s.gens
 base:Un X.fs X.ex X.H₀ H X.s₀.heap s.heap
 loc:∃ m,s.heap.Ns X.env.locals m/\∀(i:Ag)(x:Ah)(v:V),X.N[i]?=Aa x->σ[i]?=Aa (Aa v)->Vis X.env.scope x->∃ u,BB v u/\mP X.env s.heap m x u
 cell:∀ x c,X.env.cells.lookup x=Aa c->∃ v,s.heap.IsCell c v
 free:H X.env.locals=Ae
 freeC:∀ x c,X.env.cells.lookup x=Aa c->H c=Ae
 pin:∀ p∈X.pn++pI,s.heap.get? p.1=Aa p.2/\H p.1=Ae/\p.1≠X.env.locals/\p.1∉X.fs/\∀ v,p.2.data≠.cell v
 hok:HOk X.prog X.w H s.heap
 len:σ.length=X.N.length
section
variable{X:Cx}{pI:Pn}{σ:Ad (An V)}{H H':Hp}{s:Ar}{h':AD}
theorem Cx.Ok.nofr(ok:X.Ok)(e:X.base.get? b=Aa o):b∉X.fs:=fun hb=>by
 have:=(ok.funs.mem hb).1;rw[e]at this;cases this
theorem Inv.bs(I:Inv X pI σ H s):∀ b o,X.base.get? b=Aa o->s.heap.get? b=Aa o/\H b=Ae:=fun b o e=>
 ⟨I.base.keep b o (I.ok.bs b o e).1 (I.ok.bs b o e).2 (I.ok.nofr e) (I.ok.noex b o e),I.base.free b o (I.ok.bs b o e).1 (I.ok.bs b o e).2 (I.ok.noex b o e)⟩
theorem Inv.bk(I:Inv X pI σ H s):∀ b o,X.base.get? b=Aa o->s.heap.get? b=Aa o:=fun b o e=>(I.bs b o e).1
theorem Inv.mod(I:Inv X pI σ H s):Mod X.K X.mg X.base:=I.ok.mod
theorem Inv.kIn(I:Inv X pI σ H s):X.K.In s.heap:=I.ok.mod.kin.keeps I.bk
theorem Inv.lt(I:Inv X pI σ H s):X.env.locals<s.heap.objs.size:=let ⟨_,hn,_⟩:=I.loc;hn.lt
theorem Inv.sz(I:Inv X pI σ H s):X.s₀.heap.objs.size<=s.heap.objs.size:=Co I.ok.above (F1 I.lt)
theorem Inv.nofs(I:Inv X pI σ H s)(h:s.heap.objs.size<=a):a∉X.fs:=fun hb=>by
 obtain⟨_,o,ho,_⟩:=I.ok.funs.mem hb;exact absurd (AQ (AG ho) (Co I.sz h)) (Bu _)
theorem Inv.cne(I:Inv X pI σ H s):∀ x c,X.env.cells.lookup x=Aa c->c≠X.env.locals:=fun x c e z=>by
 obtain⟨v,o,ho,hd⟩:=I.cell x c e;obtain⟨m,⟨o',es,ep,ho',hd',_⟩,_⟩:=I.loc;rw[z,ho']at ho;cases ho;rw[hd']at hd;cases hd
theorem Inv.funs(I:Inv X pI σ H s):s.heap.FunFrames X.base X.outer:=by
 have all:∀(l:Ad B5),(∀ b∈frs l,b∈X.fs)->X.s₀.heap.FunFrames X.base l->s.heap.FunFrames X.base l:=by
  intro l
  induction l with
  |nil=>intro _ _;trivial
  |cons env r ih=>
   intro hs hl;obtain⟨hk,⟨L,o,hf,hn,ho,hd⟩,hr⟩:=hl;have hL:L∈X.fs:=hs L (by unfold frs;rw[Gd,hf];exact AH)
   obtain⟨sl,e⟩:=I.base.slot L o ho (I.ok.frf L hL) hL fun z=>I.ok.exfs L z hL
   exact⟨hk,⟨L,_,hf,hn,e,hd⟩,ih (fun b hb=>hs b (by unfold frs;rw[Gd,hf];exact Ax _ hb)) hr⟩
 exact all X.outer (fun _ hb=>hb) I.ok.funs
theorem Inv.stack(I:Inv X pI σ H s):s.heap.FunFrames X.base X.stack:=by
 rcases I.ok.stk with e|⟨e,hf⟩
 ·rw[e];exact I.funs
 ·rw[e];obtain⟨m,hn,_⟩:=I.loc;refine .cons (by rw[I.ok.kind];decide) hf hn ?_ I.funs
  exact Dd (Co I.ok.bsz I.ok.above)
theorem Inv.stkSub(I:Inv X pI σ H s):∀ b∈frs X.stack,b∈X.env.locals::X.fs:=fun b hb=>by
 rcases I.ok.stk with e|⟨e,hf⟩
 ·rw[e]at hb;exact Ax _ hb
 ·rw[e]at hb;unfold frs at hb;rw[Gd,hf]at hb;exact hb
theorem Inv.stkFree(I:Inv X pI σ H s):∀ b∈frs X.stack,H b=Ae:=fun b hb=>by
 rcases AB.mp (I.stkSub b hb) with e|hb
 ·rw[e];exact I.free
 ·obtain⟨_,o,ho,_⟩:=I.ok.funs.mem hb;exact I.base.free b o ho (I.ok.frf b hb) fun z=>I.ok.exfs b z hb
theorem Inv.step(I:Inv X pI σ H s)(hch:∀ b∈ch,(b∈X.ex\/X.s₀.heap.objs.size<=b)/\b≠X.env.locals/\(∀ x c,X.env.cells.lookup x=Aa c->c≠b)/\∀ p∈X.pn++pI,p.1≠b)(keep:∀ b o,b≠X.env.locals->b∉X.fs->b∉ch->s.heap.get? b=Aa o->H b=Ae->h'.get? b=Aa o)(slot:∀ b o,b≠X.env.locals->b∈X.fs->b∉ch->s.heap.get? b=Aa o->H b=Ae->∃ sl,h'.get? b=Aa {o with slots:=sl})(free:∀ b o,b∉ch->s.heap.get? b=Aa o->H b=Ae->H' b=Ae)(there:∀ b o,b∉ch->s.heap.get? b=Aa o->∃ o',h'.get? b=Aa o')(tups:∀ b xs,H b=Aa (.tup xs)->H' b=Aa (.tup xs))(frzs:∀ b o u,H b=Aa (.frz o u)->H' b=Aa (.frz o u))(tbls:∀ b ps,H b=Aa (.tbl ps)->∃ more,H' b=Aa (.tbl (ps++more)))(ns:∀ m,s.heap.Ns X.env.locals m->h'.Ns X.env.locals m)(hok:HOk X.prog X.w H' h')(hg:Fh g'):Inv X pI σ H' {s with heap:=h',gens:=g',drawn:=d',toks:=t'}:=by
 have neL:∀ b o,X.s₀.heap.get? b=Aa o->b≠X.env.locals:=fun b o e=>Bb (AQ (AG e) I.ok.above)
 have neC:∀ b o,X.s₀.heap.get? b=Aa o->b∉X.ex->b∉ch:=fun b o e hx hb=>by
  rcases (hch b hb).1 with z|z
  ·exact hx z
  ·exact absurd (AQ (AG e) z) (Bu _)
 have cellK:∀ x c,X.env.cells.lookup x=Aa c->∀ v,s.heap.IsCell c v->h'.IsCell c v:=fun x c e v ⟨o,ho,hd⟩=>by
  have nch:c∉ch:=fun z=>(hch c z).2.2.1 x c e rfl
  by_cases hc:c∈X.fs
  ·obtain⟨sl,q⟩:=slot c o (I.cne x c e) hc nch ho (I.freeC x c e);exact⟨_,q,hd⟩
  ·exact⟨o,keep c o (I.cne x c e) hc nch ho (I.freeC x c e),hd⟩
 refine⟨I.ok,I.os,hg,⟨fun b o e n hb hx=>?_,fun b o e n hb hx=>?_,fun b o e n hx=>?_,fun b o e hx=>?_,fun b xs e=>tups b xs (I.base.tups b xs e),fun b o xs e=>frzs b o xs (I.base.frzs b o xs e),fun b ps e=>?_⟩,?_,fun x c e=>?_,?_,fun x c e=>?_,fun p hp=>?_,hok,I.len⟩
 ·exact keep b o (neL b o e) hb (neC b o e hx) (I.base.keep b o e n hb hx) (I.base.free b o e n hx)
 ·obtain⟨sl,e1⟩:=I.base.slot b o e n hb hx;obtain⟨sl',e2⟩:=slot b _ (neL b o e) hb (neC b o e hx) e1 (I.base.free b o e n hx);exact⟨sl',e2⟩
 ·obtain⟨o',e1⟩:=I.base.there b o e hx;exact free b o' (neC b o e hx) e1 (I.base.free b o e n hx)
 ·obtain⟨o',e1⟩:=I.base.there b o e hx;exact there b o' (neC b o e hx) e1
 ·obtain⟨m1,e1⟩:=I.base.tbls b ps e;obtain⟨m2,e2⟩:=tbls b _ e1;exact⟨m1++m2,by rw[e2,Array.append_assoc]⟩
 ·obtain⟨m,hn,hl⟩:=I.loc;refine⟨m,ns m hn,fun i x v e1 e2 e3=>?_⟩
  obtain⟨u,r,l⟩:=hl i x v e1 e2 e3;refine⟨u,r,?_⟩;rcases l with l|⟨k,c,e,z⟩
  ·exact .inl l
  ·exact .inr ⟨k,c,e,cellK x c e _ z⟩
 ·obtain⟨v,z⟩:=I.cell x c e;exact⟨v,cellK x c e v z⟩
 ·obtain⟨m,⟨o,_,_,ho,_⟩,_⟩:=I.loc;exact free _ o (fun z=>(hch _ z).2.1 rfl) ho I.free
 ·obtain⟨v,o,ho,hd⟩:=I.cell x c e;exact free c o (fun z=>(hch c z).2.2.1 x c e rfl) ho (I.freeC x c e)
 ·obtain⟨e,n,ne,nf,d⟩:=I.pin p hp;have nch:p.1∉ch:=fun z=>(hch p.1 z).2.2.2 p hp rfl
  exact⟨keep p.1 p.2 ne nf nch e n,free p.1 p.2 nch e n,ne,nf,d⟩
theorem Inv.un(I:Inv X pI σ H s)(u:Un X.fs [] H H' s.heap h')(hok:HOk X.prog X.w H' h'):Inv X pI σ H' {s with heap:=h',toks:=t'}:=by
 obtain⟨m,⟨o,es,ep,ho,r⟩,_⟩:=id I.loc;obtain⟨sl,hL⟩:=u.any ho I.free (by simp)
 exact I.step (g':=s.gens) (d':=s.drawn) (ch:=[]) (fun _ z=>nomatch z) (fun b o _ hb _ e n=>u.keep b o e n hb (by simp)) (fun b o _ hb _ e n=>u.slot b o e n hb (by simp)) (fun b o _ e n=>u.free b o e n (by simp)) (fun b o _ e=>u.there b o e (by simp)) u.tups u.frzs u.tbls (fun m' hm=>by
  obtain⟨o',es',ep',ho',r'⟩:=hm;rw[ho]at ho';cases ho';exact⟨_,es',ep',hL,r'⟩) hok I.bare
theorem Inv.call(I:Inv X pI σ H s)(u:Un (frs X.stack) ch H H' s.heap h')(hok:HOk X.prog X.w H' h')(hg:Fh g')(hch:∀ b∈ch,(b∈X.ex\/X.s₀.heap.objs.size<=b)/\b≠X.env.locals/\(∀ x c,X.env.cells.lookup x=Aa c->c≠b)/\∀ p∈X.pn++pI,p.1≠b):Inv X pI σ H' {s with heap:=h',gens:=g',drawn:=d',toks:=t'}:=by
 obtain⟨m,⟨o,es,ep,ho,r⟩,_⟩:=id I.loc;obtain⟨sl,hL⟩:=u.any ho I.free fun z=>(hch _ z).2.1 rfl
 exact I.step (ch:=ch) hch (fun b o hL hb hc e n=>u.keep b o e n (fun z=>(AB.mp (I.stkSub b z)).elim hL hb) hc) (fun b o _ _ hc e n=>u.any e n hc) (fun b o hc e n=>u.free b o e n hc) (fun b o hc e=>u.there b o e hc) u.tups u.frzs u.tbls (fun m' hm=>by
  obtain⟨o',es',ep',ho',r'⟩:=hm;rw[ho]at ho';cases ho';exact⟨_,es',ep',hL,r'⟩) hok hg
theorem Inv.turned(I:Inv X pI σ H s)(k:∀ b o,b≠it->s.heap.get? b=Aa o->h'.get? b=Aa o)(hn:H it=Ae)(hL:it≠X.env.locals)(h1:it∈X.ex\/X.s₀.heap.objs.size<=it)(h2:∀ x c,X.env.cells.lookup x=Aa c->c≠it)(h3:∀ p∈X.pn++pI,p.1≠it):Inv X pI σ H {s with heap:=h',toks:=t'}:=by
 have nit:∀ b u,H b=Aa u->b≠it:=fun b u e z=>by rw[z,hn]at e;cases e
 refine I.step (g':=s.gens) (d':=s.drawn) (ch:=[it]) (fun b hb=>?_) (fun b o _ _ hc e _=>k b o (fun z=>hc (by simp[z])) e) (fun b o _ _ hc e _=>⟨o.slots,k b o (fun z=>hc (by simp[z])) e⟩) (fun _ _ _ _ n=>n)
  (fun b o hc e=>⟨o,k b o (fun z=>hc (by simp[z])) e⟩) (fun _ _ e=>e) (fun _ _ _ e=>e) (fun b ps e=>⟨#[],by rw[e];simp⟩) (fun m hm=>?_) (fun b u e=>?_) I.bare
 ·have e:b=it:=by simpa using hb
  subst e;exact⟨h1,hL,h2,h3⟩
 ·obtain⟨o,es,ep,ho,r⟩:=hm;exact⟨o,es,ep,k _ o (CJ hL) ho,r⟩
 ·refine(I.hok b u e).stay (fun c v hc q=>k c v ?_ q) (fun _ q=>q) fun _ _ q=>q
  rcases hc with z|z
  ·rw[z];exact nit b u e
  ·exact nit c _ z
theorem Inv.tok(I:Inv X pI σ H s)(t:Ag):Inv X pI σ H {s with toks:=t}:=I.un (h':=s.heap) (t':=t) Un.refl I.hok
theorem Inv.kept{t':Ag}(I:Inv X pI σ H s)(k:∀ b u,s.heap.get? b=Aa u->h'.get? b=Aa u):Inv X pI σ H {s with heap:=h',toks:=t'}:=I.un (Un.kept k) (I.hok.kept k)
theorem Inv.laid{a:Aj}{o:HO}{t':Ag}(I:Inv X pI σ H s)(k:∀ b u,s.heap.get? b=Aa u->h'.get? b=Aa u)(hp:s.heap.objs.size<=a)(new:ObjOk X.prog X.w (upd H a o) h' a o):Inv X pI σ (upd H a o) {s with heap:=h',toks:=t'}:=I.un (Un.laid k hp (I.hok.fresh hp)) (I.hok.laid k hp new)
theorem Inv.write{x e:Aj}{o:HO}{t':Ag}(I:Inv X pI σ H s)(mu:Mut (H x))(he:e=x\/H e=Aa (.own x))(k:∀ b u,b≠e->s.heap.get? b=Aa u->h'.get? b=Aa u)(heo:∃ u,h'.get? e=Aa u)(new:ObjOk X.prog X.w (upd H x o) h' x o):Inv X pI σ (upd H x o) {s with heap:=h',toks:=t'}:=I.un (Un.write mu he k heo) (I.hok.write mu he k heo new)
theorem Inv.pins_of{pins':Pn}(I:Inv X pI σ H s)(h:∀ p∈pins',s.heap.get? p.1=Aa p.2/\H p.1=Ae/\p.1≠X.env.locals/\p.1∉X.fs/\∀ v,p.2.data≠.cell v):Inv X pins' σ H s:=
 ⟨I.ok,I.os,I.bare,I.base,I.loc,I.cell,I.free,I.freeC,fun p hp=>(Hn.mp hp).elim (fun z=>I.pin p (FY _ z)) (h p),I.hok,I.len⟩
theorem Ng{N:Ad Ah}(hN:N.Nodup){j:Ag}(a:N[i]?=Aa x)(b:N[j]?=Aa x):i=j:=by
 obtain⟨h1,e1⟩:=A7.mp a;obtain⟨h2,e2⟩:=A7.mp b;exact(List.getElem_inj hN).mp (e1.trans e2.symm)
theorem Pd{A:AZ}{E:Vq}(I:Inv X pI σ H s)(hN:X.N.Nodup)(hi:X.N[i]?=Aa x)(hx:Loc X.env.scope x)(r:BB v u)(h:∀ s',Inv X pI (σ.set i (Aa v)) H s'->(∃ a,Eh a s.heap s'.heap/\(a=X.env.locals\/X.env.cells.lookup x=Aa a))->Q () s')(hf:X.fn x=Ab\/X.env.scope.names.lookup x=Aa .local:=by first|exact .inl rfl|exact .inr rfl|assumption):Ay M A (storeName X.env x u) Q E s:=by
 obtain⟨m,hn,hl⟩:=id I.loc;have hcls:(X.env.scope.kind==.class||(X.env.scope.kind==.module&&X.env.locals != X.env.globals))=Ac:=by rw[I.ok.kind];rfl
 have hiσ:i<σ.length:=by rw[I.len];exact(A7.mp hi).1
 have cne:=I.cne;have tracked:∀{a:Aj}{h':AD},(∃ o,s.heap.get? a=Aa o/\H a=Ae)->Eh a s.heap h'->HOk X.prog X.w H h':=fun {a h'} ha hs b ob e=>by
  obtain⟨_,_,hfree⟩:=ha;refine(I.hok b ob e).stay (fun c w' hc q=>(hs.2 c ?_).trans q) (fun _ q=>q) fun _ _ q=>q
  rintro rfl;rcases hc with rfl|hc
  ·rw[hfree]at e;cases e
  ·rw[hfree]at hc;cases hc
 rcases hx with hk|hk
 ·refine wpAny_storeName_local hk hn (fun h' hn' hs=>?_) hcls
  obtain⟨oL,_,_,hoL,_⟩:=id hn;refine h _ ⟨I.ok,I.os,I.bare,⟨fun b o e n hb hx=>?_,fun b o e n hb hx=>?_,I.base.free,fun b o e hx=>?_,I.base.tups,I.base.frzs,I.base.tbls⟩,⟨_,hn',fun j y v' e1 e2 e3=>?_⟩,fun y c e=>?_,I.free,I.freeC,fun p hp=>?_,tracked ⟨oL,hoL,I.free⟩ hs,by simpa using I.len⟩ ⟨_,hs,.inl rfl⟩
  ·exact(hs.2 b (Bb (AQ (AG e) I.ok.above))).trans (I.base.keep b o e n hb hx)
  ·obtain⟨sl,e1⟩:=I.base.slot b o e n hb hx;exact⟨sl,(hs.2 b (Bb (AQ (AG e) I.ok.above))).trans e1⟩
  ·obtain⟨o',e1⟩:=I.base.there b o e hx;exact⟨o',(hs.2 b (Bb (AQ (AG e) I.ok.above))).trans e1⟩
  ·by_cases hj:j=i
   ·subst hj;rw[hi]at e1;cases e1;rw[CV hiσ]at e2;cases e2;exact⟨u,r,.inl ⟨hk,by simp⟩⟩
   ·rw[FX (CJ hj)]at e2;obtain⟨u',r',q⟩:=hl j y v' e1 e2 e3;refine⟨u',r',?_⟩;rcases q with ⟨k,e⟩|⟨k,c,e,z⟩
    ·refine .inl ⟨k,?_⟩;have:y≠x:=fun e=>hj (Ng hN e1 (e ▸ hi))
     simp[this,e]
    ·exact .inr ⟨k,c,e,z.sameBut hs (cne y c e)⟩
  ·obtain⟨w',z⟩:=I.cell y c e;exact⟨w',z.sameBut hs (cne y c e)⟩
  ·obtain⟨e,n,ne,nf,d⟩:=I.pin p hp;exact⟨(hs.2 p.1 ne).trans e,n,ne,nf,d⟩
 ·have hfn:X.fn x=Ab:=by
   rcases hf with z|z
   ·exact z
   ·rw[z]at hk;cases hk
  obtain⟨c,hc⟩:=I.ok.has x (.inl hk);obtain⟨w',z⟩:=I.cell x c hc;refine wpAny_storeName_cell I.ok.kind hk hc z (fun h' hc' hs=>?_)
  obtain⟨oc,hoc,hocd⟩:=id z;refine h {s with heap:=h'} ⟨I.ok,I.os,I.bare,⟨fun b o e n hb hx=>?_,fun b o e n hb hx=>?_,I.base.free,fun b o e hx=>?_,I.base.tups,I.base.frzs,I.base.tbls⟩,⟨m,hn.sameBut hs (CJ (cne x c hc)),fun j y v' e1 e2 e3=>?_⟩,fun y c' e=>?_,I.free,I.freeC,fun p hp=>?_,tracked ⟨oc,hoc,I.freeC x c hc⟩ hs,by simpa using I.len⟩ ⟨c,hs,.inr hc⟩
  ·exact(hs.2 b (Bb (AQ (AG e) (I.ok.cab x c hfn hc)))).trans (I.base.keep b o e n hb hx)
  ·obtain⟨sl,e1⟩:=I.base.slot b o e n hb hx;exact⟨sl,(hs.2 b (Bb (AQ (AG e) (I.ok.cab x c hfn hc)))).trans e1⟩
  ·obtain⟨o',e1⟩:=I.base.there b o e hx;exact⟨o',(hs.2 b (Bb (AQ (AG e) (I.ok.cab x c hfn hc)))).trans e1⟩
  ·by_cases hj:j=i
   ·subst hj;rw[hi]at e1;cases e1;rw[CV hiσ]at e2;cases e2;exact⟨u,r,.inr ⟨.inl hk,c,hc,hc'⟩⟩
   ·rw[FX (CJ hj)]at e2;obtain⟨u',r',q⟩:=hl j y v' e1 e2 e3;refine⟨u',r',?_⟩;rcases q with q|⟨k,c',e,z'⟩
    ·exact .inl q
    ·refine .inr ⟨k,c',e,z'.sameBut hs ?_⟩;rintro rfl;exact hj (Ng hN e1 (I.ok.inj _ _ _ e hc ▸ hi))
  ·by_cases hcc:c'=c
   ·subst hcc;exact⟨_,hc'⟩
   ·obtain⟨w2,z2⟩:=I.cell y c' e;exact⟨w2,z2.sameBut hs hcc⟩
  ·obtain⟨e,n,ne,nf,d⟩:=I.pin p hp;refine⟨(hs.2 p.1 ?_).trans e,n,ne,nf,d⟩;intro q;rw[q,hoc]at e;have q':oc=p.2:=Bf e;exact d w' (by rw[<-q'];exact hocd)
theorem Nr{A:AZ}{E:Vq}(I:Inv X pI σ H s)(hN:X.N.Nodup)(hi:X.N[i]?=Aa x)(hx:Loc X.env.scope x)(r:BB v u)(h:∀ s',Inv X pI (σ.set i (Aa v)) H s'->Q () s')(hf:X.fn x=Ab\/X.env.scope.names.lookup x=Aa .local:=by first|exact .inl rfl|exact .inr rfl|assumption):Ay M A (storeName X.env x u) Q E s:=
 Pd I hN hi hx r (fun s' I' _=>h s' I') hf
theorem Inv.call'{s':Ar}(I:Inv X pI σ H s)(ho:s'.os=s.os)(u:Un (frs X.stack) ch H H' s.heap s'.heap)(hok:HOk X.prog X.w H' s'.heap)(hg:Fh s'.gens)(hch:∀ b∈ch,(b∈X.ex\/X.s₀.heap.objs.size<=b)/\b≠X.env.locals/\(∀ x c,X.env.cells.lookup x=Aa c->c≠b)/\∀ p∈X.pn++pI,p.1≠b):Inv X pI σ H' s':=by
 obtain⟨h',g',d',t',o'⟩:=s';have e:o'=s.os:=ho;subst e;exact I.call (g':=g') (t':=t') (d':=d') u hok hg hch
end
abbrev XK:=Ai->An Aj->Hp->Prop
abbrev St:=Ad (An V)
variable{σ:St}
abbrev VK:=V->Hp->Prop
abbrev TE:=St->Hp->VK->Prop
variable{te:TE}
abbrev TT:=St->Hp->(Ao->Hp->Prop)->Prop
abbrev TA:=St->Hp->(Ad V->Hp->Prop)->Prop
variable{ta:TA}
structure Ends where
 nx:St->Hp->Prop
 rt:VK
 bk:St->Hp->Prop:=fun _ _=>AS
 ct:St->Hp->Prop:=fun _ _=>AS
abbrev TS:=Ends->St->Hp->Prop
def EP(X:Cx)(pI:Pn)(σ:St)(Q:VK)(u:Ai)(s':Ar):Prop:=∃ v H',Inv X pI σ H' s'/\BB v u/\Q v H'
def TP(X:Cx)(pI:Pn)(σ:St)(Q:Ao->Hp->Prop)(b:Ao)(s':Ar):Prop:=∃ H',Inv X pI σ H' s'/\Q b H'
def AP(X:Cx)(pI:Pn)(σ:St)(Q:Ad V->Hp->Prop)(us:Ad Ai)(s':Ar):Prop:=∃ vs H',Inv X pI σ H' s'/\Bi vs us/\Q vs H'
noncomputable def SP(X:Cx)(pI:Pn)(D:Ends)(f:Flow)(s':Ar):Prop:=
  match f with
  |.next=>∃ σ' H',Inv X pI σ' H' s'/\D.nx σ' H'
  |.brk=>∃ σ' H',Inv X pI σ' H' s'/\D.bk σ' H'
  |.cont=>∃ σ' H',Inv X pI σ' H' s'/\D.ct σ' H'
  |.ret u=>∃ v σ' H',Inv X pI σ' H' s'/\BB v u/\D.rt v H'
noncomputable def PE(X:Cx)(e:Ap)(t:TE):Prop:=
 ∀(pI:Pn)(s:Ar)(σ:St)(H:Hp)(Q:VK),Inv X pI σ H s->t σ H Q->Ay (model X.prog X.w) X.A (eval e X.env) (EP X pI σ Q) X.xe s
noncomputable def PT(X:Cx)(e:Ap)(t:TT):Prop:=
 ∀(pI:Pn)(s:Ar)(σ:St)(H:Hp)(Q:Ao->Hp->Prop),Inv X pI σ H s->t σ H Q->Ay (model X.prog X.w) X.A (HK e X.env (eval e X.env)) (TP X pI σ Q) X.xe s
noncomputable def PW(X:Cx)(e:Ap)(t:TT):Prop:=
 ∀(whole:Sem Ai)(pI:Pn)(s:Ar)(σ:St)(H:Hp)(Q:Ao->Hp->Prop),Inv X pI σ H s->t σ H Q->Ay (model X.prog X.w) X.A (HK e X.env whole) (TP X pI σ Q) X.xe s
theorem PW.pt{t:TT}(h:PW X e t):PT X e t:=h _
noncomputable def PA(X:Cx)(es:Ad Ap)(t:TA):Prop:=
 ∀(pos:AM)(pI:Pn)(s:Ar)(σ:St)(H:Hp)(Q:Ad V->Hp->Prop),Inv X pI σ H s->t σ H Q->Ay (model X.prog X.w) X.A (spliced (B8 pos (AA es X.env))) (AP X pI σ Q) X.xe s
noncomputable def PS(X:Cx)(st:A9)(t:TS):Prop:=
 ∀(pI:Pn)(s:Ar)(σ:St)(H:Hp)(D:Ends),Inv X pI σ H s->t D σ H->Ay (model X.prog X.w) X.A (exec st X.env) (SP X pI D) X.xe s
noncomputable def PSs(X:Cx)(st:Ad A9)(t:TS):Prop:=
 ∀(pI:Pn)(s:Ar)(σ:St)(H:Hp)(D:Ends),Inv X pI σ H s->t D σ H->Ay (model X.prog X.w) X.A (execs st X.env) (SP X pI D) X.xe s
theorem thn{α:Type}{t:Sem α}{Q Q':α->Ar->Prop}{A:AZ}{E:Vq}(h:Ay M A t Q E s)(hQ:∀ a s,Q a s->Q' a s):Ay M A t Q' E s:=Bg h hQ fun _ _ x=>x
section
variable{X:Cx}
def Go(i:Ag):TE:=fun σ H Q=>∃ v,σ[i]?=Aa (Aa v)/\Q v H
def tC(v:V):TE:=fun _ H Q=>Q v H
theorem Mk(hN:X.N[i]?=Aa x)(hv:Vis X.env.scope x)(hd:(x==("__debug__" : Ah))=Ac:=by decide)(hcd:(x==("__classdict__" : Ah))=Ac:=by decide):PE X (.Name x pos) (Go i):=by
 intro pI s σ H Q I h;obtain⟨v,e,h⟩:=h;obtain⟨m,hn,hl⟩:=I.loc;obtain⟨u,r,l⟩:=hl i x v hN e hv;have fin:EP X pI σ Q u s:=⟨v,H,I,r,h⟩;rcases l with ⟨hk,hm⟩|⟨hk,c,hc,hcell⟩
 ·exact JL (wpAny_loadName_local I.ok.kind hk hn hm fin) hd
 ·rcases hk with hk|hk
  ·exact JL (wpAny_loadName_cell I.ok.kind hk hc hcell fin) hd
  ·exact JL (wpAny_loadName_free I.ok.kind hk hc hcell fin hcd) hd
theorem cO{i j pos}:PE X (.Constant (.int i) j pos) (tC (.int i)):=fun _ _ _ H _ I h=>wpAny_Constant_int ⟨.int i,H,I.tok _,⟨_,rfl⟩,h⟩
theorem kM{b j pos}:PE X (.Constant (.bool b) j pos) (tC (.bl b)):=fun _ _ _ H _ I h=>Constant_bool ⟨.bl b,H,I,rfl,h⟩
theorem cK{j pos}:PE X (.Constant .none j pos) (tC .non):=fun _ _ _ H _ I h=>Constant_none ⟨.non,H,I,rfl,h⟩
theorem RI{x j pos}:PE X (.Constant (.str x) j pos) (tC (.str x)):=fun _ _ _ H _ I h=>Calls.Constant_str ⟨.str x,H,I.tok _,⟨_,rfl⟩,h⟩
def Gl(X:Cx)(x:Ah):Prop:=X.env.kindOf x=Aa .globalImplicit
theorem II{E:Vq}{Q:Vq}(I:Inv X pI σ H s)(hg:Gl X x)(hm:X.mg x=Aa u)(h:Q u s)(hd:(x==("__debug__" : Ah))=Ac:=by decide):Ay (model X.prog X.w) X.A (eval (.Name x pos) X.env) Q E s:=
 UV I.ok.kind hg (Calls.loadGlobal_global (by rw[I.ok.glob];exact I.mod.glob.keeps I.bk) hm h) hd
theorem Jt{E:Vq}{Q:Vq}(I:Inv X pI σ H s)(hg:Gl X x)(hm:X.mg x=Ae)(hv:CY x=Aa u)(h:Q u s)(hn:x≠"__name__" := by decide)(hd:(x==("__debug__" : Ah))=Ac:=by decide):Ay (model X.prog X.w) X.A (eval (.Name x pos) X.env) Q E s:=by
 obtain⟨mb,h1,h2⟩:=I.mod.blt;exact UV I.ok.kind hg (Calls.loadGlobal_builtin (by rw[I.ok.glob];exact I.mod.glob.keeps I.bk) hm (by rw[I.ok.blt];exact h1.keeps I.bk) ((h2 x hn).trans hv) h) hd
theorem QB(hg:Gl X x)(hm:X.mg x=Aa u)(r:BB v u)(hd:(x==("__debug__" : Ah))=Ac:=by decide):PE X (.Name x pos) (tC v):=
 fun _ _ _ H _ I h=>II I hg hm ⟨v,H,I,r,h⟩ hd
theorem QD(hg:Gl X x)(hm:X.mg x=Ae)(hv:CY x=Aa u)(r:BB v u)(hn:x≠"__name__" := by decide)(hd:(x==("__debug__" : Ah))=Ac:=by decide):PE X (.Name x pos) (tC v):=
 fun _ _ _ H _ I h=>Jt I hg hm hv ⟨v,H,I,r,h⟩ hn hd
variable{a b:Ap}{ta tb:TE}{pos:AM}
variable{tA tB':TT}{rest:Ad Ap}
def mJ(t u:TT):TT:=fun σ H Q=>t σ H fun c H1=>if c=Ab then u σ H1 Q else Q Ac H1
def tOr(t u:TT):TT:=fun σ H Q=>t σ H fun c H1=>if c=Ab then Q Ab H1 else u σ H1 Q
def mE(t:TT):TT:=fun σ H Q=>t σ H fun c H1=>Q (!c) H1
theorem Zd(ha:PT X a tA):PW X (.BoolOp .And [a] pos) tA:=by
 intro wh pI s σ H Q I h;refine isTrue_and (thn (ha pI s σ H Q I h) fun c s1 e=>?_)
 cases c with
 |true=>exact isTrue_and_nil e
 |false=>exact e
theorem dS(ha:PT X a tA):PW X (.BoolOp .Or [a] pos) tA:=by
 intro wh pI s σ H Q I h;refine isTrue_or (thn (ha pI s σ H Q I h) fun c s1 e=>?_)
 cases c with
 |false=>exact isTrue_or_nil e
 |true=>exact e
theorem dU(ha:PT X a tA)(hb:PW X (.BoolOp .And (b::rest) pos) tB'):PW X (.BoolOp .And (a::b::rest) pos) (mJ tA tB'):=by
 intro wh pI s σ H Q I h;refine isTrue_and (thn (ha pI s σ H _ I h) fun c s1 ⟨H1,I1,q1⟩=>?_)
 cases c with
 |true=>exact hb wh pI s1 σ H1 Q I1 q1
 |false=>exact⟨H1,I1,q1⟩
theorem kG(ha:PT X a tA)(hb:PW X (.BoolOp .Or (b::rest) pos) tB'):PW X (.BoolOp .Or (a::b::rest) pos) (tOr tA tB'):=by
 intro wh pI s σ H Q I h;refine isTrue_or (thn (ha pI s σ H _ I h) fun c s1 ⟨H1,I1,q1⟩=>?_)
 cases c with
 |true=>exact⟨H1,I1,q1⟩
 |false=>exact hb wh pI s1 σ H1 Q I1 q1
theorem dW(ha:PT X a tA):PT X (.UnaryOp .Not a pos) (mE tA):=by
 intro pI s σ H Q I h;exact isTrue_not (ha pI s σ H (fun c H1=>Q (!c) H1) I h)
def gK(ta tb:TE):TE:=fun σ H Q=>ta σ H fun x H1=>∃ c,x=.bl c/\if c=Ab then tb σ H1 Q else Q (.bl Ac) H1
def mD(ta tb:TE):TE:=fun σ H Q=>ta σ H fun x H1=>∃ c,x=.bl c/\if c=Ab then Q (.bl Ab) H1 else tb σ H1 Q
def gB(ta:TE):TE:=fun σ H Q=>ta σ H fun x H1=>∃ c,x=.bl c/\Q (.bl (!c)) H1
theorem eF{op}{t:TE}(h:PE X a t):PE X (.BoolOp op [a] pos) t:=fun pI s σ H Q I hw=>BoolOp_one (h pI s σ H Q I hw)
theorem cP(ha:PE X a ta)(hb:PE X (.BoolOp .And (b::rest) pos) tb):PE X (.BoolOp .And (a::b::rest) pos) (gK ta tb):=by
 intro pI s σ H Q I h;refine BoolOp_and (thn (ha pI s σ H _ I h) fun v s1 ⟨x,H1,I1,r1,q1⟩=>?_)
 obtain⟨c,rfl,q1⟩:=q1;cases r1;refine Cu ?_;cases c with
 |true=>exact hb pI s1 σ H1 Q I1 q1
 |false=>exact⟨.bl Ac,H1,I1,rfl,q1⟩
theorem kK(ha:PE X a ta)(hb:PE X (.BoolOp .Or (b::rest) pos) tb):PE X (.BoolOp .Or (a::b::rest) pos) (mD ta tb):=by
 intro pI s σ H Q I h;refine BoolOp_or (thn (ha pI s σ H _ I h) fun v s1 ⟨x,H1,I1,r1,q1⟩=>?_)
 obtain⟨c,rfl,q1⟩:=q1;cases r1;refine Cu ?_;cases c with
 |false=>exact hb pI s1 σ H1 Q I1 q1
 |true=>exact⟨.bl Ab,H1,I1,rfl,q1⟩
theorem cJ(ha:PE X a ta):PE X (.UnaryOp .Not a pos) (gB ta):=by
 intro pI s σ H Q I h;refine UnaryOp_ (thn (ha pI s σ H _ I h) fun v s1 ⟨x,H1,I1,r1,q1⟩=>?_)
 obtain⟨c,rfl,q1⟩:=q1;cases r1;exact not_of (Cu ⟨.bl (!c),H1,I1,rfl,q1⟩)
end
noncomputable def SqL(K:Fg)(H:Hp)(a:Aj)(xs:Ad V):Prop:=
 Rd H a (.lst xs) \/
  ∃(o:CW)(its:Bl Ai)(n:Ag),K.lookup a=Aa o/\o.cls=.type "list"/\o.dict=Ae/\o.data=.seq its n/\its.size<=sizeLine/\Bi xs its.toList
noncomputable def SqT(K:Fg)(H:Hp)(a:Aj)(xs:Ad V):Prop:=
 Rd H a (.tup xs) \/
  ∃(o:CW)(its:Bl Ai)(n:Ag),K.lookup a=Aa o/\o.cls=.type "tuple"/\o.data=.seq its n/\its.size<=sizeLine/\Bi xs its.toList
noncomputable def nI:Ai->An V
 |.none=>Aa .non
 |.bool b=>Aa (.bl b)
 |.int i _=>Aa (.int i)
 |.str x _=>Aa (.str x)
 |.bytes b _=>Aa (.byt b)
 |.float b _=>Aa (.flt b)
 |.ref a=>Aa (.ref a)
 |.type n=>Aa (.ty n)
 |_=>Ae
theorem BB.abs{x:V}(r:BB x u):nI u=Aa x:=by
 cases x with
 |non=>cases r;rfl
 |bl _=>cases r;rfl
 |int _=>obtain⟨t,rfl⟩:=r;rfl
 |str _=>obtain⟨t,rfl⟩:=r;rfl
 |byt _=>obtain⟨t,rfl⟩:=r;rfl
 |flt _=>obtain⟨t,rfl⟩:=r;rfl
 |ref _=>cases r;rfl
 |ty _=>cases r;rfl
theorem BB.inj{x y:V}(r:BB x u)(q:BB y u):x=y:=Bf (r.abs.symm.trans q.abs)
theorem Bi.inj:∀{xs ys:Ad V}{us:Ad Ai},Bi xs us->Bi ys us->xs=ys
 |_,_,_,.nil,.nil=>rfl
 |_,_,_,.cons r t,.cons r' t'=>by rw[r.inj r',Bi.inj t t']
section
variable{X:Cx}{pI:Pn}{σ:St}{H:Hp}{s:Ar}{a:Aj}{xs ys:Ad V}
theorem SqL.of{K:Fg}(h:H a=Aa (.lst xs)):SqL K H a xs:=.inl (.inl h)
theorem SqT.of{K:Fg}(h:H a=Aa (.tup xs)):SqT K H a xs:=.inl (.inl h)
theorem Inv.list(I:Inv X pI σ H s)(h:SqL X.K H a xs):∃ its:Ad Ai,Bi xs its/\PlainL s.heap a its.toArray/\xs.length<=sizeLine:=by
 rcases h with h|⟨o,its,n,hk,hc,hd,hs,hz,r⟩
 ·obtain⟨z,its,n,r,e⟩:=h.ok I.hok;exact⟨its,r,⟨_,n,e,rfl,rfl,rfl⟩,z⟩
 ·refine⟨its.toList,r,⟨o,n,I.kIn a o hk,hc,hd,by simpa using hs⟩,?_⟩
  have e:=r.length;simp only[Gc]at e;omega
theorem Inv.tuple(I:Inv X pI σ H s)(h:SqT X.K H a xs):∃ its:Ad Ai,Bi xs its/\JC s.heap a its.toArray/\xs.length<=sizeLine:=by
 rcases h with h|⟨o,its,n,hk,hc,hs,hz,r⟩
 ·obtain⟨z,its,r,p⟩:=h.ok I.hok;exact⟨its,r,p,z⟩
 ·refine⟨its.toList,r,⟨o,I.kIn a o hk,hc,n,by simpa using hs⟩,?_⟩
  have e:=r.length;simp only[Gc]at e;omega
theorem Inv.list_inj(I:Inv X pI σ H s)(h:SqL X.K H a xs)(h':SqL X.K H a ys):xs=ys:=by
 obtain⟨its,r,⟨o,n,e,_,_,d⟩,_⟩:=I.list h;obtain⟨its',r',⟨o',n',e',_,_,d'⟩,_⟩:=I.list h';rw[e]at e';cases e';rw[d]at d'
 injection d' with d1 _
 have:its=its':=by simpa using congrArg Im d1
 subst this;exact r.inj r'
theorem Inv.tuple_inj(I:Inv X pI σ H s)(h:SqT X.K H a xs)(h':SqT X.K H a ys):xs=ys:=by
 obtain⟨its,r,⟨o,e,_,n,d⟩,_⟩:=I.tuple h;obtain⟨its',r',⟨o',e',_,n',d'⟩,_⟩:=I.tuple h';rw[e]at e';cases e';rw[d]at d'
 injection d' with d1 _
 have:its=its':=by simpa using congrArg Im d1
 subst this;exact r.inj r'
end
noncomputable abbrev Cx.wish(X:Cx)(E:Vq):Cx:={X with xe:=E}
noncomputable abbrev Cx.nox(X:Cx):Cx:=X.wish fun _ _=>AS
theorem Cx.Ok.wish(ok:X.Ok)(E:Vq):(X.wish E).Ok:=
 ⟨ok.mod,ok.kind,ok.glob,ok.blt,ok.above,ok.inj,ok.has,ok.cab,ok.hd,ok.frames,ok.stk,ok.exf,ok.bs,ok.bsz,ok.noex,ok.exfs,ok.funs,ok.frf⟩
theorem Cx.Ok.unwish{E:Vq}(ok:(X.wish E).Ok):X.Ok:=
 ⟨ok.mod,ok.kind,ok.glob,ok.blt,ok.above,ok.inj,ok.has,ok.cab,ok.hd,ok.frames,ok.stk,ok.exf,ok.bs,ok.bsz,ok.noex,ok.exfs,ok.funs,ok.frf⟩
section
variable{X:Cx}{pI:Pn}{σ:St}{H:Hp}{s:Ar}{E:Vq}
theorem Inv.wish(I:Inv X pI σ H s)(E:Vq):Inv (X.wish E) pI σ H s:=⟨I.ok.wish E,I.os,I.bare,I.base,I.loc,I.cell,I.free,I.freeC,I.pin,I.hok,I.len⟩
theorem Inv.unwish(I:Inv (X.wish E) pI σ H s):Inv X pI σ H s:=⟨I.ok.unwish,I.os,I.bare,I.base,I.loc,I.cell,I.free,I.freeC,I.pin,I.hok,I.len⟩
theorem SP.unwish{D:Ends}{f:Flow}{s':Ar}(h:SP (X.wish E) pI D f s'):SP X pI D f s':=by
 cases f with
 |next=>obtain⟨σ',H',I,q⟩:=h;exact⟨σ',H',I.unwish,q⟩
 |brk=>obtain⟨σ',H',I,q⟩:=h;exact⟨σ',H',I.unwish,q⟩
 |cont=>obtain⟨σ',H',I,q⟩:=h;exact⟨σ',H',I.unwish,q⟩
 |ret u=>obtain⟨v,σ',H',I,r,q⟩:=h;exact⟨v,σ',H',I.unwish,r,q⟩
theorem PSs.nox{st:Ad A9}{t:TS}(h:PSs X.nox st t):PSs X st t:=fun pI s σ H D I hw=>
 Bg (h pI s σ H D (I.wish _) hw) (fun _ _ q=>q.unwish) fun _ _ z=>Be z
end
section
variable{X:Cx}{st:A9}{rest:Ad A9}{t u:TS}{e:Ap}{te:TE}{pos:AM}
def gE:TS:=fun D σ H=>D.nx σ H
def mB(t u:TS):TS:=fun D σ H=>t {D with nx:=u D} σ H
theorem Zh:PSs X [] gE:=fun _ _ σ H _ I h=>EX ⟨σ,H,I,h⟩
theorem Qs(h1:PS X st t)(h2:PSs X rest u):PSs X (st::rest) (mB t u):=by
 intro pI s σ H D I h;refine G4 (thn (h1 pI s σ H {D with nx:=u D} I h) fun f s1 q=>?_)
 cases f with
 |next=>
  obtain⟨σ',H',I',q⟩:=q;exact h2 pI s1 σ' H' D I' q
 |ret v=>exact q
 |brk=>exact q
 |cont=>exact q
theorem K7(h1:PS X st t):PSs X [st] t:=by
 intro pI s σ H D I h;refine G4 (thn (h1 pI s σ H D I h) fun f s1 q=>?_)
 cases f with
 |next=>exact EX q
 |ret v=>exact q
 |brk=>exact q
 |cont=>exact q
theorem Inv.quiet(I:Inv X pI σ H s):interactive X.env=Ac:=by simp[interactive,I.ok.kind]
def gG(te:TE):TS:=fun D σ H=>te σ H fun _ H1=>D.nx σ H1
theorem LV(he:PE X e te)(hs:Di e Ae pos.line X.env=pure Ac:=by rfl):PS X (.Expr e pos) (gG te):=by
 intro pI s σ H D I h;exact wpAny_Expr_any (thn (he pI s σ H _ I h) fun v s1 ⟨x,H1,I1,r1,q1⟩=>⟨σ,H1,I1,q1⟩) I.quiet hs
def mC(te:TE):TS:=fun D σ H=>te σ H D.rt
theorem NS(he:PE X e te):PS X (.Return (Aa e) pos) (mC te):=by
 intro pI s σ H D I h;exact wpAny_Return_some (thn (he pI s σ H _ I h) fun v s1 ⟨x,H1,I1,r1,q1⟩=>⟨x,σ,H1,I1,r1,q1⟩)
def mH(c:TT)(t u:TS):TS:=fun D σ H=>c σ H fun b H1=>if b=Ab then t D σ H1 else u D σ H1
theorem kH{c:Ap}{a b:Ad A9}{tc:TT}(hc:PT X c tc)(ha:PSs X a t)(hb:PSs X b u):PS X (.If c a b pos) (mH tc t u):=by
 intro pI s σ H D I h;refine wpAny_If (thn (hc pI s σ H _ I h) fun d s1 ⟨H1,I1,q1⟩=>?_)
 cases d with
 |true=>exact ha pI s1 σ H1 D I1 q1
 |false=>exact hb pI s1 σ H1 D I1 q1
end
abbrev TG:=V->St->Hp->(St->Hp->Prop)->Prop
abbrev TGs:=Ad V->St->Hp->(St->Hp->Prop)->Prop
noncomputable def PG(X:Cx)(target:Ap)(t:TG):Prop:=
 ∀(pI:Pn)(s:Ar)(σ:St)(H:Hp)(v:V)(u:Ai)(Q:St->Hp->Prop),Inv X pI σ H s->BB v u->t v σ H Q ->
  Ay (model X.prog X.w) X.A (assign target X.env u) (fun _ s'=>∃ σ' H',Inv X pI σ' H' s'/\Q σ' H') X.xe s
noncomputable def PGs(X:Cx)(ts:Ad Ap)(t:TGs):Prop:=
 ∀(pI:Pn)(s:Ar)(σ:St)(H:Hp)(vs:Ad V)(us:Ad Ai)(Q:St->Hp->Prop),Inv X pI σ H s->Bi vs us->t vs σ H Q ->
  Ay (model X.prog X.w) X.A (assignInOrder ((B2 ts X.env).map (·.2)) us) (fun _ s'=>∃ σ' H',Inv X pI σ' H' s'/\Q σ' H') X.xe s
abbrev OR:=V->V->V->Hp->(Hp->Prop)->Prop
noncomputable def TM(X:Cx)(t:OR):Prop:=
 ∀(pI:Pn)(s:Ar)(σ:St)(H:Hp)(o i v:V)(ov iv u:Ai)(Q:Hp->Prop),Inv X pI σ H s->BB o ov->BB i iv->BB v u->t o i v H Q ->
  Ay (model X.prog X.w) X.A (setItem ov iv u) (fun _ s'=>∃ H',Inv X pI σ H' s'/\Q H') X.xe s
section
variable{X:Cx}{pos:AM}
def EN(i:Ag):TG:=fun v σ H Q=>Q (σ.set i (Aa v)) H
theorem K8(hN:X.N.Nodup)(hi:X.N[i]?=Aa x)(hx:Loc X.env.scope x)(hf:X.fn x=Ab\/X.env.scope.names.lookup x=Aa .local:=by first|exact .inl rfl|exact .inr rfl|assumption):PG X (.Name x pos) (EN i):=by
 intro pI s σ H v u Q I r h;exact VD (Nr I hN hi hx r (fun s' I'=>⟨_,H,I',h⟩) hf)
def Hh:TGs:=fun vs σ H Q=>vs=[]/\Q σ H
def Ha(t:TG)(u:TGs):TGs:=fun vs σ H Q=>∃ v r,vs=v::r/\t v σ H fun σ' H'=>u r σ' H' Q
theorem QS:PGs X [] Hh:=by
 intro pI s σ H vs us Q I r h;obtain⟨e,h⟩:=h;subst e;cases r;exact assignInOrder_nil ⟨σ,H,I,h⟩
theorem Qt{t:TG}{u:TGs}(h1:PG X e t)(h2:PGs X es u)(hs:(B2 (e::es) X.env).map (·.2)=assign e X.env::(B2 es X.env).map (·.2):=by rfl):PGs X (e::es) (Ha t u):=by
 intro pI s σ H vs us Q I r h;obtain⟨v,vr,e1,h⟩:=h;subst e1;cases r with
 |cons r rr=>
  rw[hs];refine assignInOrder_cons (thn (h1 pI s σ H _ _ _ I r h) fun _ s1 ⟨σ1,H1,I1,q1⟩=>?_)
  exact h2 pI s1 σ1 H1 _ _ Q I1 rr q1
def Ko(K:Fg)(n:Ag)(t:TGs):TG:=fun v σ H Q=>∃ a xs,v=.ref a/\SqT K H a xs/\xs.length=n/\t xs σ H Q
theorem NN{t:TGs}(hc:X.calm=Ab)(h:PGs X es t)(hn:(B2 es X.env).length=n:=by rfl)(hst:(B2 es X.env).findIdx? (·.1)=Ae:=by rfl):PG X (.Tuple es k pos) (Ko X.K n t):=by
 intro pI s σ H v u Q I r hw;obtain⟨a,xs,e1,hq,hl,hw⟩:=hw;subst e1;cases r;obtain⟨its,rv,ht,hz⟩:=I.tuple hq;refine assign_Tuple_tuple (I.ok.hd hc) ht (by simp[hn,<-hl,rv.length]) hst fun h' hx=>?_
 have I1:Inv X pI σ H {s with heap:=h'}:=I.kept (t':=s.toks) fun b o e=>hx b o (Bb (AG e)) e
 exact h pI _ σ H xs _ Q I1 (by simpa using rv) hw
def mZ(to ti:TE)(t:OR):TG:=fun v σ H Q=>to σ H fun o H1=>ti σ H1 fun i H2=>t o i v H2 fun H3=>Q σ H3
theorem eE{o i:Ap}{to ti:TE}{t:OR}(ho:PE X o to)(hi:PE X i ti)(hs:TM X t)(ha:∀ v,assign (.Subscript o i pos) X.env v=(do
   let ov <-holding [v] (eval o X.env)
   let iv <-holding [v,ov] (eval i X.env)
   IV pos
   holding [v,ov,iv] (setItem ov iv v)
   release [v,ov,iv] []):=by intro _;rfl):PG X (.Subscript o i pos) (mZ to ti t):=by
 intro pI s σ H v u Q I r h;rw[ha];refine Am (Ca (thn (ho pI s σ H _ I h) fun ov s1 ⟨x,H1,I1,r1,q1⟩=>?_))
 refine Am (Ca (thn (hi pI s1 σ H1 _ I1 q1) fun iv s2 ⟨y,H2,I2,r2,q2⟩=>?_))
 refine Am (DD (Am (Ca (thn (hs pI s2 σ H2 x y v ov iv u _ I2 r1 r2 r q2) fun _ s3 ⟨H3,I3,q3⟩=>?_))))
 exact wpAny_release ⟨σ,H3,I3,q3⟩
def Mr(te:TE)(g:TG):TS:=fun D σ H=>te σ H fun x H1=>g x σ H1 D.nx
theorem RG{g:TG}(he:PE X e te)(hg:PG X tg g)(hs:GB [tg] e pos.line X.env=pure Ac:=by rfl)(hw:FE [tg] e X.env=pure Ae:=by rfl)(h1:(B2 [tg] X.env).map (·.2)=[assign tg X.env]:=by rfl):PS X (.Assign [tg] e pos) (Mr te g):=by
 intro pI s σ H D I h;refine wpAny_Assign_stores (thn (he pI s σ H _ I h) fun v s1 ⟨x,H1,I1,r1,q1⟩=>?_) hs hw
 rw[h1];exact thn (hg pI s1 σ H1 x v _ I1 r1 q1) fun _ s2 q=>q
theorem Mi{pos':AM}(hN:X.N.Nodup)(hi:X.N[i]?=Aa x)(hx:Loc X.env.scope x)(he:PE X e te)(hs:Di e (Aa (.Name x pos')) pos.line X.env=pure Ac:=by rfl)(hf:X.fn x=Ab\/X.env.scope.names.lookup x=Aa .local:=by first|exact .inl rfl|exact .inr rfl|assumption):PS X (.Assign [.Name x pos'] e pos) (Mr te (EN i)):=by
 intro pI s σ H D I h;refine wpAny_Assign_Name (thn (he pI s σ H _ I h) fun v s1 ⟨y,H1,I1,r1,q1⟩=>?_) hs
 exact Nr I1 hN hi hx r1 (fun s2 I2=>⟨_,H1,I2,q1⟩) hf
end
section
variable{X:Cx}{pos:AM}
end
structure It where
 go:Ag->Hp->Prop
 yld:Ag->Hp->V->Hp->Prop
 stop:Ag->Hp->Prop
noncomputable def Gn(X:Cx)(pI:Pn)(H:Hp)(b:Aj):Prop:=
 H b=Ae/\b≠X.env.locals/\b∉X.fs/\(b∈X.ex\/X.s₀.heap.objs.size<=b)/\(∀ x c,X.env.cells.lookup x=Aa c->c≠b)/\∀ p∈X.pn++pI,p.1≠b
theorem Inv.fpOk{H':Hp}(I:Inv X pI σ H s)(hb:s.heap.objs.size<=b)(hn:H' b=Ae):Gn X pI H' b:=by
 refine⟨hn,Ef (AQ I.lt hb),I.nofs hb,.inr (Co I.sz hb),fun x c e z=>?_,fun p hp z=>?_⟩
 ·obtain⟨v,q⟩:=I.cell x c e;exact absurd (AQ q.lt (by rw[z];exact hb)) (Bu _)
 ·exact absurd (AQ (AG (I.pin p hp).1) (by rw[z];exact hb)) (Bu _)
structure Turn (P:AR) (w:AC) (K:Fg) (tg:Ap) (J:It) (fp:Ad Aj) (it:Aj) (tn:Ag->AD->Prop):Prop where
 mem:it∈fp
 obj:∀ i h,tn i h->∀ b∈fp,∃ o,h.get? b=Aa o/\∀ v,o.data≠.cell v
 keep:∀ i h h',tn i h->(∀ b∈fp,∀ o,h.get? b=Aa o->h'.get? b=Aa o)->tn i h'
 item:∀(X:Cx),X.prog=P->X.w=w->X.K=K->X.calm=Ab->∀(i:Ag)(pI:Pn)(s:Ar)(σ:St)(H:Hp)(E:Vq),Inv X pI σ H s->(∀ b∈fp,Gn X pI H b)->tn i s.heap->J.go i H ->
  Ay (model P w) X.A (HN (.ref it)) (fun r s1=>∃ u,r=Aa u /\
   Ay (model P w) X.A (F8 tg (.ref it) u) (fun _ s2=>∃ x H',Inv X pI σ H' s2/\BB x u/\J.yld i H x H'/\tn (i+1) s2.heap/\∀ b∈fp,H' b=Ae) E s1) E s
 done:∀(X:Cx),X.prog=P->X.w=w->X.K=K->X.calm=Ab->∀(i:Ag)(pI:Pn)(s:Ar)(σ:St)(H:Hp)(E:Vq),Inv X pI σ H s->(∀ b∈fp,Gn X pI H b)->tn i s.heap->J.stop i H ->
  Ay (model P w) X.A (HN (.ref it)) (fun r s1=>r=Ae/\Inv X pI σ H s1) E s
 self:∀(A:AZ)(i:Ag)(s:Ar)(Q:Vq)(E:Vq),tn i s.heap->Q (.ref it) s->Ay (model P w) A (KH (.ref it)) Q E s
abbrev TI:=St->Hp->(It->Hp->Prop)->Prop
noncomputable def PIE(X:Cx)(pI:Pn)(σ:St)(tg:Ap)(R:It->Hp->Prop)(itv:Ai)(s2:Ar):Prop:=
 ∃(it:Aj)(fp:Ad Aj)(tn:Ag->AD->Prop)(J:It)(H':Hp),itv=.ref it/\Inv X pI σ H' s2/\Turn X.prog X.w X.K tg J fp it tn/\tn 0 s2.heap/\(∀ b∈fp,Gn X pI H' b)/\R J H'
noncomputable def PI(X:Cx)(tg iter:Ap)(wi:TI):Prop:=
 ∀(pI:Pn)(s:Ar)(σ:St)(H:Hp)(R:It->Hp->Prop),Inv X pI σ H s->wi σ H R ->
  Ay (model X.prog X.w) X.A (eval iter X.env) (fun v s1=>Ay (model X.prog X.w) X.A (KH v) (PIE X pI σ tg R) X.xe s1) X.xe s
theorem Oj{A:AZ}{E:Vq}{n:Dv}{vs:Bl Ai}(ho:s.heap.get? it=Aa o)(hc:o.cls=.type n)(hd:o.data=.fields vs)(hn:["enumerate", "zip", "dict_itemiterator", "dict_reverseitemiterator", "odict_iterator", "itertools.zip_longest", "itertools.pairwise"].contains n=Ac)(hQ:Q () s):Ay M A (F8 tg (.ref it) u) Q E s:=by
  unfold F8;cases tg<;>first
    |exact AJ hQ
    | (cases u<;>first
        |exact AJ hQ
        | (refine Am (wpAny_load ho ?_)
           rw[hc,hd];show Ay M A (if (["enumerate", "zip", "dict_itemiterator", "dict_reverseitemiterator", "odict_iterator", "itertools.zip_longest", "itertools.pairwise"].contains n&&vs[0]? == Aa (DS _))=Ab then _ else _) Q E s
           rw[Az (by intro h;rw[hn,Bool.false_and]at h;cases h)]
           exact AJ hQ))
noncomputable def Itl(K:Fg)(a:Aj):It:=
 ⟨fun i H=>∃ xs x,SqL K H a xs/\xs[i]?=Aa x,fun i H x H'=>H'=H/\∀ xs,SqL K H a xs->xs[i]?=Aa x,fun i H=>∃ xs,SqL K H a xs/\xs.length<=i⟩
noncomputable def Itt(K:Fg)(a:Aj):It:=
 ⟨fun i H=>∃ xs x,SqT K H a xs/\xs[i]?=Aa x,fun i H x H'=>H'=H/\∀ xs,SqT K H a xs->xs[i]?=Aa x,fun i H=>∃ xs,SqT K H a xs/\xs.length<=i⟩
noncomputable def Itr(lo:Af)(n:Ag):It:=⟨fun i _=>i<n,fun i H x H'=>H'=H/\x=.int (lo+i),fun i _=>n<=i⟩
theorem Wo{w:AC}{K:Fg}(a it:Aj):Turn P w K tg (Itl K a) [it] it (fun i h=>h.IsListIter it a i) where
  mem:=by simp
  obj:=fun i h st b hb=>by
    have e:b=it:=by simpa using hb
    subst e;obtain⟨o,e,c,d⟩:=st;exact⟨o,e,fun v z=>by rw[d]at z;cases z⟩
  keep:=fun i h h' st k=>st.at fun o e=>k it (by simp) o e
  item:=by
    intro X hP hw hK hc i pI s σ H E I hf st hg;subst hP hw hK;obtain⟨xs,x,hq,hx⟩:=hg;obtain⟨its,rv,p,hz⟩:=I.list hq;obtain⟨u,hu,ru⟩:=rv.get hx;obtain⟨f0,f1,f2,f3,f4,f5⟩:=hf it (by simp)
    refine VI st p.isList (x:=u) (by simpa using hu) fun h' st' sb=>?_
    have I1:Inv X pI σ H {s with heap:=h'}:=I.turned (t':=s.toks) (fun b o hb e=>(sb.2 b hb).trans e) f0 f1 f3 f4 f5
    obtain⟨o,e,c,d⟩:=id st';exact⟨u,rfl,Oj (s:={s with heap:=h'}) e c d (by decide) ⟨x,H,I1,ru,⟨rfl,fun ys hy=>by rw[I.list_inj hy hq];exact hx⟩,st',fun b hb=>(hf b hb).1⟩⟩
  done:=by
    intro X hP hw hK hc i pI s σ H E I hf st hg;subst hP hw hK;obtain⟨xs,hq,hx⟩:=hg;obtain⟨its,rv,p,hz⟩:=I.list hq;obtain⟨f0,f1,f2,f3,f4,f5⟩:=hf it (by simp)
    have hl:=rv.length;exact VH (I.ok.hd hc) st p.isList (by simp;omega) fun h' eb=>⟨rfl,I.turned (t':=s.toks) (fun b o hb e=>eb b o hb e) f0 f1 f3 f4 f5⟩
  self:=fun _ _ _ _ _ st h=>wpAny_pyIter_listiter st h
theorem V5{w:AC}{K:Fg}(a it:Aj):Turn P w K tg (Itt K a) [it] it (fun i h=>h.IsTupleIter it a i) where
  mem:=by simp
  obj:=fun i h st b hb=>by
    have e:b=it:=by simpa using hb
    subst e;obtain⟨o,e,c,d⟩:=st;exact⟨o,e,fun v z=>by rw[d]at z;cases z⟩
  keep:=fun i h h' st k=>st.at fun o e=>k it (by simp) o e
  item:=by
    intro X hP hw hK hc i pI s σ H E I hf st hg;subst hP hw hK;obtain⟨xs,x,hq,hx⟩:=hg;obtain⟨its,rv,p,hz⟩:=I.tuple hq;obtain⟨u,hu,ru⟩:=rv.get hx;obtain⟨f0,f1,f2,f3,f4,f5⟩:=hf it (by simp)
    refine wpAny_pyNext_tuple_item st (show s.heap.IsTuple a its.toArray from p) (x:=u) (by simpa using hu) fun h' st' sb=>?_
    have I1:Inv X pI σ H {s with heap:=h'}:=I.turned (t':=s.toks) (fun b o hb e=>(sb.2 b hb).trans e) f0 f1 f3 f4 f5
    obtain⟨o,e,c,d⟩:=id st';exact⟨u,rfl,Oj (s:={s with heap:=h'}) e c d (by decide) ⟨x,H,I1,ru,⟨rfl,fun ys hy=>by rw[I.tuple_inj hy hq];exact hx⟩,st',fun b hb=>(hf b hb).1⟩⟩
  done:=by
    intro X hP hw hK hc i pI s σ H E I hf st hg;subst hP hw hK;obtain⟨xs,hq,hx⟩:=hg;obtain⟨its,rv,p,hz⟩:=I.tuple hq;obtain⟨f0,f1,f2,f3,f4,f5⟩:=hf it (by simp)
    have hl:=rv.length;exact wpAny_pyNext_tuple_end (I.ok.hd hc) st (show s.heap.IsTuple a its.toArray from p) (by simp;omega) fun h' eb=>⟨rfl,I.turned (t':=s.toks) (fun b o hb e=>eb b o hb e) f0 f1 f3 f4 f5⟩
  self:=fun _ _ _ _ _ st h=>wpAny_pyIter_tupleiter st h
theorem V6{w:AC}{K:Fg}(it:Aj)(lo:Af)(n:Ag):Turn P w K tg (Itr lo n) [it] it (fun i h=>IsRangeIter h it (lo+(i:Ag)*1) ((n:Af)-(i:Ag)) 1) where
  mem:=by simp
  obj:=fun i h st b hb=>by
    have e:b=it:=by simpa using hb
    subst e;exact⟨_,st,fun v z=>by
      have z':Data.fields _=Kx v:=z;cases z'⟩
  keep:=fun i h h' st k=>k it (by simp) _ st
  item:=by
    intro X hP hw hK hc i pI s σ H E I hf st hg;subst hP hw hK;obtain⟨f0,f1,f2,f3,f4,f5⟩:=hf it (by simp)
    have W:=Walks.range (prog:=X.prog) (w:=X.w) (I.ok.hd hc) it lo 1 n;refine W.item i s _ _ hg st fun v h' tk hv st' kk=>?_
    obtain⟨t,rfl⟩:=hv;have I1:Inv X pI σ H {s with heap:=h',toks:=tk}:=I.turned (fun b o hb e=>kk b o (by simpa using hb) e) f0 f1 f3 f4 f5
    refine⟨_,rfl,Oj (s:={s with heap:=h',toks:=tk}) (n := "range_iterator") st' rfl rfl (by decide) ⟨.int (lo+i),H,I1,⟨t,?_⟩,⟨rfl,rfl⟩,st',fun b hb=>(hf b hb).1⟩⟩
    rw[EH]
  done:=by
    intro X hP hw hK hc i pI s σ H E I hf st hg;subst hP hw hK;obtain⟨f0,f1,f2,f3,f4,f5⟩:=hf it (by simp)
    exact wpAny_pyNext_range_end (I.ok.hd hc) st (by have:n<=i:=hg;omega) fun h' eb=>⟨rfl,I.turned (t':=s.toks) (fun b o hb e=>eb b o hb e) f0 f1 f3 f4 f5⟩
  self:=fun _ _ _ _ _ st h=>wpAny_pyIter_rangeiter st h
section
variable{X:Cx}{tg:Ap}
theorem Qr{R:It->Hp->Prop}{E:Vq}{lo hi:Af}{t u v:CM}{tk:Ag}(I:Inv X pI σ H s)(h1:-(2 ^ 62)<=lo)(h2:lo<2 ^ 62)(h3:-(2 ^ 62)<=hi)(h4:hi<2 ^ 62)(q:R (Itr lo (hi-lo).toNat) H):Ay (model X.prog X.w) X.A (KH (.ref s.heap.objs.size)) (PIE X pI σ tg R) E { s with heap:=s.heap.push { cls:=.type "range", data:=.fields #[.int lo t,.int hi u,.int 1 v] },toks:=tk }:=by
 refine wpAny_pyIter_range (IsRange.new ..) (small_one h1 h2 h3 h4) ?_;have I1:Inv X pI σ H { s with heap:=s.heap.push { cls:=.type "range", data:=.fields #[.int lo t,.int hi u,.int 1 v] },toks:=tk }:=I.kept fun b o e=>Au _ e
 refine⟨(s.heap.push { cls:=.type "range", data:=.fields #[.int lo t,.int hi u,.int 1 v] }).objs.size,[(s.heap.push { cls:=.type "range", data:=.fields #[.int lo t,.int hi u,.int 1 v] }).objs.size],_,_,H,rfl,
  I1.kept (t':=tk) fun b o e=>Au _ e,V6 _ lo (hi-lo).toNat,?_,fun b hb=>?_,q⟩
 ·have e1:lo+((0:Ag):Af)*1=lo:=by simp
  have e2:(((hi-lo).toNat:Ag):Af)-((0:Ag):Af)=Builtin.Range.rangeSize lo hi 1:=by rw[rangeSize_one];split<;>omega
  show IsRangeIter _ _ (lo+((0:Ag):Af)*1) ((((hi-lo).toNat:Ag):Af)-((0:Ag):Af)) 1;rw[e1,e2];exact AN _ rfl
 ·have e:b=(s.heap.push { cls:=.type "range", data:=.fields #[.int lo t,.int hi u,.int 1 v] }).objs.size:=by simpa using hb
  subst e;exact I1.fpOk (AY _) (I1.hok.fresh (AY _))
def jF(ta:TA):TI:=fun σ H R=>ta σ H fun vs H1=>∃ j:Af,vs=[.int j]/\-(2 ^ 62)<=j/\j<2 ^ 62/\R (Itr 0 j.toNat) H1
def jE(ta:TA):TI:=fun σ H R=>ta σ H fun vs H1=>∃ i j:Af,vs=[.int i,.int j]/\(-(2 ^ 62)<=i/\i<2 ^ 62/\-(2 ^ 62)<=j/\j<2 ^ 62)/\R (Itr i (j-i).toNat) H1
theorem Wk{a:Ap}(hg:Gl X "range")(hm:X.mg "range" = Ae)(ha:PA X [a] ta)(hs:AA [a] X.env=[(Ac,eval a X.env)]:=by rfl):PI X tg (.Call (.Name "range" p) [a] [] pos) (jF ta):=by
 intro pI s σ H R I h;refine Call_ (Jt I hg hm boot_range (CT (thn (ha pos pI s σ H _ I h) fun us s1 ⟨vs,H1,I1,r1,q1⟩=>?_) hs rfl))
 obtain⟨j,e,q1,q2,q⟩:=q1;subst e;cases r1 with
 |cons r rr=>
  cases rr;obtain⟨t,rfl⟩:=r;exact call_range_1 (Qr I1 (by omega) (by omega) q1 q2 (by simpa using q))
theorem Wj{a b:Ap}(hg:Gl X "range")(hm:X.mg "range" = Ae)(ha:PA X [a,b] ta)(hs:AA [a,b] X.env=[(Ac,eval a X.env),(Ac,eval b X.env)]:=by rfl)(hs2:AA [b] X.env=[(Ac,eval b X.env)]:=by rfl):
  PI X tg (.Call (.Name "range" p) [a,b] [] pos) (jE ta):=by
 intro pI s σ H R I h;refine Call_ (Jt I hg hm boot_range (CT (thn (ha pos pI s σ H _ I h) fun us s1 ⟨vs,H1,I1,r1,q1⟩=>?_) (by rw[hs,hs2]) (by rw[hs2];rfl)))
 obtain⟨i,j,e,⟨q1,q2,q3,q4⟩,q⟩:=q1;subst e;cases r1 with
 |cons r rr=>
  cases rr with
  |cons r' rr=>
   cases rr;obtain⟨t,rfl⟩:=r;obtain⟨t',rfl⟩:=r';exact call_range_2 (Qr I1 q1 q2 q3 q4 q)
def mI(wi:TI)(g:TG)(tb:TS):TS:=fun D σ H=>wi σ H fun J H1=>∃ W:Ag->Ag->St->Hp->Prop,(∃ m,W 0 m σ H1)/\∀ i m σ H,W i m σ H ->
 (J.stop i H/\D.nx σ H)\/(J.go i H/\∃ N:St->Hp->Prop,(∀ σ' H',N σ' H'->∃ m',m'<m/\W (i+1) m' σ' H')/\∀ x H',J.yld i H x H'->g x σ H' fun σ2 H2=>tb {D with nx:=N,ct:=N,bk:=D.nx} σ2 H2)
noncomputable def Jr(fp:Ad Aj)(h:AD):Pn:=fp.filterMap fun b=>(h.get? b).map fun o=>(b,o)
theorem LI(hb:b∈fp)(e:h.get? b=Aa o):(b,o)∈Jr fp h:=List.mem_filterMap.mpr ⟨b,hb,by rw[e];rfl⟩
theorem Pj{p:Aj×CW}(hp:p∈Jr fp h):p.1∈fp/\h.get? p.1=Aa p.2:=by
 obtain⟨b,hb,e⟩:=List.mem_filterMap.mp hp;cases q:h.get? b with
 |none=>rw[q]at e;cases e
 |some o=>
  rw[q]at e;have e':(b,o)=p:=Bf e;subst e';exact⟨hb,q⟩
theorem Inv.pinned(I:Inv X pI σ H s)(hf:∀ b∈fp,Gn X pI H b)(ho:∀ b∈fp,∃ o,s.heap.get? b=Aa o/\∀ v,o.data≠.cell v):Inv X (pI++Jr fp s.heap) σ H s:=
 I.pins_of fun p hp=>(Hn.mp hp).elim (fun z=>I.pin p (Br _ z)) fun z=>by
  obtain⟨hb,e⟩:=Pj z;obtain⟨f0,f1,f2,_⟩:=hf p.1 hb;obtain⟨o,e',d⟩:=ho p.1 hb;rw[e]at e';cases e';exact⟨e,f0,f1,f2,d⟩
theorem Inv.unpinned{pl:Pn}(I:Inv X (pI++pl) σ H s):Inv X pI σ H s:=I.pins_of fun p hp=>I.pin p (Br _ (FY _ hp))
theorem dX{iter:Ap}{wi:TI}{g:TG}{tb:TS}(hp:E4 (model X.prog X.w) X.A X.env X.xe)(hc:X.calm=Ab)(hi:PI X tg iter wi)(hg:PG X tg g)(hb:PSs X body tb)(hs:∀ x,CN iter X.env x=pure x:=by intro _;rfl):PS X (.For tg iter body [] pos) (mI wi g tb):=by
 intro pI s σ H D I h;refine wpAny_For (thn (hi pI s σ H _ I h) fun v s1 h1=>thn h1 fun itv s2 h2=>?_) hs
 obtain⟨it,fp,tn,J,H2,e,I2,T,st2,f2,W,⟨m0,w0⟩,turn⟩:=h2;subst e
 -- what stays Ab of the iterator's objects through the loop
 have stat:∀{H':Hp},(∀ b∈fp,H' b=Ae)->∀ b∈fp,Gn X pI H' b:=fun hn b hb=>⟨hn b hb,(f2 b hb).2⟩
 refine codeAny_forLoop_any (fun n s'=>∃ i σ' H',Inv X pI σ' H' s'/\tn i s'.heap/\(∀ b∈fp,H' b=Ae)/\W i n σ' H') ?_ m0 ⟨0,σ,H2,I2,st2,fun b hb=>(f2 b hb).1,w0⟩
 rintro n s3 ⟨i,σ3,H3,I3,st3,fr3,w3⟩;rcases turn i n σ3 H3 w3 with ⟨stop,qn⟩|⟨go,N,hN,step⟩
 ·refine EY hp (thn (T.done X rfl rfl rfl hc i pI s3 σ3 H3 X.xe I3 (stat fr3) st3 stop) fun r s4 ⟨hr,I4⟩=>?_)
  subst hr;exact EX ⟨σ3,H3,I4,qn⟩
 ·refine EY hp (thn (T.item X rfl rfl rfl hc i pI s3 σ3 H3 X.xe I3 (stat fr3) st3 go) fun r s4 ⟨u,hr,h4⟩=>?_)
  subst hr;refine EY hp (thn h4 fun _ s5 ⟨x,H5,I5,r5,y5,st5,fr5⟩=>?_)
  have I5':=I5.pinned (stat fr5) (T.obj _ _ st5);refine EY hp (thn (hg _ s5 σ3 H5 x u _ I5' r5 (step x H5 y5)) fun _ s6 ⟨σ6,H6,I6,q6⟩=>?_)
  refine EY hp (thn (hb _ s6 σ6 H6 _ I6 q6) fun f s7 q7=>?_)
  have again:∀{σ7:St}{H7:Hp},Inv X (pI++Jr fp s5.heap) σ7 H7 s7->N σ7 H7->∃ m,m<n/\∃ i σ' H',Inv X pI σ' H' s7/\tn i s7.heap/\(∀ b∈fp,H' b=Ae)/\W i m σ' H':=fun {σ7 H7} I7 n7=>by
   obtain⟨m',hm,w7⟩:=hN σ7 H7 n7;refine⟨m',hm,i+1,σ7,H7,I7.unpinned,T.keep _ _ _ st5 fun b hb o e=>(I7.pin (b,o) (Br _ (Br _ (LI hb e)))).1,fun b hb=>?_,w7⟩
   obtain⟨o,e,d⟩:=T.obj _ _ st5 b hb;exact(I7.pin (b,o) (Br _ (Br _ (LI hb e)))).2.1
  cases f with
  |next=>obtain⟨σ7,H7,I7,n7⟩:=q7;exact again I7 n7
  |cont=>obtain⟨σ7,H7,I7,n7⟩:=q7;exact again I7 n7
  |brk=>obtain⟨σ7,H7,I7,q7⟩:=q7;exact⟨σ7,H7,I7.unpinned,q7⟩
  |ret v=>obtain⟨x7,σ7,H7,I7,r7,q7⟩:=q7;exact⟨x7,σ7,H7,I7.unpinned,r7,q7⟩
end
abbrev R2:=V->V->Hp->VK->Prop
variable{r:R2}
noncomputable def OpR(X:Cx)(f:Ai->Ai->Sem Ai)(r:R2):Prop:=
 ∀(pI:Pn)(s:Ar)(σ:St)(H:Hp)(x y:V)(v u:Ai)(Q:VK),Inv X pI σ H s->BB x v->BB y u->r x y H Q ->
  Ay (model X.prog X.w) X.A (f v u) (EP X pI σ Q) X.xe s
noncomputable def Hd(X:Cx)(f:Ai)(r:Ad V->Hp->VK->Prop):Prop:=
 ∀(pI:Pn)(s:Ar)(σ:St)(H:Hp)(xs:Ad V)(us:Ad Ai)(Q:VK),Inv X pI σ H s->Bi xs us->r xs H Q ->
  Ay (model X.prog X.w) X.A (call f us) (EP X pI σ Q) X.xe s
noncomputable def mM(X:Cx)(r:V->Hp->(Ao->Hp->Prop)->Prop):Prop:=
 ∀(pI:Pn)(s:Ar)(σ:St)(H:Hp)(x:V)(v:Ai)(Q:Ao->Hp->Prop),Inv X pI σ H s->BB x v->r x H Q ->
  Ay (model X.prog X.w) X.A (truthy v) (TP X pI σ Q) X.xe s
def tOp(r:R2)(ta tb:TE):TE:=fun σ H Q=>ta σ H fun x H1=>tb σ H1 fun y H2=>r x y H2 Q
def rI(C:Af->Af->Prop)(g:Af->Af->V):R2:=fun x y H Q=>∃ i j,x=.int i/\y=.int j/\C i j/\Q (g i j) H
def rI0(g:Af->Af->V):R2:=fun x y H Q=>∃ i j,x=.int i/\y=.int j/\Q (g i j) H
section
variable{X:Cx}{a b c:Ap}{ta tb tc:TE}{pos:AM}
theorem ON(ha:PE X a ta)(hb:PE X b tb){R:V->V->Hp->Prop}(I:Inv X pI σ H s)(h:ta σ H fun x H1=>tb σ H1 fun y H2=>R x y H2){Q:Vq}(hf:∀ v u s2 x y H2,Inv X pI σ H2 s2->BB x v->BB y u->R x y H2->Ay (model X.prog X.w) X.A (f v u) Q X.xe s2):Ay (model X.prog X.w) X.A (eval a X.env) (fun v s₁=>Ay (model X.prog X.w) X.A (eval b X.env) (fun u s₂=>Ay (model X.prog X.w) X.A (f v u) Q X.xe s₂) X.xe s₁) X.xe s:=by
 refine thn (ha pI s σ H _ I h) fun v s1 ⟨x,H1,I1,r1,q1⟩=>?_
 refine thn (hb pI s1 σ H1 _ I1 q1) fun u s2 ⟨y,H2,I2,r2,q2⟩=>?_
 exact hf v u s2 x y H2 I2 r1 r2 q2
theorem SQ{op:G2}(ho:OpR X (BZ op) r)(ha:PE X a ta)(hb:PE X b tb):PE X (.BinOp a op b pos) (tOp r ta tb):=by
 intro pI s σ H Q I h;exact wpAny_BinOp (ON ha hb I h fun v u s2 x y H2 I2 rx ry q=>ho pI s2 σ H2 x y v u Q I2 rx ry q)
theorem opI{C:Af->Af->Prop}(rule:∀(i j:Af)(t u:CM)(s:Ar)(Q:Vq)(E:Vq),C i j->Q (.int (g i j) s.toks) {s with toks:=s.toks+1}->Ay (model X.prog X.w) X.A (f (.int i t) (.int j u)) Q E s):OpR X f (rI C fun i j=>.int (g i j)):=by
 intro pI s σ H x y v u Q I rx ry h;obtain⟨i,j,rfl,rfl,hc,q⟩:=h;obtain⟨t,rfl⟩:=rx;obtain⟨t',rfl⟩:=ry;exact rule i j t t' s _ _ hc ⟨.int (g i j),H,I.tok _,⟨_,rfl⟩,q⟩
theorem Tu(rule:∀(i j:Af)(t u:CM)(s:Ar)(Q:Vq)(E:Vq),Q (.int (g i j) s.toks) {s with toks:=s.toks+1}->Ay (model X.prog X.w) X.A (f (.int i t) (.int j u)) Q E s):OpR X f (rI0 fun i j=>.int (g i j)):=by
 intro pI s σ H x y v u Q I rx ry h;obtain⟨i,j,rfl,rfl,q⟩:=h;obtain⟨t,rfl⟩:=rx;obtain⟨t',rfl⟩:=ry;exact rule i j t t' s _ _ ⟨.int (g i j),H,I.tok _,⟨_,rfl⟩,q⟩
theorem Mu{g:Af->Af->Ao}(rule:∀(i j:Af)(t u:CM)(s:Ar)(Q:Vq)(E:Vq),Q (.bool (g i j)) s->Ay (model X.prog X.w) X.A (f (.int i t) (.int j u)) Q E s):OpR X f (rI0 fun i j=>.bl (g i j)):=by
 intro pI s σ H x y v u Q I rx ry h;obtain⟨i,j,rfl,rfl,q⟩:=h;obtain⟨t,rfl⟩:=rx;obtain⟨t',rfl⟩:=ry;exact rule i j t t' s _ _ ⟨.bl (g i j),H,I,rfl,q⟩
def mR(i j:Af):Prop:=0<j/\j<1073741824
def mQ(i j:Af):Prop:=0<=j/\j<=1000000/\i.natAbs<2 ^ 64
def Mz(i j:Af):Prop:=(-(2 ^ 64)<i/\i<2 ^ 64)\/(-(2 ^ 64)<j/\j<2 ^ 64)
theorem Mz.ok{i j:Af}(h:Mz i j):KC i j:=by
 rcases h with ⟨h1,h2⟩|⟨h1,h2⟩
 ·exact .of_left (intBits_le_64 h1 h2)
 ·exact .of_right (intBits_le_64 h1 h2)
theorem cU:OpR X (BZ .Add) (rI0 fun i j=>.int (i+j)):=Tu fun _ _ _ _ _ _ _ q=>add_int q
theorem cQ:OpR X (BZ .Sub) (rI0 fun i j=>.int (i-j)):=Tu fun _ _ _ _ _ _ _ q=>sub_int q
theorem Zy:OpR X (BZ .FloorDiv) (rI mR fun i j=>.int (i / j)):=opI fun i j _ _ _ _ _ hc q=>by
 have h1:(0:Af)<j:=hc.1;have h2:j<1073741824:=hc.2;exact floordiv_int (by omega) (by rw[Int.fdiv_eq_ediv_of_nonneg i (by omega)];exact q) (.inl (PyProof.noPylong_small (by omega)))
theorem cS:OpR X (BZ .Mod) (rI (fun _ j=>0<j) fun i j=>.int (i%j)):=opI fun i j _ _ _ _ _ hc q=>by
 have h1:(0:Af)<j:=hc;exact mod_int' (by omega) (by rw[Int.fmod_eq_emod_of_nonneg i (by omega)];exact q)
theorem cR:OpR X (BZ .Pow) (rI mQ fun i j=>.int (i ^ j.toNat)):=opI fun _ _ _ _ _ _ _ hc q=>pow_int_small hc.1 hc.2.1 hc.2.2 q
end
section
variable{X:Cx}{a b c:Ap}{ta tb tc:TE}{pos:AM}
theorem RU{Q:VK}{k k':Ao}(I:Inv X pI σ H s)(q:Q (.bl k) H)(e:k=k'):EP X pI σ Q (.bool k') s:=by
 subst e;exact⟨.bl k,H,I,rfl,q⟩
theorem jG:OpR X (Ct .Lt) (rI0 fun i j=>.bl (decide (i<j))):=Mu fun _ _ _ _ _ _ _ q=>lt_int q
theorem jH:OpR X (Ct .LtE) (rI0 fun i j=>.bl (decide (i<=j))):=Mu fun _ _ _ _ _ _ _ q=>le_int q
theorem jI:OpR X (Ct .Gt) (rI0 fun i j=>.bl (decide (j<i))):=Mu fun _ _ _ _ _ _ _ q=>gt_int q
theorem jJ:OpR X (Ct .GtE) (rI0 fun i j=>.bl (decide (j<=i))):=Mu fun _ _ _ _ _ _ _ q=>ge_int q
theorem cT:OpR X (Ct .Is) (fun x y H Q=>y=.non/\Q (.bl (decide (x=.non))) H):=by
 intro pI s σ H x y v u Q I rx ry h;obtain⟨rfl,q⟩:=h;cases ry;refine is_none_gen (RU I q ?_);cases x<;>first
  |(cases rx;rfl)
  |(obtain⟨t,rfl⟩:=rx;rfl)
theorem Zw:OpR X (Ct .IsNot) (fun x y H Q=>y=.non/\Q (.bl (!decide (x=.non))) H):=by
 intro pI s σ H x y v u Q I rx ry h;obtain⟨rfl,q⟩:=h;cases ry;refine isnot_none_gen (RU I q ?_);cases x<;>first
  |(cases rx;rfl)
  |(obtain⟨t,rfl⟩:=rx;rfl)
theorem Zp(ho:OpR X (Ct op) r)(ha:PE X a ta)(hb:PE X b tb)(hm:GA op b=Ac):PE X (.Compare a [op] [b] pos) (tOp r ta tb):=by
 intro pI s σ H Q I h;exact wpAny_Compare1 (ON ha hb I h fun v u s2 x y H2 I2 rx ry q=>ho pI s2 σ H2 x y v u Q I2 rx ry q) hm
def Sk(t:TE):TT:=fun σ H Q=>t σ H fun x H'=>∃ k,x=.bl k/\Q k H'
theorem Zg(ho:OpR X (Ct op) r)(ha:PE X a ta)(hb:PE X b tb)(hm:GA op b=Ac):PT X (.Compare a [op] [b] pos) (Sk (tOp r ta tb)):=by
 intro pI s σ H Q I h;refine wpAny_isTrue_Compare1 (thn (ha pI s σ H _ I h) fun v s1 ⟨x,H1,I1,r1,q1⟩=>thn (hb pI s1 σ H1 _ I1 q1) fun u s2 ⟨y,H2,I2,r2,q2⟩=>
  thn (ho pI s2 σ H2 x y v u _ I2 r1 r2 q2) fun c s3 ⟨z,H3,I3,r3,k,e,q3⟩=>?_) hm
 subst e;cases r3;exact Cu ⟨H3,I3,q3⟩
def R5(r r':R2)(ta tb tc:TE):TE:=fun σ H Q=>ta σ H fun x H1=>tb σ H1 fun y H2=>r x y H2 fun z H3=>∃ k,z=.bl k /\
 (if k=Ab then tc σ H3 fun w' H4=>r' y w' H4 Q else Q (.bl Ac) H3)
theorem W9{op':D0}{r':R2}(ho:OpR X (Ct op) r)(ho':OpR X (Ct op') r')(ha:PE X a ta)(hb:PE X b tb)(hc:PE X c tc)(hm:IC [op,op'] [b,c]=Ac:=by with_unfolding_all rfl):PE X (.Compare a [op,op'] [b,c] pos) (R5 r r' ta tb tc):=by
 intro pI s σ H Q I h;refine Compare_chain (thn (ha pI s σ H _ I h) fun v s1 ⟨x,H1,I1,r1,q1⟩=>chain_link (thn (hb pI s1 σ H1 _ I1 q1) fun u s2 ⟨y,H2,I2,r2,q2⟩=>
  thn (ho pI s2 σ H2 x y v u _ I2 r1 r2 q2) fun d s3 ⟨z,H3,I3,r3,k,e,q3⟩=>?_)) hm
 subst e;cases r3;refine Cu ?_;cases k with
 |false=>exact ite_ff ⟨.bl Ac,H3,I3,rfl,q3⟩
 |true=>exact ite_tt (chain_last (thn (hc pI s3 σ H3 _ I3 q3) fun w' s4 ⟨z',H4,I4,r4,q4⟩=>ho' pI s4 σ H4 y z' u w' Q I4 r2 r4 q4))
theorem W5{op':D0}{r':R2}(ho:OpR X (Ct op) r)(ho':OpR X (Ct op') r')(ha:PE X a ta)(hb:PE X b tb)(hc:PE X c tc)(hm:IC [op,op'] [b,c]=Ac:=by with_unfolding_all rfl):PT X (.Compare a [op,op'] [b,c] pos) (Sk (R5 r r' ta tb tc)):=by
 intro pI s σ H Q I h;refine isTrue_chain (thn (ha pI s σ H _ I h) fun v s1 ⟨x,H1,I1,r1,q1⟩=>test_link (thn (hb pI s1 σ H1 _ I1 q1) fun u s2 ⟨y,H2,I2,r2,q2⟩=>
  thn (ho pI s2 σ H2 x y v u _ I2 r1 r2 q2) fun d s3 ⟨z,H3,I3,r3,k,e,q3⟩=>?_)) hm
 subst e;cases r3;refine Cu ?_;cases k with
 |false=>
  obtain⟨k',e',q'⟩:=q3;cases e';exact ite_ff ⟨H3,I3,q'⟩
 |true=>
  refine ite_tt (test_last (thn (hc pI s3 σ H3 _ I3 q3) fun w' s4 ⟨z',H4,I4,r4,q4⟩=>thn (ho' pI s4 σ H4 y z' u w' _ I4 r2 r4 q4) fun d' s5 ⟨z2,H5,I5,r5,k2,e2,q5⟩=>?_))
  subst e2;cases r5;exact Cu ⟨H5,I5,q5⟩
noncomputable def TL(K:Fg)(x:V)(H:Hp)(k:Ao):Prop:=
  match x with
  |.non=>k=Ac
  |.bl b=>k=b
  |.int i=>k=(i != 0)
  |.str y=>y.length<=sizeLine/\k=((y.length:Af) != 0)
  |.byt y=>y.size<=sizeLine/\k=((y.size:Af) != 0)
  |.ref p=>(∃ xs,SqL K H p xs/\k=!xs.isEmpty)\/(∃ xs,SqT K H p xs/\k=!xs.isEmpty)\/∃ kvs,H p=Aa (.dK kvs)/\k=!kvs.isEmpty
  |_=>AS
theorem V0{κ:Type}{kvs:Ad (κ×V)}{vs:Ad (κ×Ai)}(r:KV kvs vs):(!vs.isEmpty)=!kvs.isEmpty:=by
 cases r<;>rfl
theorem Pp{its:Ad Ai}(r:Bi xs its):(!its.toArray.isEmpty)=!xs.isEmpty:=by
 cases r<;>simp
theorem Kd:(sizeLine:Ag)<2 ^ 63:=by rw[Ds];decide
theorem bT:mM X (fun x H Q=>∃ k,TL X.K x H k/\Q k H):=by
 intro pI s σ H x v Q I rx h;obtain⟨k,e,q⟩:=h;have hl:=Kd;have hs:sizeLine=16777216:=Ds;cases x with
 |non=>
  cases rx;have e':k=Ac:=e;subst e';exact truthy_none ⟨H,I,q⟩
 |bl b=>
  cases rx;have e':k=b:=e;subst e';exact Cu ⟨H,I,q⟩
 |int i=>
  obtain⟨t,rfl⟩:=rx;have e':k=(i != 0):=e;subst e';exact PySem.P.truthy_int ⟨H,I,q⟩
 |str y=>
  obtain⟨t,rfl⟩:=rx;obtain⟨hy,e'⟩:y.length<=sizeLine/\k=((y.length:Af) != 0):=e;subst e';exact PySem.P.truthy_str (by omega) ⟨H,I.tok _,q⟩
 |byt y=>
  obtain⟨t,rfl⟩:=rx;obtain⟨hy,e'⟩:y.size<=sizeLine/\k=((y.size:Af) != 0):=e;subst e';exact PySem.W.truthy_bytes (by omega) ⟨H,I.tok _,q⟩
 |ref p=>
  cases rx;have e':(∃ xs,SqL X.K H p xs/\k=!xs.isEmpty)\/(∃ xs,SqT X.K H p xs/\k=!xs.isEmpty)\/∃ kvs,H p=Aa (.dK kvs)/\k=!kvs.isEmpty:=e;rcases e' with ⟨xs,hx,e'⟩|⟨xs,hx,e'⟩|⟨kvs,hx,e'⟩
  ·subst e';obtain⟨its,r,pl,hz⟩:=I.list hx;have hlen:=r.length;exact wpAny_truthy_list pl.isList (by simp only[AO];omega) ⟨H,I.tok _,by rw[Pp r];exact q⟩
  ·subst e';obtain⟨its,r,pl,hz⟩:=I.tuple hx;have hlen:=r.length;exact truthy_tuple pl (by simp only[AO];omega) ⟨H,I.tok _,by rw[Pp r];exact q⟩
  ·subst e';obtain⟨hz,hS,vs,r,m⟩:kvs.length<=sizeLine/\(p==JK)=Ac/\∃ vs,KV kvs vs/\s.heap.DictOf (ND X.prog X.w) p vs:=I.hok p _ hx;have hlen:kvs.length=vs.length:=Vd r;exact wpAny_truthy_dict hS m (by omega) ⟨H,I.tok _,by rw[V0 r];exact q⟩
 |_=>exact(show AS from e).elim
theorem W4(ha:PE X a ta)(he:∀ whole,HK a X.env whole=(do let v <-whole;IV a.pos;holding [v] (truthy v))):PT X a (fun σ H Q=>ta σ H fun x H'=>∃ k,TL X.K x H' k/\Q k H'):=by
 intro pI s σ H Q I h;exact isTrue_plain (thn (ha pI s σ H _ I h) fun v s1 ⟨x,H1,I1,r1,q1⟩=>bT pI s1 σ H1 x v Q I1 r1 q1) (he _)
theorem V9:OpR X (BZ .Add) (fun x y H Q=>∃ i j,x=.str i/\y=.str j/\i.length+j.length<=sizeLine/\Q (.str (i++j)) H):=by
 intro pI s σ H x y v u Q I rx ry h;obtain⟨i,j,rfl,rfl,hz,q⟩:=h;obtain⟨t,rfl⟩:=rx;obtain⟨t',rfl⟩:=ry;exact add_str (fun t' tk=>⟨.str (i++j),H,I.tok _,⟨_,rfl⟩,q⟩) hz
theorem He{x:V}(r:Bi [x] us):∃ u,us=[u]/\BB x u:=by
 cases r with
 |cons r1 r2=>cases r2;exact⟨_,rfl,r1⟩
theorem Jv{x y:V}(r:Bi [x,y] us):∃ u w',us=[u,w']/\BB x u/\BB y w':=by
 cases r with
 |cons r1 r2=>
  cases r2 with
  |cons r3 r4=>cases r4;exact⟨_,_,rfl,r1,r3⟩
theorem WB(hc:X.calm=Ab):Hd X (.builtin "max") (fun xs H Q=>∃ i j,xs=[.int i,.int j]/\Q (.int (if j > i then j else i)) H):=by
 intro pI s σ H xs us Q I r h;obtain⟨i,j,rfl,q⟩:=h;obtain⟨u,w',rfl,⟨t,rfl⟩,⟨t',rfl⟩⟩:=Jv r;refine max_two_ints (I.ok.hd hc) fun h' tk k=>⟨_,H,I.kept k,?_,q⟩
 by_cases hj:j > i
 ·rw[Aw hj,Aw hj];exact⟨_,rfl⟩
 ·rw[Az hj,Az hj];exact⟨_,rfl⟩
theorem WA(hc:X.calm=Ab):Hd X (.builtin "min") (fun xs H Q=>∃ i j,xs=[.int i,.int j]/\Q (.int (if j<i then j else i)) H):=by
 intro pI s σ H xs us Q I r h;obtain⟨i,j,rfl,q⟩:=h;obtain⟨u,w',rfl,⟨t,rfl⟩,⟨t',rfl⟩⟩:=Jv r;refine min_two_ints (I.ok.hd hc) fun h' tk k=>⟨_,H,I.kept k,?_,q⟩
 by_cases hj:j<i
 ·rw[Aw hj,Aw hj];exact⟨_,rfl⟩
 ·rw[Az hj,Az hj];exact⟨_,rfl⟩
end
section
variable{prog:AR}{w:AC}{A:AZ}{E:Vq}{s:Ar}{K:Fg}{x dx C f:Aj}{mA:Ah->An Ai}{name:Ah}{v:Ai}
end
theorem Ls.some_of{o:An Ai}(r:Ls (Aa v) o):∃ u,o=Aa u/\BB v u:=by
 cases o with
 |none=>exact(show AS from r).elim
 |some u=>exact⟨u,rfl,r⟩
theorem WO(r:BB v u):PySem.W.handedIn u=Ab:=by
 cases v with
 |non=>cases (show u=Dr from r);rfl
 |bl b=>cases (show u=JG b from r);rfl
 |int i=>obtain⟨t,e⟩:=(show ∃ t,u=Ky i t from r);cases e;rfl
 |str x=>obtain⟨t,e⟩:=(show ∃ t,u=Kz x t from r);cases e;rfl
 |byt b=>obtain⟨t,e⟩:=(show ∃ t,u=Vk b t from r);cases e;rfl
 |flt b=>obtain⟨t,e⟩:=(show ∃ t,u=Vl b t from r);cases e;rfl
 |ref a=>cases (show u=Ci a from r);rfl
 |ty n=>cases (show u=JH n from r);rfl
section
variable{P:AR}{w:AC}{H H':Hp}{h h':AD}{a C dx:Aj}{fs fs':Ad (Ah×V)}
end
section
variable{X:Cx}{pI:Pn}{σ:St}{H:Hp}{s:Ar}{a C dx:Aj}{fs:Ad (Ah×V)}{f:Ah}{v:V}{A:AZ}{E:Vq}
theorem ZK{prog:AR}{w:AC}{env:B5}{f:Ah}{Q:Vq}(hb:attributeBase e f env (eval e env)=eval e env)(h:Ay (model prog w) A (eval e env) (fun o s₁=>Ay (model prog w) A (getAttr o f Ab) Q E s₁) E s):Ay (model prog w) A (eval (.Attribute e f pos) env) Q E s:=
 Attribute_any_ h (by rw[arm_eval_Attribute,hb])
end
section
variable{X:Cx}{o e value:Ap}{f:Ah}{pos pos' tpos:AM}{ta tv:TE}
end
section
variable{X:Cx}{pI:Pn}{σ:St}{H:Hp}{s:Ar}{A:AZ}{E:Vq}{Q:Vq}{c:Ai}{b:Ao}
end
structure Room (k:Ag) (A:AZ):Prop where
 hd:A.handled=Ae
 dp:A.depth+3*k+5<Gi
 un:A.units+16*k+200<BY
 gd:A.guards=Aa []
theorem Room.mono{j:Ag}{A:AZ}(r:Room k A)(h:j<=k):Room j A:=⟨r.hd,by have:=r.dp;omega,by have:=r.un;omega,r.gd⟩
theorem Room.deeper{A:AZ}(r:Room (k+1) A)(env:B5):Room k (A.deeper env):=
 ⟨r.hd,by have:=r.dp;show A.depth+1+3*k+5<_;omega,by have:=r.un;show A.units+3+16*k+200<_;omega,r.gd⟩
theorem VY{A:AZ}{C:Aj}:(A.under (.builtin "type.__call__" ⟨.ref C::us,kw⟩)).depth=A.depth+1:=by
 first|rfl|simp[Ir,Code.weight,Code.isCreation,Code.isGuard,Code.isCaller,UW,Iu,guardIds]
theorem VW{A:AZ}{C:Aj}:(A.under (.builtin "type.__call__" ⟨.ref C::us,kw⟩)).units=A.units+1:=by
 first|rfl|simp[Ir,Code.cUnits,UW,Iu]
theorem Room.depth{A:AZ}(r:Room k A):A.depth<Gi:=by have:=r.dp;omega
theorem Room.units{A:AZ}(r:Room k A):A.units+64<BY:=by have:=r.un;omega
def mF:TA:=fun _ H Q=>Q [] H
def gH(ta:TE)(tr:TA):TA:=fun σ H Q=>ta σ H fun x H1=>tr σ H1 fun xs H2=>Q (x::xs) H2
section
variable{X:Cx}{e:Ap}{es:Ad Ap}{te:TE}{t:TA}{pos:AM}
theorem GC:PA X [] mF:=fun _ _ _ _ H Q I h=>Calls.spliced_nil ⟨[],H,I,.nil,h⟩
theorem Et(ha:PE X e te)(hr:PA X es t)(hs:AA (e::es) X.env=(Ac,eval e X.env)::AA es X.env:=by rfl):PA X (e::es) (gH te t):=by
 intro pos pI s σ H Q I h;rw[hs];show Ay _ _ (spliced ((Ac,eval e X.env)::B8 pos (AA es X.env))) _ _ s;refine Calls.spliced_cons (thn (ha pI s σ H _ I h) fun u s1 ⟨x,H1,I1,r1,q1⟩=>?_)
 exact thn (hr pos pI s1 σ H1 _ I1 q1) fun us s2 ⟨xs,H2,I2,r2,q2⟩=>⟨x::xs,H2,I2,.cons r1 r2,q2⟩
def lZ(t:TA):TE:=fun σ H Q=>t σ H fun xs H1=>xs.length<=sizeLine/\∀ p,H1 p=Ae->Q (.ref p) (upd H1 p (.tup xs))
def mG(t:TA):TE:=fun σ H Q=>t σ H fun xs H1=>xs.length<=sizeLine/\∀ p,H1 p=Ae->Q (.ref p) (upd H1 p (.lst xs))
theorem RH{x1}(h:PA X es t):PE X (.Tuple es x1 pos) (lZ t):=by
 intro pI s σ H Q I hq;refine wpAny_Tuple_spliced (thn (h pos pI s σ H _ I hq) fun us s1 ⟨xs,H1,I1,r,z,q⟩=>⟨by rw[<-r.length];exact z,?_⟩)
 have hf:H1 s1.heap.objs.size=Ae:=I1.hok.fresh (AY _);refine⟨.ref s1.heap.objs.size,upd H1 s1.heap.objs.size (.tup xs),I1.laid (t':=s1.toks) (fun b u e=>Au _ e) (AY _) ?_,rfl,q _ hf⟩
 exact⟨z,us,r,⟨_,AN _ rfl,rfl,_,rfl⟩⟩
theorem cN(h:PA X es t):PE X (.List es pos) (mG t):=by
 intro pI s σ H Q I hq;refine wpAny_List_spliced (thn (h pos pI s σ H _ I hq) fun us s1 ⟨xs,H1,I1,r,z,q⟩=>⟨by rw[<-r.length];exact z,?_⟩)
 have hf:H1 s1.heap.objs.size=Ae:=I1.hok.fresh (AY _);refine⟨.ref s1.heap.objs.size,upd H1 s1.heap.objs.size (.lst xs),I1.laid (t':=s1.toks) (fun b u e=>Au _ e) (AY _) ?_,rfl,q _ hf⟩
 exact⟨z,us,0,r,AN _ rfl⟩
end
abbrev Sp:=Ad V->Hp->VK->XK->Prop
variable{sp:Sp}
abbrev CXT:=Ad B5->Hp->Ar->XK->Ai->Ar->Prop
variable{CX:CXT}
structure Env0 (P:AR) (w:AC) (K:Fg) (mg:Ah->An Ai) (base:AD) (A:AZ) (outer:Ad B5) (s:Ar) (H:Hp):Prop where
 frames:A.frames=Aa outer
 mod:Mod K mg base
 bs:∀ b o,base.get? b=Aa o->s.heap.get? b=Aa o/\H b=Ae
 bsz:base.objs.size<=s.heap.objs.size
 funs:s.heap.FunFrames base outer
 frf:∀ b∈frs outer,H b=Ae
 hok:HOk P w H s.heap
 bare:Fh s.gens
noncomputable def CE(outer:Ad B5)(P:AR)(w:AC)(H:Hp)(s:Ar)(Q:VK)(u:Ai)(s':Ar):Prop:=
 ∃ v H',s'.os=s.os/\Fh s'.gens/\Un (frs outer) [] H H' s.heap s'.heap/\HOk P w H' s'.heap/\BB v u/\Q v H'
noncomputable def CR(CX:CXT)(outer:Ad B5)(P:AR)(w:AC)(H:Hp)(s:Ar)(Q:VK)(E:XK)(r:Iw)(s':Ar):Prop:=
  match r with
  |.ok (.ret u)=>CE outer P w H s Q u s'
  |.ok _=>AS
  |.error e=>CX outer H s E e s'
structure FnOk (P:AR) (w:AC) (K:Fg) (mg:Ah->An Ai) (base:AD) (CX:CXT) (k:Ag) (f:Aj) (fd:BP) (ps:Ad Ah) (sp:Sp):Prop where
 len:∀ vs H Q E,sp vs H Q E->vs.length=ps.length
 run:∀(A:AZ)(outer:Ad B5)(s:Ar)(H:Hp)(args:Args)(us:Ad Ai)(vs:Ad V)(Q:VK)(E:XK),Room k A->Env0 P w K mg base A outer s H->FV s fd args (ps.zip us)->Bi vs us->sp vs H Q E ->
  Fi (model P w) A (.call (.ref f) args) (CR CX outer P w H s Q E) s
theorem FnOk.imp{w:AC}{K:Fg}{mg:Ah->An Ai}{base:AD}{f:Aj}{sp':Sp}(F:FnOk P w K mg base CX k f fd ps sp)(h:∀ vs H Q E,sp' vs H Q E->sp vs H Q E):FnOk P w K mg base CX k f fd ps sp':=
 ⟨fun vs H Q E q=>F.len vs H Q E (h _ _ _ _ q),fun A outer s H args us vs Q E hr he hb hv hs=>F.run A outer s H args us vs Q E hr he hb hv (h _ _ _ _ hs)⟩
theorem Env0.make{w:AC}{K:Fg}{mg:Ah->An Ai}{base:AD}{A:AZ}{outer:Ad B5}(e:Env0 P w K mg base A outer s H)(C:Aj)(us:Ad Ai)(kw:Ad (Ah×Ai)):
    Env0 P w K mg base (A.under (.builtin "type.__call__" ⟨.ref C::us,kw⟩)) outer s H:=⟨by first|exact e.frames|(simpa [Ir,Code.envs,Iu,pushEnvs] using e.frames),e.mod,e.bs,e.bsz,e.funs,e.frf,e.hok,e.bare⟩
section
variable{X:Cx}{pI:Pn}{σ:St}{H:Hp}{s s':Ar}
theorem Inv.env0(I:Inv X pI σ H s):Env0 X.prog X.w X.K X.mg X.base X.A X.stack s H:=
 ⟨I.ok.frames,I.ok.mod,I.bs,Co I.ok.bsz I.sz,I.stack,I.stkFree,I.hok,I.bare⟩
theorem Inv.after{Q:VK}(I:Inv X pI σ H s)(h:CE X.stack X.prog X.w H s Q u s'):EP X pI σ Q u s':=by
 obtain⟨v,H',os,bare,un,hok,r,q⟩:=h;obtain⟨hh,g,d,t,os'⟩:=s';obtain rfl:os'=s.os:=os;exact⟨v,H',I.call (h':=hh) (g':=g) (d':=d) (t':=t) (ch:=[]) un hok bare (fun b z=>absurd z (by simp)),r,q⟩
end
def gJ(sp:Sp)(dvs:Ad V)(E:XK)(t:TA):TE:=fun σ H Q=>t σ H fun vs H1=>sp (vs++dvs) H1 Q E
noncomputable def Fp(K:Fg)(fd:BP)(ps:Ad Ah)(ds:Ad Ai):Prop:=
 ∀(s:Ar)(us:Ad Ai),K.In s.heap->(us++ds).length=ps.length->FV s fd ⟨us,[]⟩ (ps.zip (us++ds))
theorem Fp.all{K:Fg}(h:∀ us:Ad Ai,us.length=ps.length->Jb fd ⟨us,[]⟩=pure (ps.zip us)):Fp K fd ps []:=fun s us _ hl=>by
 rw[B1]at hl ⊢;exact .of_eq (h us hl)
def Kg(CX:CXT)(X:Cx)(E:XK):Prop:=∀(pI:Pn)(σ:St)(H:Hp)(s:Ar)(e:Ai)(s':Ar),Inv X pI σ H s->CX X.stack H s E e s'->X.xe e s'
section
variable{X:Cx}{CX:CXT}{k:Ag}{f C:Aj}{fd:BP}{ps:Ad Ah}{sp:Sp}{dvs:Ad V}{ds:Ad Ai}{E:XK}{x m:Ah}{p pos apos:AM}{e o:Ap}{es:Ad Ap}{ta:TE}{t:TA}
theorem dI{Q:VK}(F:FnOk X.prog X.w X.K X.mg X.base CX k f fd ps sp)(hr:Room k X.A)(hb:Fp X.K fd ps ds)(hd:Bi dvs ds)(hx:Kg CX X E)(I:Inv X pI σ H s)(r:Bi vs us)(h:sp (vs++dvs) H Q E):Ay (model X.prog X.w) X.A (call (.ref f) us) (EP X pI σ Q) X.xe s:=by
 have r2:Bi (vs++dvs) (us++ds):=r.append hd;have hl:(us++ds).length=ps.length:=by rw[<-r2.length];exact F.len _ _ _ _ h
 refine F9 (E5 (F.run X.A X.stack s H ⟨us,[]⟩ (us++ds) (vs++dvs) Q E hr I.env0 (hb s us I.kIn hl) r2 h) fun r s' hq=>?_)
 cases r with
 |error e=>exact hx pI σ H s e s' I hq
 |ok fl=>
  cases fl with
  |ret u=>exact I.after hq
  |next=>exact Be hq
  |brk=>exact Be hq
  |cont=>exact Be hq
theorem QC(F:FnOk X.prog X.w X.K X.mg X.base CX k f fd ps sp)(hr:Room k X.A)(hg:Gl X x)(hm:X.mg x=Aa (.ref f))(hk:B0 X.K (.ref f)=Ab)(hb:Fp X.K fd ps ds)(hd:Bi dvs ds)(hx:Kg CX X E)(ha:PA X (e::es) t)(hdb:(x==("__debug__" : Ah))=Ac:=by decide)(he:AA (e::es) X.env=(Ac,eval e X.env)::AA es X.env:=by rfl)(hpl:(B8 pos (AA es X.env)).any (·.1)=Ac:=by rfl):PE X (.Call (.Name x p) (e::es) [] pos) (gJ sp dvs E t):=by
 intro pI s σ H Q I h;refine D3 (II I hg hm ?_ hdb);refine Gw (h₀:=X.base) I.ok.mod.kin hk (thn (ha pos pI s σ H _ I h) fun us s1 ⟨vs,H1,I1,r,q⟩=>⟨I1.kIn,?_⟩) he hpl
 exact dI F hr hb hd hx I1 r q
end
section
variable{X:Cx}{CX:CXT}{k:Ag}{f C:Aj}{fd:BP}{ps ks:Ad Ah}{sp:Sp}{E:XK}{x m:Ah}{p pos apos kpos:AM}{e o:Ap}{es:Ad Ap}{kws:Ad Keyword}{te ta:TE}{t tk:TA}{nm:An Ah}
variable{g:Ad Ai->Ad Ai->Ad Ai}{gV:Ad V->Ad V->Ad V}
end
structure FnScope (N P:Ad Ah) (sc:B9):Prop where
 kind:sc.kind=.function
 co:sc.isCoroutine=Ac
 gen:sc.isGenerator=Ac
 nd:N.Nodup
 pre:N.take P.length=P
 par:∀ x∈P,sc.names.lookup x=Aa .local\/sc.names.lookup x=Aa .cell
 nofree:∀ y∈sc.names,y.2≠.free
theorem PY{kindOf:Ah->An DR}{x:Ah}:∀{binds:Ad (Ah×Ai)}{m:Ah->An Ai},(∀ v,(x,v)∉binds)->HQ kindOf binds m x=m x
 |[],_,_=>rfl
 |(n,v)::r,m,h=>by
  unfold HQ;rw[PY fun w hw=>h w (Ax _ hw)]
  split
  ·have:x≠n:=by rintro rfl;exact h v AH
   simp[this]
  ·rfl
theorem P6{kindOf:Ah->An DR}{x:Ah}:∀{binds:Ad (Ah×Ai)}{m:Ah->An Ai},(∀ v,(x,v)∉binds)->HP kindOf binds m x=m x
 |[],_,_=>rfl
 |(n,v)::r,m,h=>by
  unfold HP;rw[P6 fun w hw=>h w (Ax _ hw)]
  split
  ·rfl
  ·have:x≠n:=by rintro rfl;exact h v AH
   simp[this]
theorem PZ{kindOf:Ah->An DR}{x:Ah}{v:Ai}:∀{P:Ad Ah}{vs:Ad Ai}{i:Ag}{m:Ah->An Ai},P.Nodup->P[i]?=Aa x->vs[i]?=Aa v->kindOf x=Aa .local->HQ kindOf (P.zip vs) m x=Aa v
 |[],_,_,_,_,h,_,_=>by simp at h
 |_::_,[],_,_,_,_,h,_=>by simp at h
 |p::P,w::vs,0,m,nd,h1,h2,hk=>by
  simp at h1 h2;subst h1;subst h2;show HQ kindOf ((p,w)::P.zip vs) m p=_;unfold HQ;rw[PY fun v hv=>(CS.mp nd).1 (F0 hv).1,Aw hk]
  simp
 |p::P,w::vs,i+1,m,nd,h1,h2,hk=>by
  show HQ kindOf ((p,w)::P.zip vs) m x=_;unfold HQ;exact PZ (i:=i) (CS.mp nd).2 (by simpa using h1) (by simpa using h2) hk
theorem P7{kindOf:Ah->An DR}{x:Ah}{v:Ai}:∀{P:Ad Ah}{vs:Ad Ai}{i:Ag}{m:Ah->An Ai},P.Nodup->P[i]?=Aa x->vs[i]?=Aa v->kindOf x≠Aa .local->HP kindOf (P.zip vs) m x=Aa v
 |[],_,_,_,_,h,_,_=>by simp at h
 |_::_,[],_,_,_,_,h,_=>by simp at h
 |p::P,w::vs,0,m,nd,h1,h2,hk=>by
  simp at h1 h2;subst h1;subst h2;show HP kindOf ((p,w)::P.zip vs) m p=_;unfold HP;rw[P6 fun v hv=>(CS.mp nd).1 (F0 hv).1,Az hk]
  simp
 |p::P,w::vs,i+1,m,nd,h1,h2,hk=>by
  show HP kindOf ((p,w)::P.zip vs) m x=_;unfold HP;exact P7 (i:=i) (CS.mp nd).2 (by simpa using h1) (by simpa using h2) hk
noncomputable def start(N:Ad Ah)(vs:Ad V):St:=vs.map Aa++Gh (N.length-vs.length) Ae
noncomputable def En(CX:CXT)(P:AR)(w:AC)(K:Fg)(mg:Ah->An Ai)(base:AD)(N:Ad Ah)(qual:Ah)(scope:B9)(f:Aj)(cd:Ai)(A:AZ)(outer:Ad B5)(s:Ar)(H:Hp)(E:XK):Cx where
 prog:=P
 w:=w
 K:=K
 mg:=mg
 base:=base
 A:=A.deeper (Eg qual scope s.heap.objs.size f cd)
 N:=N
 s₀:=s
 H₀:=H
 env:=Eg qual scope s.heap.objs.size f cd
 outer:=outer
 stack:=Eg qual scope s.heap.objs.size f cd::outer
 ex:=[]
 calm:=Ab
 fn:=fun _=>Ab
 pn:=[]
 xe:=fun e s'=>Ay (model P w) (A.deeper (Eg qual scope s.heap.objs.size f cd)) (leaving (Eg qual scope s.heap.objs.size f cd) e) (fun _ s''=>CX outer H s E e s'') (fun e' s''=>CX outer H s E e' s'') s'
theorem Qh{sc:B9}(h:sc.names.lookup x=Aa .cell):∃ c,(CD n sc.names []).lookup x=Aa c:=by
 have q:=Fx sc.names n [] (.inl h);exact DP.mp q
theorem Nd{w:AC}{K:Fg}{mg:Ah->An Ai}{base:AD}{N ps:Ad Ah}{f:Aj}{cd:Ai}{A:AZ}{outer:Ad B5}{s1:Ar}{E:XK}(S:FnScope N ps scope)(hd:A.handled=Ae)(e0:Env0 P w K mg base A outer s H)(hl:vs.length=ps.length)(r:Bi vs us)(x:InCallC s s.heap.objs.size (HQ (Eg qual scope s.heap.objs.size f cd).kindOf (ps.zip us) fun _=>Ae) (CD (s.heap.objs.size+1) scope.names []) (HP (Eg qual scope s.heap.objs.size f cd).kindOf (ps.zip us) fun _=>Ae) s1):Inv (En CX P w K mg base N qual scope f cd A outer s H E) [] (start N vs) H s1:=by
 have hpl:ps.length<=N.length:=by have:=congrArg Us S.pre;rw[GY]at this;omega
 obtain⟨h1,tk,rfl,hk⟩:=x.done;have noA:∀ b:Aj,b∉(En CX P w K mg base N qual scope f cd A outer s H E).ex:=fun b z=>absurd (show b∈([]:Ad Aj) from z) (by simp)
 refine⟨⟨e0.mod,S.kind,rfl,rfl,AY _,fun y z c h1 h2=>?_,fun y hy=>?_,fun y c _ h=>?_,fun _=>hd,Around.frames_deeper e0.frames,.inr ⟨rfl,rfl⟩,fun b z=>absurd z (noA b),e0.bs,e0.bsz,fun b _ _=>noA b,fun b z=>absurd z (noA b),e0.funs,e0.frf⟩,
  rfl,e0.bare,Un.kept hk,⟨_,x.toInCall.ns,fun i y v h1 h2 h3=>?_⟩,fun y c h=>⟨_,x.cell y c h⟩,e0.hok.fresh (AY _),fun y c h=>?_,fun p hp=>absurd (show p∈([]:Pn) from hp) (by simp),e0.hok.kept hk,?_⟩
 ·exact name_of_addr x.apart (Cv h1) (Cv h2)
 ·have hy:scope.names.lookup y=Aa .cell\/scope.names.lookup y=Aa .free:=hy;rcases hy with hy|hy
  ·exact Qh hy
  ·exact absurd rfl (S.nofree _ (Cv hy))
 ·exact F1 (x.above y c (Cv h))
 ·have hi:i<vs.length:=by
   unfold start at h2;by_cases hi:i<vs.length
   ·exact hi
   ·rw[Um (by simpa using hi)]at h2
    rw[Uq]at h2;split at h2<;>cases h2
  have ha:vs[i]?=Aa v:=by
   unfold start at h2;rw[ES (by simpa using hi),Fl]at h2
   cases e:vs[i]? with
   |none=>rw[e]at h2;cases h2
   |some a=>rw[e]at h2;cases h2;rfl
  obtain⟨u,hu,rv⟩:=r.get ha;have hp:ps[i]?=Aa y:=by
   rw[<-S.pre,List.getElem?_take_of_lt (by omega)];exact h1
  have ndP:ps.Nodup:=by rw[<-S.pre];exact S.nd.sublist (List.take_sublist _ _)
  refine⟨u,rv,?_⟩;rcases S.par y (Uz hp) with k|k
  ·exact .inl ⟨k,PZ ndP hp hu k⟩
  ·obtain⟨c,e⟩:=Qh (n:=s.heap.objs.size+1) k;refine .inr ⟨.inl k,c,e,?_⟩;have q:=x.cell y c e;rw[P7 ndP hp hu (by show scope.names.lookup y≠_;rw[k];decide)]at q
   exact q
 ·exact e0.hok.fresh (F1 (x.above y c (Cv h)))
 ·unfold start;show _=N.length;rw[Dt,Cf,Uv];omega
theorem S6{w:AC}{K:Fg}{mg:Ah->An Ai}{base:AD}{f:Aj}{name:Ah}{params:Kw}{dV kV doc pm cdv ct oc:Ai}{an od:An Aj}{osl:Bl (An Ai)}{N ps:Ad Ah}(lk:K.lookup f=Aa ⟨oc,od,.func (CC name qual params body scope dV kV doc pm an cdv ct),osl⟩)(hcd:Ek K cdv qual=Ab)(S:FnScope N ps scope)(len:∀ vs H Q E,sp vs H Q E->vs.length=ps.length)(hbody:∀(A:AZ)(outer:Ad B5)(s:Ar)(H:Hp)(vs:Ad V)(Q:VK)(E:XK),Room k (A.deeper (Eg qual scope s.heap.objs.size f cdv))->sp vs H Q E ->
   ∃ t,PSs (En CX P w K mg base N qual scope f cdv A outer s H E) body t/\t {nx:=fun _ H'=>Q .non H',rt:=Q} (start N vs) H):FnOk P w K mg base CX (k+1) f (CC name qual params body scope dV kV doc pm an cdv ct) ps sp:=by
 refine⟨len,fun A outer s H args us vs Q E hr e0 hb r hsp=>?_⟩
 have hl:=len _ _ _ _ hsp;have KX:K.In s.heap:=e0.mod.kin.keeps fun b o e=>(e0.bs b o e).1
 have lim:s.heap.NoLimit:=e0.mod.nolimit.keeps fun b o e=>(e0.bs b o e).1
 have hkind:∀ y∈ps.zip us,scope.names.lookup y.1=Aa .local\/(scope.names.lookup y.1=Aa .cell/\((CD (s.heap.objs.size+1) scope.names []).lookup y.1).isSome=Ab):=fun ⟨n,v⟩ hy=>by
  rcases S.par n (F0 hy).1 with q|q
  ·exact .inl q
  ·exact .inr ⟨q,Fx _ _ _ (.inl q)⟩
 refine FW hr.depth (KX _ _ lk) rfl S.co S.gen rfl (Gx KX hcd) (hb _ _ _ _ ?_);refine EG S.kind hkind fun env he s1 x=>?_
 subst he;refine⟨lim.keeps x.toInCall.keep,IA ?_⟩;obtain⟨t,ht,hq⟩:=hbody A outer s H vs Q E (hr.deeper _) hsp;have I:Inv (En CX P w K mg base N qual scope f cdv A outer s H E) [] (start N vs) H s1:=Nd S hr.hd e0 hl r x;refine Bg (ht [] s1 (start N vs) H _ I hq) (fun fl s' hs=>?_) fun e s' hs=>hs
 have fin:∀{σ':St}{H':Hp}{v:V}{u:Ai},Inv (En CX P w K mg base N qual scope f cdv A outer s H E) [] σ' H' s'->BB v u->Q v H'->CE outer P w H s Q u s':=
  fun {σ' H' v u} J rv q=>⟨v,H',J.os,J.bare,J.base,J.hok,rv,q⟩
 cases fl with
 |ret u=>
  obtain⟨v,σ',H',J,rv,q⟩:=hs;exact fin J rv q
 |next=>
  obtain⟨σ',H',J,q⟩:=hs;exact fin (v:=V.non) (u:=Dr) J rfl q
 |brk=>
  obtain⟨_,_,_,q⟩:=hs;exact Be q
 |cont=>
  obtain⟨_,_,_,q⟩:=hs;exact Be q
section
variable{X:Cx}{x:Ah}{p pos:AM}{e:Ap}{es:Ad Ap}{t:TA}{id T:Dv}{r:Ad V->Hp->VK->Prop}
def tCB(r:Ad V->Hp->VK->Prop)(t:TA):TE:=fun σ H Q=>t σ H fun vs H1=>r vs H1 Q
theorem K0(hc:Hd X (.builtin id) r)(hg:Gl X x)(hm:X.mg x=Ae)(hv:CY x=Aa (.builtin id))(ha:PA X (e::es) t)(hn:x≠"__name__" := by decide)(hdb:(x==("__debug__" : Ah))=Ac:=by decide)(he:AA (e::es) X.env=(Ac,eval e X.env)::AA es X.env:=by rfl)(hpl:(B8 pos (AA es X.env)).any (·.1)=Ac:=by rfl):PE X (.Call (.Name x p) (e::es) [] pos) (tCB r t):=by
 intro pI s σ H Q I h;refine D3 (Jt I hg hm hv ?_ hn hdb);exact PyProof.Rows.callWith_builtin1 (thn (ha pos pI s σ H _ I h) fun us s1 ⟨vs,H1,I1,r1,q1⟩=>hc pI s1 σ H1 vs us Q I1 r1 q1) he hpl
theorem Pi(hc:Hd X (.type T) r)(hg:Gl X x)(hm:X.mg x=Ae)(hv:CY x=Aa (.type T))(ha:PA X (e::es) t)(hn:x≠"__name__" := by decide)(hdb:(x==("__debug__" : Ah))=Ac:=by decide)(he:AA (e::es) X.env=(Ac,eval e X.env)::AA es X.env:=by rfl)(hpl:(B8 pos (AA es X.env)).any (·.1)=Ac:=by rfl):PE X (.Call (.Name x p) (e::es) [] pos) (tCB r t):=by
 intro pI s σ H Q I h;refine D3 (Jt I hg hm hv ?_ hn hdb);exact CT (thn (ha pos pI s σ H _ I h) fun us s1 ⟨vs,H1,I1,r1,q1⟩=>hc pI s1 σ H1 vs us Q I1 r1 q1) he hpl
end
end L2
namespace HT
open PySem PyProof.Rows
variable{sl:Aj}
section
open PySem.SeqAt
open PySem.AutoSeq1 (wpAny_loadPart')
open PySem.MeetsSeq PySem.MeetsSeq2 PySem.MeetsSeq3
end
section
variable{prog:AR}{w:AC}{A:AZ}{E:Vq}{s:Ar}
theorem cat_tup{t b:Aj}{vs ws:Ad Ai}{Q:Vq}(ht:JC s.heap t vs.toArray)(hb:JC s.heap b ws.toArray)(hv:vs≠[])(h1:ws=[]->Q (.ref t) s)(h2:ws≠[]->Q (.ref s.heap.objs.size) { s with heap:=s.heap.push { cls:=.type "tuple", data:=.seq (vs++ws).toArray } })(hsz:vs.length+ws.length<=sizeLine):Ay (model prog w) A (BZ .Add (.ref t) (.ref b)) Q E s:=by
 obtain⟨⟨cls,dd,data,sl⟩,ho,hc,n,hd⟩:=id ht;obtain⟨⟨cls2,dd2,data2,sl2⟩,ho2,hc2,n2,hd2⟩:=id hb;simp only at hc hd hc2 hd2;subst hc hd hc2 hd2;have e:vs.toArray++ws.toArray=(vs++ws).toArray:=by simp
 by_cases hw:ws=[]
 ·exact IB ⟨_,ho,rfl⟩ ⟨_,ho2,rfl⟩ Vz seq_tuple_add U5 U2 (UY _ _)
   (tuple_addW1 t b vs.toArray ws.toArray n n2 dd dd2 sl sl2 (by simpa using hv) (by simp[hw])) ⟨ho,ho2,h1 hw⟩
 ·refine IB ⟨_,ho,rfl⟩ ⟨_,ho2,rfl⟩ Vz seq_tuple_add U5 U2 (UY _ _)
   (tuple_addW2 t b vs.toArray ws.toArray n n2 dd dd2 sl sl2 (by simpa using hv) (by simpa using hw) (by rw[AO,AO];exact hsz)) ⟨ho,ho2,?_⟩
  rw[e];exact h2 hw
noncomputable def sIx(n d:Ag):An Af->Ag
 |none=>d
 |some v=>if v<0 then (v+(n:Af)).toNat else min v.toNat n
theorem dG(n d:Ag)(hd:d<=n)(o:An Af):sIx n d o<=n:=by
 cases o with
 |none=>exact hd
 |some v=>
  show (if v<0 then (v+(n:Af)).toNat else min v.toNat n)<=n
  by_cases hv:v<0
  ·rw[Aw hv];omega
  ·rw[Az hv];exact Nat.min_le_right _ _
theorem Rl(v:Af)(n d:Ag):(if v<0 then max (v+(n:Af)) 0 else min v (n:Af))=((sIx n d (Aa v):Ag):Af):=by
 show (if v<0 then max (v+(n:Af)) 0 else min v (n:Af))=(((if v<0 then (v+(n:Af)).toNat else min v.toNat n):Ag):Af)
 by_cases hv:v<0
 ·simp only[Aw hv];omega
 ·simp only[Az hv];omega
theorem V1(lo hi:An Af)(n:Ag):EU lo hi 1 (n:Af)=(((sIx n 0 lo:Ag):Af),((sIx n n hi:Ag):Af)):=by
 have h1:¬ ((1:Af)<0):=by omega
 unfold EU;simp only[h1,Hl];refine D5 ?_ ?_
 ·cases lo with
  |none=>rfl
  |some v=>exact Rl v n 0
 ·cases hi with
  |none=>rfl
  |some v=>exact Rl v n n
theorem V8(i j:Ag):DG (i:Af) (j:Af) 1=j-i:=by
 unfold DG;have h1:(1:Af) > 0:=by omega
 simp only[h1,Eo,Int.ediv_one];split<;>omega
theorem Pl{v:Ai}{o:An Af}{Q:An Af->Ar->Prop}(p:G1 v o)(h:Q o s):Ay (model prog w) A (Builtin.Slice.slicePartIndex v) Q E s:=by
 cases p with
 |none=>exact UO h
 |int i t=>exact slicePart_int h
theorem VL{vl vu:Ai}{lo hi:An Af}{n:Ag}{Q:Af×Af×Ag->Ar->Prop}(hs:s.heap.IsSliceOf sl vl vu .none)(pl:G1 vl lo)(pu:G1 vu hi)(h:Q (((sIx n 0 lo:Ag):Af),1,sIx n n hi-sIx n 0 lo) s):Ay (model prog w) A (UT (.ref sl) (pure (n:Af))) Q E s:=by
 obtain⟨os,hos,hcs,hds⟩:=id hs;unfold UT Builtin.Slice.sliceFields;refine Am (Am (BO hos hds (x:=vl) rfl (Am (BO hos hds (x:=vu) rfl (Am (BO hos hds (x:=.none) rfl (AJ ?_)))))));refine Am (UO ?_);show Ay _ _ (if ((1:Af)==0)=Ab then _ else _) _ _ s
 rw[Az (by decide)]
 refine Am (Pl pl (Am (Pl pu (Am (AJ ?_)))));show Ay _ _ (match EU lo hi 1 (n:Af) with|(lo,hi)=>pure (lo,(1:Af),DG lo hi 1)) _ _ s
 rw[V1 lo hi n];show Ay _ _ (pure (((sIx n 0 lo:Ag):Af),(1:Af),DG ((sIx n 0 lo:Ag):Af) ((sIx n n hi:Ag):Af) 1)) _ _ s;rw[V8];exact AJ h
theorem W6(xs:Bl Ai)(i k:Ag):((Bz k).filterMap fun(m:Ag)=>xs[((i:Af)+(m:Af)*1).toNat]?).toArray=((xs.toList.drop i).take k).toArray:=by
 have e:(fun(m:Ag)=>xs[((i:Af)+(m:Af)*1).toNat]?)=fun m=>xs[i+m]?:=by
  funext m
  have:((i:Af)+(m:Af)*1).toNat=i+m:=by omega
  rw[this]
 rw[e];have:=pick_run xs i k;rw[List.filterMap_map]at this;have e2:((fun x=>xs[x]?) ∘ fun x=>i+x)=fun m=>xs[i+m]?:=rfl
 rw[e2]at this;rw[this]
theorem getItem_tuple_cut{t:Aj}{items:Bl Ai}{vl vu:Ai}{lo hi:An Af}{Q:Vq}(ht:JC s.heap t items)(hs:s.heap.IsSliceOf sl vl vu .none)(pl:G1 vl lo)(pu:G1 vu hi)(hw:¬ (sIx items.size 0 lo=0/\sIx items.size items.size hi=items.size))(h:Q (.ref s.heap.objs.size) { s with heap:=s.heap.push { cls:=.type "tuple", data:=.seq ((items.toList.drop (sIx items.size 0 lo)).take (sIx items.size items.size hi-sIx items.size 0 lo)).toArray } })(hsz:items.size<=sizeLine):Ay (model prog w) A (IU (.ref t) (.ref sl)) Q E s:=by
 have htake:sizeOk (.seq ((items.toList.drop (sIx items.size 0 lo)).take (sIx items.size items.size hi-sIx items.size 0 lo)).toArray):=by
  show ((items.toList.drop (sIx items.size 0 lo)).take (sIx items.size items.size hi-sIx items.size 0 lo)).toArray.size<=sizeLine;rw[AO,GY,Ut,Gc];omega
 have hj:sIx items.size items.size hi<=items.size:=dG _ _ (AY _) hi;obtain⟨os,hos,hcs,hds⟩:=id hs;have hTs:s.TypeIs (.ref sl) "slice" := ⟨os,hos,hcs⟩;unfold IU
 try with_reducible refine Ca ?_
 first|refine Am (AJ ?_)|skip
 refine Am (wpAny_sequenceKey ht.typeIs (by decide) ?_)
 refine Am (Dm (name:=AV "__getitem__") ht.typeIs UP
  (Er UP ht.typeIs entry_tuple_getitem ?_ (args_tuple_getitem _ _)))
 show Ay _ _ (Builtin.Tuple.tupleItemsOf (.ref t) >>= _) _ _ s;refine Am (tupleItemsOf_ ht ?_);refine Am (wpAny_typeOf hTs ?_);rw[Aw (by decide)]
 refine Am (VL hs pl pu ?_);have hno:¬ ((((sIx items.size 0 lo:Ag):Af)==0&&(1:Af)==1&&(sIx items.size items.size hi-sIx items.size 0 lo)==items.size)=Ab):=by
  intro q;rw[Ak,Ak]at q;have q1:((sIx items.size 0 lo:Ag):Af)=0:=eq_of_beq q.1.1;have q2:sIx items.size items.size hi-sIx items.size 0 lo=items.size:=eq_of_beq q.2;exact hw ⟨by omega,by omega⟩
 show Ay _ _ (if (((sIx items.size 0 lo:Ag):Af)==0&&(1:Af)==1&&(sIx items.size items.size hi-sIx items.size 0 lo)==items.size)=Ab then _ else _) _ _ s
 rw[Az hno,W6]
 first
  |exact Am (m:=DQ _) (CO (AJ ⟨_,rfl,AJ h⟩) htake)
  |exact Am (m:=DQ _) (CO (Am (AJ (AJ ⟨_,rfl,AJ h⟩))) htake)
  |exact Am (Am (m:=DQ _) (CO (AJ (AJ ⟨_,rfl,AJ h⟩)) htake))
  |exact Am (Am (m:=DQ _) (CO (AJ ⟨_,rfl,AJ h⟩) htake))
end
end HT
namespace L2
open PySem PySem.Spec PyProof.Rows
variable{xs:Ad V}{us its its':Ad Ai}{n t':Ag}{i:Af}{pI:Pn}{σ:St}{H:Hp}{s:Ar}{p:Aj}
abbrev TO:=St->Hp->(An Af->Hp->Prop)->Prop
noncomputable def PO(X:Cx)(e:An Ap)(t:TO):Prop:=
 ∀(pI:Pn)(s:Ar)(σ:St)(H:Hp)(Q:An Af->Hp->Prop),Inv X pI σ H s->t σ H Q ->
  Ay (model X.prog X.w) X.A (evalPart e X.env) (fun u s'=>∃ o H',Inv X pI σ H' s'/\G1 u o/\Q o H') X.xe s
def XZ:TO:=fun _ H Q=>Q Ae H
def gA(t:TE):TO:=fun σ H Q=>t σ H fun x H1=>∃ i,x=.int i/\Q (Aa i) H1
section
variable{X:Cx}{e:Ap}{te:TE}{lo hi:An Ap}{tl th:TO}{pos p2:AM}
theorem Zl:PO X Ae XZ:=by
 intro pI s σ H Q I h;rw[evalPart_none];exact AJ ⟨Ae,H,I,.none,h⟩
theorem Zk(h:PE X e te):PO X (Aa e) (gA te):=by
 intro pI s σ H Q I hw;rw[evalPart_some];refine thn (h pI s σ H _ I hw) fun u s1 ⟨x,H1,I1,r1,q1⟩=>?_
 obtain⟨i,rfl,q⟩:=q1;obtain⟨t,rfl⟩:=r1;exact⟨Aa i,H1,I1,.int i t,q⟩
noncomputable def SlR(X:Cx)(r:V->An Af->An Af->Hp->VK->Prop):Prop:=
 ∀(pI:Pn)(s:Ar)(σ:St)(H:Hp)(x:V)(v vl vu:Ai)(lo hi:An Af)(sl:Aj)(Q:VK),Inv X pI σ H s->BB x v->s.heap.IsSliceOf sl vl vu .none->G1 vl lo->G1 vu hi->r x lo hi H Q ->
  ∃ T id,typeLookup (.type T) "__getitem__" = pure (Aa (.builtin id))/\s.TypeIs v T/\Ay (model X.prog X.w) X.A (IU v (.ref sl)) (EP X pI σ Q) X.xe s
def tSl(r:V->An Af->An Af->Hp->VK->Prop)(te:TE)(tl th:TO):TE:=fun σ H Q=>te σ H fun x H1=>tl σ H1 fun l H2=>th σ H2 fun u H3=>r x l u H3 Q
theorem W7{r:V->An Af->An Af->Hp->VK->Prop}(hr:SlR X r)(he:PE X e te)(hl:PO X lo tl)(hu:PO X hi th):PE X (.Subscript e (.Slice lo hi Ae p2) pos) (tSl r te tl th):=by
 intro pI s σ H Q I h;refine Subscript_ (thn (he pI s σ H _ I h) fun v s1 ⟨x,H1,I1,r1,q1⟩=>?_)
 refine wpAny_Slice (thn (hl pI s1 σ H1 _ I1 q1) fun vl s2 ⟨l,H2,I2,pl,q2⟩=>thn (hu pI s2 σ H2 _ I2 q2) fun vu s3 ⟨u,H3,I3,pu,q3⟩=>?_)
 rw[evalPart_none];refine AJ ?_;have I4:Inv X pI σ H3 { s3 with heap:=s3.heap.push { cls:=.type "slice", data:=.fields #[vl,vu,.none] } }:=I3.kept (t':=s3.toks) fun b ob q=>Au _ q
 obtain⟨T,id,hT,ht,hg⟩:=hr pI { s3 with heap:=s3.heap.push { cls:=.type "slice", data:=.fields #[vl,vu,.none] } } σ H3 x v vl vu l u s3.heap.objs.size Q I4 r1 (Heap.IsSliceOf.new ..) pl pu q3
 show Ay (model X.prog X.w) X.A (subscriptTail e (.Slice lo hi Ae p2) v (.ref s3.heap.objs.size)) (EP X pI σ Q) X.xe { s3 with heap:=s3.heap.push { cls:=.type "slice", data:=.fields #[vl,vu,.none] } }
 exact tail_any (ops:=[.ref s3.heap.objs.size,v]) ht hT hg (by with_unfolding_all rfl)
noncomputable def IQ(xs:Ad V)(lo hi:An Af):Ad V:=(xs.drop (HT.sIx xs.length 0 lo)).take (HT.sIx xs.length xs.length hi-HT.sIx xs.length 0 lo)
theorem O5(xs:Ad V)(lo hi:An Af):(IQ xs lo hi).length<=xs.length:=by
 unfold IQ;rw[GY,Ut];omega
def Tp(K:Fg):V->An Af->An Af->Hp->VK->Prop:=fun x lo hi H Q=>∃ a xs,x=.ref a/\SqT K H a xs /\
 ¬ (HT.sIx xs.length 0 lo=0/\HT.sIx xs.length xs.length hi=xs.length)/\∀ p,H p=Ae->Q (.ref p) (upd H p (.tup (IQ xs lo hi)))
theorem aY:SlR X (Tp X.K):=by
 intro pI s σ H x v vl vu lo hi sl Q I rx hs pl pu h;obtain⟨a,xs,rfl,hx,hw,q⟩:=h;cases rx;obtain⟨its,r,ht,hz⟩:=I.tuple hx;have hlen:its.toArray.size=xs.length:=by rw[AO];exact r.length.symm
 refine⟨"tuple", _,PyProof.Rows.slot_tuple_getitem.lookup,ht.typeIs,?_⟩;refine HT.getItem_tuple_cut ht hs pl pu (by rw[hlen];exact hw) ?_ (by rw[hlen];exact hz)
 rw[hlen];refine⟨.ref s.heap.objs.size,_,I.laid (t':=s.toks) (o:=.tup (IQ xs lo hi)) (fun b ob q=>Au _ q) (AY _) ?_,rfl,q _ (I.hok.fresh (AY _))⟩
 exact⟨Co (O5 xs lo hi) hz,_,(r.drop (HT.sIx xs.length 0 lo)).take (HT.sIx xs.length xs.length hi-HT.sIx xs.length 0 lo),Kv _ _⟩
def kE(K:Fg):R2:=fun x y H Q=>∃ a b xs ys,x=.ref a/\y=.ref b/\SqT K H a xs/\SqT K H b ys/\xs≠[]/\xs.length+ys.length<=sizeLine /\
 (ys=[]->Q (.ref a) H)/\(ys≠[]->∀ p,H p=Ae->Q (.ref p) (upd H p (.tup (xs++ys))))
theorem Bi.nil_iff(r:Bi xs us):us=[]↔xs=[]:=by
 cases r with
 |nil=>simp
 |cons _ _=>simp
theorem YR:OpR X (BZ .Add) (kE X.K):=by
 intro pI s σ H x y v u Q I rx ry h;obtain⟨a,b,xs,ys,rfl,rfl,ha,hb,hx,hz,q1,q2⟩:=h;cases rx;cases ry;obtain⟨its,r1,p1,_⟩:=I.tuple ha;obtain⟨its2,r2,p2,_⟩:=I.tuple hb;refine HT.cat_tup p1 p2 (fun z=>hx (r1.nil_iff.mp z)) (fun z=>⟨.ref a,H,I,rfl,q1 (r2.nil_iff.mp z)⟩) (fun z=>?_) (by rw[<-r1.length,<-r2.length];exact hz)
 refine⟨.ref s.heap.objs.size,_,I.laid (t':=s.toks) (o:=.tup (xs++ys)) (fun b ob q=>Au _ q) (AY _) ?_,rfl,q2 (fun w=>z (r2.nil_iff.mpr w)) _ (I.hok.fresh (AY _))⟩
 exact⟨by rw[Dt];exact hz,_,r1.append r2,Kv _ _⟩
end
noncomputable def ixN(n:Ag)(i:Af):An Ag:=if 0<=i then (if i<n then Aa i.toNat else Ae) else if -(n:Af)<=i then Aa (i+n).toNat else Ae
noncomputable def atI{α:Type}(xs:Ad α)(i:Af):An α:=(ixN xs.length i).bind fun j=>xs[j]?
theorem Rr{j:Ag}(h:ixN n i=Aa j):seqIndex? i n=Aa j/\j<n/\-(n:Af)<=i/\i<n:=by
 unfold ixN at h;by_cases h0:0<=i
 ·rw[Aw h0]at h;by_cases h1:i<n
  ·rw[Aw h1]at h;have e:i.toNat=j:=Bf h;exact⟨by rw[IY h0 h1,e],by omega,by omega,h1⟩
  ·rw[Az h1]at h;cases h
 ·rw[Az h0]at h;by_cases h1:-(n:Af)<=i
  ·rw[Aw h1]at h;have e:(i+n).toNat=j:=Bf h;exact⟨by rw[IF (by omega) h1,e],by omega,h1,by omega⟩
  ·rw[Az h1]at h;cases h
theorem Q7{α:Type}{xs:Ad α}{v:α}(h:atI xs i=Aa v):∃ j,seqIndex? i xs.length=Aa j/\xs[j]?=Aa v/\j<xs.length/\-(xs.length:Af)<=i/\i<xs.length:=by
 unfold atI at h;cases e:ixN xs.length i with
 |none=>rw[e]at h;cases h
 |some j=>
  rw[e]at h;obtain⟨h1,h2,h3,h4⟩:=Rr e;exact⟨j,h1,h,h2,h3,h4⟩
def Nw(b:Ap):Prop:=∀ o i,subscripted b Ac o i=operate [o,i] (IU o i)
noncomputable def IxR(X:Cx)(r:R2):Prop:=
 ∀(value slice:Ap)(pI:Pn)(s:Ar)(σ:St)(H:Hp)(x y:V)(v u:Ai)(Q:VK),Inv X pI σ H s->BB x v->BB y u->r x y H Q ->
  subscripted slice Ac v u=operate [v,u] (IU v u)->Ay (model X.prog X.w) X.A (subscriptTail value slice v u) (EP X pI σ Q) X.xe s
noncomputable def MtR(X:Cx)(id:Dv)(r:V->Ad V->Hp->VK->Prop):Prop:=
 ∀(pI:Pn)(s:Ar)(σ:St)(H:Hp)(x:V)(xs:Ad V)(v:Ai)(us:Ad Ai)(Q:VK),Inv X pI σ H s->BB x v->Bi xs us->r x xs H Q ->
  Ay (model X.prog X.w) X.A (call (.builtin id) (v::us)) (EP X pI σ Q) X.xe s
section
variable{X:Cx}{a b:Ap}{ta tb:TE}{pos:AM}
theorem IxR.or{r r':R2}(h:IxR X r)(h':IxR X r'):IxR X (fun x y H Q=>r x y H Q\/r' x y H Q):=by
 intro value slice pI s σ H x y v u Q I rx ry q hs;rcases q with q|q
 ·exact h value slice pI s σ H x y v u Q I rx ry q hs
 ·exact h' value slice pI s σ H x y v u Q I rx ry q hs
theorem kL{r:R2}(hr:IxR X r)(ha:PE X a ta)(hb:PE X b tb)(hs:Nw b):PE X (.Subscript a b pos) (tOp r ta tb):=by
 intro pI s σ H Q I h;exact Subscript_ (ON ha hb I h fun v u s2 x y H2 I2 rx ry q=>hr a b pI s2 σ H2 x y v u Q I2 rx ry q (hs _ _))
def Ts(K:Fg):R2:=fun x y H Q=>∃ p xs i v,x=.ref p/\y=.int i/\SqL K H p xs/\atI xs i=Aa v/\Q v H
def Tr(K:Fg):R2:=fun x y H Q=>∃ p xs i v,x=.ref p/\y=.int i/\SqT K H p xs/\atI xs i=Aa v/\Q v H
theorem Y1:IxR X (Ts X.K):=by
 intro value slice pI s σ H x y v u Q I rx ry h hs;obtain⟨p,xs,i,z,rfl,rfl,hq,he,q⟩:=h;cases rx;obtain⟨t,rfl⟩:=ry;obtain⟨its,r,pl,hz⟩:=I.list hq;obtain⟨j,h1,h2,h3,h4,h5⟩:=Q7 he;obtain⟨w,ew,rw'⟩:=r.get h2;have hl:=r.length;have hn:=Kd;have fin:EP X pI σ Q w s:=⟨z,H,I,rw',q⟩;by_cases h0:0<=i
 ·have hj:i.toNat=j:=by
   rw[IY h0 h5]at h1;exact Bf h1
  exact item_listR pl.isList h0 (by omega) (by rw[hj];simpa using ew) fin hs
 ·have hj:(i+(its.toArray.size:Af)).toNat=j:=by
   rw[IF (by omega) h4]at h1
   rw[AO,<-hl];exact Bf h1
  exact UQ (x:=w) pl.isList.typeIs VB.lookup
   (wpAny_getItem_list_neg (Q:=fun r s'=>r=w/\EP X pI σ Q r s') pl.isList (by omega) (by rw[AO]<;>omega) (by omega) (by rw[hj];simpa using ew) ⟨rfl,fin⟩) hs
theorem fG:IxR X (Tr X.K):=by
 intro value slice pI s σ H x y v u Q I rx ry h hs;obtain⟨p,xs,i,z,rfl,rfl,hq,he,q⟩:=h;cases rx;obtain⟨t,rfl⟩:=ry;obtain⟨its,r,pl,hz⟩:=I.tuple hq;obtain⟨j,h1,h2,h3,h4,h5⟩:=Q7 he;obtain⟨w,ew,rw'⟩:=r.get h2;have hl:=r.length;have hn:=Kd;have fin:EP X pI σ Q w s:=⟨z,H,I,rw',q⟩;exact UQ (x:=w) pl.typeIs slot_tuple_getitem.lookup
  (getItem_tuple (j:=j) (Q:=fun r s'=>r=w/\EP X pI σ Q r s') pl (by omega) (by omega) (by rw[AO,<-hl];exact h1) (by simpa using ew) ⟨rfl,fin⟩) hs
theorem Wa(its:Ad Ai)(n j:Ag)(u:Ai):GP (·.setIfInBounds j u) { cls:=.type "list", data:=.seq its.toArray n }={ cls:=.type "list", data:=.seq (its.set j u).toArray n }:=by
 simp[GP]
theorem Inv.lst(I:Inv X pI σ H s)(h:H p=Aa (.lst xs)):
  ∃(its:Ad Ai)(n:Ag),Bi xs its/\s.heap.get? p=Aa { cls:=.type "list", data:=.seq its.toArray n }/\xs.length<=sizeLine:=by
 obtain⟨z,its,n,r,e⟩:=I.hok p _ h;exact⟨its,n,r,e,z⟩
theorem Inv.lstUpd{ys:Ad V}{n':Ag}{f:CW->CW}(I:Inv X pI σ H s)(h:H p=Aa (.lst xs))(ho:s.heap.get? p=Aa { cls:=.type "list", data:=.seq its.toArray n })(hf:f { cls:=.type "list", data:=.seq its.toArray n }={ cls:=.type "list", data:=.seq its'.toArray n' })(r:Bi ys its')(hz:ys.length<=sizeLine)(t:Ag):Inv X pI σ (upd H p (.lst ys)) {s with heap:=s.heap.update p f,toks:=t}:=by
 have e:(s.heap.update p f).get? p=Aa { cls:=.type "list", data:=.seq its'.toArray n' }:=by
  rw[CB f ho (by rw[hf]<;>rfl),hf]
 refine I.write (x:=p) (e:=p) (by rw[h];trivial) (.inl rfl) (fun b u hb q=>(Cq _ _ (CJ hb)).trans q) ⟨_,e⟩ ?_
 exact⟨hz,its',n',r,e⟩
def kD:V->V->V->Hp->(Hp->Prop)->Prop:=fun o i v H Q=>∃ p xs k j,o=.ref p/\i=.int k/\H p=Aa (.lst xs)/\ixN xs.length k=Aa j/\Q (upd H p (.lst (xs.set j v)))
theorem XF:TM X kD:=by
 intro pI s σ H o i v ov iv u Q I ro ri rv h;obtain⟨p,xs,k,j,rfl,rfl,hp,hj,q⟩:=h;cases ro;obtain⟨t,rfl⟩:=ri;obtain⟨its,n,r,ho,hz⟩:=I.lst hp;obtain⟨h1,h2,h3,h4⟩:=Rr hj;have hl:=r.length;have hn:=Kd;have I':Inv X pI σ (upd H p (.lst (xs.set j v))) {s with heap:=s.heap.update p (GP (·.setIfInBounds j u))}:=
  I.lstUpd hp ho (Wa its n j u) (r.set rv j) (by rw[A2];exact hz) s.toks
 by_cases h0:0<=k
 ·have hk:k.toNat=j:=by
   rw[IY h0 h4]at h1;exact Bf h1
  exact PySem.W.ki_setAt ho h0 (by omega) (by rw[AO,<-hl];exact h4) (by rw[hk];exact⟨_,I',q⟩)
 ·have hk:(k+(its.toArray.size:Af)).toNat=j:=by
   rw[IF (by omega) h3]at h1
   rw[AO,<-hl];exact Bf h1
  exact PySem.W.ki_setBack ho (by omega) (by rw[AO,<-hl];exact h3) (by omega) (by rw[hk];exact⟨_,I',q⟩)
theorem VP(lo hi:An Af)(n:Ag):(EJ lo hi Ae n).1=((HT.sIx n 0 lo:Ag):Af)/\(EJ lo hi Ae n).2.1=((HT.sIx n n hi:Ag):Af)/\(EJ lo hi Ae n).2.2=1:=by
 refine⟨?_,?_,rfl⟩
 ·cases lo with
  |none=>simp[EJ,HT.sIx]
  |some i=>
   simp only[EJ,HT.sIx,UL,show (1:Af) > 0 by decide,Eo]
   by_cases h:i<0
   ·simp only[h,Eo]<;>omega
   ·simp only[h,Hl]<;>omega
 ·cases hi with
  |none=>simp[EJ,HT.sIx]
  |some i=>
   simp only[EJ,HT.sIx,UL,show (1:Af) > 0 by decide,Eo]
   by_cases h:i<0
   ·simp only[h,Eo]<;>omega
   ·simp only[h,Hl]<;>omega
theorem VQ(its:Ad Ai)(lo hi:An Af):slicePick its.toArray lo hi Ae=((its.drop (HT.sIx its.length 0 lo)).take (HT.sIx its.length its.length hi-HT.sIx its.length 0 lo)).toArray:=by
 obtain⟨h1,h2,h3⟩:=VP lo hi its.toArray.size;unfold slicePick;rw[h1,h2,h3];simp only[sliceRange_one,pick_run,AO]<;>rfl
def Tq(K:Fg):V->An Af->An Af->Hp->VK->Prop:=fun x lo hi H Q=>∃ a xs,x=.ref a/\SqL K H a xs/\∀ p,H p=Ae->Q (.ref p) (upd H p (.lst (IQ xs lo hi)))
theorem Yg:SlR X (Tq X.K):=by
 intro pI s σ H x v vl vu lo hi sl Q I rx hs pl pu h;obtain⟨a,xs,rfl,hx,q⟩:=h;cases rx;obtain⟨its,r,ht,hz⟩:=I.list hx;have hlen:=r.length;refine⟨"list", _,VB.lookup,ht.isList.typeIs,?_⟩;refine wpAny_getItem_list_slice ht.isList hs pl pu .none (by simp) ?_ (by rw[AO]<;>omega)
 rw[VQ,<-hlen];refine⟨.ref s.heap.objs.size,_,I.laid (t':=s.toks) (o:=.lst (IQ xs lo hi)) (fun b ob q=>Au _ q) (AY _) ?_,rfl,q _ (I.hok.fresh (AY _))⟩
 exact⟨Co (O5 xs lo hi) hz,_,0,(r.drop (HT.sIx xs.length 0 lo)).take (HT.sIx xs.length xs.length hi-HT.sIx xs.length 0 lo),AN _ rfl⟩
theorem OY:Hd X (.builtin "len") (fun xs H Q=>∃ p ys,xs=[.ref p]/\(SqL X.K H p ys\/SqT X.K H p ys)/\Q (.int ys.length) H):=by
 intro pI s σ H xs us Q I r h;obtain⟨p,ys,rfl,hq,q⟩:=h;obtain⟨u,rfl,rx⟩:=He r;cases rx;have hn:=Kd;rcases hq with hq|hq
 ·obtain⟨its,r',pl,hz⟩:=I.list hq;have hlen:=r'.length;exact Calls.call_len_list pl.isList (by simp only[AO]<;>omega) ⟨.int ys.length,H,I.tok _,⟨s.toks+1,by rw[AO,hlen]⟩,q⟩
 ·obtain⟨its,r',pl,hz⟩:=I.tuple hq;have hlen:=r'.length;exact len_tuple pl (by simp only[AO]<;>omega) ⟨.int ys.length,H,I.tok _,⟨s.toks+1,by rw[AO,hlen]⟩,q⟩
theorem VV:Hd X (.builtin "len") (fun xs H Q=>∃ z,xs=[.str z]/\z.length<=sizeLine/\Q (.int z.length) H):=by
 intro pI s σ H xs us Q I r h;obtain⟨z,rfl,hz,q⟩:=h;obtain⟨u,rfl,t,rfl⟩:=He r;have hn:=Kd;exact len_str (by omega) ⟨.int z.length,H,I.tok _,⟨_,rfl⟩,q⟩
theorem OX:Hd X (.type "list") (fun xs H Q=>∃ p ys,xs=[.ref p]/\(SqL X.K H p ys\/SqT X.K H p ys)/\∀ l,H l=Ae->Q (.ref l) (upd H l (.lst ys))):=by
 intro pI s σ H xs us Q I r h;obtain⟨p,ys,rfl,hq,q⟩:=h;obtain⟨u,rfl,rx⟩:=He r;cases rx;have fin:∀(its:Ad Ai),Bi ys its->ys.length<=sizeLine->∀(h':AD)(c':Ag),(∀ b o',s.heap.get? b=Aa o'->h'.get? b=Aa o') ->
   h'.get? s.heap.objs.size=Aa { cls:=.type "list", dict:=Ae,data:=.seq its.toArray c',slots:=#[] }->EP X pI σ Q (.ref s.heap.objs.size) {s with heap:=h'}:=fun its r' hz h' c' kp e=>
  ⟨.ref s.heap.objs.size,_,I.laid (t':=s.toks) kp (AY _) (show ObjOk X.prog X.w _ h' _ (.lst ys) from ⟨hz,its,c',r',e⟩),rfl,q _ (I.hok.fresh (AY _))⟩
 rcases hq with hq|hq
 ·obtain⟨its,r',pl,hz⟩:=I.list hq;have hlen:=r'.length;obtain⟨o,ho,hc,n,hd⟩:=pl.isList;exact call_list_seq p (.inl rfl) ho hc hd (fun h' c' kp e=>fin its r' hz h' c' kp e) (by simp only[AO]<;>omega)
 ·obtain⟨its,r',pl,hz⟩:=I.tuple hq;have hlen:=r'.length;obtain⟨o,ho,hc,n,hd⟩:=pl;exact call_list_seq p (.inr rfl) ho hc hd (fun h' c' kp e=>fin its r' hz h' c' kp e) (by simp only[AO]<;>omega)
theorem O0:Hd X (.type "tuple") (fun xs H Q=>∃ p ys,xs=[.ref p]/\((SqL X.K H p ys/\∀ l,H l=Ae->Q (.ref l) (upd H l (.tup ys)))\/(SqT X.K H p ys/\Q (.ref p) H))):=by
 intro pI s σ H xs us Q I r h;obtain⟨p,ys,rfl,h⟩:=h;obtain⟨u,rfl,rx⟩:=He r;cases rx;rcases h with ⟨hq,q⟩|⟨hq,q⟩
 ·obtain⟨its,r',pl,hz⟩:=I.list hq;have hlen:=r'.length;refine call_tuple_list pl.isList (fun h' kp=>?_) (by simp only[AO]<;>omega)
  have I1:Inv X pI σ H {s with heap:=h'}:=I.kept (t':=s.toks) kp
  have I2:Inv X pI σ (upd H h'.objs.size (.tup ys)) { s with heap:=h'.push { cls:=.type "tuple", data:=.seq its.toArray } }:=
   I1.laid (t':=s.toks) (fun b o e=>Au _ e) (AY _) (show ObjOk X.prog X.w _ _ _ (.tup ys) from ⟨hz,its,r',Kv _ _⟩)
  exact⟨.ref h'.objs.size,_,I2,rfl,q _ (I1.hok.fresh (AY _))⟩
 ·obtain⟨its,r',pl,hz⟩:=I.tuple hq;exact call_tuple_same pl ⟨.ref p,H,I,rfl,q⟩
variable{o e:Ap}{es:Ad Ap}{to:TE}{t:TA}{name:Ah}{apos cpos:AM}{T id:Dv}{r:V->Ad V->Hp->VK->Prop}
/- xs.append(e),list.index on a module's tuple .. are MtR facts of 06m -/
end
theorem Bi.one:∀{x:V}{us:Ad Ai},Bi [x] us->∃ u,us=[u]/\BB x u
 |_,_,.cons r .nil=>⟨_,rfl,r⟩
theorem Bi.zero:∀{us:Ad Ai},Bi [] us->us=[]
 |_,.nil=>rfl
theorem Bi.eraseIdx:∀{xs:Ad V}{us:Ad Ai}(i:Ag),Bi xs us->Bi (xs.eraseIdx i) (us.eraseIdx i)
 |_,_,_,.nil=>.nil
 |_,_,0,.cons _ t=>t
 |_,_,i+1,.cons r t=>.cons r (Bi.eraseIdx i t)
theorem Bi.reverse(h:Bi xs us):Bi xs.reverse us.reverse:=by
 induction h with
 |nil=>exact .nil
 |cons r t ih=>rw[UC,UC];exact Bi.append ih (.cons r .nil)
section
variable{X:Cx}{pI:Pn}{σ:St}{H:Hp}{s:Ar}{l b:Aj}{xs ys zs:Ad V}
theorem Inv.lset{f:Bl Ai->Bl Ai}(I:Inv X pI σ H s)(hH:H l=Aa (.lst xs))(e:s.heap.get? l=Aa { cls:=.type "list", data:=.seq its.toArray n })(hf:f its.toArray=its'.toArray)(hv:Bi ys its')(hz:ys.length<=sizeLine):Inv X pI σ (upd H l (.lst ys)) {s with heap:=s.heap.update l (GP f),toks:=t'}:=by
 have q:=PySem.IsL.update e f;rw[hf]at q;refine I.write (x:=l) (e:=l) (by rw[hH];exact trivial) (.inl rfl) (fun b' u hb hu=>(Cq s.heap (GP f) (CJ hb)).trans hu) ⟨_,q⟩ ?_
 exact⟨hz,its',_,hv,q⟩
theorem Inv.lnew(I:Inv X pI σ H s)(hv:Bi ys its)(hz:ys.length<=sizeLine):
  Inv X pI σ (upd H s.heap.objs.size (.lst ys)) { s with heap:=s.heap.push { cls:=.type "list", data:=.seq its.toArray },toks:=t' }:=
 I.laid (fun _ _ q=>Au _ q) (AY _) ⟨hz,its,0,hv,AN _ rfl⟩
theorem Inv.fresh(I:Inv X pI σ H s):H s.heap.objs.size=Ae:=I.hok.fresh (AY _)
end
section
variable{X:Cx}
end
section
variable{prog:AR}{w:AC}{A:AZ}{E:Vq}{s:Ar}
set_option maxRecDepth 100000 in
end
section
variable{X:Cx}
end
end L2
namespace Att
open PySem PySem.W PySem.Calls PyProof.Rows
variable{P:KD}{h:AD}{l:Fw}{n:Ag}
theorem VO:∀(ns:Ad Af)(vs:Ad Ai),WellAll P h vs (ns.map Vm)->HG vs ns:=by
 intro ns
 induction ns with
 |nil=>
  intro vs w;rw[Ux]at w;cases w;exact .nil
 |cons n ns ih=>
  intro vs w;rw[CH]at w;cases w with
  |cons a b=>
   cases a;exact .cons _ _ (ih _ b)
theorem Wc(hn:l.most=Aa n){args:Ad WData}{vals:Ad Ai}(hpre:l.row.toRowW.claim.pre args=Ab)(hwl:WellAll P h vals args):
  ∃ a vs ns,vals=[Ci a]/\args=[WData.list (ns.map Vm)]/\h.get? a=Aa { cls:=.type "list", data:=.seq vs.toArray }/\HG vs ns/\ns.length<=n:=by
 have hsh:WShape.hasAll [] args [.list .int]=Ab:=(pre_splitW hpre).1;have hc:l.pre.holds [] {args:=args}=Ab:=(pre_splitW hpre).2;obtain⟨d,r,rfl,h1,h2⟩:=hasAllW_cons hsh;obtain rfl:=hasAllW_nil h2;obtain⟨xs,rfl,h3⟩:=hasW_list h1;obtain⟨ns,rfl⟩:=items_int h3;have hlen:ns.length<=n:=by
  unfold OpenLaw.pre at hc;have h4:(WTm.not (.lt (.lit (.int (n:Af))) (.len (.arg 0)))).holds [] {args:=[.list (ns.map .int)]}=Ab:=by
   have h4:=(holds_andW hc).1;rw[hn]at h4;exact h4
  have h5:=condW_of h4 (w_not (w_lt w_lit (w_len_list (w_arg rfl))));rw[Cf]at h5;refine Nat.le_of_not_lt fun q=>?_
  have q':(n:Af)<((ns.length:Ag):Af):=by omega
  first
   |(rw[Gq q']at h5;exact absurd h5 (by decide))
   |(simp at h5;omega)
 cases hwl with
 |cons w1 w2=>
  cases w2;cases w1 with
  |list ho hall=>exact⟨_,_,ns,rfl,rfl,ho,VO ns _ hall,hlen⟩
theorem Wi(l:Fw)(args:Ad WData):l.row.toRowW.claim.post args (.bool Ab) args=Ab:=
 postW_of (r:=l.row.toRowW) (X:=(Ab==Ab))
  (show Vn [] (.bool Ab) .bool=Ab by first|rfl|decide|simp[Vn,WShape.arms,WShape.armsAll])
  (show (WTm.eq .res (.lit (.bool Ab))).value [] {args:=args,res:=Aa (.bool Ab),after:=args}=Aa (.bool (Ab==Ab)) from w_eq_bool (w_res rfl) w_lit) rfl
theorem attach_call{q:AR}{loose:Ad Ah}{XP:(Ah->An Ai)->AD->Prop}{YP:AC->AD->Prop}{d:DefRec}(hn:l.most=Aa n)(hdf:d.params.defaults=[])(call:∀(w:AC)(s₀ s₁:Ar)(mg mb:Ah->An Ai)(fa:Aj)(o:CW)(pm cd doc:Ai)(a:Aj)(vs:Ad Ai)(ns:Ad Af),
   Ground q loose [] XP w s₀ mg mb s₁.heap->YP w s₁.heap ->
   s₁.heap.get? fa=Aa o->o.data=.func (docDef d.name d.params d.body d.scope pm cd doc)->s₁.heap.CodeRec cd d.name->mg d.name=Aa (.ref fa) ->
   s₁.heap.get? a=Aa { cls:=.type "list", data:=.seq vs.toArray }->HG vs ns->ns.length<=n->s₁.gens=#[] ->
   Fi (model l.prog w) GS (.call (.ref fa) ⟨[.ref a],[]⟩) (fun r s'=>r=.ok (.ret (.bool Ab))/\OldK s₁.heap s'.heap/\s'.os=s₁.os/\Fh s'.gens) s₁):WalkO q loose XP YP l.row.toRowW d [] (fun f vs=>JJ f vs):=by
 intro w s₀ s₁ mg mb G Y fa o pm cd doc dV kV ho hd hcd hD hmg hg args vals as hpre hlay hrd hwl hlo;obtain rfl:dV=.none:=Dflts.none hD hdf;obtain rfl:kV=.none:=Dflts.noKw hD;obtain⟨a,vs,ns,rfl,rfl,hobj,hints,hlen⟩:=Wc hn hpre hwl;refine enter_call (E5 (call w s₀ s₁ mg mb fa o pm cd doc a vs ns G Y ho (fd_plain hd) hcd hmg hobj hints hlen hg) fun r s' hq=>?_)
 obtain⟨rfl,h2,h3,h4⟩:=hq;exact⟨.inl ⟨.bool Ab,.bool Ab,[],rfl,fun _=>rfl,.bool Ab,Wi l _,fun _=>⟨List.Pairwise.nil,fun _ hm=>(nomatch hm)⟩⟩,h2,h3,h4⟩
section
variable{prog:AR}{w:AC}{A:AZ}{E:Vq}{s:Ar}{K:Frag}
end
end Att
namespace L2
open PySem PySem.Spec PyProof.Rows
variable{k:Ag}{x:Ah}
theorem Pc:∀{vs:Ad Ai}{ns:Ad Af},HG vs ns->Bi (ns.map V.int) vs
 |_,_,.nil=>.nil
 |_,_,.cons n t h=>.cons ⟨t,rfl⟩ (Pc h)
def OT(H:Hp):Prop:=∀ b,H b=Ae\/∃ o xs,H b=Aa (.frz o (.lst xs))
theorem Xf{P:AR}{w:AC}{K:Fg}{mg mb:Ah->An Ai}{CX:CXT}{fa a:Aj}{fd:BP}{sp:Sp}{s₁:Ar}{vs:Ad Ai}{ns:Ad Af}(KX:K.In s₁.heap)(hns:s₁.heap.Ns AK mg)(hb:s₁.heap.Ns HR mb)(hbb:∀ x:Ah,x≠"__name__"->mb x=CY x)(hlim:s₁.heap.NoLimit)(hg:s₁.gens=#[])(ha:s₁.heap.get? a=Aa { cls:=.type "list", data:=.seq vs.toArray })(hi:HG vs ns)(hl:ns.length<=sizeLine)(hr:Room k GS)(F:∀ base:AD,K.In base->base.Ns AK mg->FnOk P w K mg base CX k fa fd [x] sp)(hbind:∀(s:Ar)(u:Ai),FV s fd ⟨[u],[]⟩ [(x,u)])(hsp:∀ H:Hp,OT H->SqL K H a (ns.map V.int)->sp [.ref a] H (fun v _=>v=.bl Ab) fun _ _ _=>AS)(hCX:∀ H e s',CX [] H s₁ (fun _ _ _=>AS) e s'->AS):Fi (model P w) GS (.call (.ref fa) ⟨[.ref a],[]⟩) (fun r s'=>r=.ok (.ret (.bool Ab))/\OldK s₁.heap s'.heap/\s'.os=s₁.os/\Fh s'.gens) s₁:=by
 have rv:=Pc hi;have lenV:=hi.length
 -- from an abstract heap in which nothing but the script may be tracked
 have core:∀ H:Hp,OT H->SqL K H a (ns.map V.int)->HOk P w H s₁.heap->(∀ b,H b≠Ae->b=a)->(H a≠Ae->K.lookup a=Ae) ->
   Fi (model P w) GS (.call (.ref fa) ⟨[.ref a],[]⟩) (fun r s'=>r=.ok (.ret (.bool Ab))/\OldK s₁.heap s'.heap/\s'.os=s₁.os/\Fh s'.gens) s₁:=by
  intro H hO hS hok hA hK;have base_of:∀{b:Aj}{o:CW},s₁.heap.get? b=Aa o->H b=Ae->(Ib s₁.heap H).get? b=Aa o:=fun e n=>Xi e n
  have noA:∀{b:Aj}{o:CW}{es:Bl DictEntry}{ep:Ag},s₁.heap.get? b=Aa o->o.data=.dict es ep->H b=Ae:=fun {b o es ep} e d=>by
   cases q:H b with
   |none=>rfl
   |some u=>
    have e':b=a:=hA b (by rw[q];simp)
    subst e';rw[ha]at e;cases e;have d':KB vs.toArray _=Data.dict es ep:=d;cases d'
  have nsK:∀{b:Aj}{m:Ah->An Ai},s₁.heap.Ns b m->(Ib s₁.heap H).Ns b m:=fun {b m} ⟨o,es,ep,e,d,r⟩=>⟨o,es,ep,base_of e (noA e d),d,r⟩
  have hKb:K.In (Ib s₁.heap H):=fun b o e=>base_of (KX b o e) (by
   cases q:H b with
   |none=>rfl
   |some u=>
    have e':b=a:=hA b (by rw[q];simp)
    subst e';rw[hK (by rw[q];simp)]at e;cases e)
  have hM:Mod K mg (Ib s₁.heap H):=⟨hKb,nsK hns,⟨mb,nsK hb,hbb⟩,let ⟨mc,h1,h2⟩:=hlim;⟨mc,nsK h1,h2⟩⟩
  have e0:Env0 P w K mg (Ib s₁.heap H) GS [] s₁ H:=⟨rfl,hM,fun b o e=>YS e,Nat.le_of_eq (WN _ _),trivial,fun b hb=>absurd (show b∈([]:Ad Aj) from hb) (by simp),hok,.of_eq hg⟩
  refine E5 ((F _ hKb (nsK hns)).run GS [] s₁ H ⟨[.ref a],[]⟩ [.ref a] [.ref a] _ _ hr e0 (hbind s₁ (.ref a)) (.cons rfl .nil) (hsp H hO hS)) fun r s' h=>?_
  cases r with
  |error e=>exact(hCX H e s' h).elim
  |ok fl=>
   cases fl with
   |next=>exact Be h
   |brk=>exact Be h
   |cont=>exact Be h
   |ret u=>
    obtain⟨v,H',os,bare,un,hok',r',q⟩:=h;have q':v=.bl Ab:=q;subst q';obtain rfl:u=JG Ab:=r';refine⟨rfl,OldK.of_keep fun b o e=>?_,os,bare⟩
    cases q:H b with
    |none=>exact un.keep b o e q (by intro z;exact absurd (show b∈([]:Ad Aj) from z) (by simp)) (by simp)
    |some u=>
     rcases hO b with z|⟨ob,xs,z⟩
     ·rw[q]at z;cases z
     ·have z2:=un.frzs b ob _ z;obtain⟨e1,_⟩:=hok b _ z;obtain⟨e2,_⟩:=hok' b _ z2;rw[e]at e1;cases e1;exact e2
 cases hk:K.lookup a with
 |some o=>
  -- the script is one of the module's own objects
  have e:=KX a o hk;rw[ha]at e;cases e;refine core (fun _=>Ae) (fun _=>.inl rfl) (.inr ⟨_,vs.toArray,_,hk,rfl,rfl,rfl,by rw[AO,lenV];exact hl,by simpa using rv⟩) (fun b u z=>by have z':(Ae:An HO)=Aa u:=z;cases z') (fun b z=>absurd rfl z) fun z=>absurd rfl z
 |none=>
  refine core (fun b=>if b=a then Aa (.frz { cls:=.type "list", data:=.seq vs.toArray } (.lst (ns.map V.int))) else Ae) (fun b=>?_) (.inl (.inr ⟨{ cls:=.type "list", data:=.seq vs.toArray },Aw rfl⟩)) (fun b u z=>?_) (fun b z=>?_) fun _=>hk
  ·by_cases hb:b=a
   ·exact .inr ⟨_,_,Aw hb⟩
   ·exact .inl (Az hb)
  ·by_cases hb:b=a
   ·have z':=(Aw hb).symm.trans z;cases z';subst hb;exact⟨ha,by rw[Cf];exact hl,vs,_,rv,ha⟩
   ·have z':=(Az hb).symm.trans z;cases z'
  ·by_cases hb:b=a
   ·exact hb
   ·exact absurd (Az hb) z
noncomputable abbrev KOf{K:Fg}{h:AD}(_:K.In h):Fg:=K
theorem walk_of{l:Fw}{n:Ag}{q:AR}{loose:Ad Ah}{XP:(Ah->An Ai)->AD->Prop}{YP:AC->AD->Prop}{d:DefRec}{K:KD->Fg}{CX:AC->CXT}{sp:AC->Sp}(hn:l.most=Aa n)(hn2:n<=sizeLine)(hdf:d.params.defaults=[])(hr:Room k GS)(hY:∀(w:AC)(h:AD),YP w h->(K w.params).In h)(F:∀(w:AC)(mg:Ah->An Ai)(fa:Aj)(h:AD),(K w.params).In h->h.Ns AK mg->mg d.name=Aa (.ref fa) ->
   ∃ fd:BP,(∀(s:Ar)(u:Ai),FV s fd ⟨[u],[]⟩ [(x,u)]) /\
    ∀ base:AD,(K w.params).In base->base.Ns AK mg->FnOk l.prog w (K w.params) mg base (CX w) k fa fd [x] (sp w))(hsp:∀(w:AC)(H:Hp)(a:Aj)(ns:Ad Af),ns.length<=n->OT H->SqL (K w.params) H a (ns.map V.int)->sp w [.ref a] H (fun v _=>v=.bl Ab) fun _ _ _=>AS)(hCX:∀(w:AC)(H:Hp)(s:Ar)(e:Ai)(s':Ar),CX w [] H s (fun _ _ _=>AS) e s'->AS):Vo q loose XP YP l.row.toRowW d [] (fun f vs=>JJ f vs):=by
 refine Att.attach_call hn hdf fun w s₀ s₁ mg mb fa o pm cd doc a vs ns G Y ho hd hcd hmg hobj hints hlen hg=>?_
 have KX:=hY w _ Y;obtain⟨fd,hb,hF⟩:=F w mg fa _ KX G.T.g hmg;exact Xf KX G.T.g G.T.b G.T.builtins G.T.nolimit hg hobj hints (Co hlen hn2) hr hF hb (fun H hO hS=>hsp w H a ns hlen hO hS) fun H e s'=>hCX w H s₁ e s'
end L2
/- THE LAST THEOREM (shape;LID,My.* are yours):
   My.Adr: a structure of the addresses that your layer names (classes,functions);My.Txt K t: a structure (Prop) of the equations over K;
   My.txt_mk:{K} {implicit addresses ..} (e1:nsIn K AK "law" = Aa (Aa (.ref f))) (e2:K.lookup f=Aa ⟨oc,od,.func (fnOf "law" "law" params body scope dV kV doc pm an cdv ct),sl⟩) (e3:codeIn K cdv "law" = Ab) ..:∃ t,My.Txt K t
set_option maxRecDepth 100000 in
set_option maxHeartbeats 0 in
theorem PySem.Challenge.cw_LID_holds:PySem.Challenge.rw_LID.Holds:=by
 w_on;o_law;k_head;(case hw=>w_witness2)
 k_fill
 refine L2.walk_of (l:=PySem.Challenge.rw_LID) (n:=63) (k:=40) (x := "script") (CX:=fun w=>..) (sp:=fun _=>My.sp_law) rfl (by decide) rfl ⟨rfl,by decide,by decide⟩ (fun w h Y=>Vr Y) ?F ?S ?C
 case F=>
  intro w mg fa h KX G hmg;have T:∃ t,My.Txt (L2.KOf KX) t:=by
   dsimp only[L2.KOf]                          -- K must stand as «<heap const> w.params» for k_is
   refine' My.txt_mk ?e1 ?e2 ?e3 ..
   (case e1=>PySem.W.k_is)                    -- in the order: a name -> its address -> its object -> its parts
   (case e2=>PySem.W.k_is)
   ..
  obtain⟨t,T⟩:=T;have e0:=hmg.symm.trans (Ba KX G T.law);cases e0                                       -- fa is the law's own address
  exact⟨_,fun s u=>.of_eq rfl,fun base kb nb=>My.law_fn T kb nb⟩     -- if «.of_eq rfl» comes too early: refine' ⟨_,?b,fun base kb nb=>My.law_fn T kb nb⟩;exact fun s u=>.of_eq rfl
 case S=>exact fun w H a ns hl hO hS=>..
 case C=>exact ..
(the tactic k_is has no namespace: write k_is) -/
namespace L2
open PySem PySem.Spec PyProof.Rows
noncomputable def IJ(s:A9):Kw:=match s with
  |.FunctionDef _ a _ _ _ _ _ _ _ _=>a
  |_=>{posonlyargs:=[],args:=[],vararg:=Ae,kwonlyargs:=[],kw_defaults:=[],kwarg:=Ae,defaults:=[]}
noncomputable def Fn(s:A9):Ad A9:=match s with
  |.FunctionDef _ _ b _ _ _ _ _ _ _=>b
  |_=>[]
noncomputable def Cp(s:A9):B9:=match s with
  |.FunctionDef _ _ _ _ _ _ sc _ _ _=>sc
  |_=>{kind:=.function,names:=[],isGenerator:=Ac,isCoroutine:=Ac}
noncomputable abbrev CX0:CXT:=fun _ _ _ _ _ _=>AS
noncomputable abbrev E0:XK:=fun _ _ _=>AS
structure Fun (K:Fg) (x qual:Ah) (st:A9) (f:Aj) (fd:BP):Prop where
 ex:∃(oc:Ai)(od:An Aj)(kV doc pm:Ai)(an:An Aj)(cdv ct:Ai)(osl:Bl (An Ai)),
  fd=CC x qual (IJ st) (Fn st) (Cp st) .none kV doc pm an cdv ct/\K.lookup f=Aa ⟨oc,od,.func fd,osl⟩/\Ek K cdv qual=Ab
 kp:B0 K (.ref f)=Ab
section
variable{P:AR}{w:AC}{K:Fg}{mg:Ah->An Ai}{base:AD}
theorem Fun.ok{x qual:Ah}{st:A9}{f:Aj}{fd:BP}{N ps:Ad Ah}{k:Ag}{sp:Sp}(F:Fun K x qual st f fd)(S:FnScope N ps (Cp st))(len:∀ vs H Q E,sp vs H Q E->vs.length=ps.length)(hbody:∀(cdv:Ai)(A:AZ)(outer:Ad B5)(s:Ar)(H:Hp)(vs:Ad V)(Q:VK)(E:XK),Room k (A.deeper (Eg qual (Cp st) s.heap.objs.size f cdv))->sp vs H Q E ->
   ∃ t,PSs (En CX0 P w K mg base N qual (Cp st) f cdv A outer s H E).nox (Fn st) t/\t {nx:=fun _ H'=>Q .non H',rt:=Q} (start N vs) H):FnOk P w K mg base CX0 (k+1) f fd ps sp:=by
 obtain⟨oc,od,kV,doc,pm,an,cdv,ct,osl,rfl,lk,hcd⟩:=F.ex;refine S6 lk hcd S len fun A outer s H vs Q E hr hsp=>?_
 obtain⟨t,h,q⟩:=hbody cdv A outer s H vs Q E hr hsp;exact⟨t,h.nox,q⟩
theorem Fun.binds{x qual:Ah}{st:A9}{f:Aj}{fd:BP}{ps:Ad Ah}(F:Fun K x qual st f fd)(h:∀(kV doc pm:Ai)(an:An Aj)(cdv ct:Ai)(us:Ad Ai),us.length=ps.length->Jb (CC x qual (IJ st) (Fn st) (Cp st) .none kV doc pm an cdv ct) ⟨us,[]⟩=pure (ps.zip us)):Fp K fd ps []:=by
 obtain⟨oc,od,kV,doc,pm,an,cdv,ct,osl,rfl,lk,hcd⟩:=F.ex;exact .all (h kV doc pm an cdv ct)
theorem RT{x qual:Ah}{st:A9}{f:Aj}{oc:Ai}{od an:An Aj}{osl:Bl (An Ai)}{kV doc pm cdv ct:Ai}(l:K.lookup f=Aa ⟨oc,od,.func (CC x qual (IJ st) (Fn st) (Cp st) .none kV doc pm an cdv ct),osl⟩)(c:Ek K cdv qual=Ab)(k:B0 K (.ref f)=Ab):Fun K x qual st f (CC x qual (IJ st) (Fn st) (Cp st) .none kV doc pm an cdv ct):=⟨⟨oc,od,kV,doc,pm,an,cdv,ct,osl,rfl,l,c⟩,k⟩
end
section
variable{X:Cx}
end
def AE(H H':Hp):Prop:=∀ b o,H b=Aa o->H' b=Aa o
theorem AE.refl(H:Hp):AE H H:=fun _ _ h=>h
theorem AE.trans{H H1 H2:Hp}(a:AE H H1)(b:AE H1 H2):AE H H2:=fun c o h=>b c o (a c o h)
theorem AE.free{H H':Hp}(e:AE H H'){l:Aj}(h:H' l=Ae):H l=Ae:=by
 cases q:H l with
 |none=>rfl
 |some o=>
  rw[e l o q]at h;cases h
end L2
section
namespace Ov
open PySem
variable{α β:Type}
inductive D where
 |non|bl (b:Ao)|int (i:Af)|str (x:Ah)|tup (ds:Ad D)|lst (ds:Ad D)
 |obj (c:Ag) (fs:Ad (Ah×D))|exc (c:Ag) (fs:Ad (Ah×D))|dic (kvs:Ad (Ad Af×D))
 deriving Inhabited
structure Ex where
 c:Ag
 fs:Ad (Ah×D)
 deriving Inhabited
inductive R (α:Type) where
 |ok (a:α)|exn (x:Ex)|bad
 deriving Inhabited
noncomputable def R.bind{α β:Type}(r:R α)(f:α->R β):R β:=match r with
  |.ok a=>f a
  |.exn x=>.exn x
  |.bad=>.bad
@[simp]theorem R.bind_ok(a:α)(f:α->R β):(R.ok a).bind f=f a:=rfl
@[simp]theorem R.bind_exn(x:Ex)(f:α->R β):(R.exn x:R α).bind f=.exn x:=rfl
@[simp]theorem R.bind_bad(f:α->R β):(R.bad:R α).bind f=.bad:=rfl
theorem R.bind_assoc{γ:Type}(r:R α)(f:α->R β)(g:β->R γ):(r.bind f).bind g=r.bind fun a=>(f a).bind g:=by cases r<;>rfl
noncomputable def D7(n:Ag):Ao:=C7 n 1000000
noncomputable def Ey(i j:Af):Ao:=(decide (-(18446744073709551616:Af)<i)&&decide (i<18446744073709551616))||(decide (-(18446744073709551616:Af)<j)&&decide (j<18446744073709551616))
noncomputable def EO(i j:Af):Ao:=decide (i.natAbs<2 ^ 2000)&&decide (j.natAbs<2 ^ 2000)
noncomputable def Dk:G2->D->D->R D
 |.Add,.int i,.int j=>.ok (.int (i+j))
 |.Sub,.int i,.int j=>.ok (.int (i-j))
 |.Mult,.int i,.int j=>if (Ey i j||EO i j)=Ab then .ok (.int (i*j)) else .bad
 |.FloorDiv,.int i,.int j=>if 0<j/\j<1073741824 then .ok (.int (i / j)) else .bad
 |.Mod,.int i,.int j=>if 0<j then .ok (.int (i%j)) else .bad
 |.Pow,.int i,.int j=>if (0<=j/\j<=1000000)/\(-(18446744073709551616:Af)<i/\i<18446744073709551616) then .ok (.int (i ^ j.toNat)) else .bad
 |.Add,.str x,.str y=>if D7 (x.length+y.length)=Ab then .ok (.str (x++y)) else .bad
 |.Add,.lst x,.lst y=>if D7 (x.length+y.length)=Ab then .ok (.lst (x++y)) else .bad
 |.Add,.tup x,.tup y=>if (!x.isEmpty&&D7 (x.length+y.length))=Ab then .ok (.tup (x++y)) else .bad
 |_,_,_=>.bad
noncomputable def unD:UnaryOp->D->R D
 |.USub,.int i=>.ok (.int (-i))
 |_,_=>.bad
noncomputable def b2i(b:Ao):Af:=if b=Ab then 1 else 0
mutual
noncomputable def eqD:D->D->Ao
 |.non,.non=>Ab
 |.bl a,.bl b=>a==b
 |.bl a,.int j=>b2i a==j
 |.int i,.bl b=>i==b2i b
 |.int i,.int j=>i==j
 |.str x,.str y=>x==y
 |.tup xs,.tup ys=>eqDs xs ys
 |.lst xs,.lst ys=>eqDs xs ys
 |_,_=>Ac
noncomputable def eqDs:Ad D->Ad D->Ao
 |[],[]=>Ab
 |x::xs,y::ys=>eqD x y&&eqDs xs ys
 |_,_=>Ac
end
noncomputable def flD:Ag->D->Ao
 |_,.non=>Ab
 |_,.bl _=>Ab
 |_,.int _=>Ab
 |_,.str _=>Ab
 |n+1,.tup xs=>xs.all (flD n)
 |n+1,.lst xs=>xs.all (flD n)
 |_,_=>Ac
noncomputable def IT:D->An (Ad Af)
 |.tup ds=>keyDs ds
 |_=>Ae
where keyDs:Ad D->An (Ad Af)
 |[]=>Aa []
 |.int i::r=>(keyDs r).map (i :: ·)
 |_=>Ae
noncomputable def ltD:Ag->D->D->Ao
 |0,.int i,.int j=>decide (i<j)
 |n+1,.tup xs,.tup ys=>ltDs (ltD n) xs ys
 |_,_,_=>Ac
where ltDs (lt:D->D->Ao):Ad D->Ad D->Ao
 |[],[]=>Ac
 |[],_::_=>Ab
 |_::_,[]=>Ac
 |x::xs,y::ys=>if eqD x y=Ab then ltDs lt xs ys else lt x y
noncomputable def rkD:Ag->D->Ao
 |0,.int _=>Ab
 |n+1,.tup xs=>xs.all (rkD n)
 |_,_=>Ac
noncomputable def TU(lt:D->D->Ao)(x:D):Ad D->Ad D
 |[]=>[x]
 |y::ys=>if lt y x=Ab then y::TU lt x ys else x::y::ys
noncomputable def Sr(lt:D->D->Ao):Ad D->Ad D
 |[]=>[]
 |x::xs=>TU lt x (Sr lt xs)
noncomputable def Tv:Ad D->Ao
 |[]=>Ab
 |x::xs=>xs.all (fun y=>!eqD x y)&&Tv xs
noncomputable def TJ:Ad D->Ao
 |[]=>Ab
 |[_]=>Ab
 |x::y::r=>ltD 1 x y&&TJ (y::r)
noncomputable def QI(xs:Ad D):R (Ad D):=if (xs.all (fun d=>rkD 1 d && !eqD d (.tup []))&&Tv xs&&(decide (xs.length<64)||(TJ xs&&decide (xs.length<=1000))))=Ab then .ok (Sr (ltD 1) xs) else .bad
noncomputable def BR:D0->D->D->R D
  |.Eq,x,y=>if (flD 5 x&&flD 5 y)=Ab then .ok (.bl (eqD x y)) else .bad
  |.NotEq,x,y=>if (flD 5 x&&flD 5 y)=Ab then .ok (.bl (!eqD x y)) else .bad
  |.Lt,.int i,.int j=>.ok (.bl (decide (i<j)))
  |.LtE,.int i,.int j=>.ok (.bl (decide (i<=j)))
  |.Gt,.int i,.int j=>.ok (.bl (decide (j<i)))
  |.GtE,.int i,.int j=>.ok (.bl (decide (j<=i)))
  |.In,x,.lst ys=>if (flD 5 x&&ys.all (flD 5))=Ab then .ok (.bl (ys.any fun y=>eqD y x)) else .bad
  |.In,x,.dic kvs=>match IT x with
    |some k=>.ok (.bl (kvs.any fun p=>p.1==k))
    |none=>.bad
  |.In,x,.tup ys=>if (flD 5 x&&ys.all (flD 5))=Ab then .ok (.bl (ys.any fun y=>eqD y x)) else .bad
  |.NotIn,x,.lst ys=>if (flD 5 x&&ys.all (flD 5))=Ab then .ok (.bl (!ys.any fun y=>eqD y x)) else .bad
  |.NotIn,x,.tup ys=>if (flD 5 x&&ys.all (flD 5))=Ab then .ok (.bl (!ys.any fun y=>eqD y x)) else .bad
  |.Is,.non,.non=>.ok (.bl Ab)
  |.Is,.bl _,.non=>.ok (.bl Ac)
  |.Is,.int _,.non=>.ok (.bl Ac)
  |.Is,.str _,.non=>.ok (.bl Ac)
  |.Is,.tup _,.non=>.ok (.bl Ac)
  |.Is,.lst _,.non=>.ok (.bl Ac)
  |.Is,.obj _ _,.non=>.ok (.bl Ac)
  |.Is,.bl a,.bl b=>.ok (.bl (a==b))
  |.IsNot,.bl a,.bl b=>.ok (.bl (!(a==b)))
  |.IsNot,.non,.non=>.ok (.bl Ac)
  |.IsNot,.bl _,.non=>.ok (.bl Ab)
  |.IsNot,.int _,.non=>.ok (.bl Ab)
  |.IsNot,.str _,.non=>.ok (.bl Ab)
  |.IsNot,.tup _,.non=>.ok (.bl Ab)
  |.IsNot,.lst _,.non=>.ok (.bl Ab)
  |.IsNot,.obj _ _,.non=>.ok (.bl Ab)
  |_,_,_=>.bad
noncomputable def BJ:D->R Ao
 |.non=>.ok Ac
 |.bl b=>.ok b
 |.int i=>.ok (i != 0)
 |.str x=>if D7 x.length=Ab then .ok (x.length != 0) else .bad
 |.tup xs=>.ok (!xs.isEmpty)
 |.lst xs=>.ok (!xs.isEmpty)
 |_=>.bad
noncomputable def plD(n:Ag)(i:Af):An Ag:=if 0<=i then (if i<n then Aa i.toNat else Ae) else if -(n:Af)<=i then Aa (i+n).toNat else Ae
noncomputable def Db(xs:Ad D)(i:Af):R D:=match plD xs.length i with
  |some k=>match xs[k]? with
    |some d=>.ok d
    |none=>.bad
  |none=>.bad
noncomputable def fV(kvs:Ad (Ad Af×D))(k:Ad Af):An D:=(kvs.find? fun p=>p.1==k).map (·.2)
noncomputable def RY(kvs:Ad (Ad Af×D))(k:Ad Af)(v:D):Ad (Ad Af×D):=if (kvs.any fun p=>p.1==k)=Ab then kvs.map (fun p=>if (p.1==k)=Ab then (k,v) else p) else kvs++[(k,v)]
noncomputable def CF:D->D->R D
  |.lst xs,.int i=>Db xs i
  |.tup xs,.int i=>Db xs i
  |.dic kvs,k=>match (IT k).bind (fV kvs) with
    |some d=>.ok d
    |none=>.bad
  |_,_=>.bad
noncomputable def Ez:D->R Af
 |.int i=>.ok i
 |_=>.bad
noncomputable def Dl:D->R Ao
 |.bl b=>.ok b
 |_=>.bad
noncomputable def Ck:D->R (Ad D)
 |.lst xs=>.ok xs
 |.tup xs=>.ok xs
 |_=>.bad
noncomputable def Ox:D->R (Ad D)
 |.lst xs=>.ok xs
 |_=>.bad
inductive BI where
 |len|abs|max|min|int|list|tuple|all|any|sum|sorted|str|count|stp|lset|tmin|tmax|tlt|rvs
 deriving DecidableEq,Inhabited
inductive Ki where
 |int|bool|str|list|tuple|verr|cls (c:Ag)
 deriving DecidableEq,Inhabited
mutual
inductive E where
 |non|bl (b:Ao)|int (i:Af)|str (x:Ah)
 |var (i:Ag)|glob (g:Ag)
 |bin (op:G2) (a b:E)|un (op:UnaryOp) (a:E)|no (a:E)
 |and (es:Es)|or (es:Es)
 |cmp (op:D0) (a b:E)|cmp2 (op op':D0) (a b c:E)
 |ite (c a b:E)
 |call (f:Ag) (as:Es)|bi (b:BI) (as:Es)
 |isi (a:E) (ks:Ad Ki)
 |idx (a i:E)|sl (a lo hi:E)
 |tup (es:Es)|lst (es:Es)
 |comp (elt:E) (t:Ag) (it:I) (c:E)|compT (elt:E) (ts:Ad Ag) (it:I) (c:E)|tupI (it:I)|dnew
 |fld (o:E) (f:Ah)
inductive Es where
 |nil|cons (e:E) (es:Es)
inductive I where
 |e (a:E)|rng (a:E)|rng2 (a b:E)|zip (a b:E)|zip3 (a b c:E)|enm (a:E)
end
abbrev Sl:=An (D×Ao)
abbrev Rho:=Ad Sl
structure Gam where
 F:Ag->Ad D->R D
 G:Ag->D
 up:Ag->Ad Ag
 /-- the defs whose answer is a new list -/
 fr:Ag->Ao
 /-- what is raised: the class,what it is made of -/
 xn:Ag->Ad D->R Ex
noncomputable def DK(lo:Af)(n:Ag):Ad D:=(Bz n).map fun(k:Ag)=>D.int (lo+(k:Af))
noncomputable def Da(lo hi:Af):R (Ad D):=if (-(4611686018427387904:Af)<=lo/\lo<4611686018427387904)/\(-(4611686018427387904:Af)<=hi/\hi<4611686018427387904)/\hi-lo<1000000 then .ok (DK lo (hi-lo).toNat) else .bad
noncomputable def kiD(up:Ag->Ad Ag):Ki->D->Ao
 |.int,.int _=>Ab
 |.int,.bl _=>Ab
 |.bool,.bl _=>Ab
 |.str,.str _=>Ab
 |.list,.lst _=>Ab
 |.tuple,.tup _=>Ab
 |.cls c,.obj k _=>(up k).contains c
 |.cls c,.exc k _=>(up k).contains c
 |.verr,.exc _ _=>Ab
 |_,_=>Ac
noncomputable def Dy:Ki->Ao
 |.cls _=>Ab
 |.verr=>Ab
 |_=>Ac
noncomputable def DV(up:Ag->Ad Ag)(ks:Ad Ki)(x:D):R D:=match x with
  |.obj _ _=>.bad
  |.exc _ _=>if ks.all Dy=Ab then .ok (.bl (ks.any fun k=>kiD up k x)) else .bad
  |.dic _=>.bad
  |_=>if ks.any Dy=Ab then .bad else .ok (.bl (ks.any fun k=>kiD up k x))
noncomputable def DX:D->R Ao
 |.non=>.ok Ac
 |.bl b=>.ok b
 |.int i=>.ok (i != 0)
 |_=>.bad
noncomputable def GH:Ad D->R Ao
 |[]=>.ok Ab
 |x::r=>(DX x).bind fun b=>(GH r).bind fun c=>.ok (b&&c)
noncomputable def Fa:Ad D->R Ao
 |[]=>.ok Ac
 |x::r=>(DX x).bind fun b=>(Fa r).bind fun c=>.ok (b||c)
noncomputable def Gp:Af->Ad D->R Af
 |a,[]=>.ok a
 |a,.int i::r=>Gp (a+i) r
 |_,_=>.bad
noncomputable def El:Ad D->Ad D->Ad D
 |x::xs,y::ys=>.tup [x,y]::El xs ys
 |_,_=>[]
noncomputable def Sv:Ad D->Ad D->Ad D->Ad D
 |x::xs,y::ys,z::zs=>.tup [x,y,z]::Sv xs ys zs
 |_,_,_=>[]
noncomputable def Su(x y z:D):R (Ad D):=(Ck x).bind fun xs=>(Ck y).bind fun ys=>(Ck z).bind fun zs=>if 0<xs.length/\xs.length<=1000/\ys.length=xs.length/\zs.length=xs.length then .ok (Sv xs ys zs) else .bad
noncomputable def EB:Af->Ad D->Ad D
 |_,[]=>[]
 |i,x::xs=>.tup [.int i,x]::EB (i+1) xs
noncomputable def nlD:Ag->D->Ao
 |_,.non=>Ab
 |_,.bl _=>Ab
 |_,.int _=>Ab
 |_,.str _=>Ab
 |n+1,.tup xs=>xs.all (nlD n)
 |_,_=>Ac
noncomputable def Ft(fr:Ao):D->Ao
 |.lst ds=>fr&&ds.all (nlD 5)
 |d=>nlD 5 d
noncomputable def IN:Ad D->An (Ad Af)
 |[]=>Aa []
 |.int i::r=>(IN r).map (i :: ·)
 |_=>Ae
noncomputable def HB(i:Af):Ad Af->Af
 |[]=>i
 |j::r=>HB (if j<i then j else i) r
noncomputable def pk2(k n:Ag):Ad Ag:=(Bz ((n-min k n+1) / 2)).map fun j=>min k n+2*j
noncomputable def Tk(k:Ag)(xs:Ad D):Ad D:=(pk2 k xs.length).filterMap fun i=>xs[i]?
noncomputable def ddS(acc:Ad Af)(x:Af):Ad Af:=if acc.any (· == x)=Ab then acc else acc++[x]
noncomputable def ddN(is:Ad Af):Ag:=(is.foldl ddS []).length
noncomputable def SK(xs:Ad D):R D:=match IN xs with
  |some is=>if C7 is.length 4000=Ab then .ok (.int (ddN is)) else .bad
  |none=>.bad
noncomputable def mmD(mx:Ao)(x y:D):R D:=if [x,y].all (fun d=>rkD 1 d && !eqD d (.tup []))=Ab then .ok (if (if mx=Ab then ltD 1 x y else ltD 1 y x)=Ab then y else x) else .bad
noncomputable def TF(x y:D):R D:=if [x,y].all (fun d=>rkD 1 d && !eqD d (.tup []))=Ab then .ok (.bl (ltD 1 x y)) else .bad
noncomputable def biD:BI->Ad D->R D
  |.len,[.lst xs]=>.ok (.int xs.length)
  |.len,[.tup xs]=>.ok (.int xs.length)
  |.len,[.str x]=>if D7 x.length=Ab then .ok (.int x.length) else .bad
  |.abs,[.int i]=>.ok (.int (if i<0 then -i else i))
  |.max,[.int i,.int j]=>.ok (.int (if i<j then j else i))
  |.min,[.int i,.int j]=>.ok (.int (if j<i then j else i))
  |.min,[.lst xs]=>match IN xs with
    |some (i::is)=>.ok (.int (HB i is))
    |_=>.bad
  |.int,[.int i]=>.ok (.int i)
  |.int,[.bl b]=>.ok (.int (b2i b))
  |.list,[.lst xs]=>.ok (.lst xs)
  |.list,[.tup xs]=>.ok (.lst xs)
  |.tuple,[.lst xs]=>.ok (.tup xs)
  |.tuple,[.tup xs]=>.ok (.tup xs)
  |.all,[.lst xs]=>(GH xs).bind fun b=>.ok (.bl b)
  |.any,[.lst xs]=>(Fa xs).bind fun b=>.ok (.bl b)
  |.any,[.tup xs]=>(Fa xs).bind fun b=>.ok (.bl b)
  |.sum,[.lst xs]=>(Gp 0 xs).bind fun i=>.ok (.int i)
  |.sum,[.tup xs]=>(Gp 0 xs).bind fun i=>.ok (.int i)
  |.sorted,[.lst xs]=>(QI xs).bind fun ys=>.ok (.lst ys)
  |.count,[.lst xs,x]=>if (flD 5 x&&xs.all (flD 5))=Ab then .ok (.int ((xs.filter fun y=>eqD y x).length:Ag)) else .bad
  |.len,[.dic kvs]=>.ok (.int kvs.length)
  |.stp,[.lst xs,.int k]=>.ok (.lst (Tk k.toNat xs))
  |.lset,[.lst xs]=>SK xs
  |.tmin,[x,y]=>mmD Ac x y
  |.tmax,[x,y]=>mmD Ab x y
  |.tlt,[x,y]=>TF x y
  |.rvs,[.lst xs]=>.ok (.lst xs.reverse)
  |_,_=>.bad
noncomputable def slE(c:E)(d:D):R (An Af):=match c with
  |.non=>.ok Ae
  |_=>(Ez d).bind fun i=>.ok (Aa i)
noncomputable def Hz(n d:Ag):An Af->Ag
 |none=>d
 |some i=>if i<0 then (i+n).toNat else min i.toNat n
noncomputable def JB(xs:Ad D)(lo hi:An Af):Ad D:=(xs.drop (Hz xs.length 0 lo)).take (Hz xs.length xs.length hi-Hz xs.length 0 lo)
noncomputable def slD:D->An Af->An Af->R D
 |.lst xs,l,h=>.ok (.lst (JB xs l h))
 |.tup xs,l,h=>if (Hz xs.length 0 l==0&&Hz xs.length xs.length h==xs.length)=Ab then .bad else .ok (.tup (JB xs l h))
 |_,_,_=>.bad
noncomputable def Kq:D->Ah->R D
  |.exc _ fs,f=>match fs.lookup f with
    |some d=>.ok d
    |none=>.bad
  |_,_=>.bad
noncomputable def Fs(ρ:Rho)(i:Ag):R D:=match ρ[i]? with
  |some (Aa (d,Ac))=>.ok d
  |_=>.bad
noncomputable def Em(ρ:Rho)(i:Ag):R D:=match ρ[i]? with
  |some (Aa (d,_))=>.ok d
  |_=>.bad
noncomputable def shE(ρ:Rho):E->Ao
  | .var i=>(match ρ[i]? with
    |some (Aa (_,Ab))=>Ac
    | _=>Ab)
  |_=>Ab
noncomputable def Hf(ρ:Rho):Es->Ao
 |.nil=>Ab
 |.cons e es=>shE ρ e&&Hf ρ es
noncomputable def Eu:Ad Ag->Ad D->Rho->An Rho
 |[],[],ρ=>Aa ρ
 |t::ts,d::ds,ρ=>Eu ts ds (ρ.set t (Aa (d,Ac)))
 |_,_,_=>Ae
noncomputable def FO(ts:Ad Ag)(d:D)(ρ:Rho):R Rho:=match d with
  | .tup xs=>(match Eu ts xs ρ with
    |some ρ'=>.ok ρ'
    | none=>.bad)
  |_=>.bad
noncomputable def Hy(ts:Ad Ag)(d:D)(ρ:Rho):R Rho:=match d with
  | .lst xs=>(match Eu ts xs ρ with
    |some ρ'=>.ok ρ'
    | none=>.bad)
  |d=>FO ts d ρ
noncomputable def BF(g:D->R Ao)(f:D->R D):Ad D->R (Ad D)
 |[]=>.ok []
 |x::xs=>(g x).bind fun b=>if b=Ab then (f x).bind fun y=>(BF g f xs).bind fun ys=>.ok (y::ys) else BF g f xs
noncomputable def noX{α:Type}:R α->R α
 |.ok a=>.ok a
 |_=>.bad
noncomputable def top(ρ:Rho)(e:E)(r:R D):R D:=match e with
  |.var i=>Em ρ i
  |_=>r
mutual
noncomputable def evE(Γ:Gam)(ρ:Rho):E->R D
 |.non=>.ok .non
 |.bl b=>.ok (.bl b)
 |.int i=>.ok (.int i)
 |.str x=>.ok (.str x)
 |.var i=>Fs ρ i
 |.glob g=>.ok (Γ.G g)
 |.bin op a b=>(top ρ a (evE Γ ρ a)).bind fun x=>(top ρ b (evE Γ ρ b)).bind fun y=>Dk op x y
 |.un op a=>(top ρ a (evE Γ ρ a)).bind fun x=>unD op x
 |.no a=>(top ρ a (evE Γ ρ a)).bind fun x=>(Dl x).bind fun b=>.ok (.bl (!b))
 |.and es=>evN Γ ρ es
 |.or es=>evO Γ ρ es
 |.cmp op a b=>(top ρ a (evE Γ ρ a)).bind fun x=>(top ρ b (evE Γ ρ b)).bind fun y=>BR op x y
 |.cmp2 op op' a b c=>(top ρ a (evE Γ ρ a)).bind fun x=>(top ρ b (evE Γ ρ b)).bind fun y=>(BR op x y).bind fun z=>(Dl z).bind fun k=>if k=Ab then (top ρ c (evE Γ ρ c)).bind fun u=>BR op' y u else .ok (.bl Ac)
 |.ite c a b=>(top ρ c (evE Γ ρ c)).bind fun x=>(BJ x).bind fun k=>if k=Ab then evE Γ ρ a else evE Γ ρ b
 |.call f as=>(evB Γ ρ as).bind fun xs=>(Γ.F f xs).bind fun d=>if Hf ρ as=Ab then .ok d else if Ft (Γ.fr f) d=Ab then .ok d else .bad
 |.bi b as=>(evB Γ ρ as).bind fun xs=>biD b xs
 |.isi a ks=>(top ρ a (evE Γ ρ a)).bind fun x=>DV Γ.up ks x
 |.idx a i=>(top ρ a (evE Γ ρ a)).bind fun x=>(top ρ i (evE Γ ρ i)).bind fun y=>CF x y
 |.sl a lo hi=>(top ρ a (evE Γ ρ a)).bind fun x=>(top ρ lo (evE Γ ρ lo)).bind fun l=>(slE lo l).bind fun l'=>(top ρ hi (evE Γ ρ hi)).bind fun h=>(slE hi h).bind fun h'=>slD x l' h'
 |.tup es=>(evA Γ ρ es).bind fun xs=>.ok (.tup xs)
 |.lst es=>(evA Γ ρ es).bind fun xs=>.ok (.lst xs)
 |.comp elt t it c=>(evI Γ ρ it).bind fun xs=>(noX (BF (fun x=>(top (ρ.set t (Aa (x,Ac))) c (evE Γ (ρ.set t (Aa (x,Ac))) c)).bind BJ) (fun x=>evE Γ (ρ.set t (Aa (x,Ac))) elt) xs)).bind fun ys=>.ok (.lst ys)
 |.compT elt ts it c=>(evI Γ ρ it).bind fun xs=>(noX (BF (fun x=>(FO ts x ρ).bind fun ρ'=>(top ρ' c (evE Γ ρ' c)).bind BJ) (fun x=>(FO ts x ρ).bind fun ρ'=>evE Γ ρ' elt) xs)).bind fun ys=>.ok (.lst ys)
 |.tupI it=>(evI Γ ρ it).bind fun xs=>.ok (.tup xs)
 |.dnew=>.ok (.dic [])
 |.fld o f=>(top ρ o (evE Γ ρ o)).bind fun x=>Kq x f
noncomputable def evN(Γ:Gam)(ρ:Rho):Es->R D
 |.nil=>.bad
 |.cons e .nil=>evE Γ ρ e
 |.cons e (.cons e' es)=>(evE Γ ρ e).bind fun x=>(Dl x).bind fun c=>if c=Ab then evN Γ ρ (.cons e' es) else .ok (.bl Ac)
noncomputable def evO(Γ:Gam)(ρ:Rho):Es->R D
 |.nil=>.bad
 |.cons e .nil=>evE Γ ρ e
 |.cons e (.cons e' es)=>(evE Γ ρ e).bind fun x=>(Dl x).bind fun c=>if c=Ab then .ok (.bl Ab) else evO Γ ρ (.cons e' es)
noncomputable def evA(Γ:Gam)(ρ:Rho):Es->R (Ad D)
 |.nil=>.ok []
 |.cons e es=>(evE Γ ρ e).bind fun x=>(evA Γ ρ es).bind fun xs=>.ok (x::xs)
noncomputable def evB(Γ:Gam)(ρ:Rho):Es->R (Ad D)
 |.nil=>.ok []
 |.cons e es=>(top ρ e (evE Γ ρ e)).bind fun x=>(evB Γ ρ es).bind fun xs=>.ok (x::xs)
noncomputable def evI(Γ:Gam)(ρ:Rho):I->R (Ad D)
 |.e a=>(evE Γ ρ a).bind Ck
 |.rng a=>(top ρ a (evE Γ ρ a)).bind fun x=>(Ez x).bind fun j=>Da 0 j
 |.rng2 a b=>(top ρ a (evE Γ ρ a)).bind fun x=>(top ρ b (evE Γ ρ b)).bind fun y=>(Ez x).bind fun i=>(Ez y).bind fun j=>Da i j
 |.zip a b=>(evE Γ ρ a).bind fun x=>(evE Γ ρ b).bind fun y=>(Ck x).bind fun xs=>(Ck y).bind fun ys=>.ok (El xs ys)
 |.zip3 a b c=>(evE Γ ρ a).bind fun x=>(evE Γ ρ b).bind fun y=>(evE Γ ρ c).bind fun z=>Su x y z
 |.enm a=>(evE Γ ρ a).bind fun x=>(Ck x).bind fun xs=>.ok (EB 0 xs)
end
noncomputable def DY(Γ:Gam):E->Ao
 |.lst _=>Ab
 |.comp _ _ _ _=>Ab
 |.compT _ _ _ _=>Ab
 |.dnew=>Ab
 |.bin .Add _ _=>Ab
 |.bi .list _=>Ab
 |.bi .sorted _=>Ab
 |.sl _ _ _=>Ab
 |.call f _=>Γ.fr f
 |_=>Ac
mutual
inductive S where
 |pass
 /-- x=e;fresh: x alone holds the new list -/
 |asg (i:Ag) (fresh:Ao) (e:E)
 /-- a,b,..=e -/
 |asgT (ts:Ad Ag) (e:E)
 |expr (e:E)
 |ret (e:E)|retN
 |ife (c:E) (a b:Ss)
 |fors (t:Ag) (it:I) (body:Ss)
 |forT (ts:Ad Ag) (it:I) (body:Ss)
 |whl (c:E) (body:Ss)
 /-- raise C(e,..) -/
 |rais (c:Ag) (as:Es)
 /-- try: body except C as x: h -/
 |tryx (body:Ss) (c:Ag) (x:Ag) (h:Ss)
 /-- .. except C as x: h,except C' as x: h',else: els -/
 |try2 (body:Ss) (c:Ag) (x:Ag) (h:Ss) (c':Ag) (h' els:Ss)
 /-- x.append(e),x.extend(e),x.insert(k,e),x.reverse(),x.clear() -/
 |app (i:Ag) (e:E)|ext (i:Ag) (e:E)|ins (i:Ag) (k e:E)|rev (i:Ag)|clr (i:Ag)
 /-- d[k]=e,d.setdefault(k,e) -/
 |dput (i:Ag) (k e:E)|dsd (i:Ag) (k e:E)
 /-- x[k]=e -/
 |put (i:Ag) (k e:E)
 /-- x[k],x[l]=x[l],x[k] -/
 |swp (i k l:Ag)
 /-- x.append(y.pop(e)) -/
 |apop (j i:Ag) (e:E)
 |brk|cont
 /-- nothing: from here on x is no longer changed -/
 |rel (i:Ag)
inductive Ss where
 |nil|cons (s:S) (ss:Ss)
end
inductive O where
 |next (ρ:Rho)|ret (d:D) (fr:Ao)|brk (ρ:Rho)|cont (ρ:Rho)|exn (x:Ex) (ρ:Rho)|bad
 deriving Inhabited
noncomputable def O.of{α:Type}(ρ:Rho)(r:R α)(f:α->O):O:=match r with
  |.ok a=>f a
  |.exn x=>.exn x ρ
  |.bad=>.bad
@[simp]theorem O.of_ok(ρ:Rho)(a:α)(f:α->O):O.of ρ (.ok a) f=f a:=rfl
@[simp]theorem O.of_exn(ρ:Rho)(x:Ex)(f:α->O):O.of ρ (.exn x:R α) f=.exn x ρ:=rfl
@[simp]theorem O.of_bad(ρ:Rho)(f:α->O):O.of ρ (.bad:R α) f=.bad:=rfl
noncomputable def FT(Γ:Gam)(ρ:Rho)(i:I):R (Ad D):=evI Γ ρ i
noncomputable def DU(ρ:Rho)(i:Ag):R (Ad D):=match ρ[i]? with
  |some (Aa (.lst xs,Ab))=>.ok xs
  |_=>.bad
noncomputable def Tt(ρ:Rho)(i:Ag):R (Ad (Ad Af×D)):=match ρ[i]? with
  |some (Aa (.dic xs,Ab))=>.ok xs
  |_=>.bad
noncomputable def SR(d:D):R (Ad Af):=match IT d with
  |some k=>.ok k
  |none=>.bad
noncomputable def S4:Ag:=4096
noncomputable def O.seq(o:O)(f:Rho->O):O:=match o with
  |.next ρ=>f ρ
  |.ret d b=>.ret d b
  |.brk ρ=>.brk ρ
  |.cont ρ=>.cont ρ
  |.exn x ρ=>.exn x ρ
  |.bad=>.bad
noncomputable def O.turn(o:O)(f:Rho->O):O:=match o with
  |.next ρ=>f ρ
  |.cont ρ=>f ρ
  |.brk ρ=>.next ρ
  |.ret d b=>.ret d b
  |.exn x ρ=>.exn x ρ
  |.bad=>.bad
noncomputable def Ch(body:D->Rho->O):Ad D->Rho->O
 |[],ρ=>.next ρ
 |x::xs,ρ=>(body x ρ).turn (Ch body xs)
noncomputable def OD(c:Rho->R Ao)(body:Rho->O):Ag->Rho->O
 |0,_=>.bad
 |n+1,ρ=>O.of ρ (c ρ) fun b=>if b=Ab then (body ρ).turn (OD c body n) else .next ρ
noncomputable def SY(ρ:Rho)(k:Ag):R Af:=(Fs ρ k).bind Ez
noncomputable def mK(ρ:Rho)(d:D)(i k l:Ag):O:=match d with
  |.tup [x,y]=>O.of ρ (DU ρ i) fun xs=>O.of ρ (SY ρ k) fun a=>O.of ρ (SY ρ l) fun b=>match plD xs.length a,plD xs.length b with
    |some m,Aa n=>.next (ρ.set i (Aa (.lst ((xs.set m x).set n y),Ab)))
    |_,_=>.bad
  |_=>.bad
noncomputable def apD(ρ:Rho)(j i:Ag)(ys xs:Ad D)(n:Af):O:=match plD xs.length n with
  | some m=>(match xs[m]? with
    |some d=>if (j != i&&(D7 xs.length&&D7 (ys.length+1)))=Ab then .next ((ρ.set i (Aa (.lst (xs.eraseIdx m),Ab))).set j (Aa (.lst (ys++[d]),Ab))) else .bad
    | none=>.bad)
  |none=>.bad
noncomputable def hdO(i:Ag)(y:Ex)(ρ':Rho)(fh:Rho->O):O:=match fh (ρ'.set i (Aa (.exc y.c y.fs,Ac))) with
  |.next ρ''=>.next (ρ''.set i Ae)
  |.ret d f=>.ret d f
  |_=>.bad
mutual
noncomputable def evS(Γ:Gam)(ρ:Rho):S->O
  |.pass=>.next ρ
  | .asg i fresh e=>O.of ρ (evE Γ ρ e) fun d=>if fresh=Ab then (if DY Γ e=Ab then (match d with
      |.lst xs=>.next (ρ.set i (Aa (.lst xs,Ab)))
      |.dic xs=>.next (ρ.set i (Aa (.dic xs,Ab)))
      | _=>.bad) else .bad) else .next (ρ.set i (Aa (d,Ac)))
  |.asgT ts e=>O.of ρ (evE Γ ρ e) fun d=>O.of ρ (Hy ts d ρ) fun ρ'=>.next ρ'
  |.expr e=>O.of ρ (evE Γ ρ e) fun _=>.next ρ
  |.ret e=>O.of ρ (top ρ e (evE Γ ρ e)) fun d=>.ret d (DY Γ e||(match e with | .var i=>(match ρ[i]? with|some (Aa (_,o))=>o|_=>Ac)|_=>Ac))
  |.retN=>.ret .non Ac
  |.ife c a b=>O.of ρ ((top ρ c (evE Γ ρ c)).bind BJ) fun k=>if k=Ab then evSs Γ ρ a else evSs Γ ρ b
  |.fors t it body=>O.of ρ (FT Γ ρ it) fun xs=>Ch (fun x ρ'=>evSs Γ (ρ'.set t (Aa (x,Ac))) body) xs ρ
  |.forT ts it body=>O.of ρ (FT Γ ρ it) fun xs=>Ch (fun x ρ'=>O.of ρ' (FO ts x ρ') fun ρ''=>evSs Γ ρ'' body) xs ρ
  |.whl c body=>OD (fun ρ'=>(top ρ' c (evE Γ ρ' c)).bind BJ) (fun ρ'=>evSs Γ ρ' body) S4 ρ
  |.rais c as=>O.of ρ (noX (evA Γ ρ as)) fun xs=>O.of ρ (Γ.xn c xs) fun x=>.exn x ρ
  |.tryx body c x h=>match evSs Γ ρ body with
      | .exn y ρ'=>if (Γ.up y.c).contains c=Ab then (match evSs Γ (ρ'.set x (Aa (.exc y.c y.fs,Ac))) h with
          |.next ρ''=>.next (ρ''.set x Ae)
          |.ret d f=>.ret d f
          | _=>.bad) else .bad
      |o=>o
  |.try2 body c x h c' h' els=>match evSs Γ ρ body with
      |.exn y ρ'=>if (Γ.up y.c).contains c=Ab then hdO x y ρ' (fun r=>evSs Γ r h) else if (Γ.up y.c).contains c'=Ab then hdO x y ρ' (fun r=>evSs Γ r h') else .bad
      |.next ρ'=>evSs Γ ρ' els
      |o=>o
  |.app i e=>O.of ρ (DU ρ i) fun xs=>O.of ρ (evE Γ ρ e) fun d=>if D7 (xs.length+1)=Ab then .next (ρ.set i (Aa (.lst (xs++[d]),Ab))) else .bad
  |.ext i e=>O.of ρ (DU ρ i) fun xs=>O.of ρ (evE Γ ρ e) fun d=>O.of ρ (Ox d) fun ys=>if D7 (xs.length+ys.length)=Ab then .next (ρ.set i (Aa (.lst (xs++ys),Ab))) else .bad
  |.ins i k e=>O.of ρ (DU ρ i) fun xs=>O.of ρ ((top ρ k (evE Γ ρ k)).bind Ez) fun j=>O.of ρ (evE Γ ρ e) fun d=>if (D7 (xs.length+1)&&decide (0<=j)&&decide (j<=xs.length))=Ab then .next (ρ.set i (Aa (.lst (xs.take j.toNat++d::xs.drop j.toNat),Ab))) else .bad
  |.rev i=>O.of ρ (DU ρ i) fun xs=>.next (ρ.set i (Aa (.lst xs.reverse,Ab)))
  |.clr i=>O.of ρ (DU ρ i) fun _=>.next (ρ.set i (Aa (.lst [],Ab)))
  |.dput i k e=>O.of ρ (evE Γ ρ e) fun d=>O.of ρ (Tt ρ i) fun xs=>O.of ρ ((evE Γ ρ k).bind SR) fun j=>if D7 (xs.length+1)=Ab then .next (ρ.set i (Aa (.dic (RY xs j d),Ab))) else .bad
  |.dsd i k e=>O.of ρ (Tt ρ i) fun xs=>O.of ρ ((evE Γ ρ k).bind SR) fun j=>O.of ρ (evE Γ ρ e) fun d=>if D7 (xs.length+1)=Ab then .next (ρ.set i (Aa (.dic (if (xs.any fun p=>p.1==j)=Ab then xs else RY xs j d),Ab))) else .bad
  |.put i k e=>O.of ρ (evE Γ ρ e) fun d=>O.of ρ (DU ρ i) fun xs=>O.of ρ ((top ρ k (evE Γ ρ k)).bind Ez) fun j=>match plD xs.length j with
      |some n=>.next (ρ.set i (Aa (.lst (xs.set n d),Ab)))
      |none=>.bad
  |.swp i k l=>O.of ρ (evE Γ ρ (.tup (.cons (.idx (.var i) (.var l)) (.cons (.idx (.var i) (.var k)) .nil)))) fun d=>mK ρ d i k l
  |.apop j i e=>O.of ρ (DU ρ j) fun ys=>O.of ρ (DU ρ i) fun xs=>O.of ρ (evE Γ ρ e) fun d=>O.of ρ (Ez d) fun n=>apD ρ j i ys xs n
  |.brk=>.brk ρ
  |.cont=>.cont ρ
  |.rel i=>match ρ[i]? with
      |some (Aa (d,Ab))=>.next (ρ.set i (Aa (d,Ac)))
      |_=>.next ρ
noncomputable def evSs(Γ:Gam)(ρ:Rho):Ss->O
 |.nil=>.next ρ
 |.cons s ss=>(evS Γ ρ s).seq fun ρ'=>evSs Γ ρ' ss
end
structure Df where
 n:Ag
 fr:Ao
 body:Ss
noncomputable def BL(n:Ag)(ds:Ad D):Rho:=ds.map (fun d=>Aa (d,Ac))++Gh (n-ds.length) Ae
noncomputable def isL:D->Ao
 |.lst _=>Ab
 |.dic _=>Ab
 |_=>Ac
noncomputable def O.ans(fr:Ao)(o:O):R D:=match o with
  |.ret d b=>if (fr&&(!b&&isL d))=Ab then .bad else .ok d
  |.next _=>if fr=Ab then .bad else .ok .non
  |.exn x _=>.exn x
  |_=>.bad
noncomputable def Df.run(Γ:Gam)(f:Df)(ds:Ad D):R D:=(evSs Γ (BL f.n ds) f.body).ans f.fr
structure Prg where
 xs:Ao
 defs:Ag->Df
 G:Ag->D
 up:Ag->Ad Ag
 xn:Ag->Ad D->R Ex
noncomputable def D8(xs:Ao)(r:R D):R D:=match xs with
  |true=>r
  |false=>noX r
noncomputable def gam(P:Prg):Ag->Gam
 |0=>⟨fun _ _=>.bad,P.G,P.up,fun i=>(P.defs i).fr,P.xn⟩
 |n+1=>⟨fun i ds=>D8 P.xs ((P.defs i).run (gam P n) ds),P.G,P.up,fun i=>(P.defs i).fr,P.xn⟩
end Ov
end
section
namespace Ov
open PySem
variable{α:Type}{lo hi:Af}{n:Ag}{x:D}
section
variable(Γ:Gam)(ρ:Rho)
@[simp]theorem ZvC:evE Γ ρ .non=.ok .non:=rfl
@[simp]theorem Zxt(b):evE Γ ρ (.bl b)=.ok (.bl b):=rfl
@[simp]theorem ZvG(b):evE Γ ρ (.int b)=.ok (.int b):=rfl
@[simp]theorem ZvB(b):evE Γ ρ (.str b)=.ok (.str b):=rfl
@[simp]theorem Zvz(i):evE Γ ρ (.var i)=Fs ρ i:=rfl
@[simp]theorem Zsk(i):evE Γ ρ (.glob i)=.ok (Γ.G i):=rfl
@[simp]theorem ZvJ(op a b):evE Γ ρ (.bin op a b)=(top ρ a (evE Γ ρ a)).bind fun x=>(top ρ b (evE Γ ρ b)).bind fun y=>Dk op x y:=rfl
@[simp]theorem Zxp(op a):evE Γ ρ (.un op a)=(top ρ a (evE Γ ρ a)).bind fun x=>unD op x:=rfl
@[simp]theorem Zxs(a):evE Γ ρ (.no a)=(top ρ a (evE Γ ρ a)).bind fun x=>(Dl x).bind fun b=>.ok (.bl (!b)):=rfl
@[simp]theorem ZvK(es):evE Γ ρ (.and es)=evN Γ ρ es:=rfl
@[simp]theorem Zxr(es):evE Γ ρ (.or es)=evO Γ ρ es:=rfl
@[simp]theorem Zvw(e):evN Γ ρ (.cons e .nil)=evE Γ ρ e:=rfl
@[simp]theorem Zse(e e' es):evN Γ ρ (.cons e (.cons e' es))=(evE Γ ρ e).bind fun x=>(Dl x).bind fun c=>if c=Ab then evN Γ ρ (.cons e' es) else .ok (.bl Ac):=rfl
@[simp]theorem Zvv(e):evO Γ ρ (.cons e .nil)=evE Γ ρ e:=rfl
@[simp]theorem Zsd(e e' es):evO Γ ρ (.cons e (.cons e' es))=(evE Γ ρ e).bind fun x=>(Dl x).bind fun c=>if c=Ab then .ok (.bl Ab) else evO Γ ρ (.cons e' es):=rfl
@[simp]theorem ZR(op a b):evE Γ ρ (.cmp op a b)=(top ρ a (evE Γ ρ a)).bind fun x=>(top ρ b (evE Γ ρ b)).bind fun y=>BR op x y:=rfl
@[simp]theorem Zsn(op op' a b c):evE Γ ρ (.cmp2 op op' a b c)=(top ρ a (evE Γ ρ a)).bind fun x=>(top ρ b (evE Γ ρ b)).bind fun y=>(BR op x y).bind fun z=>(Dl z).bind fun k=>if k=Ab then (top ρ c (evE Γ ρ c)).bind fun u=>BR op' y u else .ok (.bl Ac):=rfl
@[simp]theorem ZvE(c a b):evE Γ ρ (.ite c a b)=(top ρ c (evE Γ ρ c)).bind fun x=>(BJ x).bind fun k=>if k=Ab then evE Γ ρ a else evE Γ ρ b:=rfl
@[simp]theorem Zso(f as):evE Γ ρ (.call f as)=(evB Γ ρ as).bind fun xs=>(Γ.F f xs).bind fun d=>if Hf ρ as=Ab then .ok d else if Ft (Γ.fr f) d=Ab then .ok d else .bad:=rfl
@[simp]theorem Zxu(f as):evE Γ ρ (.bi f as)=(evB Γ ρ as).bind fun xs=>biD f xs:=rfl
@[simp]theorem ZvF(a ks):evE Γ ρ (.isi a ks)=(top ρ a (evE Γ ρ a)).bind fun x=>DV Γ.up ks x:=rfl
@[simp]theorem ZvH(a i):evE Γ ρ (.idx a i)=(top ρ a (evE Γ ρ a)).bind fun x=>(top ρ i (evE Γ ρ i)).bind fun y=>CF x y:=rfl
@[simp]theorem Zxq(a lo hi):evE Γ ρ (.sl a lo hi)=(top ρ a (evE Γ ρ a)).bind fun x=>(top ρ lo (evE Γ ρ lo)).bind fun l=>(slE lo l).bind fun l'=>(top ρ hi (evE Γ ρ hi)).bind fun h=>(slE hi h).bind fun h'=>slD x l' h':=rfl
@[simp]theorem ZvA(es):evE Γ ρ (.tup es)=(evA Γ ρ es).bind fun xs=>.ok (.tup xs):=rfl
@[simp]theorem ZvD(es):evE Γ ρ (.lst es)=(evA Γ ρ es).bind fun xs=>.ok (.lst xs):=rfl
noncomputable def cG(Γ:Gam)(ρ:Rho)(t:Ag)(c:E):D->R Ao:=fun x=>(top (ρ.set t (Aa (x,Ac))) c (evE Γ (ρ.set t (Aa (x,Ac))) c)).bind BJ
noncomputable def cF(Γ:Gam)(ρ:Rho)(t:Ag)(elt:E):D->R D:=fun x=>evE Γ (ρ.set t (Aa (x,Ac))) elt
noncomputable def mkL(r:R (Ad D)):R D:=(noX r).bind fun ys=>.ok (.lst ys)
@[simp]theorem Zw0(ys):mkL (.ok ys)=.ok (.lst ys):=rfl
@[simp]theorem Zsm(elt t it c):evE Γ ρ (.comp elt t it c)=(evI Γ ρ it).bind fun xs=>mkL (BF (cG Γ ρ t c) (cF Γ ρ t elt) xs):=rfl
noncomputable def cGT(Γ:Gam)(ρ:Rho)(ts:Ad Ag)(c:E):D->R Ao:=fun x=>(FO ts x ρ).bind fun ρ'=>(top ρ' c (evE Γ ρ' c)).bind BJ
noncomputable def cFT(Γ:Gam)(ρ:Rho)(ts:Ad Ag)(elt:E):D->R D:=fun x=>(FO ts x ρ).bind fun ρ'=>evE Γ ρ' elt
@[simp]theorem Zqv(elt ts it c):evE Γ ρ (.compT elt ts it c)=(evI Γ ρ it).bind fun xs=>mkL (BF (cGT Γ ρ ts c) (cFT Γ ρ ts elt) xs):=rfl
@[simp]theorem Zsj(it):evE Γ ρ (.tupI it)=(evI Γ ρ it).bind fun xs=>.ok (.tup xs):=rfl
@[simp]theorem Zsl:evE Γ ρ .dnew=.ok (.dic []):=rfl
@[simp]theorem ZvI(o f):evE Γ ρ (.fld o f)=(top ρ o (evE Γ ρ o)).bind fun x=>Kq x f:=rfl
@[simp]theorem ZvM:evA Γ ρ .nil=.ok []:=rfl
@[simp]theorem Qd(e es):evA Γ ρ (.cons e es)=(evE Γ ρ e).bind fun x=>(evA Γ ρ es).bind fun xs=>.ok (x::xs):=rfl
@[simp]theorem ZvL:evB Γ ρ .nil=.ok []:=rfl
@[simp]theorem Nm(e es):evB Γ ρ (.cons e es)=(top ρ e (evE Γ ρ e)).bind fun x=>(evB Γ ρ es).bind fun xs=>.ok (x::xs):=rfl
@[simp]theorem Zyp(a):evI Γ ρ (.e a)=(evE Γ ρ a).bind Ck:=rfl
@[simp]theorem ZQ(a):evI Γ ρ (.rng a)=(top ρ a (evE Γ ρ a)).bind fun x=>(Ez x).bind fun j=>Da 0 j:=rfl
@[simp]theorem Zsi(a b):evI Γ ρ (.rng2 a b)=(top ρ a (evE Γ ρ a)).bind fun x=>(top ρ b (evE Γ ρ b)).bind fun y=>(Ez x).bind fun i=>(Ez y).bind fun j=>Da i j:=rfl
@[simp]theorem Zvx(a b):evI Γ ρ (.zip a b)=(evE Γ ρ a).bind fun x=>(evE Γ ρ b).bind fun y=>(Ck x).bind fun xs=>(Ck y).bind fun ys=>.ok (El xs ys):=rfl
@[simp]theorem Zsh(a b c):evI Γ ρ (.zip3 a b c)=(evE Γ ρ a).bind fun x=>(evE Γ ρ b).bind fun y=>(evE Γ ρ c).bind fun z=>Su x y z:=rfl
@[simp]theorem Zvy(a):evI Γ ρ (.enm a)=(evE Γ ρ a).bind fun x=>(Ck x).bind fun xs=>.ok (EB 0 xs):=rfl
@[simp]theorem Zsf(a b):FT Γ ρ (.zip a b)=evI Γ ρ (.zip a b):=rfl
@[simp]theorem Zqt(a b c):FT Γ ρ (.zip3 a b c)=evI Γ ρ (.zip3 a b c):=rfl
@[simp]theorem Zsg(a):FT Γ ρ (.enm a)=evI Γ ρ (.enm a):=rfl
@[simp]theorem Zxo(a):FT Γ ρ (.e a)=(evE Γ ρ a).bind Ck:=rfl
@[simp]theorem WW(a):FT Γ ρ (.rng a)=evI Γ ρ (.rng a):=rfl
@[simp]theorem Zqu(a b):FT Γ ρ (.rng2 a b)=evI Γ ρ (.rng2 a b):=rfl
variable(r:R D)
@[simp]theorem ZsM(i):top ρ (.var i) r=Em ρ i:=rfl
@[simp]theorem ZsP:top ρ .non r=r:=rfl
@[simp]theorem Zwu(b):top ρ (.bl b) r=r:=rfl
@[simp]theorem ZsT(b):top ρ (.int b) r=r:=rfl
@[simp]theorem ZsO(b):top ρ (.str b) r=r:=rfl
@[simp]theorem ZrA(b):top ρ (.glob b) r=r:=rfl
@[simp]theorem ZsX(op a b):top ρ (.bin op a b) r=r:=rfl
@[simp]theorem Zwq(op a):top ρ (.un op a) r=r:=rfl
@[simp]theorem Zwt(a):top ρ (.no a) r=r:=rfl
@[simp]theorem ZsY(a):top ρ (.and a) r=r:=rfl
@[simp]theorem Zws(a):top ρ (.or a) r=r:=rfl
@[simp]theorem ZsW(op a b):top ρ (.cmp op a b) r=r:=rfl
@[simp]theorem ZrD(op op' a b c):top ρ (.cmp2 op op' a b c) r=r:=rfl
@[simp]theorem ZsR(a b c):top ρ (.ite a b c) r=r:=rfl
@[simp]theorem ZrE(a b):top ρ (.call a b) r=r:=rfl
@[simp]theorem Zwv(a b):top ρ (.bi a b) r=r:=rfl
@[simp]theorem ZsS(a b):top ρ (.isi a b) r=r:=rfl
@[simp]theorem ZsU(a b):top ρ (.idx a b) r=r:=rfl
@[simp]theorem Zwr(a b c):top ρ (.sl a b c) r=r:=rfl
@[simp]theorem ZsN(a):top ρ (.tup a) r=r:=rfl
@[simp]theorem ZsQ(a):top ρ (.lst a) r=r:=rfl
@[simp]theorem ZrC(a b c d):top ρ (.comp a b c d) r=r:=rfl
@[simp]theorem ZsV(a b):top ρ (.fld a b) r=r:=rfl
@[simp]theorem Zoz(a b c d):top ρ (.compT a b c d) r=r:=rfl
@[simp]theorem Zrz(a):top ρ (.tupI a) r=r:=rfl
@[simp]theorem ZrB:top ρ .dnew r=r:=rfl
end
@[simp]theorem Zom(x:D×Ao)(ρ:Rho):Em (Aa x::ρ) 0=.ok x.1:=rfl
@[simp]theorem Zon(x:D)(ρ:Rho):Fs (Aa (x,Ac)::ρ) 0=.ok x:=rfl
@[simp]theorem ZnX(x:Sl)(ρ:Rho)(i:Ag)[NeZero i]:Em (x::ρ) i=Em ρ (i-1):=by
 obtain⟨j,rfl⟩:∃ j,i=j+1:=⟨i-1,by have:=Ku i;omega⟩
 rfl
@[simp]theorem ZnY(x:Sl)(ρ:Rho)(i:Ag)[NeZero i]:Fs (x::ρ) i=Fs ρ (i-1):=by
 obtain⟨j,rfl⟩:∃ j,i=j+1:=⟨i-1,by have:=Ku i;omega⟩
 rfl
noncomputable def shV(ρ:Rho)(i:Ag):Ao:=match ρ[i]? with
    |some (Aa (_,Ab))=>Ac
    |_=>Ab
@[simp]theorem ZrI(x:D)(b:Ao)(ρ:Rho):shV (Aa (x,b)::ρ) 0=!b:=by cases b<;>rfl
@[simp]theorem ZoV(ρ:Rho):shV (Ae::ρ) 0=Ab:=rfl
@[simp]theorem ZoW(x:Sl)(ρ:Rho)(i:Ag)[NeZero i]:shV (x::ρ) i=shV ρ (i-1):=by
 obtain⟨j,rfl⟩:∃ j,i=j+1:=⟨i-1,by have:=Ku i;omega⟩
 rfl
section
variable(ρ:Rho)
@[simp]theorem Ztk(i):shE ρ (.var i)=shV ρ i:=rfl
@[simp]theorem Ztn:shE ρ .non=Ab:=rfl
@[simp]theorem ZwL(b):shE ρ (.bl b)=Ab:=rfl
@[simp]theorem Ztr(b):shE ρ (.int b)=Ab:=rfl
@[simp]theorem Ztm(b):shE ρ (.str b)=Ab:=rfl
@[simp]theorem ZrL(b):shE ρ (.glob b)=Ab:=rfl
@[simp]theorem Ztv(op a b):shE ρ (.bin op a b)=Ab:=rfl
@[simp]theorem ZwH(op a):shE ρ (.un op a)=Ab:=rfl
@[simp]theorem ZwK(a):shE ρ (.no a)=Ab:=rfl
@[simp]theorem Ztw(a):shE ρ (.and a)=Ab:=rfl
@[simp]theorem ZwJ(a):shE ρ (.or a)=Ab:=rfl
@[simp]theorem Ztu(op a b):shE ρ (.cmp op a b)=Ab:=rfl
@[simp]theorem ZrO(op op' a b c):shE ρ (.cmp2 op op' a b c)=Ab:=rfl
@[simp]theorem Ztp(a b c):shE ρ (.ite a b c)=Ab:=rfl
@[simp]theorem ZrP(a b):shE ρ (.call a b)=Ab:=rfl
@[simp]theorem ZwM(a b):shE ρ (.bi a b)=Ab:=rfl
@[simp]theorem Ztq(a b):shE ρ (.isi a b)=Ab:=rfl
@[simp]theorem Zts(a b):shE ρ (.idx a b)=Ab:=rfl
@[simp]theorem ZwI(a b c):shE ρ (.sl a b c)=Ab:=rfl
@[simp]theorem Ztl(a):shE ρ (.tup a)=Ab:=rfl
@[simp]theorem Zto(a):shE ρ (.lst a)=Ab:=rfl
@[simp]theorem ZrN(a b c d):shE ρ (.comp a b c d)=Ab:=rfl
@[simp]theorem ZoX(a b c d):shE ρ (.compT a b c d)=Ab:=rfl
@[simp]theorem ZrK(a):shE ρ (.tupI a)=Ab:=rfl
@[simp]theorem ZrM:shE ρ .dnew=Ab:=rfl
@[simp]theorem Ztt(a b):shE ρ (.fld a b)=Ab:=rfl
@[simp]theorem ZrJ:Hf ρ .nil=Ab:=rfl
@[simp]theorem Wb(e es):Hf ρ (.cons e es)=(shE ρ e&&Hf ρ es):=rfl
end
@[simp]theorem Zn1(ρ:Rho):Eu [] [] ρ=Aa ρ:=rfl
@[simp]theorem ZlS(t ts d ds)(ρ:Rho):Eu (t::ts) (d::ds) ρ=Eu ts ds (ρ.set t (Aa (d,Ac))):=rfl
@[simp]theorem Wt(ts ds)(ρ:Rho):Hy ts (.lst ds) ρ=match Eu ts ds ρ with
  |some ρ'=>.ok ρ'
  |none=>.bad:=rfl
@[simp]theorem Zq0(ts ds)(ρ:Rho):Hy ts (.tup ds) ρ=FO ts (.tup ds) ρ:=rfl
@[simp]theorem Pv(ts ds)(ρ:Rho):FO ts (.tup ds) ρ=match Eu ts ds ρ with
  |some ρ'=>.ok ρ'
  |none=>.bad:=rfl
@[simp]theorem Zsv{β:Type}(c:Prop)[Dg c](a b:R α)(f:α->R β):(if c then a else b).bind f=if c then a.bind f else b.bind f:=by split<;>rfl
@[simp]theorem ZwY(ρ:Rho)(c:Prop)[Dg c](a b:R α)(f:α->O):O.of ρ (if c then a else b) f=if c then O.of ρ a f else O.of ρ b f:=by split<;>rfl
@[simp]theorem ZuF{β:Type}(ρ:Rho)(a:R α)(g:α->R β)(f:β->O):O.of ρ (a.bind g) f=O.of ρ a fun x=>O.of ρ (g x) f:=by cases a<;>rfl
@[simp]theorem Zty(c:Prop)[Dg c](a b:O)(f:Rho->O):O.seq (if c then a else b) f=if c then a.seq f else b.seq f:=by split<;>rfl
@[simp]theorem Zrp(c:Prop)[Dg c](a b:O)(f:Rho->O):O.turn (if c then a else b) f=if c then a.turn f else b.turn f:=by split<;>rfl
@[simp]theorem Zwa(fr:Ao)(c:Prop)[Dg c](a b:O):O.ans fr (if c then a else b)=if c then a.ans fr else b.ans fr:=by split<;>rfl
@[simp]theorem ZrQ(ρ f):O.seq (.next ρ) f=f ρ:=rfl
@[simp]theorem Ztx(d b f):O.seq (.ret d b) f=.ret d b:=rfl
@[simp]theorem ZtA(ρ f):O.seq (.brk ρ) f=.brk ρ:=rfl
@[simp]theorem ZrR(ρ f):O.seq (.cont ρ) f=.cont ρ:=rfl
@[simp]theorem Ztz(x ρ f):O.seq (.exn x ρ) f=.exn x ρ:=rfl
@[simp]theorem ZtB(f):O.seq .bad f=.bad:=rfl
@[simp]theorem Zot(ρ f):O.turn (.next ρ) f=f ρ:=rfl
@[simp]theorem Zro(d b f):O.turn (.ret d b) f=.ret d b:=rfl
@[simp]theorem Zrr(ρ f):O.turn (.brk ρ) f=.next ρ:=rfl
@[simp]theorem Zou(ρ f):O.turn (.cont ρ) f=f ρ:=rfl
@[simp]theorem Zrq(x ρ f):O.turn (.exn x ρ) f=.exn x ρ:=rfl
@[simp]theorem Zrs(f):O.turn .bad f=.bad:=rfl
@[simp]theorem Zsx(ρ):O.ans Ac (.next ρ)=.ok .non:=rfl
@[simp]theorem Zv9(d b):O.ans Ac (.ret d b)=.ok d:=rfl
@[simp]theorem Zsw(d b):O.ans Ab (.ret d b)=if (!b&&isL d)=Ab then .bad else .ok d:=rfl
@[simp]theorem Zu3(d):isL (.lst d)=Ab:=rfl
@[simp]theorem Zu2(d):isL (.tup d)=Ac:=rfl
@[simp]theorem Zu4(d):isL (.int d)=Ac:=rfl
@[simp]theorem Zwb(fr x ρ):O.ans fr (.exn x ρ)=.exn x:=rfl
@[simp]theorem Zwc(fr):O.ans fr .bad=.bad:=rfl
@[simp]theorem ZxC(i j:Af):Dk .Add (.int i) (.int j)=.ok (.int (i+j)):=rfl
@[simp]theorem ZwC(i j:Af):Dk .Sub (.int i) (.int j)=.ok (.int (i-j)):=rfl
@[simp]theorem cZ(i j:Af):Dk .Mult (.int i) (.int j)=if (Ey i j||EO i j)=Ab then .ok (.int (i*j)) else .bad:=rfl
@[simp]theorem YQ(i j:Af):Dk .FloorDiv (.int i) (.int j)=if 0<j/\j<1073741824 then .ok (.int (i / j)) else .bad:=rfl
@[simp]theorem dA(i j:Af):Dk .Mod (.int i) (.int j)=if 0<j then .ok (.int (i%j)) else .bad:=rfl
@[simp]theorem eA(i j:Af):Dk .Pow (.int i) (.int j)=if (0<=j/\j<=1000000)/\(-(18446744073709551616:Af)<i/\i<18446744073709551616) then .ok (.int (i ^ j.toNat)) else .bad:=rfl
@[simp]theorem fY(x y:Ah):Dk .Add (.str x) (.str y)=if D7 (x.length+y.length)=Ab then .ok (.str (x++y)) else .bad:=rfl
@[simp]theorem Rz(x y:Ad D):Dk .Add (.lst x) (.lst y)=if D7 (x.length+y.length)=Ab then .ok (.lst (x++y)) else .bad:=rfl
@[simp]theorem fW(x y:Ad D):Dk .Add (.tup x) (.tup y)=if (!x.isEmpty&&D7 (x.length+y.length))=Ab then .ok (.tup (x++y)) else .bad:=rfl
@[simp]theorem Zx7(i:Af):unD .USub (.int i)=.ok (.int (-i)):=rfl
@[simp]theorem kY(x y:D):BR .Eq x y=if (flD 5 x&&flD 5 y)=Ab then .ok (.bl (eqD x y)) else .bad:=rfl
@[simp]theorem jO(x y:D):BR .NotEq x y=if (flD 5 x&&flD 5 y)=Ab then .ok (.bl (!eqD x y)) else .bad:=rfl
@[simp]theorem Zx8(i j:Af):BR .Lt (.int i) (.int j)=.ok (.bl (decide (i<j))):=rfl
@[simp]theorem Zyb(i j:Af):BR .LtE (.int i) (.int j)=.ok (.bl (decide (i<=j))):=rfl
@[simp]theorem Zym(i j:Af):BR .Gt (.int i) (.int j)=.ok (.bl (decide (j<i))):=rfl
@[simp]theorem Zyn(i j:Af):BR .GtE (.int i) (.int j)=.ok (.bl (decide (j<=i))):=rfl
@[simp]theorem mW(x:D)(ys:Ad D):BR .In x (.lst ys)=if (flD 5 x&&ys.all (flD 5))=Ab then .ok (.bl (ys.any fun y=>eqD y x)) else .bad:=rfl
@[simp]theorem mV(x:D)(ys:Ad D):BR .In x (.tup ys)=if (flD 5 x&&ys.all (flD 5))=Ab then .ok (.bl (ys.any fun y=>eqD y x)) else .bad:=rfl
@[simp]theorem jM(x:D)(ys:Ad D):BR .NotIn x (.lst ys)=if (flD 5 x&&ys.all (flD 5))=Ab then .ok (.bl (!ys.any fun y=>eqD y x)) else .bad:=rfl
@[simp]theorem jL(x:D)(ys:Ad D):BR .NotIn x (.tup ys)=if (flD 5 x&&ys.all (flD 5))=Ab then .ok (.bl (!ys.any fun y=>eqD y x)) else .bad:=rfl
@[simp]theorem Zxb:BR .Is .non .non=.ok (.bl Ab):=rfl
@[simp]theorem Zxd(i):BR .Is (.int i) .non=.ok (.bl Ac):=rfl
@[simp]theorem Zxa(i):BR .Is (.tup i) .non=.ok (.bl Ac):=rfl
@[simp]theorem Zxc(i):BR .Is (.lst i) .non=.ok (.bl Ac):=rfl
@[simp]theorem Zyf(a b):BR .Is (.bl a) (.bl b)=.ok (.bl (a==b)):=rfl
@[simp]theorem Zw8(a b):BR .IsNot (.bl a) (.bl b)=.ok (.bl (!(a==b))):=rfl
@[simp]theorem ZuS:BR .IsNot .non .non=.ok (.bl Ac):=rfl
@[simp]theorem ZuU(i):BR .IsNot (.int i) .non=.ok (.bl Ab):=rfl
@[simp]theorem ZuR(i):BR .IsNot (.tup i) .non=.ok (.bl Ab):=rfl
@[simp]theorem ZuT(i):BR .IsNot (.lst i) .non=.ok (.bl Ab):=rfl
@[simp]theorem ZvS(i j:Af):eqD (.int i) (.int j)=(i==j):=rfl
@[simp]theorem Zxv(i j:Ao):eqD (.bl i) (.bl j)=(i==j):=rfl
@[simp]theorem ZvP(i j:Ah):eqD (.str i) (.str j)=(i==j):=rfl
@[simp]theorem ZvO(i j:Ad D):eqD (.tup i) (.tup j)=eqDs i j:=rfl
@[simp]theorem ZvR(i j:Ad D):eqD (.lst i) (.lst j)=eqDs i j:=rfl
@[simp]theorem ZvQ:eqD .non .non=Ab:=rfl
@[simp]theorem Znf(i):eqD .non (.int i)=Ac:=rfl
@[simp]theorem Zng(i):eqD (.int i) .non=Ac:=rfl
@[simp]theorem Zsp:eqDs [] []=Ab:=rfl
@[simp]theorem M2(x y:D)(xs ys:Ad D):eqDs (x::xs) (y::ys)=(eqD x y&&eqDs xs ys):=rfl
@[simp]theorem Zvk(n)(i:Af):flD n (.int i)=Ab:=by cases n<;>rfl
@[simp]theorem Zxn(n)(i:Ao):flD n (.bl i)=Ab:=by cases n<;>rfl
@[simp]theorem Zvi(n)(i:Ah):flD n (.str i)=Ab:=by cases n<;>rfl
@[simp]theorem Zvj(n):flD n .non=Ab:=by cases n<;>rfl
@[simp]theorem ZrV(i):flD 5 (.tup i)=i.all (flD 4):=rfl
@[simp]theorem Zr0(i):flD 5 (.lst i)=i.all (flD 4):=rfl
@[simp]theorem ZrW(i):flD 4 (.tup i)=i.all (flD 3):=rfl
@[simp]theorem Zr1(i):flD 4 (.lst i)=i.all (flD 3):=rfl
@[simp]theorem ZrX(i):flD 3 (.tup i)=i.all (flD 2):=rfl
@[simp]theorem Zr2(i):flD 3 (.lst i)=i.all (flD 2):=rfl
@[simp]theorem ZrY(i):flD 2 (.tup i)=i.all (flD 1):=rfl
@[simp]theorem Zr3(i):flD 2 (.lst i)=i.all (flD 1):=rfl
@[simp]theorem ZrZ(i):flD 1 (.tup i)=i.all (flD 0):=rfl
@[simp]theorem Zr4(i):flD 1 (.lst i)=i.all (flD 0):=rfl
@[simp]theorem ZsJ(b):BJ (.bl b)=.ok b:=rfl
@[simp]theorem Zrw(i):BJ (.int i)=.ok (i != 0):=rfl
@[simp]theorem Zrv(i):BJ (.lst i)=.ok (!i.isEmpty):=rfl
@[simp]theorem Zrt(i):BJ (.tup i)=.ok (!i.isEmpty):=rfl
@[simp]theorem Zru:BJ .non=.ok Ac:=rfl
@[simp]theorem ZsK(b):DX (.bl b)=.ok b:=rfl
@[simp]theorem Zry(i):DX (.int i)=.ok (i != 0):=rfl
@[simp]theorem Zrx:DX .non=.ok Ac:=rfl
@[simp]theorem Zra:GH []=.ok Ab:=rfl
@[simp]theorem Pz(x r):GH (x::r)=(DX x).bind fun b=>(GH r).bind fun c=>.ok (b&&c):=rfl
@[simp]theorem Zq9:Fa []=.ok Ac:=rfl
@[simp]theorem Py(x r):Fa (x::r)=(DX x).bind fun b=>(Fa r).bind fun c=>.ok (b||c):=rfl
@[simp]theorem ZvX(b)(d):D8 b (.ok d)=.ok d:=by cases b<;>rfl
@[simp]theorem Zsr(b):D8 b .bad=.bad:=by cases b<;>rfl
@[simp]theorem Zsq(x):D8 Ab (.exn x)=.exn x:=rfl
@[simp]theorem Zn9(r):D8 Ac r=noX r:=rfl
@[simp]theorem ZuG(a:α):noX (.ok a)=.ok a:=rfl
@[simp]theorem ZuI:noX (.bad:R α)=.bad:=rfl
@[simp]theorem ZuH(x):noX (.exn x:R α)=.bad:=rfl
@[simp]theorem Zv7(b):Dl (.bl b)=.ok b:=rfl
@[simp]theorem P8(b):Ez (.int b)=.ok b:=rfl
@[simp]theorem Zq3(b):Ox (.lst b)=.ok b:=rfl
@[simp]theorem Zq2(b):Ck (.lst b)=.ok b:=rfl
@[simp]theorem Zq1(b):Ck (.tup b)=.ok b:=rfl
@[simp]theorem jD(xs i):CF (.lst xs) (.int i)=Db xs i:=rfl
@[simp]theorem jC(xs i):CF (.tup xs) (.int i)=Db xs i:=rfl
@[simp]theorem Zya(xs):biD .len [.lst xs]=.ok (.int xs.length):=rfl
@[simp]theorem Zx9(xs):biD .len [.tup xs]=.ok (.int xs.length):=rfl
@[simp]theorem Zyx(i):biD .abs [.int i]=.ok (.int (if i<0 then -i else i)):=rfl
@[simp]theorem Zw2(i j):biD .max [.int i,.int j]=.ok (.int (if i<j then j else i)):=rfl
@[simp]theorem Zw1(i j):biD .min [.int i,.int j]=.ok (.int (if j<i then j else i)):=rfl
@[simp]theorem Zyg(i):biD .int [.int i]=.ok (.int i):=rfl
@[simp]theorem Zyh(i):biD .int [.bl i]=.ok (.int (b2i i)):=rfl
@[simp]theorem Zw7(i):biD .list [.lst i]=.ok (.lst i):=rfl
@[simp]theorem Zw6(i):biD .list [.tup i]=.ok (.lst i):=rfl
@[simp]theorem ZsI(i):biD .tuple [.lst i]=.ok (.tup i):=rfl
@[simp]theorem ZsH(i):biD .tuple [.tup i]=.ok (.tup i):=rfl
@[simp]theorem lM(i):biD .all [.lst i]=(GH i).bind fun b=>.ok (.bl b):=rfl
@[simp]theorem Zyv(i):biD .any [.lst i]=(Fa i).bind fun b=>.ok (.bl b):=rfl
@[simp]theorem Zyu(i):biD .any [.tup i]=(Fa i).bind fun b=>.ok (.bl b):=rfl
@[simp]theorem ZxX(i):biD .sum [.lst i]=(Gp 0 i).bind fun b=>.ok (.int b):=rfl
@[simp]theorem ZxW(i):biD .sum [.tup i]=(Gp 0 i).bind fun b=>.ok (.int b):=rfl
@[simp]theorem ZrG(i):biD .sorted [.lst i]=(QI i).bind fun b=>.ok (.lst b):=rfl
@[simp]theorem ZxY(xs k):biD .stp [.lst xs,.int k]=.ok (.lst (Tk k.toNat xs)):=rfl
@[simp]theorem Zx2(xs):biD .rvs [.lst xs]=.ok (.lst xs.reverse):=rfl
@[simp]theorem Zw4(xs):biD .lset [.lst xs]=SK xs:=rfl
@[simp]theorem Zww(x y):biD .tmin [x,y]=mmD Ac x y:=rfl
@[simp]theorem ZxI(x y):biD .tlt [x,y]=TF x y:=rfl
@[simp]theorem Zwx(x y):biD .tmax [x,y]=mmD Ab x y:=rfl
@[simp]theorem ZvZ(xs x):biD .count [.lst xs,x]=if (flD 5 x&&xs.all (flD 5))=Ab then .ok (.int ((xs.filter fun y=>eqD y x).length:Ag)) else .bad:=rfl
@[simp]theorem mL(xs lo hi):slD (.tup xs) lo hi=if (Hz xs.length 0 lo==0&&Hz xs.length xs.length hi==xs.length)=Ab then .bad else .ok (.tup (JB xs lo hi)):=rfl
@[simp]theorem ZyF(xs lo hi):slD (.lst xs) lo hi=.ok (.lst (JB xs lo hi)):=rfl
@[simp]theorem Ztg(d):slE .non d=.ok Ae:=rfl
@[simp]theorem Zth(k i):slE (.int k) (.int i)=.ok (Aa i):=rfl
@[simp]theorem Ztf(k i):slE (.var k) (.int i)=.ok (Aa i):=rfl
@[simp]theorem Zti(op a b i):slE (.bin op a b) (.int i)=.ok (Aa i):=rfl
@[simp]theorem ZwF(op a i):slE (.un op a) (.int i)=.ok (Aa i):=rfl
@[simp]theorem ZwG(b as i):slE (.bi b as) (.int i)=.ok (Aa i):=rfl
@[simp]theorem ZuX(up ks):DV up ks .non=if ks.any Dy=Ab then .bad else .ok (.bl (ks.any fun k=>kiD up k .non)):=rfl
@[simp]theorem Zw9(up ks b):DV up ks (.bl b)=if ks.any Dy=Ab then .bad else .ok (.bl (ks.any fun k=>kiD up k (.bl b))):=rfl
@[simp]theorem ZuZ(up ks b):DV up ks (.int b)=if ks.any Dy=Ab then .bad else .ok (.bl (ks.any fun k=>kiD up k (.int b))):=rfl
@[simp]theorem ZuW(up ks b):DV up ks (.str b)=if ks.any Dy=Ab then .bad else .ok (.bl (ks.any fun k=>kiD up k (.str b))):=rfl
@[simp]theorem ZuV(up ks b):DV up ks (.tup b)=if ks.any Dy=Ab then .bad else .ok (.bl (ks.any fun k=>kiD up k (.tup b))):=rfl
@[simp]theorem ZuY(up ks b):DV up ks (.lst b)=if ks.any Dy=Ab then .bad else .ok (.bl (ks.any fun k=>kiD up k (.lst b))):=rfl
@[simp]theorem Zu0(up ks c f):DV up ks (.exc c f)=if ks.all Dy=Ab then .ok (.bl (ks.any fun k=>kiD up k (.exc c f))) else .bad:=rfl
@[simp]theorem Zsu(c):Dy (.cls c)=Ab:=rfl
@[simp]theorem ZqG:Dy .verr=Ab:=rfl
@[simp]theorem Zst:Dy .int=Ac:=rfl
@[simp]theorem ZqI:Dy .bool=Ac:=rfl
@[simp]theorem Zss:Dy .str=Ac:=rfl
@[simp]theorem ZqH:Dy .list=Ac:=rfl
@[simp]theorem Zoa:Dy .tuple=Ac:=rfl
@[simp]theorem Zn4(up i):kiD up .int (.int i)=Ab:=rfl
@[simp]theorem Zn3(up):kiD up .int .non=Ac:=rfl
@[simp]theorem ZmQ(up i):kiD up .bool (.int i)=Ac:=rfl
@[simp]theorem Zn2(up i):kiD up .int (.tup i)=Ac:=rfl
@[simp]theorem Zn6(up i):kiD up .bool (.bl i)=Ab:=rfl
@[simp]theorem ZmP(up):kiD up .bool .non=Ac:=rfl
@[simp]theorem ZmO(up i):kiD up .list (.lst i)=Ab:=rfl
@[simp]theorem ZkK(up i):kiD up .tuple (.tup i)=Ab:=rfl
@[simp]theorem ZkL(up):kiD up .tuple .non=Ac:=rfl
@[simp]theorem Zn5(up c k f):kiD up (.cls c) (.exc k f)=(up k).contains c:=rfl
@[simp]theorem ZmN(up k f):kiD up .verr (.exc k f)=Ab:=rfl
theorem WP(xs:Ad D)(k:Ag)(h:k<xs.length):Db xs (k:Af)=.ok (xs[k]):=by
 unfold Db plD;have h1:(0:Af)<=k:=Int.natCast_nonneg k;have h2:(k:Af)<(xs.length:Ag):=by omega
 rw[Aw h1,Aw h2];simp[h]
theorem P9{xs:Ad D}{i:Af}{d:D}(h0:0<=i)(h:xs[i.toNat]?=Aa d):Db xs i=.ok d:=by
 unfold Db plD;obtain⟨h1,_⟩:=A7.mp h;rw[Aw h0,Aw (by omega)]
 dsimp only;rw[h]
section
variable(Γ:Gam)(ρ:Rho)
@[simp]theorem Zr5:evSs Γ ρ .nil=.next ρ:=rfl
noncomputable def Gm(Γ:Gam)(ss:Ss)(o:O):O:=o.seq fun ρ'=>evSs Γ ρ' ss
@[simp]theorem M1(s ss):evSs Γ ρ (.cons s ss)=Gm Γ ss (evS Γ ρ s):=rfl
@[simp]theorem Zvc(ss):Gm Γ ss (.next ρ)=evSs Γ ρ ss:=rfl
@[simp]theorem Zxi(ss d b):Gm Γ ss (.ret d b)=.ret d b:=rfl
@[simp]theorem Zxl(ss):Gm Γ ss (.brk ρ)=.brk ρ:=rfl
@[simp]theorem Zvd(ss):Gm Γ ss (.cont ρ)=.cont ρ:=rfl
@[simp]theorem Zxk(ss x):Gm Γ ss (.exn x ρ)=.exn x ρ:=rfl
@[simp]theorem Zxm(ss):Gm Γ ss .bad=.bad:=rfl
@[simp]theorem Zxj(ss)(c:Prop)[Dg c](a b:O):Gm Γ ss (if c then a else b)=if c then Gm Γ ss a else Gm Γ ss b:=by split<;>rfl
@[simp]theorem fN(o:O):Gm Γ .nil o=o:=by cases o<;>rfl
noncomputable def BK(Γ:Gam)(t:Ag)(body:Ss):D->Rho->O:=fun x ρ'=>evSs Γ (ρ'.set t (Aa (x,Ac))) body
noncomputable def whC(Γ:Gam)(c:E):Rho->R Ao:=fun ρ'=>(top ρ' c (evE Γ ρ' c)).bind BJ
noncomputable def whB(Γ:Gam)(body:Ss):Rho->O:=fun ρ'=>evSs Γ ρ' body
noncomputable def OQ(Γ:Gam)(t:Ag)(body:Ss)(ρ:Rho)(r:R (Ad D)):O:=O.of ρ r fun xs=>Ch (BK Γ t body) xs ρ
@[simp]theorem NJ(t body xs):OQ Γ t body ρ (.ok xs)=Ch (BK Γ t body) xs ρ:=rfl
@[simp]theorem Zr8:evS Γ ρ .pass=.next ρ:=rfl
@[simp]theorem Zvt(i e):evS Γ ρ (.asg i Ac e)=O.of ρ (evE Γ ρ e) fun d=>.next (ρ.set i (Aa (d,Ac))):=rfl
@[simp]theorem Zsa(e):evS Γ ρ (.expr e)=O.of ρ (evE Γ ρ e) fun _=>.next ρ:=rfl
@[simp]theorem Zvo(e):evS Γ ρ (.ret e)=O.of ρ (top ρ e (evE Γ ρ e)) fun d=>.ret d (DY Γ e||(match e with | .var i=>(match ρ[i]? with|some (Aa (_,o))=>o|_=>Ac)|_=>Ac)):=rfl
@[simp]theorem Zr6:evS Γ ρ .retN=.ret .non Ac:=rfl
@[simp]theorem Zvp(c a b):evS Γ ρ (.ife c a b)=O.of ρ ((top ρ c (evE Γ ρ c)).bind BJ) fun k=>if k=Ab then evSs Γ ρ a else evSs Γ ρ b:=rfl
@[simp]theorem Nl(t it body):evS Γ ρ (.fors t it body)=OQ Γ t body ρ (FT Γ ρ it):=rfl
noncomputable def FP(Γ:Gam)(ts:Ad Ag)(body:Ss):D->Rho->O:=fun x ρ'=>O.of ρ' (FO ts x ρ') fun ρ''=>evSs Γ ρ'' body
noncomputable def Ol(Γ:Gam)(ts:Ad Ag)(body:Ss)(ρ:Rho)(r:R (Ad D)):O:=O.of ρ r fun xs=>Ch (FP Γ ts body) xs ρ
@[simp]theorem WQ(t body xs):Ol Γ t body ρ (.ok xs)=Ch (FP Γ t body) xs ρ:=rfl
@[simp]theorem Zr9(t it body):evS Γ ρ (.forT t it body)=Ol Γ t body ρ (FT Γ ρ it):=rfl
@[simp]theorem Zsc(ts e):evS Γ ρ (.asgT ts e)=O.of ρ (evE Γ ρ e) fun d=>O.of ρ (Hy ts d ρ) fun ρ'=>.next ρ':=rfl
theorem WV(i e):evS Γ ρ (.asg i Ab e)=O.of ρ (evE Γ ρ e) fun d=>if DY Γ e=Ab then (match d with
      |.lst xs=>.next (ρ.set i (Aa (.lst xs,Ab)))
      |.dic xs=>.next (ρ.set i (Aa (.dic xs,Ab)))
      | _=>.bad) else .bad:=rfl
noncomputable def setF(ρ:Rho)(i:Ag):D->O
 |.lst xs=>.next (ρ.set i (Aa (.lst xs,Ab)))
 |.dic xs=>.next (ρ.set i (Aa (.dic xs,Ab)))
 |_=>.bad
@[simp]theorem ZwN(i xs):setF ρ i (.lst xs)=.next (ρ.set i (Aa (.lst xs,Ab))):=rfl
@[simp]theorem ZwO(i xs):setF ρ i (.dic xs)=.next (ρ.set i (Aa (.dic xs,Ab))):=rfl
@[simp]theorem Zqs(i e):evS Γ ρ (.asg i Ab e)=O.of ρ (evE Γ ρ e) fun d=>if DY Γ e=Ab then setF ρ i d else .bad:=by
 rw[WV]
 congr 1
@[simp]theorem Zvu(i e):evS Γ ρ (.app i e)=O.of ρ (DU ρ i) fun xs=>O.of ρ (evE Γ ρ e) fun d=>if D7 (xs.length+1)=Ab then .next (ρ.set i (Aa (.lst (xs++[d]),Ab))) else .bad:=rfl
@[simp]theorem Zvq(i e):evS Γ ρ (.ext i e)=O.of ρ (DU ρ i) fun xs=>O.of ρ (evE Γ ρ e) fun d=>O.of ρ (Ox d) fun ys=>if D7 (xs.length+ys.length)=Ab then .next (ρ.set i (Aa (.lst (xs++ys),Ab))) else .bad:=rfl
@[simp]theorem Zvn(i):evS Γ ρ (.rev i)=O.of ρ (DU ρ i) fun xs=>.next (ρ.set i (Aa (.lst xs.reverse,Ab))):=rfl
@[simp]theorem Zvr(i):evS Γ ρ (.clr i)=O.of ρ (DU ρ i) fun _=>.next (ρ.set i (Aa (.lst [],Ab))):=rfl
theorem NK(i k e):evS Γ ρ (.put i k e)=O.of ρ (evE Γ ρ e) fun d=>O.of ρ (DU ρ i) fun xs=>O.of ρ ((top ρ k (evE Γ ρ k)).bind Ez) fun j=>match plD xs.length j with
      |some n=>.next (ρ.set i (Aa (.lst (xs.set n d),Ab)))
      |none=>.bad:=rfl
@[simp]theorem WT(body c x h):evS Γ ρ (.tryx body c x h)=match evSs Γ ρ body with
      | .exn y ρ'=>if (Γ.up y.c).contains c=Ab then (match evSs Γ (ρ'.set x (Aa (.exc y.c y.fs,Ac))) h with
          |.next ρ''=>.next (ρ''.set x Ae)
          |.ret d f=>.ret d f
          | _=>.bad) else .bad
      |o=>o:=rfl
@[simp]theorem WU(body c x h c' h' els):evS Γ ρ (.try2 body c x h c' h' els)=match evSs Γ ρ body with
      |.exn y ρ'=>if (Γ.up y.c).contains c=Ab then hdO x y ρ' (fun r=>evSs Γ r h) else if (Γ.up y.c).contains c'=Ab then hdO x y ρ' (fun r=>evSs Γ r h') else .bad
      |.next ρ'=>evSs Γ ρ' els
      |o=>o:=rfl
@[simp]theorem Zvm(c body):evS Γ ρ (.whl c body)=OD (whC Γ c) (whB Γ body) S4 ρ:=rfl
@[simp]theorem Zr7(c as):evS Γ ρ (.rais c as)=O.of ρ (noX (evA Γ ρ as)) fun xs=>O.of ρ (Γ.xn c xs) fun x=>.exn x ρ:=rfl
@[simp]theorem Zvs:evS Γ ρ .brk=.brk ρ:=rfl
@[simp]theorem Zsb:evS Γ ρ .cont=.cont ρ:=rfl
end
end Ov
namespace Ov
open PySem
theorem Qb{body:D->Rho->O}(P:Rho->Prop):∀(xs:Ad D)(ρ:Rho),P ρ->(∀ x∈xs,∀ ρ,P ρ->∃ ρ',body x ρ=.next ρ'/\P ρ')->∃ ρ',Ch body xs ρ=.next ρ'/\P ρ'
 |[],ρ,h,_=>⟨ρ,rfl,h⟩
 |x::xs,ρ,h,k=>by
  obtain⟨ρ1,e1,h1⟩:=k x AH ρ h;obtain⟨ρ2,e2,h2⟩:=Qb P xs ρ1 h1 fun y hy=>k y (Ax _ hy)
  exact⟨ρ2,by show (body x ρ).turn _=_;rw[e1];exact e2,h2⟩
theorem We(h1:0<=lo)(h2:lo<1000000)(h3:0<=hi)(h4:hi<1000000):Da lo hi=.ok (DK lo (hi-lo).toNat):=by
 unfold Da;rw[Aw (by omega)]
theorem Wf(h3:0<=hi)(h4:hi<1000000):Da 0 hi=.ok (DK 0 hi.toNat):=by
 rw[We (by omega) (by omega) h3 h4,GX]
theorem Qx(h:x∈DK lo n):∃ k:Ag,k<n/\x=.int (lo+(k:Af)):=by
 obtain⟨k,hk,e⟩:=Cn.mp h;exact⟨k,BA.mp hk,e.symm⟩
theorem MY(lo:Af)(n:Ag):(DK lo n).length=n:=by simp[DK]
theorem Xj{i:Ag}(h:(DK lo n)[i]?=Aa x):i<n/\x=.int (lo+(i:Af)):=by
 have hl:=(A7.mp h).1;rw[MY]at hl;unfold DK at h;rw[Fl,List.getElem?_range hl]at h;cases h;exact⟨hl,rfl⟩
noncomputable def Ss.take:Ag->Ss->Ss
 |0,_=>.nil
 |_,.nil=>.nil
 |n+1,.cons s ss=>.cons s (ss.take n)
noncomputable def Ss.drop:Ag->Ss->Ss
 |0,ss=>ss
 |_,.nil=>.nil
 |n+1,.cons _ ss=>ss.drop n
end Ov
end
section
namespace Ov
noncomputable def xfD:Ag->D->Ao
 |0,.int i=>decide (0<=i)&&decide (i<100)
 |n+1,.tup ds=>C7 ds.length 8&&ds.all (xfD n)
 |_,_=>Ac
noncomputable def mkX(c:Ag)(f:PySem.Str):Ad D->R Ex
 |[d]=>if (xfD 1 d||xfD 2 d)=Ab then .ok ⟨c,[(f,d)]⟩ else .bad
 |_=>.bad
end Ov
end
section
namespace OvC
open PySem Ov PyProof.Rows
variable{j:Af}
noncomputable abbrev scr(ns:Ad Af):D:=.lst (ns.map .int)
noncomputable abbrev sh(d:D):Sl:=Aa (d,Ac)
noncomputable abbrev si(i:Af):Sl:=Aa (.int i,Ac)
theorem four{P:Ag->Prop}(h0:P 0)(h1:P 1)(h2:P 2)(h3:P 3):P (j%4).toNat:=by
 have:(j%4).toNat=0\/(j%4).toNat=1\/(j%4).toNat=2\/(j%4).toNat=3:=by omega
 rcases this with e|e|e|e<;>rw[e]<;>assumption
def P4(p:Af):Prop:=p=3\/p=5\/p=7\/p=11
noncomputable def pr4(j:Af):Af:=[3,5,7,11].getD (j%4).toNat 0
theorem dZ(j):P4 (pr4 j):=by
 unfold pr4;exact four (P:=fun j=>P4 ([3,5,7,11].getD j 0)) (.inl rfl) (.inr (.inl rfl)) (.inr (.inr (.inl rfl))) (.inr (.inr (.inr rfl)))
theorem P4.pos{p}(h:P4 p):0<p:=by rcases h with rfl|rfl|rfl|rfl<;>decide
theorem P4.lo{p}(h:P4 p):3<=p:=by rcases h with rfl|rfl|rfl|rfl<;>decide
theorem P4.hi{p}(h:P4 p):p<=11:=by rcases h with rfl|rfl|rfl|rfl<;>decide
theorem Xk(j:Af):Db [.int 3,.int 5,.int 7,.int 11] (j%4)=.ok (.int (pr4 j)):=by
 have h:=four (P:=fun j=>[D.int 3,D.int 5,D.int 7,D.int 11][j]?=Aa (D.int ([3,5,7,11].getD j 0))) (j:=j) rfl rfl rfl rfl
 exact P9 (by omega) h
theorem Jo{i:Af}(h0:-18446744073709551616<i)(h1:i<18446744073709551616):Ey i j=Ab:=by simp[Ey];left;exact⟨h0,h1⟩
theorem NC{i:Af}(h0:-18446744073709551616<j)(h1:j<18446744073709551616):Ey i j=Ab:=by simp[Ey];right;exact⟨h0,h1⟩
noncomputable def N6:Df:=⟨2,Ac,(.cons (.ret (.bin .Mod (.var 1) (.var 0))) .nil)⟩
def IM(Γ:Gam):Prop:=∀ p n:Af,0<p->Γ.F 1 [.int p,.int n]=.ok (.int (n%p))
theorem dL(Γ:Gam)(p n:Af)(h:0<p):N6.run Γ [.int p,.int n]=.ok (.int (n%p)):=by simp[N6,Df.run,BL,h]
end OvC
end
namespace Ov
open PySem PySem.Spec PyProof.Rows L2
variable{A B:Aj->Prop}{H H' H1 H0:Hp}{a b l q:Aj}{xs ys vs:Ad V}{v:V}{d:D}{Rp Rq:Hp->V->D->Prop}{r:R D}{Q:VK}{X:Cx}{e c tg iter elt:Ap}{ρ:Rho}{i n j k:Ag}{x:Ex}{σ:L2.St}{g:D->D->R D}{op:D0}{K:Fg}{pI:Pn}{s:Ar}{items2 its items:Bl Ai}{h h' h2:AD}{u:Ai}{its2:Ad Ai}{es ifs:Ad Ap}{fs fi:Rho->R (Ad D)}{Q':An Af->Hp->Prop}{p pos' p2 pos pos2 tpos:AM}{T:Dv}{f fc:Rho->R Ao}{α:Type}{Fz:Aj->HO->Prop}{D':Ends}{as:D->Rho->R Rho}{up:Ag->Ad Ag}{prog P:AR}{w:AC}{scope:B9}{env:B5}{cl:Ad (Ah×Aj)}{N':Ad Ah}{ts:Ad Ag}{fp:Ad Aj}{tt:TT}{te:TE}{J:It}{wi:TI}{t:Ao}{ta:TA}
abbrev ClA:=Ag->An Aj
variable{CL:ClA}
def KL(K:Fg)(a:Aj)(xs:Ad V):Prop:=∃(o:CW)(its:Bl Ai)(n:Ag),K.lookup a=Aa o/\o.cls=.type "list"/\o.dict=Ae/\o.data=.seq its n/\its.size<=sizeLine/\Bi xs its.toList
def KT(K:Fg)(a:Aj)(xs:Ad V):Prop:=∃(o:CW)(its:Bl Ai)(n:Ag),K.lookup a=Aa o/\o.cls=.type "tuple"/\o.data=.seq its n/\its.size<=sizeLine/\Bi xs its.toList
section
variable(K:Fg)(CL:ClA)(H:Hp)(A:Aj->Prop)
mutual
def Rep:V->D->Prop
 |v,.non=>v=.non
 |v,.bl b=>v=.bl b
 |v,.int i=>v=.int i
 |v,.str x=>v=.str x
 |v,.tup ds=>∃ a xs,v=.ref a/\(¬ A a\/KT K a xs)/\SqT K H a xs/\Reps xs ds
 |v,.lst ds=>∃ a xs,v=.ref a/\(¬ A a\/KL K a xs)/\SqL K H a xs/\Reps xs ds
 |v,.obj c fs=>∃ a C dx vs,v=.ref a/\¬ A a/\CL c=Aa C/\H a=Aa (.ins C dx vs)/\Repf vs fs
 |_,.dic _=>AS
 |v,.exc c fs=>∃ a C φ,v=.ref a/\¬ A a/\CL c=Aa C/\H a=Aa (.ext φ)/\(∀ h,φ h->∃ o,h.get? a=Aa o/\o.cls=.ref C)/\(fs=[]\/∃ dx vs,¬ A dx/\H dx=Aa (.xd vs)/\Repf vs fs/\∀ h,φ h->∃ o,h.get? a=Aa o/\o.dict=Aa dx/\∃ us,o.data=.fields us)
def Reps:Ad V->Ad D->Prop
 |[],[]=>Hw
 |v::vs,d::ds=>Rep v d/\Reps vs ds
 |_,_=>AS
def Repf:Ad (Ah×V)->Ad (Ah×D)->Prop
 |[],[]=>Hw
 |v::vs,d::ds=>Repp v d/\Repf vs ds
 |_,_=>AS
def Repp:Ah×V->Ah×D->Prop
 |v,(n,d)=>v.1=n/\Rep v.2 d
end
def CG(v:V)(d:D):Prop:=Rep K CL H A v d\/∃ a xs ds,v=.ref a/\d=.lst ds/\H a=Aa (.lst xs)/\Reps K CL H A xs ds
end
def Kp(A:Aj->Prop)(H H':Hp):Prop:=∀ b o,H b=Aa o->¬ A b->H' b=Aa o
def AOk(H:Hp)(A:Aj->Prop):Prop:=∀ a,A a->∃ xs,H a=Aa (.lst xs)
theorem Kp.of(h:AE H H'):Kp A H H':=fun b o e _=>h b o e
theorem AOk.same(h:AOk H A)(s:AE H H'):AOk H' A:=fun a ha=>let ⟨xs,e⟩:=h a ha;⟨xs,s _ _ e⟩
theorem AOk.new{p:Aj}(h:AOk H A)(e:H p=Ae):¬ A p:=fun ha=>by
 obtain⟨xs,q⟩:=h p ha;rw[e]at q;cases q
section
variable{K:Fg}{CL:ClA}{H H':Hp}{A B:Aj->Prop}
theorem SM{u:HO}(k:Kp A H H')(na:¬ A a)(h:Rd H a u):Rd H' a u:=by
 rcases h with h|⟨o,h⟩
 ·exact .inl (k _ _ h na)
 ·exact .inr ⟨o,k _ _ h na⟩
theorem Me(k:Kp A H H')(na:¬ A a\/KL K a xs)(h:SqL K H a xs):SqL K H' a xs:=na.elim (fun na=>h.imp (SM k na) id) .inr
theorem Md(k:Kp A H H')(na:¬ A a\/KT K a xs)(h:SqT K H a xs):SqT K H' a xs:=na.elim (fun na=>h.imp (SM k na) id) .inr
mutual
theorem Rep.kp(k:Kp A H H'):∀{v:V}(d:D),Rep K CL H A v d->Rep K CL H' A v d
 |_,.non,h=>h
 |_,.bl _,h=>h
 |_,.int _,h=>h
 |_,.str _,h=>h
 |_,.dic _,h=>h.elim
 |_,.tup ds,h=>by
  obtain⟨a,xs,e,na,s,r⟩:=h;exact⟨a,xs,e,na,by first|exact Md k na s|exact Me k na s,Reps.kp k ds r⟩
 |_,.lst ds,h=>by
  obtain⟨a,xs,e,na,s,r⟩:=h;exact⟨a,xs,e,na,by first|exact Md k na s|exact Me k na s,Reps.kp k ds r⟩
 |_,.obj c fs,h=>by
  obtain⟨a,C,dx,vs,e,na,c,s,r⟩:=h;exact⟨a,C,dx,vs,e,na,c,k _ _ s na,Repf.kp k fs r⟩
 |_,.exc c fs,h=>by
  obtain⟨a,C,φ,e,na,c,s,p,q⟩:=h;refine⟨a,C,φ,e,na,c,k _ _ s na,p,q.imp id ?_⟩;rintro⟨dx,vs,nx,s2,r,z⟩;exact⟨dx,vs,nx,k _ _ s2 nx,Repf.kp k fs r,z⟩
theorem Reps.kp(k:Kp A H H'):∀{vs:Ad V}(ds:Ad D),Reps K CL H A vs ds->Reps K CL H' A vs ds
 |[],[],h=>h
 |_::_,d::ds,h=>⟨Rep.kp k d h.1,Reps.kp k ds h.2⟩
 |[],_::_,h=>h.elim
 |_::_,[],h=>h.elim
theorem Repf.kp(k:Kp A H H'):∀{vs:Ad (Ah×V)}(ds:Ad (Ah×D)),Repf K CL H A vs ds->Repf K CL H' A vs ds
 |[],[],h=>h
 |_::_,d::ds,h=>⟨Repp.kp k d h.1,Repf.kp k ds h.2⟩
 |[],_::_,h=>h.elim
 |_::_,[],h=>h.elim
theorem Repp.kp(k:Kp A H H'):∀{v:Ah×V}(d:Ah×D),Repp K CL H A v d->Repp K CL H' A v d
 |_,(_,d),h=>⟨h.1,Rep.kp k d h.2⟩
end
mutual
theorem Rep.sub(k:∀ a,B a->A a):∀{v:V}(d:D),Rep K CL H A v d->Rep K CL H B v d
 |_,.non,h=>h
 |_,.bl _,h=>h
 |_,.int _,h=>h
 |_,.str _,h=>h
 |_,.dic _,h=>h.elim
 |_,.tup ds,h=>by
  obtain⟨a,xs,e,na,s,r⟩:=h;exact⟨a,xs,e,na.imp (fun na z=>na (k _ z)) id,s,Reps.sub k ds r⟩
 |_,.lst ds,h=>by
  obtain⟨a,xs,e,na,s,r⟩:=h;exact⟨a,xs,e,na.imp (fun na z=>na (k _ z)) id,s,Reps.sub k ds r⟩
 |_,.obj c fs,h=>by
  obtain⟨a,C,dx,vs,e,na,c,s,r⟩:=h;exact⟨a,C,dx,vs,e,fun z=>na (k _ z),c,s,Repf.sub k fs r⟩
 |_,.exc c fs,h=>by
  obtain⟨a,C,φ,e,na,c,s,p,q⟩:=h;refine⟨a,C,φ,e,fun z=>na (k _ z),c,s,p,q.imp id ?_⟩
  rintro⟨dx,vs,nx,s2,r,z⟩;exact⟨dx,vs,fun z=>nx (k _ z),s2,Repf.sub k fs r,z⟩
theorem Reps.sub(k:∀ a,B a->A a):∀{vs:Ad V}(ds:Ad D),Reps K CL H A vs ds->Reps K CL H B vs ds
 |[],[],h=>h
 |_::_,d::ds,h=>⟨Rep.sub k d h.1,Reps.sub k ds h.2⟩
 |[],_::_,h=>h.elim
 |_::_,[],h=>h.elim
theorem Repf.sub(k:∀ a,B a->A a):∀{vs:Ad (Ah×V)}(ds:Ad (Ah×D)),Repf K CL H A vs ds->Repf K CL H B vs ds
 |[],[],h=>h
 |_::_,d::ds,h=>⟨Repp.sub k d h.1,Repf.sub k ds h.2⟩
 |[],_::_,h=>h.elim
 |_::_,[],h=>h.elim
theorem Repp.sub(k:∀ a,B a->A a):∀{v:Ah×V}(d:Ah×D),Repp K CL H A v d->Repp K CL H B v d
 |_,(_,d),h=>⟨h.1,Rep.sub k d h.2⟩
end
mutual
theorem Rep.wide(hp:∀ a,B a->A a\/H a=Ae):∀{v:V}(d:D),Rep K CL H A v d->Rep K CL H B v d
 |_,.non,h=>h
 |_,.bl _,h=>h
 |_,.int _,h=>h
 |_,.str _,h=>h
 |_,.dic _,h=>h.elim
 |_,.tup ds,h=>by
  obtain⟨a,xs,e,na,s,r⟩:=h;refine⟨a,xs,e,?_,s,Reps.wide hp ds r⟩;rcases s with s|s
  ·refine na.imp (fun na z=>(hp _ z).elim na fun e=>?_) id
   rcases s with s|⟨o,s⟩<;>rw[e]at s<;>cases s
  ·exact .inr s
 |_,.lst ds,h=>by
  obtain⟨a,xs,e,na,s,r⟩:=h;refine⟨a,xs,e,?_,s,Reps.wide hp ds r⟩;rcases s with s|s
  ·refine na.imp (fun na z=>(hp _ z).elim na fun e=>?_) id
   rcases s with s|⟨o,s⟩<;>rw[e]at s<;>cases s
  ·exact .inr s
 |_,.obj c fs,h=>by
  obtain⟨a,C,dx,vs,e,na,c,s,r⟩:=h;exact⟨a,C,dx,vs,e,(fun z=>(hp _ z).elim na fun e=>by rw[e]at s;cases s),c,s,Repf.wide hp fs r⟩
 |_,.exc c fs,h=>by
  obtain⟨a,C,φ,e,na,c,s,p,q⟩:=h;refine⟨a,C,φ,e,(fun z=>(hp _ z).elim na fun e=>by rw[e]at s;cases s),c,s,p,q.imp id ?_⟩
  rintro⟨dx,vs,nx,s2,r,z⟩;exact⟨dx,vs,(fun z=>(hp _ z).elim nx fun e=>by rw[e]at s2;cases s2),s2,Repf.wide hp fs r,z⟩
theorem Reps.wide(hp:∀ a,B a->A a\/H a=Ae):∀{vs:Ad V}(ds:Ad D),Reps K CL H A vs ds->Reps K CL H B vs ds
 |[],[],h=>h
 |_::_,d::ds,h=>⟨Rep.wide hp d h.1,Reps.wide hp ds h.2⟩
 |[],_::_,h=>h.elim
 |_::_,[],h=>h.elim
theorem Repf.wide(hp:∀ a,B a->A a\/H a=Ae):∀{vs:Ad (Ah×V)}(ds:Ad (Ah×D)),Repf K CL H A vs ds->Repf K CL H B vs ds
 |[],[],h=>h
 |_::_,d::ds,h=>⟨Repp.wide hp d h.1,Repf.wide hp ds h.2⟩
 |[],_::_,h=>h.elim
 |_::_,[],h=>h.elim
theorem Repp.wide(hp:∀ a,B a->A a\/H a=Ae):∀{v:Ah×V}(d:Ah×D),Repp K CL H A v d->Repp K CL H B v d
 |_,(_,d),h=>⟨h.1,Rep.wide hp d h.2⟩
end
theorem Rep.same(s:AE H H')(h:Rep K CL H A v d):Rep K CL H' A v d:=Rep.kp (Kp.of s) d h
theorem Reps.same{v:Ad V}{d:Ad D}(s:AE H H')(h:Reps K CL H A v d):Reps K CL H' A v d:=Reps.kp (Kp.of s) d h
theorem CG.same{v:V}{d:D}(s:AE H H')(h:CG K CL H A v d):CG K CL H' A v d:=by
 rcases h with h|⟨a,xs,ds,e,e2,q,r⟩
 ·exact .inl (h.same s)
 ·exact .inr ⟨a,xs,ds,e,e2,s _ _ q,r.same s⟩
theorem Reps.length:∀{vs:Ad V}{ds:Ad D},Reps K CL H A vs ds->vs.length=ds.length
 |[],[],_=>rfl
 |_::_,_::_,h=>congrArg (· + 1) (Reps.length h.2)
 |[],_::_,h=>h.elim
 |_::_,[],h=>h.elim
theorem Reps.append:∀{vs ws:Ad V}{ds es:Ad D},Reps K CL H A vs ds->Reps K CL H A ws es->Reps K CL H A (vs++ws) (ds++es)
 |[],_,[],_,_,h=>h
 |_::_,_,_::_,_,h,g=>⟨h.1,Reps.append h.2 g⟩
 |[],_,_::_,_,h,_=>h.elim
 |_::_,_,[],_,h,_=>h.elim
theorem Reps.get:∀{vs:Ad V}{ds:Ad D}{i:Ag}{d:D},Reps K CL H A vs ds->ds[i]?=Aa d->∃ v,vs[i]?=Aa v/\Rep K CL H A v d
 |[],[],_,_,_,e=>by simp at e
 |v::_,_::_,0,_,h,e=>by simp at e;subst e;exact⟨v,rfl,h.1⟩
 |_::_,_::_,i+1,_,h,e=>by
  obtain⟨v,q,r⟩:=Reps.get (i:=i) h.2 (by simpa using e)
  exact⟨v,by simpa using q,r⟩
 |[],_::_,_,_,h,_=>h.elim
 |_::_,[],_,_,h,_=>h.elim
theorem Reps.take:∀{vs:Ad V}{ds:Ad D}(n:Ag),Reps K CL H A vs ds->Reps K CL H A (vs.take n) (ds.take n)
 |_,_,0,_=>trivial
 |[],[],_+1,_=>trivial
 |_::_,_::_,n+1,h=>⟨h.1,Reps.take n h.2⟩
 |[],_::_,_+1,h=>h.elim
 |_::_,[],_+1,h=>h.elim
theorem Reps.drop:∀{vs:Ad V}{ds:Ad D}(n:Ag),Reps K CL H A vs ds->Reps K CL H A (vs.drop n) (ds.drop n)
 |_,_,0,h=>h
 |[],[],_+1,_=>trivial
 |_::_,_::_,n+1,h=>Reps.drop n h.2
 |[],_::_,_+1,h=>h.elim
 |_::_,[],_+1,h=>h.elim
theorem Reps.set{x:V}{e:D}(r:Rep K CL H A x e):∀{vs:Ad V}{ds:Ad D}(n:Ag),Reps K CL H A vs ds->Reps K CL H A (vs.set n x) (ds.set n e)
 |[],[],_,_=>trivial
 |_::_,_::_,0,h=>⟨r,h.2⟩
 |_::_,_::_,n+1,h=>⟨h.1,Reps.set r n h.2⟩
 |[],_::_,_,h=>h.elim
 |_::_,[],_,h=>h.elim
end
structure Good (K:Fg) (CL:ClA) (A:Aj->Prop) (ρ:Rho) (σ:L2.St) (H:Hp):Prop where
 sh:∀(i:Ag)(d:D),ρ[i]?=Aa (Aa (d,Ac))->∃ v,σ[i]?=Aa (Aa v)/\Rep K CL H A v d
 ow:∀(i:Ag)(d:D),ρ[i]?=Aa (Aa (d,Ab))->∃ a xs ds,σ[i]?=Aa (Aa (.ref a))/\d=.lst ds/\A a/\H a=Aa (.lst xs)/\Reps K CL H A xs ds
 len:ρ.length=σ.length
theorem Good.same{K:Fg}{CL:ClA}{A:Aj->Prop}{ρ:Rho}{σ:L2.St}{H H':Hp}(g:Good K CL A ρ σ H)(s:AE H H'):Good K CL A ρ σ H':=
 ⟨fun i d e=>let ⟨v,q,r⟩:=g.sh i d e;⟨v,q,r.same s⟩,fun i d e=>let ⟨a,xs,ds,q,z,na,h,r⟩:=g.ow i d e;⟨a,xs,ds,q,z,na,s _ _ h,r.same s⟩,g.len⟩
abbrev XW:=Ex->Hp->Prop
variable{W:XW}
def Bh(Rp:Hp->V->D->Prop)(W:XW)(H:Hp)(r:R D)(Q:VK):Prop:=match r with
  |.ok d=>∀ v H',AE H H'->Rp H' v d->Q v H'
  |.exn x=>∀ H',AE H H'->W x H'
  |.bad=>AS
def Hc(Rp:Hp->Ad V->Ad D->Prop)(W:XW)(H:Hp)(r:R (Ad D))(Q:Ad V->Hp->Prop):Prop:=match r with
  |.ok d=>∀ v H',AE H H'->Rp H' v d->Q v H'
  |.exn x=>∀ H',AE H H'->W x H'
  |.bad=>AS
def C5(W:XW)(H:Hp)(r:R Ao)(Q:Ao->Hp->Prop):Prop:=match r with
  |.ok b=>∀ H',AE H H'->Q b H'
  |.exn x=>∀ H',AE H H'->W x H'
  |.bad=>AS
theorem Bh.same(s:AE H H')(h:Bh Rp W H r Q):Bh Rp W H' r Q:=by
 cases r with
 |ok d=>exact fun v H2 s2 q=>h v H2 (s.trans s2) q
 |exn x=>exact fun H2 s2=>h H2 (s.trans s2)
 |bad=>exact h
theorem C5.same{r:R Ao}{Q:Ao->Hp->Prop}(s:AE H H')(h:C5 W H r Q):C5 W H' r Q:=by
 cases r with
 |ok d=>exact fun H2 s2=>h H2 (s.trans s2)
 |exn x=>exact fun H2 s2=>h H2 (s.trans s2)
 |bad=>exact h
theorem Bh.bind{f:D->R D}{Q':VK}(h:Bh Rq W H (r.bind f) Q)(k:∀ d v H',r=.ok d->AE H H'->Rp H' v d->Bh Rq W H' (f d) Q->Q' v H'):Bh Rp W H r Q':=by
 cases r with
 |ok d=>exact fun v H2 s2 q=>k d v H2 rfl s2 q (Bh.same s2 h)
 |exn x=>exact h
 |bad=>exact h
section
variable(X:Cx)(CL:ClA)(W:XW)
def SE(e:Ap)(f:Rho->R D):Prop:=∀ A,PE X e (fun σ H Q=>AOk H A/\∃ ρ,Good X.K CL A ρ σ H/\Bh (fun H=>Rep X.K CL H A) W H (f ρ) Q)
def ST(e:Ap)(f:Rho->R D):Prop:=∀ A,PE X e (fun σ H Q=>AOk H A/\∃ ρ,Good X.K CL A ρ σ H/\Bh (fun H=>CG X.K CL H A) W H (f ρ) Q)
def SB(e:Ap)(f:Rho->R Ao):Prop:=∀ A,PT X e (fun σ H Q=>AOk H A/\∃ ρ,Good X.K CL A ρ σ H/\C5 W H (f ρ) Q)
def SA(es:Ad Ap)(f:Rho->R (Ad D)):Prop:=∀ A,PA X es (fun σ H Q=>AOk H A/\∃ ρ,Good X.K CL A ρ σ H/\Hc (fun H=>Reps X.K CL H A) W H (f ρ) Q)
end
theorem PE.weak{t t':TE}(h:PE X e t)(k:∀ σ H Q,t' σ H Q->t σ H Q):PE X e t':=fun pI s σ H Q I q=>h pI s σ H Q I (k _ _ _ q)
theorem PT.weak{t t':TT}(h:PT X e t)(k:∀ σ H Q,t' σ H Q->t σ H Q):PT X e t':=fun pI s σ H Q I q=>h pI s σ H Q I (k _ _ _ q)
theorem PA.weak{e:Ad Ap}{t t':TA}(h:PA X e t)(k:∀ σ H Q,t' σ H Q->t σ H Q):PA X e t':=fun pos pI s σ H Q I q=>h pos pI s σ H Q I (k _ _ _ q)
noncomputable def OpD(X:Cx)(CL:ClA)(W:XW)(f:Ai->Ai->Sem Ai)(g:D->D->R D):Prop:=
 ∀ A,OpR X f (fun x y H Q=>AOk H A/\∃ dx dy,CG X.K CL H A x dx/\CG X.K CL H A y dy/\Bh (fun H=>Rep X.K CL H A) W H (g dx dy) Q)
section
variable{X:Cx}{CL:ClA}{W:XW}{a b c:Ap}{fa fb fc:Rho->R D}{pos:AM}
theorem SE.st(h:SE X CL W a fa):ST X CL W a fa:=fun A=>PE.weak (h A) fun σ H Q ⟨hA,ρ,g,p⟩=>⟨hA,ρ,g,by
 cases e:fa ρ with
 |ok d=>rw[e]at p;exact fun v H' s r=>p v H' s (.inl r)
 |exn x=>rw[e]at p;exact p
 | bad=>rw[e]at p;exact p⟩
theorem SE.congr{f g:Rho->R D}(h:SE X CL W a f)(e:∀ ρ,g ρ=f ρ):SE X CL W a g:=fun A=>PE.weak (h A) fun σ H Q ⟨hA,ρ,q,p⟩=>⟨hA,ρ,q,by rw[<-e];exact p⟩
theorem Mo(h:PE X a (tC v))(r:∀ H A,AOk H A->Rep X.K CL H A v d):SE X CL W a (fun _=>.ok d):=fun A=>PE.weak h fun σ H Q ⟨hA,ρ,g,p⟩=>p v H (AE.refl H) (r H A hA)
theorem aG{i j}:SE X CL W (.Constant (.int i) j pos) (fun _=>.ok (.int i)):=Mo cO fun _ _ _=>rfl
theorem Si{b j}:SE X CL W (.Constant (.bool b) j pos) (fun _=>.ok (.bl b)):=Mo kM fun _ _ _=>rfl
theorem bD{j}:SE X CL W (.Constant .none j pos) (fun _=>.ok .non):=Mo cK fun _ _ _=>rfl
theorem Sc{x j}:SE X CL W (.Constant (.str x) j pos) (fun _=>.ok (.str x)):=Mo RI fun _ _ _=>rfl
theorem YB(h:Fs ρ i=.ok d):ρ[i]?=Aa (Aa (d,Ac)):=by
 unfold Fs at h;split at h
 ·rename_i e;cases h;exact e
 ·cases h
theorem QY(h:Em ρ i=.ok d):∃ o,ρ[i]?=Aa (Aa (d,o)):=by
 unfold Em at h;split at h
 ·rename_i e;cases h;exact⟨_,e⟩
 ·cases h
theorem Xx(h:Fs ρ i=.exn x):AS:=by
 unfold Fs at h;split at h<;>cases h
theorem PH(h:Em ρ i=.exn x):AS:=by
 unfold Em at h;split at h<;>cases h
theorem Sb(h:PE X a (Go i)):SE X CL W a (fun ρ=>Fs ρ i):=fun A=>PE.weak h fun σ H Q ⟨hA,ρ,g,p⟩=>by
 dsimp only at p;cases e:Fs ρ i with
 |ok d=>
  rw[e]at p;obtain⟨v,q,r⟩:=g.sh i d (YB e);exact⟨v,q,p v H (AE.refl H) r⟩
 |exn x=>exact(Xx e).elim
 |bad=>rw[e]at p;exact p.elim
theorem Ka(h:PE X a (Go i)):ST X CL W a (fun ρ=>Em ρ i):=fun A=>PE.weak h fun σ H Q ⟨hA,ρ,g,p⟩=>by
 dsimp only at p;cases e:Em ρ i with
 |ok d=>
  rw[e]at p;obtain⟨o,e⟩:=QY e;cases o with
  |false=>
   obtain⟨v,q,r⟩:=g.sh i d e;exact⟨v,q,p v H (AE.refl H) (.inl r)⟩
  |true=>
   obtain⟨x,xs,ds,q,rfl,ha,hh,r⟩:=g.ow i d e;exact⟨_,q,p _ H (AE.refl H) (.inr ⟨x,xs,ds,rfl,rfl,hh,r⟩)⟩
 |exn x=>exact(PH e).elim
 |bad=>rw[e]at p;exact p.elim
theorem op2(h:AOk H A/\∃ ρ,Good X.K CL A ρ σ H/\Bh Rq W H ((fa ρ).bind fun x=>(fb ρ).bind fun y=>g x y) Q):AOk H A/\∃ ρ,Good X.K CL A ρ σ H/\Bh (fun H=>CG X.K CL H A) W H (fa ρ) (fun x H1=>AOk H1 A/\∃ ρ,Good X.K CL A ρ σ H1/\Bh (fun H=>CG X.K CL H A) W H1 (fb ρ) (fun y H2=>AOk H2 A/\∃ dx dy,CG X.K CL H2 A x dx/\CG X.K CL H2 A y dy/\Bh Rq W H2 (g dx dy) Q)):=by
 obtain⟨hA,ρ,gd,p⟩:=h;refine⟨hA,ρ,gd,Bh.bind p fun dx x H1 _ s1 r1 p1=>⟨hA.same s1,ρ,gd.same s1,Bh.bind p1 fun dy y H2 _ s2 r2 p2=>⟨(hA.same s1).same s2,dx,dy,r1.same s2,r2,p2⟩⟩⟩
theorem Se{op:G2}(ho:OpD X CL W (BZ op) g)(ha:ST X CL W a fa)(hb:ST X CL W b fb):SE X CL W (.BinOp a op b pos) (fun ρ=>(fa ρ).bind fun x=>(fb ρ).bind fun y=>g x y):=
 fun A=>PE.weak (SQ (ho A) (ha A) (hb A)) fun σ H Q h=>op2 h
theorem aI(ho:OpD X CL W (Ct op) g)(ha:ST X CL W a fa)(hb:ST X CL W b fb)(hm:GA op b=Ac):SE X CL W (.Compare a [op] [b] pos) (fun ρ=>(fa ρ).bind fun x=>(fb ρ).bind fun y=>g x y):=
 fun A=>PE.weak (Zp (ho A) (ha A) (hb A) hm) fun σ H Q h=>op2 h
theorem CG.int_of{i:Af}(h:CG K CL H A v (.int i)):v=.int i:=by
 rcases h with h|⟨_,_,_,_,e,_⟩
 ·exact h
 ·cases e
theorem CG.str_of{i:Ah}(h:CG K CL H A v (.str i)):v=.str i:=by
 rcases h with h|⟨_,_,_,_,e,_⟩
 ·exact h
 ·cases e
theorem CG.bl_of{i:Ao}(h:CG K CL H A v (.bl i)):v=.bl i:=by
 rcases h with h|⟨_,_,_,_,e,_⟩
 ·exact h
 ·cases e
theorem CG.non_of(h:CG K CL H A v .non):v=.non:=by
 rcases h with h|⟨_,_,_,_,e,_⟩
 ·exact h
 ·cases e
theorem CG.lst_of{ds:Ad D}(h:CG K CL H A v (.lst ds)):∃ a xs,v=.ref a/\SqL K H a xs/\Reps K CL H A xs ds:=by
 rcases h with ⟨a,xs,e,_,s,r⟩|⟨a,xs,es,rfl,e,s,r⟩
 ·exact⟨a,xs,e,s,r⟩
 ·cases e;exact⟨a,xs,rfl,SqL.of s,r⟩
theorem CG.tup_of{ds:Ad D}(h:CG K CL H A v (.tup ds)):∃ a xs,v=.ref a/\(¬ A a\/KT K a xs)/\SqT K H a xs/\Reps K CL H A xs ds:=by
 rcases h with ⟨a,xs,e,n,s,r⟩|⟨_,_,_,_,e,_⟩
 ·exact⟨a,xs,e,n,s,r⟩
 ·cases e
theorem YV{i j:Af}(h:Ey i j=Ab):Mz i j:=by
 unfold Ey at h;simp only[Ce,Ak,AU]at h;unfold Mz;omega
theorem Q5{a:Af}(h:a.natAbs<2 ^ 2000):UR a<=2 ^ 20:=by
 unfold UR;split
 ·omega
 ·rename_i hz;have h0:a.natAbs≠0:=by intro z;exact hz (by rw[Int.natAbs_eq_zero.mp z];rfl)
  have:=(Nat.log2_lt h0).mpr h;omega
theorem YU{i j:Af}(h:(Ey i j||EO i j)=Ab):KC i j:=by
 rcases Bool.or_eq_true_iff.mp h with h|h
 ·exact(YV h).ok
 ·unfold EO at h;rw[Ak,AU,AU]at h;exact .of_bits (Q5 h.1) (Q5 h.2)
theorem Zx:OpR X (BZ .Mult) (rI KC fun i j=>.int (i*j)):=opI fun _ _ _ _ _ _ _ hc q=>mul_int q hc
theorem JV(h:D7 n=Ab):n<=sizeLine:=by
 unfold D7 at h;rw[Ds];have:=Ee h;omega
theorem Rn{p:Aj}{ds:Ad D}(hA:AOk H A)(hp:H p=Ae)(r:Reps K CL H A xs ds):Rep K CL (upd H p (.lst xs)) A (.ref p) (.lst ds):=
 ⟨p,xs,rfl,.inl (hA.new hp),SqL.of E8,r.same fun b o e=>by rw[By (Fo e hp)];exact e⟩
theorem JZ{p:Aj}{ds:Ad D}(hA:AOk H A)(hp:H p=Ae)(r:Reps K CL H A xs ds):Rep K CL (upd H p (.tup xs)) A (.ref p) (.tup ds):=
 ⟨p,xs,rfl,.inl (hA.new hp),SqT.of E8,r.same fun b o e=>by rw[By (Fo e hp)];exact e⟩
theorem FM{p:Aj}(h:H p=Ae)(o:HO):AE H (upd H p o):=fun b u q=>by rw[By (Fo q h)];exact q
def kF(K:Fg):R2:=fun x y H Q=>∃ l b xs zs,x=.ref l/\y=.ref b/\SqL K H l xs/\SqL K H b zs/\xs.length+zs.length<=sizeLine/\∀ p,H p=Ae->Q (.ref p) (upd H p (.lst (xs++zs)))
end
section
variable{X:Cx}{CL:ClA}{W:XW}
theorem QG:OpR X (BZ .Add) (kF X.K):=by
 intro pI s σ H x y v u Q I rx ry h;obtain⟨l,b,xs,zs,rfl,rfl,hH,hB,hz,q⟩:=h;cases rx;cases ry;obtain⟨its,r,⟨o,n,e,c,dd,dt⟩,z⟩:=I.list hH;obtain⟨its2,r2,⟨o2,n2,e2,c2,dd2,dt2⟩,z2⟩:=I.list hB;have hl:=r.length;have hl2:=r2.length;obtain⟨cls,dd0,data,sl⟩:=o;obtain⟨cls2,dd02,data2,sl2⟩:=o2;simp only at c dd dt c2 dd2 dt2;subst c dd dt c2 dd2 dt2;have ea:its.toArray++its2.toArray=(its++its2).toArray:=by simp
 refine IB ⟨_,e,rfl⟩ ⟨_,e2,rfl⟩ noFill_list_add seq_list_add PySem.F.slot_list_add PySem.F.entry_list_add (PySem.F.args_list_add_2 _ _) (list_addW l b its.toArray its2.toArray n n2 Ae Ae sl sl2 (by simp;omega)) ⟨e,e2,?_⟩
 rw[ea];exact⟨.ref _,_,I.lnew (t':=s.toks) (r.append r2) (by rw[Dt];omega),rfl,q _ I.fresh⟩
theorem QF:OpD X CL W (BZ .Add) (Dk .Add):=by
 intro A pI s σ H x y v u Q I rx ry ⟨hA,dx,dy,hx,hy,p⟩;cases dx with
 |int i=>
  cases dy with
  |int j=>
   have ex:=hx.int_of;have ey:=hy.int_of
   subst ex ey;exact cU pI s σ H _ _ v u Q I rx ry ⟨i,j,rfl,rfl,p _ H (AE.refl H) rfl⟩
  |_=>exact p.elim
 |str i=>
  cases dy with
  |str j=>
   have ex:=hx.str_of;have ey:=hy.str_of
   subst ex ey;simp only[fY]at p;split at p
   ·rename_i h;exact V9 pI s σ H _ _ v u Q I rx ry ⟨i,j,rfl,rfl,JV h,p _ H (AE.refl H) rfl⟩
   ·exact p.elim
  |_=>exact p.elim
 |lst ds=>
  cases dy with
  |lst es=>
   obtain⟨a,xs,rfl,s1,r1⟩:=hx.lst_of;obtain⟨b,ys,rfl,s2,r2⟩:=hy.lst_of;simp only[Rz]at p;split at p
   ·rename_i h;refine QG pI s σ H _ _ v u Q I rx ry ⟨a,b,xs,ys,rfl,rfl,s1,s2,by rw[r1.length,r2.length];exact JV h,fun q hq=>?_⟩
    exact p _ _ (FM hq _) (Rn hA hq (r1.append r2))
   ·exact p.elim
  |_=>exact p.elim
 |tup ds=>
  cases dy with
  |tup es=>
   obtain⟨a,xs,rfl,na1,s1,r1⟩:=hx.tup_of;obtain⟨b,ys,rfl,_,s2,r2⟩:=hy.tup_of;simp only[fW]at p;split at p
   ·rename_i h;simp only[Ak]at h;refine YR pI s σ H _ _ v u Q I rx ry ⟨a,b,xs,ys,rfl,rfl,s1,s2,?_,by rw[r1.length,r2.length];exact JV h.2,fun hy0=>?_,fun _ q hq=>?_⟩
    ·rintro rfl;cases ds with
     |nil=>cases h.1
     |cons _ _=>exact r1.elim
    ·subst hy0;cases es with
     |nil=>rw[B1]at p;exact p _ H (AE.refl H) ⟨a,xs,rfl,na1,s1,r1⟩
     |cons _ _=>exact r2.elim
    ·exact p _ _ (FM hq _) (JZ hA hq (r1.append r2))
   ·exact p.elim
  |_=>exact p.elim
 |_=>exact p.elim
theorem LW{op:G2}{C:Af->Af->Prop}{g:Af->Af->Af}(ho:OpR X (BZ op) (rI C fun i j=>.int (g i j)))(hg:∀ dx dy,(∃ i j,dx=.int i/\dy=.int j/\((C i j/\Dk op dx dy=.ok (.int (g i j)))\/Dk op dx dy=.bad))\/Dk op dx dy=.bad):OpD X CL W (BZ op) (Dk op):=by
 intro A pI s σ H x y v u Q I rx ry ⟨hA,dx,dy,hx,hy,p⟩;rcases hg dx dy with ⟨i,j,rfl,rfl,⟨c,e⟩|e⟩|e
 ·have ex:=hx.int_of;have ey:=hy.int_of
  subst ex ey;rw[e]at p;exact ho pI s σ H _ _ v u Q I rx ry ⟨i,j,rfl,rfl,c,p _ H (AE.refl H) rfl⟩
 ·rw[e]at p;exact p.elim
 ·rw[e]at p;exact p.elim
theorem Zs:OpD X CL W (BZ .Sub) (Dk .Sub):=by
 intro A pI s σ H x y v u Q I rx ry ⟨hA,dx,dy,hx,hy,p⟩;cases dx with
 |int i=>
  cases dy with
  |int j=>
   have ex:=hx.int_of;have ey:=hy.int_of
   subst ex ey;exact cQ pI s σ H _ _ v u Q I rx ry ⟨i,j,rfl,rfl,p _ H (AE.refl H) rfl⟩
  |_=>exact p.elim
 |_=>exact p.elim
theorem Zu:OpD X CL W (BZ .Mult) (Dk .Mult):=LW Zx fun dx dy=>by
 cases dx with
 |int i=>
  cases dy with
  |int j=>
   refine .inl ⟨i,j,rfl,rfl,?_⟩;rw[cZ];split
   ·rename_i h;exact .inl ⟨YU h,rfl⟩
   ·exact .inr rfl
  |_=>exact .inr rfl
 |_=>exact .inr rfl
theorem Xb:OpD X CL W (BZ .FloorDiv) (Dk .FloorDiv):=LW Zy fun dx dy=>by
 cases dx with
 |int i=>
  cases dy with
  |int j=>
   refine .inl ⟨i,j,rfl,rfl,?_⟩;rw[YQ];split
   ·rename_i h;exact .inl ⟨h,rfl⟩
   ·exact .inr rfl
  |_=>exact .inr rfl
 |_=>exact .inr rfl
theorem Zv:OpD X CL W (BZ .Mod) (Dk .Mod):=LW cS fun dx dy=>by
 cases dx with
 |int i=>
  cases dy with
  |int j=>
   refine .inl ⟨i,j,rfl,rfl,?_⟩;rw[dA];split
   ·rename_i h;exact .inl ⟨h,rfl⟩
   ·exact .inr rfl
  |_=>exact .inr rfl
 |_=>exact .inr rfl
theorem Zt:OpD X CL W (BZ .Pow) (Dk .Pow):=LW cR fun dx dy=>by
 cases dx with
 |int i=>
  cases dy with
  |int j=>
   refine .inl ⟨i,j,rfl,rfl,?_⟩;rw[eA];split
   ·rename_i h;exact .inl ⟨⟨h.1.1,h.1.2,by omega⟩,rfl⟩
   ·exact .inr rfl
  |_=>exact .inr rfl
 |_=>exact .inr rfl
theorem QE(op:G2):OpD X CL W (BZ op) (Dk op):=by
 cases op with
 |Add=>exact QF
 |Sub=>exact Zs
 |Mult=>exact Zu
 |FloorDiv=>exact Xb
 |Mod=>exact Zv
 |Pow=>exact Zt
 |_=>
  intro A pI s σ H x y v u Q I rx ry ⟨hA,dx,dy,hx,hy,p⟩;cases dx<;>cases dy<;>exact p.elim
noncomputable abbrev A0:Aj->Prop:=fun _=>AS
theorem CG.plain(h:CG K CL H A v d):Rep K CL H A0 v d:=by
 rcases h with h|⟨a,xs,ds,rfl,rfl,e,r⟩
 ·exact Rep.sub (fun _ z=>z.elim) d h
 ·exact⟨a,xs,rfl,.inl fun z=>z.elim,SqL.of e,Reps.sub (fun _ z=>z.elim) ds r⟩
mutual
theorem WX:∀(n:Ag)(d:D),flD n d=Ab->eqD d d=Ab
 |_,.non,_=>rfl
 |_,.bl b,_=>by simp
 |_,.int i,_=>by simp
 |_,.str x,_=>by simp
 |n+1,.tup ds,h=>by
  show eqDs ds ds=Ab;exact eqDs_refl n ds h
 |n+1,.lst ds,h=>by
  show eqDs ds ds=Ab;exact eqDs_refl n ds h
 |0,.tup ds,h=>by cases h
 |0,.lst ds,h=>by cases h
 |n,.obj _ _,h=>by cases n<;>cases h
 |n,.exc _ _,h=>by cases n<;>cases h
 |n,.dic _,h=>by cases n<;>cases h
theorem eqDs_refl:∀(n:Ag)(ds:Ad D),ds.all (flD n)=Ab->eqDs ds ds=Ab
 |_,[],_=>rfl
 |n,d::ds,h=>by
  simp only[FB,Ak]at h;simp only[M2,Ak];exact⟨WX n d h.1,eqDs_refl n ds h.2⟩
end
theorem PB(I:Inv X pI σ H s)(h:SqL X.K H a xs)(h':SqT X.K H a ys):AS:=by
 obtain⟨its,r,⟨o,n,e,c,_,_⟩,_⟩:=I.list h;obtain⟨its',r',⟨o',e',c',_⟩,_⟩:=I.tuple h';rw[e]at e';cases e';rw[c]at c'
 injection c' with z
 exact absurd z (by decide)
mutual
theorem LU{pI:Pn}{σ:L2.St}{H:Hp}{s:Ar}(I:Inv X pI σ H s):∀(n:Ag)(d e:D){v:V},flD n d=Ab->flD n e=Ab->Rep X.K CL H A0 v d->Rep X.K CL H A0 v e->d=e
 |n,.tup ds,e,v,hd,he,r,q=>by
  obtain⟨a,xs,rfl,_,s1,r1⟩:=r;cases e with
  |tup es=>
   obtain⟨b,ys,e,_,s2,r2⟩:=q;cases e;have z:=I.tuple_inj s1 s2;subst z;cases n with
   |zero=>cases hd
   |succ n=>rw[reps_inj I n ds es hd he r1 r2]
  |lst es=>
   obtain⟨b,ys,e,_,s2,r2⟩:=q;cases e;exact(PB I s2 s1).elim
  |obj=>cases n<;>cases he
  |exc=>cases n<;>cases he
  |dic=>cases n<;>cases he
  |_=>cases q
 |n,.lst ds,e,v,hd,he,r,q=>by
  obtain⟨a,xs,rfl,_,s1,r1⟩:=r;cases e with
  |lst es=>
   obtain⟨b,ys,e,_,s2,r2⟩:=q;cases e;have z:=I.list_inj s1 s2;subst z;cases n with
   |zero=>cases hd
   |succ n=>rw[reps_inj I n ds es hd he r1 r2]
  |tup es=>
   obtain⟨b,ys,e,_,s2,r2⟩:=q;cases e;exact(PB I s1 s2).elim
  |obj=>cases n<;>cases he
  |exc=>cases n<;>cases he
  |dic=>cases n<;>cases he
  |_=>cases q
 |n,.obj _ _,e,v,hd,he,r,q=>by cases n<;>cases hd
 |n,.exc _ _,e,v,hd,he,r,q=>by cases n<;>cases hd
 |n,.dic _,e,v,hd,he,r,q=>by cases n<;>cases hd
 |n,.non,e,v,hd,he,r,q=>by
  cases r;cases e with
  |tup=>obtain⟨_,_,z,_⟩:=q;cases z
  |lst=>obtain⟨_,_,z,_⟩:=q;cases z
  |obj=>cases n<;>cases he
  |exc=>cases n<;>cases he
  |dic=>cases n<;>cases he
  |_=>cases q<;>rfl
 |n,.bl b,e,v,hd,he,r,q=>by
  cases r;cases e with
  |tup=>obtain⟨_,_,z,_⟩:=q;cases z
  |lst=>obtain⟨_,_,z,_⟩:=q;cases z
  |obj=>cases n<;>cases he
  |exc=>cases n<;>cases he
  |dic=>cases n<;>cases he
  |_=>cases q<;>rfl
 |n,.int b,e,v,hd,he,r,q=>by
  cases r;cases e with
  |tup=>obtain⟨_,_,z,_⟩:=q;cases z
  |lst=>obtain⟨_,_,z,_⟩:=q;cases z
  |obj=>cases n<;>cases he
  |exc=>cases n<;>cases he
  |dic=>cases n<;>cases he
  |_=>cases q<;>rfl
 |n,.str b,e,v,hd,he,r,q=>by
  cases r;cases e with
  |tup=>obtain⟨_,_,z,_⟩:=q;cases z
  |lst=>obtain⟨_,_,z,_⟩:=q;cases z
  |obj=>cases n<;>cases he
  |exc=>cases n<;>cases he
  |dic=>cases n<;>cases he
  |_=>cases q<;>rfl
theorem reps_inj{pI:Pn}{σ:L2.St}{H:Hp}{s:Ar}(I:Inv X pI σ H s):∀(n:Ag)(ds es:Ad D){xs:Ad V},ds.all (flD n)=Ab->es.all (flD n)=Ab->Reps X.K CL H A0 xs ds->Reps X.K CL H A0 xs es->ds=es
 |_,[],[],_,_,_,_,_=>rfl
 |n,d::ds,e::es,x::xs,hd,he,r,q=>by
  simp only[FB,Ak]at hd he;rw[LU I n d e hd.1 he.1 r.1 q.1,reps_inj I n ds es hd.2 he.2 r.2 q.2]
 |_,[],_::_,[],_,_,_,q=>q.elim
 |_,[],_::_,_::_,_,_,r,_=>r.elim
 |_,_::_,[],[],_,_,r,_=>r.elim
 |_,_::_,[],_::_,_,_,_,q=>q.elim
 |_,_::_,_::_,[],_,_,r,_=>r.elim
end
theorem KU:∀{ds es:Ad D},ds.length≠es.length->eqDs ds es=Ac
 |[],[],h=>absurd rfl h
 |[],_::_,_=>rfl
 |_::_,[],_=>rfl
 |d::ds,e::es,h=>by
  simp only[M2,KU (ds:=ds) (es:=es) (by simpa using h),HE]
theorem O3(n:Ag)(f:Ag->Ao):(Bz (n+1)).all f=(f 0&&(Bz n).all fun j=>f (j+1)):=by
 rw[UB,FB,Uh];rfl
theorem KW:∀{ds es:Ad D},ds.length=es.length->eqDs ds es=(Bz ds.length).all fun j=>eqD (ds.getD j .non) (es.getD j .non)
 |[],[],_=>rfl
 |d::ds,e::es,h=>by
  rw[M2,KW (ds:=ds) (es:=es) (by simpa using h),Bs,O3]
  rfl
 |[],_::_,h=>by cases h
 |_::_,[],h=>by cases h
theorem Jq{ds:Ad D}{its:Ad Ai}(r:Reps K CL H A0 xs ds)(rv:Bi xs its)(h:j<its.length):∃ x,Rep K CL H A0 x (ds.getD j .non)/\BB x its[j]:=by
 have e1:=rv.length;have e2:=r.length;have hd:ds[j]?=Aa (ds.getD j .non):=by
  rw[DA,Cb (by omega)];rfl
 obtain⟨x,hx,q⟩:=r.get hd;obtain⟨u,hu,ru⟩:=rv.get hx;refine⟨x,q,?_⟩;rw[Cb h]at hu;cases hu;exact ru
theorem Jj{ds:Ad D}(h:ds.all (flD n)=Ab)(j:Ag):flD n (ds.getD j .non)=Ab:=by
 rw[DA];cases e:ds[j]? with
 |none=>cases n<;>rfl
 |some d=>exact List.all_eq_true.mp h d (Uz e)
def Cy(B:AZ)(s:Ar)(u t:Ai)(k:Ao):Prop:=JE B s u t k/\F7 B s u t k/\Ix B s u t (!k)
section
variable{B:AZ}{s:Ar}
open SeqAt
theorem iO:Cy B s .none .none Ab:=⟨RcAt.none_none,EqAt.same _,RcNeAt.none_none⟩
theorem jT(a b:Ao):Cy B s (.bool a) (.bool b) (a==b):=⟨RcAt.bool_bool _ _,EqAt.bool_bool _ _,RcNeAt.bool_bool _ _⟩
theorem iR(b:Ao):Cy B s .none (.bool b) Ac:=⟨RcAt.none_bool _,EqAt.none_bool _,RcNeAt.none_bool _⟩
theorem hR(b:Ao):Cy B s (.bool b) .none Ac:=⟨RcAt.bool_none _,EqAt.bool_none _,RcNeAt.bool_none _⟩
theorem gX(a:Af)(t:CM)(b:Af)(u:CM):Cy B s (.int a t) (.int b u) (a==b):=⟨RcAt.int_int _ _ _ _,EqAt.int_int _ _ _ _,RcNeAt.int_int _ _ _ _⟩
theorem iH(a:Ah)(t:CM)(b:Ah)(u:CM):Cy B s (.str a t) (.str b u) (a==b):=⟨RcAt.str_str _ _ _ _,EqAt.str_str _ _ _ _,RcNeAt.str_str _ _ _ _⟩
theorem gS(a:Af)(t:CM)(b:Ah)(u:CM):Cy B s (.int a t) (.str b u) Ac:=⟨RcAt.int_str _ _ _ _,EqAt.int_str _ _ _ _,RcNeAt.int_str _ _ _ _⟩
theorem iK(a:Ah)(t:CM)(b:Af)(u:CM):Cy B s (.str a t) (.int b u) Ac:=⟨RcAt.str_int _ _ _ _,EqAt.str_int _ _ _ _,RcNeAt.str_int _ _ _ _⟩
theorem iQ(b:Af)(u:CM):Cy B s .none (.int b u) Ac:=⟨RcAt.none_int _ _,EqAt.none_int _ _,RcNeAt.none_int _ _⟩
theorem gU(b:Af)(u:CM):Cy B s (.int b u) .none Ac:=⟨RcAt.int_none _ _,EqAt.int_none _ _,RcNeAt.int_none _ _⟩
theorem iN(b:Ah)(u:CM):Cy B s .none (.str b u) Ac:=⟨RcAt.none_str _ _,EqAt.none_str _ _,RcNeAt.none_str _ _⟩
theorem iI(b:Ah)(u:CM):Cy B s (.str b u) .none Ac:=⟨RcAt.str_none _ _,EqAt.str_none _ _,RcNeAt.str_none _ _⟩
theorem jS(a:Ao)(b:Af)(u:CM):Cy B s (.bool a) (.int b u) (b2i a==b):=⟨RcAt.bool_int _ _ _,EqAt.bool_int _ _ _,RcNeAt.bool_int _ _ _⟩
theorem gY(a:Ao)(b:Af)(u:CM):Cy B s (.int b u) (.bool a) (b==b2i a):=⟨RcAt.int_bool _ _ _,EqAt.int_bool _ _ _,RcNeAt.int_bool _ _ _⟩
theorem hJ(a:Ao)(b:Ah)(u:CM):Cy B s (.bool a) (.str b u) Ac:=⟨RcAt.bool_str _ _ _,EqAt.bool_str _ _ _,RcNeAt.bool_str _ _ _⟩
theorem iL(a:Ao)(b:Ah)(u:CM):Cy B s (.str b u) (.bool a) Ac:=⟨RcAt.str_bool _ _ _,EqAt.str_bool _ _ _,RcNeAt.str_bool _ _ _⟩
variable{l:Aj}{items:Bl Ai}
theorem iU(h:s.heap.IsList l items)(hu:B.units<BY):Cy B s (.ref l) .none Ac:=⟨RcAt.list_none h hu,EqAt.list_none h hu,RcNeAt.list_none h hu⟩
theorem iP(h:s.heap.IsList l items)(hu:B.units<BY):Cy B s .none (.ref l) Ac:=⟨RcAt.none_list h hu,EqAt.none_list h hu,RcNeAt.none_list h hu⟩
theorem iW(b:Ao)(h:s.heap.IsList l items)(hu:B.units<BY):Cy B s (.ref l) (.bool b) Ac:=⟨RcAt.list_bool b h hu,EqAt.list_bool b h hu,RcNeAt.list_bool b h hu⟩
theorem hU(b:Ao)(h:s.heap.IsList l items)(hu:B.units<BY):Cy B s (.bool b) (.ref l) Ac:=⟨RcAt.bool_list b h hu,EqAt.bool_list b h hu,RcNeAt.bool_list b h hu⟩
theorem iV(b:Af)(u:CM)(h:s.heap.IsList l items)(hu:B.units<BY):Cy B s (.ref l) (.int b u) Ac:=⟨RcAt.list_int b u h hu,EqAt.list_int b u h hu,RcNeAt.list_int b u h hu⟩
theorem gW(b:Af)(u:CM)(h:s.heap.IsList l items)(hu:B.units<BY):Cy B s (.int b u) (.ref l) Ac:=⟨RcAt.int_list b u h hu,EqAt.int_list b u h hu,RcNeAt.int_list b u h hu⟩
theorem iT(b:Ah)(u:CM)(h:s.heap.IsList l items)(hu:B.units<BY):Cy B s (.ref l) (.str b u) Ac:=⟨RcAt.list_str b u h hu,EqAt.list_str b u h hu,RcNeAt.list_str b u h hu⟩
theorem iJ(b:Ah)(u:CM)(h:s.heap.IsList l items)(hu:B.units<BY):Cy B s (.str b u) (.ref l) Ac:=⟨RcAt.str_list b u h hu,EqAt.str_list b u h hu,RcNeAt.str_list b u h hu⟩
theorem iA(h:s.heap.IsTuple l items)(hu:B.units<BY):Cy B s (.ref l) .none Ac:=⟨RcAt.tuple_none h hu,EqAt.tuple_none h hu,RcNeAt.tuple_none h hu⟩
theorem iM(h:s.heap.IsTuple l items)(hu:B.units<BY):Cy B s .none (.ref l) Ac:=⟨RcAt.none_tuple h hu,EqAt.none_tuple h hu,RcNeAt.none_tuple h hu⟩
theorem iF(b:Ao)(h:s.heap.IsTuple l items)(hu:B.units<BY):Cy B s (.ref l) (.bool b) Ac:=⟨RcAt.tuple_bool b h hu,EqAt.tuple_bool b h hu,RcNeAt.tuple_bool b h hu⟩
theorem gZ(b:Ao)(h:s.heap.IsTuple l items)(hu:B.units<BY):Cy B s (.bool b) (.ref l) Ac:=⟨RcAt.bool_tuple b h hu,EqAt.bool_tuple b h hu,RcNeAt.bool_tuple b h hu⟩
theorem iE(b:Af)(u:CM)(h:s.heap.IsTuple l items)(hu:B.units<BY):Cy B s (.ref l) (.int b u) Ac:=⟨RcAt.tuple_int b u h hu,EqAt.tuple_int b u h hu,RcNeAt.tuple_int b u h hu⟩
theorem gR(b:Af)(u:CM)(h:s.heap.IsTuple l items)(hu:B.units<BY):Cy B s (.int b u) (.ref l) Ac:=⟨RcAt.int_tuple b u h hu,EqAt.int_tuple b u h hu,RcNeAt.int_tuple b u h hu⟩
theorem hZ(b:Ah)(u:CM)(h:s.heap.IsTuple l items)(hu:B.units<BY):Cy B s (.ref l) (.str b u) Ac:=⟨RcAt.tuple_str b u h hu,EqAt.tuple_str b u h hu,RcNeAt.tuple_str b u h hu⟩
theorem iG(b:Ah)(u:CM)(h:s.heap.IsTuple l items)(hu:B.units<BY):Cy B s (.str b u) (.ref l) Ac:=⟨RcAt.str_tuple b u h hu,EqAt.str_tuple b u h hu,RcNeAt.str_tuple b u h hu⟩
theorem iS(h:s.heap.IsList l items)(h2:s.heap.IsTuple b items2)(hu:B.units<BY):Cy B s (.ref l) (.ref b) Ac:=⟨RcAt.list_tuple h h2 hu,EqAt.list_tuple h h2 hu,RcNeAt.list_tuple h h2 hu⟩
theorem iB(h:s.heap.IsTuple l items)(h2:s.heap.IsList b items2)(hu:B.units<BY):Cy B s (.ref l) (.ref b) Ac:=⟨RcAt.tuple_list h h2 hu,EqAt.tuple_list h h2 hu,RcNeAt.tuple_list h h2 hu⟩
end
end
section
variable{X:Cx}{CL:ClA}{W:XW}
theorem Hx(x:PlainL h a its):h.IsList a its:=let ⟨o,n,e,c,_,d⟩:=x;⟨o,e,c,n,d⟩
def mO(X:Cx)(CL:ClA)(H:Hp)(s:Ar)(d:D)(u:Ai):Prop:=match d with
  |.non=>u=.none
  |.bl b=>u=.bool b
  |.int i=>∃ t,u=.int i t
  |.str x=>∃ t,u=.str x t
  |.tup ds=>∃ a xs its,u=.ref a/\Reps X.K CL H A0 xs ds/\Bi xs its/\s.heap.IsTuple a its.toArray
  |.lst ds=>∃ a xs its,u=.ref a/\Reps X.K CL H A0 xs ds/\Bi xs its/\s.heap.IsList a its.toArray
  |_=>AS
theorem QM(I:Inv X pI σ H s)(hd:flD n d=Ab)(r:Rep X.K CL H A0 v d)(q:BB v u):mO X CL H s d u:=by
 cases d with
 |non=>cases r;exact q
 |bl b=>cases r;exact q
 |int b=>cases r;exact q
 |str b=>cases r;exact q
 |tup ds=>
  obtain⟨a,xs,rfl,_,sq,r⟩:=r;obtain⟨its,rv,p,_⟩:=I.tuple sq;cases q;exact⟨a,xs,its,rfl,r,rv,p⟩
 |lst ds=>
  obtain⟨a,xs,rfl,_,sq,r⟩:=r;obtain⟨its,rv,p,_⟩:=I.list sq;cases q;exact⟨a,xs,its,rfl,r,rv,Hx p⟩
 |obj=>cases n<;>cases hd
 |exc=>cases n<;>cases hd
 |dic=>cases n<;>cases hd
theorem XR{B:AZ}{its:Ad Ai}{ds es:Ad D}(hl:s.heap.IsList l its.toArray)(hb:s.heap.IsList b its2.toArray)(e1:its.length=ds.length)(e2:its2.length=es.length)(hu:B.units<BY)(hs:l=b->eqDs ds es=Ab)(he:∀ j (h1:j<its.length) (h2:j<its2.length),F7 B.in1 s its[j] its2[j] (eqD (ds.getD j .non) (es.getD j .non))):Cy B s (.ref l) (.ref b) (eqDs ds es):=by
 have rc:JE B s (.ref l) (.ref b) (eqDs ds es):=by
  by_cases hz:its.length=its2.length
  ·have q:=SeqAt.RcAt.lists (e:=fun j=>eqD (ds.getD j .non) (es.getD j .non)) hl hb (by simpa using hz) hu (fun j h1 h2=>by simpa using he j (by simpa using h1) (by simpa using h2))
   rw[KW (by omega)]
   have e:its.toArray.size=ds.length:=by simpa using e1
   rw[e]at q;exact q
  ·rw[KU (by omega)]
   exact SeqAt.RcAt.lists_lengths hl hb (by simpa using hz) hu
 have ne:Ix B s (.ref l) (.ref b) (!eqDs ds es):=by
  by_cases hz:its.length=its2.length
  ·have q:=SeqAt.RcNeAt.lists (e:=fun j=>eqD (ds.getD j .non) (es.getD j .non)) hl hb (by simpa using hz) hu (fun j h1 h2=>by simpa using he j (by simpa using h1) (by simpa using h2))
   rw[KW (by omega)]
   have e:its.toArray.size=ds.length:=by simpa using e1
   rw[e]at q;exact q
  ·rw[KU (by omega)]
   exact SeqAt.RcNeAt.lists_lengths hl hb (by simpa using hz) hu
 refine⟨rc,?_,ne⟩;by_cases hlb:l=b
 ·rw[hs hlb,hlb];exact Vj _
 ·exact Vi hlb rc
theorem XQ{B:AZ}{its:Ad Ai}{ds es:Ad D}(hl:s.heap.IsTuple l its.toArray)(hb:s.heap.IsTuple b its2.toArray)(e1:its.length=ds.length)(e2:its2.length=es.length)(hu:B.units<BY)(hs:l=b->eqDs ds es=Ab)(he:∀ j (h1:j<its.length) (h2:j<its2.length),F7 B.in1 s its[j] its2[j] (eqD (ds.getD j .non) (es.getD j .non))):Cy B s (.ref l) (.ref b) (eqDs ds es):=by
 have rc:JE B s (.ref l) (.ref b) (eqDs ds es):=by
  have q:=SeqAt.RcAt.tuples (e:=fun j=>eqD (ds.getD j .non) (es.getD j .non)) hl hb hu (fun j h1 h2=>by simpa using he j (by simpa using h1) (by simpa using h2))
  have e:its.toArray.size=ds.length:=by simpa using e1
  have e':its2.toArray.size=es.length:=by simpa using e2
  rw[e,e']at q;by_cases hz:ds.length=es.length
  ·rw[KW hz];rw[hz,UI,Hk,T8]at q;rw[hz];exact q
  ·rw[KU hz];rw[Do.mpr hz,HE]at q;exact q
 have ne:Ix B s (.ref l) (.ref b) (!eqDs ds es):=by
  have q:=SeqAt.RcNeAt.tuples (e:=fun j=>eqD (ds.getD j .non) (es.getD j .non)) hl hb hu (fun j h1 h2=>by simpa using he j (by simpa using h1) (by simpa using h2))
  have e:its.toArray.size=ds.length:=by simpa using e1
  have e':its2.toArray.size=es.length:=by simpa using e2
  rw[e,e']at q;by_cases hz:ds.length=es.length
  ·rw[KW hz];rw[hz,UI,Hk,T8]at q;rw[hz];exact q
  ·rw[KU hz];rw[Do.mpr hz,HE]at q;exact q
 refine⟨rc,?_,ne⟩;by_cases hlb:l=b
 ·rw[hs hlb,hlb];exact Vj _
 ·exact Vi hlb rc
theorem Lg{pI:Pn}{σ:L2.St}{H:Hp}{s:Ar}(I:Inv X pI σ H s):∀(n:Ag)(d e:D)(v w':V)(u t:Ai)(B:AZ),flD n d=Ab->flD n e=Ab->Rep X.K CL H A0 v d->Rep X.K CL H A0 w' e->BB v u->BB w' t->B.units+n<BY->Cy B s u t (eqD d e)
  |n,d,e,v,w',u,t,B,hd,he,r,q,rv,rw',hu=>by
    have hu0:B.units<BY:=by omega
    have sd:=QM I hd r rv;have se:=QM I he q rw'
    match d,e,sd,se with
    |.non,.non,s1,s2=>cases s1;cases s2;exact iO
    |.non,.bl b,s1,s2=>cases s1;cases s2;exact iR b
    |.non,.int b,s1,s2=>cases s1;obtain⟨_,rfl⟩:=s2;exact iQ b _
    |.non,.str b,s1,s2=>cases s1;obtain⟨_,rfl⟩:=s2;exact iN b _
    |.non,.tup es,s1,s2=>cases s1;obtain⟨_,_,_,rfl,_,_,p⟩:=s2;exact iM p hu0
    |.non,.lst es,s1,s2=>cases s1;obtain⟨_,_,_,rfl,_,_,p⟩:=s2;exact iP p hu0
    |.bl a,.non,s1,s2=>cases s1;cases s2;exact hR a
    |.bl a,.bl b,s1,s2=>cases s1;cases s2;exact jT a b
    |.bl a,.int b,s1,s2=>cases s1;obtain⟨_,rfl⟩:=s2;exact jS a b _
    |.bl a,.str b,s1,s2=>cases s1;obtain⟨_,rfl⟩:=s2;exact hJ a b _
    |.bl a,.tup es,s1,s2=>cases s1;obtain⟨_,_,_,rfl,_,_,p⟩:=s2;exact gZ a p hu0
    |.bl a,.lst es,s1,s2=>cases s1;obtain⟨_,_,_,rfl,_,_,p⟩:=s2;exact hU a p hu0
    |.int a,.non,s1,s2=>obtain⟨_,rfl⟩:=s1;cases s2;exact gU a _
    |.int a,.bl b,s1,s2=>obtain⟨_,rfl⟩:=s1;cases s2;exact gY b a _
    |.int a,.int b,s1,s2=>obtain⟨_,rfl⟩:=s1;obtain⟨_,rfl⟩:=s2;exact gX a _ b _
    |.int a,.str b,s1,s2=>obtain⟨_,rfl⟩:=s1;obtain⟨_,rfl⟩:=s2;exact gS a _ b _
    |.int a,.tup es,s1,s2=>obtain⟨_,rfl⟩:=s1;obtain⟨_,_,_,rfl,_,_,p⟩:=s2;exact gR a _ p hu0
    |.int a,.lst es,s1,s2=>obtain⟨_,rfl⟩:=s1;obtain⟨_,_,_,rfl,_,_,p⟩:=s2;exact gW a _ p hu0
    |.str a,.non,s1,s2=>obtain⟨_,rfl⟩:=s1;cases s2;exact iI a _
    |.str a,.bl b,s1,s2=>obtain⟨_,rfl⟩:=s1;cases s2;exact iL b a _
    |.str a,.int b,s1,s2=>obtain⟨_,rfl⟩:=s1;obtain⟨_,rfl⟩:=s2;exact iK a _ b _
    |.str a,.str b,s1,s2=>obtain⟨_,rfl⟩:=s1;obtain⟨_,rfl⟩:=s2;exact iH a _ b _
    |.str a,.tup es,s1,s2=>obtain⟨_,rfl⟩:=s1;obtain⟨_,_,_,rfl,_,_,p⟩:=s2;exact iG a _ p hu0
    |.str a,.lst es,s1,s2=>obtain⟨_,rfl⟩:=s1;obtain⟨_,_,_,rfl,_,_,p⟩:=s2;exact iJ a _ p hu0
    |.tup ds,.non,s1,s2=>cases s2;obtain⟨_,_,_,rfl,_,_,p⟩:=s1;exact iA p hu0
    |.tup ds,.bl b,s1,s2=>cases s2;obtain⟨_,_,_,rfl,_,_,p⟩:=s1;exact iF b p hu0
    |.tup ds,.int b,s1,s2=>obtain⟨_,rfl⟩:=s2;obtain⟨_,_,_,rfl,_,_,p⟩:=s1;exact iE b _ p hu0
    |.tup ds,.str b,s1,s2=>obtain⟨_,rfl⟩:=s2;obtain⟨_,_,_,rfl,_,_,p⟩:=s1;exact hZ b _ p hu0
    |.tup ds,.lst es,s1,s2=>obtain⟨_,_,_,rfl,_,_,p⟩:=s1;obtain⟨_,_,_,rfl,_,_,p2⟩:=s2;exact iB p p2 hu0
    |.lst ds,.non,s1,s2=>cases s2;obtain⟨_,_,_,rfl,_,_,p⟩:=s1;exact iU p hu0
    |.lst ds,.bl b,s1,s2=>cases s2;obtain⟨_,_,_,rfl,_,_,p⟩:=s1;exact iW b p hu0
    |.lst ds,.int b,s1,s2=>obtain⟨_,rfl⟩:=s2;obtain⟨_,_,_,rfl,_,_,p⟩:=s1;exact iV b _ p hu0
    |.lst ds,.str b,s1,s2=>obtain⟨_,rfl⟩:=s2;obtain⟨_,_,_,rfl,_,_,p⟩:=s1;exact iT b _ p hu0
    |.lst ds,.tup es,s1,s2=>obtain⟨_,_,_,rfl,_,_,p⟩:=s1;obtain⟨_,_,_,rfl,_,_,p2⟩:=s2;exact iS p p2 hu0
    |.tup ds,.tup es,s1,s2=>
      match n,hd,he,hu with
      |n+1,hd,he,hu=>
        obtain⟨a,xs,its,rfl,r1,v1,p1⟩:=s1;obtain⟨b,ys,its2,rfl,r2,v2,p2⟩:=s2;have l1:=v1.length;have l2:=r1.length;have l3:=v2.length;have l4:=r2.length
        refine XQ p1 p2 (by omega) (by omega) hu0 (fun hab=>?_) fun j h1 h2=>?_
        · have e1:v=.ref a:=BB.inj rv rfl;have e2:w'=.ref b:=BB.inj rw' rfl;subst e1 e2 hab;have z:=LU I (n+1) _ _ hd he r q
          injection z with z
          rw[z];exact eqDs_refl n es he
        · obtain⟨x,rx,qx⟩:=Jq r1 v1 h1;obtain⟨y,ry,qy⟩:=Jq r2 v2 h2;exact(Lg I n _ _ x y _ _ B.in1 (Jj hd j) (Jj he j) rx ry qx qy (by show B.units+1+n<BY;omega)).2.1
    |.lst ds,.lst es,s1,s2=>
      match n,hd,he,hu with
      |n+1,hd,he,hu=>
        obtain⟨a,xs,its,rfl,r1,v1,p1⟩:=s1;obtain⟨b,ys,its2,rfl,r2,v2,p2⟩:=s2;have l1:=v1.length;have l2:=r1.length;have l3:=v2.length;have l4:=r2.length
        refine XR p1 p2 (by omega) (by omega) hu0 (fun hab=>?_) fun j h1 h2=>?_
        · have e1:v=.ref a:=BB.inj rv rfl;have e2:w'=.ref b:=BB.inj rw' rfl;subst e1 e2 hab;have z:=LU I (n+1) _ _ hd he r q
          injection z with z
          rw[z];exact eqDs_refl n es he
        · obtain⟨x,rx,qx⟩:=Jq r1 v1 h1;obtain⟨y,ry,qy⟩:=Jq r2 v2 h2;exact(Lg I n _ _ x y _ _ B.in1 (Jj hd j) (Jj he j) rx ry qx qy (by show B.units+1+n<BY;omega)).2.1
    |.obj _ _,_,s1,_=>exact s1.elim
    |.exc _ _,_,s1,_=>exact s1.elim
    |.dic _,_,s1,_=>exact s1.elim
    |_,.obj _ _,_,s2=>exact s2.elim
    |_,.exc _ _,_,s2=>exact s2.elim
    |_,.dic _,_,s2=>exact s2.elim
end
section
variable{X:Cx}{CL:ClA}{W:XW}
theorem Mb(I:Inv X pI σ H s){ds:Ad D}{its:Ad Ai}(B:AZ)(hd:flD n d=Ab)(hs:ds.all (flD n)=Ab)(r:Reps X.K CL H A0 xs ds)(rv:Bi xs its)(q:Rep X.K CL H A0 v d)(qv:BB v u)(hu:B.units+n<BY):∃ e:Ai->Ao,(∀ y,y∈its.toArray->F7 B s y u (e y))/\its.toArray.any e=ds.any fun y=>eqD y d:=by
 have l1:=rv.length;have l2:=r.length
 have key:∀ y,y∈its->∃ k:Ao,F7 B s y u k/\∀ j (h:j<its.length),its[j]=y->eqD (ds.getD j .non) d=k:=fun y hy=>by
  obtain⟨j,hj,rfl⟩:=Gf hy;obtain⟨x,rx,qx⟩:=Jq r rv hj;refine⟨eqD (ds.getD j .non) d,(Lg I n _ _ x v _ _ B (Jj hs j) hd rx q qx qv hu).2.1,fun j' hj' e=>?_⟩
  obtain⟨x',rx',qx'⟩:=Jq r rv hj';rw[e]at qx';have z:=BB.inj qx qx';subst z;rw[LU I n _ _ (Jj hs j') (Jj hs j) rx' rx]
 have key2:∀ y,∃ k:Ao,y∈its->F7 B s y u k/\∀ j (h:j<its.length),its[j]=y->eqD (ds.getD j .non) d=k:=fun y=>by
  by_cases hy:y∈its
  ·obtain⟨k,hk⟩:=key y hy;exact⟨k,fun _=>hk⟩
  ·exact⟨Ab,fun h=>absurd h hy⟩
 refine⟨fun y=>Ub (key2 y),fun y hy=>(Ec (key2 y) (by simpa using hy)).1,?_⟩
 rw[CQ];simp only[List.any_toArray,Ep];constructor
 ·rintro⟨y,hy,hk⟩;obtain⟨j,hj,rfl⟩:=Gf hy;have z:=(Ec (key2 its[j]) hy).2 j hj rfl;rw[hk]at z;refine⟨ds.getD j .non,?_,z⟩;rw[DA,Cb (by omega)]
  exact DO _
 ·rintro⟨y,hy,hk⟩;obtain⟨j,hj,rfl⟩:=Gf hy;have hj':j<its.length:=by omega
  refine⟨its[j],DO _,?_⟩;have z:=(Ec (key2 its[j]) (DO _)).2 j hj' rfl;rw[<-z,DA,Cb hj];exact hk
theorem LS{g:Af->Af->Ao}(ho:OpR X (Ct op) (rI0 fun i j=>.bl (g i j)))(hg:∀ dx dy,(∃ i j,dx=.int i/\dy=.int j/\BR op dx dy=.ok (.bl (g i j)))\/BR op dx dy=.bad):OpD X CL W (Ct op) (BR op):=by
 intro A pI s σ H x y v u Q I rx ry ⟨hA,dx,dy,hx,hy,p⟩;rcases hg dx dy with ⟨i,j,rfl,rfl,e⟩|e
 ·have ex:=hx.int_of;have ey:=hy.int_of
  subst ex ey;rw[e]at p;exact ho pI s σ H _ _ v u Q I rx ry ⟨i,j,rfl,rfl,p _ H (AE.refl H) rfl⟩
 ·rw[e]at p;exact p.elim
theorem RK{x:V}(h:CG X.K CL H A x d)(hd:d≠.non):x≠.non:=by
 rintro rfl;have h:=h.plain;cases d with
 |non=>exact hd rfl
 |tup=>obtain⟨_,_,e,_⟩:=h;cases e
 |lst=>obtain⟨_,_,e,_⟩:=h;cases e
 |obj=>obtain⟨_,_,_,_,e,_⟩:=h;cases e
 |exc=>obtain⟨_,_,_,e,_⟩:=h;cases e
 |dic=>exact h.elim
 |_=>cases h
theorem JY(hu:X.A.units+64<BY)(op:D0):OpD X CL W (Ct op) (BR op):=by
 cases op with
 |Eq=>
  intro A pI s σ H x y v u Q I rx ry ⟨hA,dx,dy,hx,hy,p⟩;rw[kY]at p;split at p
  ·rename_i h;simp only[Ak]at h;exact(Lg I 5 dx dy x y v u X.A h.1 h.2 hx.plain hy.plain rx ry (by omega)).1 X.prog X.w X.xe _ ⟨.bl _,H,I,rfl,p _ H (AE.refl H) rfl⟩
  ·exact p.elim
 |NotEq=>
  intro A pI s σ H x y v u Q I rx ry ⟨hA,dx,dy,hx,hy,p⟩;rw[jO]at p;split at p
  ·rename_i h;simp only[Ak]at h;exact(Lg I 5 dx dy x y v u X.A h.1 h.2 hx.plain hy.plain rx ry (by omega)).2.2 X.prog X.w X.xe _ ⟨.bl _,H,I,rfl,p _ H (AE.refl H) rfl⟩
  ·exact p.elim
 |Lt=>exact LS jG fun dx dy=>by cases dx<;>cases dy<;>first|exact .inl ⟨_,_,rfl,rfl,rfl⟩|exact .inr rfl
 |LtE=>exact LS jH fun dx dy=>by cases dx<;>cases dy<;>first|exact .inl ⟨_,_,rfl,rfl,rfl⟩|exact .inr rfl
 |Gt=>exact LS jI fun dx dy=>by cases dx<;>cases dy<;>first|exact .inl ⟨_,_,rfl,rfl,rfl⟩|exact .inr rfl
 |GtE=>exact LS jJ fun dx dy=>by cases dx<;>cases dy<;>first|exact .inl ⟨_,_,rfl,rfl,rfl⟩|exact .inr rfl
 |In=>
  intro A pI s σ H x y v u Q I rx ry ⟨hA,dx,dy,hx,hy,p⟩;cases dy with
  |lst es=>
   rw[mW]at p;split at p
   ·rename_i h;simp only[Ak]at h;obtain⟨a,xs,e,_,sq,r⟩:=hy.plain;subst e;cases ry;obtain⟨its,rv,pl,_⟩:=I.list sq;obtain⟨e,he,ha⟩:=Mb I (n:=5) X.A.in1 h.1 h.2 r rv hx.plain rx (by show X.A.units+1+5<BY;omega)
    refine SeqAt.in_listAt e (Hx pl) he ?_;rw[ha];exact⟨.bl _,H,I,rfl,p _ H (AE.refl H) rfl⟩
   ·exact p.elim
  |tup es=>
   rw[mV]at p;split at p
   ·rename_i h;simp only[Ak]at h;obtain⟨a,xs,e,_,sq,r⟩:=hy.plain;subst e;cases ry;obtain⟨its,rv,pl,_⟩:=I.tuple sq;obtain⟨e,he,ha⟩:=Mb I (n:=5) X.A.in1 h.1 h.2 r rv hx.plain rx (by show X.A.units+1+5<BY;omega)
    refine SeqAt.in_tupleAt e pl he ?_;rw[ha];exact⟨.bl _,H,I,rfl,p _ H (AE.refl H) rfl⟩
   ·exact p.elim
  |dic kvs=>exact hy.plain.elim
  |_=>cases dx<;>exact p.elim
 |NotIn=>
  intro A pI s σ H x y v u Q I rx ry ⟨hA,dx,dy,hx,hy,p⟩;cases dy with
  |lst es=>
   rw[jM]at p;split at p
   ·rename_i h;simp only[Ak]at h;obtain⟨a,xs,e,_,sq,r⟩:=hy.plain;subst e;cases ry;obtain⟨its,rv,pl,_⟩:=I.list sq;obtain⟨e,he,ha⟩:=Mb I (n:=5) X.A.in1 h.1 h.2 r rv hx.plain rx (by show X.A.units+1+5<BY;omega)
    refine SeqAt.notIn_listAt e (Hx pl) he ?_;rw[ha];exact⟨.bl _,H,I,rfl,p _ H (AE.refl H) rfl⟩
   ·exact p.elim
  |tup es=>
   rw[jL]at p;split at p
   ·rename_i h;simp only[Ak]at h;obtain⟨a,xs,e,_,sq,r⟩:=hy.plain;subst e;cases ry;obtain⟨its,rv,pl,_⟩:=I.tuple sq;obtain⟨e,he,ha⟩:=Mb I (n:=5) X.A.in1 h.1 h.2 r rv hx.plain rx (by show X.A.units+1+5<BY;omega)
    refine SeqAt.notIn_tupleAt e pl he ?_;rw[ha];exact⟨.bl _,H,I,rfl,p _ H (AE.refl H) rfl⟩
   ·exact p.elim
  |_=>cases dx<;>exact p.elim
 |Is=>
  intro A pI s σ H x y v u Q I rx ry ⟨hA,dx,dy,hx,hy,p⟩;cases dy with
  |non=>
   have ey:=hy.non_of;subst ey;refine cT pI s σ H _ _ v u Q I rx ry ⟨rfl,?_⟩;cases dx with
   |non=>
    have ex:=hx.non_of;subst ex;exact p _ H (AE.refl H) rfl
   |exc=>exact p.elim
   |dic=>exact p.elim
   |_=>rw[CU (RK hx (by simp))];exact p _ H (AE.refl H) rfl
  |bl b=>
   cases dx with
   |bl a=>
    have ey:=hy.bl_of;have ex:=hx.bl_of;subst ex ey;cases rx;cases ry;refine wpAny_is_plain rfl ⟨.bl (a==b),H,I,?_,p _ H (AE.refl H) rfl⟩;cases a<;>cases b<;>rfl
   |_=>exact p.elim
  |_=>cases dx<;>exact p.elim
 |IsNot=>
  intro A pI s σ H x y v u Q I rx ry ⟨hA,dx,dy,hx,hy,p⟩;cases dy with
  |non=>
   have ey:=hy.non_of;subst ey;refine Zw pI s σ H _ _ v u Q I rx ry ⟨rfl,?_⟩;cases dx with
   |non=>
    have ex:=hx.non_of;subst ex;exact p _ H (AE.refl H) rfl
   |exc=>exact p.elim
   |dic=>exact p.elim
   |_=>rw[CU (RK hx (by simp))];exact p _ H (AE.refl H) rfl
  |bl b=>
   cases dx with
   |bl a=>
    have ey:=hy.bl_of;have ex:=hx.bl_of;subst ex ey;cases rx;cases ry;refine wpAny_isNot_plain rfl ⟨.bl (!(a==b)),H,I,?_,p _ H (AE.refl H) rfl⟩;cases a<;>cases b<;>rfl
   |_=>exact p.elim
  |_=>cases dx<;>exact p.elim
end
section
variable{X:Cx}{CL:ClA}{W:XW}{a b c:Ap}{fa fb fc:Rho->R D}{pos:AM}
theorem C5.bind{f:D->R Ao}{Q:Ao->Hp->Prop}{Q':VK}(h:C5 W H (r.bind f) Q)(k:∀ d v H',r=.ok d->AE H H'->Rp H' v d->C5 W H' (f d) Q->Q' v H'):Bh Rp W H r Q':=by
 cases r with
 |ok d=>exact fun v H2 s2 q=>k d v H2 rfl s2 q (C5.same s2 h)
 |exn x=>exact h
 |bad=>exact h
theorem C5.bindB{r:R Ao}{f:Ao->R Ao}{Q:Ao->Hp->Prop}{Q':Ao->Hp->Prop}(h:C5 W H (r.bind f) Q)(k:∀ b H',r=.ok b->AE H H'->C5 W H' (f b) Q->Q' b H'):C5 W H r Q':=by
 cases r with
 |ok d=>exact fun H2 s2=>k d H2 rfl s2 (C5.same s2 h)
 |exn x=>exact h
 |bad=>exact h
theorem Hc.bind{Rp:Hp->Ad V->Ad D->Prop}{r:R (Ad D)}{f:Ad D->R D}{Q':Ad V->Hp->Prop}(h:Bh Rq W H (r.bind f) Q)(k:∀ d v H',r=.ok d->AE H H'->Rp H' v d->Bh Rq W H' (f d) Q->Q' v H'):Hc Rp W H r Q':=by
 cases r with
 |ok d=>exact fun v H2 s2 q=>k d v H2 rfl s2 q (Bh.same s2 h)
 |exn x=>exact h
 |bad=>exact h
theorem LG{f:Ao->R D}(h:Bh Rq W H ((Dl d).bind f) Q):∃ c,d=.bl c/\Bh Rq W H (f c) Q:=by
 cases d with
 |bl c=>exact⟨c,rfl,h⟩
 |_=>exact h.elim
theorem Sd(ha:ST X CL W a fa):SE X CL W (.UnaryOp .Not a pos) (fun ρ=>(fa ρ).bind fun x=>(Dl x).bind fun b=>.ok (.bl (!b))):=fun A=>PE.weak (cJ (ha A)) fun σ H Q ⟨hA,ρ,g,p⟩=>⟨hA,ρ,g,Bh.bind p fun d v H1 _ s1 r1 p1=>by
 obtain⟨c,rfl,p2⟩:=LG p1;exact⟨c,r1.bl_of,p2 _ H1 (AE.refl H1) rfl⟩⟩
theorem NQ{op}(ha:SE X CL W a fa):SE X CL W (.BoolOp op [a] pos) fa:=fun A=>eF (ha A)
theorem RB{rest:Ad Ap}(ha:SE X CL W a fa)(hb:SE X CL W (.BoolOp .And (b::rest) pos) fb):SE X CL W (.BoolOp .And (a::b::rest) pos) (fun ρ=>(fa ρ).bind fun x=>(Dl x).bind fun c=>if c=Ab then fb ρ else .ok (.bl Ac)):=
 fun A=>PE.weak (cP (ha A) (hb A)) fun σ H Q ⟨hA,ρ,g,p⟩=>⟨hA,ρ,g,Bh.bind p fun d v H1 _ s1 r1 p1=>by
  obtain⟨c,rfl,p2⟩:=LG p1;refine⟨c,r1,?_⟩;cases c with
  |true=>exact⟨hA.same s1,ρ,g.same s1,p2⟩
  | false=>exact p2 _ H1 (AE.refl H1) rfl⟩
theorem hV{rest:Ad Ap}(ha:SE X CL W a fa)(hb:SE X CL W (.BoolOp .Or (b::rest) pos) fb):SE X CL W (.BoolOp .Or (a::b::rest) pos) (fun ρ=>(fa ρ).bind fun x=>(Dl x).bind fun c=>if c=Ab then .ok (.bl Ab) else fb ρ):=
 fun A=>PE.weak (kK (ha A) (hb A)) fun σ H Q ⟨hA,ρ,g,p⟩=>⟨hA,ρ,g,Bh.bind p fun d v H1 _ s1 r1 p1=>by
  obtain⟨c,rfl,p2⟩:=LG p1;refine⟨c,r1,?_⟩;cases c with
  |false=>exact⟨hA.same s1,ρ,g.same s1,p2⟩
  | true=>exact p2 _ H1 (AE.refl H1) rfl⟩
theorem XG{op':D0}(hu:X.A.units+64<BY)(ha:ST X CL W a fa)(hb:ST X CL W b fb)(hc:ST X CL W c fc)(hm:IC [op,op'] [b,c]=Ac):SE X CL W (.Compare a [op,op'] [b,c] pos) (fun ρ=>(fa ρ).bind fun x=>(fb ρ).bind fun y=>(BR op x y).bind fun z=>(Dl z).bind fun k=>if k=Ab then (fc ρ).bind fun u=>BR op' y u else .ok (.bl Ac)):=
 fun A=>PE.weak (W9 (JY hu op A) (JY hu op' A) (ha A) (hb A) (hc A) hm) fun σ H Q ⟨hA,ρ,g,p⟩=>⟨hA,ρ,g,Bh.bind p fun dx x H1 _ s1 r1 p1=>⟨hA.same s1,ρ,g.same s1,Bh.bind p1 fun dy y H2 _ s2 r2 p2=>
  ⟨(hA.same s1).same s2,dx,dy,r1.same s2,r2,Bh.bind p2 fun dz z H3 _ s3 r3 p3=>by
   obtain⟨k,rfl,p4⟩:=LG p3;refine⟨k,r3,?_⟩;cases k with
   |false=>exact p4 _ H3 (AE.refl H3) rfl
   | true=>exact⟨((hA.same s1).same s2).same s3,ρ,((g.same s1).same s2).same s3,Bh.bind p4 fun du u H4 _ s4 r4 p5=>⟨(((hA.same s1).same s2).same s3).same s4,dy,du,(r2.same s3).same s4,r4,p5⟩⟩⟩⟩⟩
theorem YM{xs:Ad D}{i:Af}(h:Db xs i=.ok d):∃ k,plD xs.length i=Aa k/\xs[k]?=Aa d:=by
 unfold Db at h;split at h
 ·rename_i k e;split at h
  ·rename_i d' e';cases h;exact⟨k,e,e'⟩
  ·cases h
 ·cases h
theorem Qa{xs:Ad D}{i:Af}(h:Db xs i=.exn x):AS:=by
 unfold Db at h;split at h
 ·split at h<;>cases h
 ·cases h
theorem Q6{ds:Ad D}{i:Af}(r:Reps K CL H A xs ds)(h:Db ds i=.ok d):∃ v,atI xs i=Aa v/\Rep K CL H A v d:=by
 obtain⟨k,e,q⟩:=YM h;obtain⟨v,hv,rv⟩:=r.get q;refine⟨v,?_,rv⟩;unfold atI;have:ixN xs.length i=Aa k:=by rw[r.length];exact e
 rw[this];exact hv
theorem aH(hs:Nw b)(ha:ST X CL W a fa)(hb:ST X CL W b fb):SE X CL W (.Subscript a b pos) (fun ρ=>(fa ρ).bind fun x=>(fb ρ).bind fun y=>CF x y):=
 fun A=>PE.weak (kL (r:=fun x y H Q=>Ts X.K x y H Q\/Tr X.K x y H Q) (Y1.or fG) (ha A) (hb A) hs) fun σ H Q h=>by
  obtain⟨hA,ρ,g,h⟩:=op2 h;refine⟨hA,ρ,g,?_⟩;cases e:fa ρ with
  |bad=>rw[e]at h;exact h
  |exn x=>rw[e]at h;exact h
  |ok dx0=>
   rw[e]at h;intro x H1 s1 r1;obtain⟨hA1,ρ1,g1,h1⟩:=h x H1 s1 r1;refine⟨hA1,ρ1,g1,?_⟩;cases e1:fb ρ1 with
   |bad=>rw[e1]at h1;exact h1
   |exn x=>rw[e1]at h1;exact h1
   |ok dy0=>
    rw[e1]at h1;intro y H2 s2 r2;obtain⟨hA2,dx,dy,rx,ry,p⟩:=h1 y H2 s2 r2;cases dy with
    |int i=>
     have ey:=ry.int_of;subst ey;cases dx with
     |lst ds=>
      obtain⟨q,xs,rfl,sq,r⟩:=rx.lst_of;rw[jD]at p;cases e2:Db ds i with
      |ok d=>
       rw[e2]at p;obtain⟨v,hv,rv⟩:=Q6 r e2;exact .inl ⟨q,xs,i,v,rfl,rfl,sq,hv,p v H2 (AE.refl H2) rv⟩
      |exn x=>exact(Qa e2).elim
      |bad=>rw[e2]at p;exact p.elim
     |tup ds=>
      obtain⟨q,xs,rfl,_,sq,r⟩:=rx.tup_of;rw[jC]at p;cases e2:Db ds i with
      |ok d=>
       rw[e2]at p;obtain⟨v,hv,rv⟩:=Q6 r e2;exact .inr ⟨q,xs,i,v,rfl,rfl,sq,hv,p v H2 (AE.refl H2) rv⟩
      |exn x=>exact(Qa e2).elim
      |bad=>rw[e2]at p;exact p.elim
     |dic=>exact rx.plain.elim
     |_=>exact p.elim
    |_=>cases dx<;>first|exact p.elim|exact rx.plain.elim
theorem RF:SA X CL W [] (fun _=>.ok []):=fun A=>PA.weak GC fun σ H Q ⟨hA,ρ,g,p⟩=>p [] H (AE.refl H) trivial
theorem QP(ha:SE X CL W a fa)(hs:SA X CL W es fs)(hst:AA (a::es) X.env=(Ac,eval a X.env)::AA es X.env):SA X CL W (a::es) (fun ρ=>(fa ρ).bind fun x=>(fs ρ).bind fun xs=>.ok (x::xs)):=
 fun A=>PA.weak (Et (ha A) (hs A) hst) fun σ H Q ⟨hA,ρ,g,p⟩=>by
  dsimp only at p;refine⟨hA,ρ,g,?_⟩;cases e:fa ρ with
  |bad=>rw[e]at p;exact p
  |exn x=>rw[e]at p;exact p
  |ok d=>
   rw[e]at p;intro v H1 s1 r1;refine⟨hA.same s1,ρ,g.same s1,?_⟩;cases e1:fs ρ with
   |bad=>rw[R.bind_ok,e1]at p;exact p
   |exn x=>rw[R.bind_ok,e1]at p;exact fun H2 s2=>p H2 (s1.trans s2)
   |ok ds=>
    rw[R.bind_ok,e1]at p;exact fun vs H2 s2 r2=>p (v::vs) H2 (s1.trans s2) ⟨r1.same s2,r2⟩
theorem bB(hs:SA X CL W es fs)(hz:∀ ρ ds,fs ρ=.ok ds->ds.length<=100000):SE X CL W (.Tuple es k pos) (fun ρ=>(fs ρ).bind fun xs=>.ok (.tup xs)):=
 fun A=>PE.weak (RH (hs A)) fun σ H Q ⟨hA,ρ,g,p⟩=>⟨hA,ρ,g,Hc.bind p fun ds vs H1 e s1 r1 p1=>⟨by
  rw[r1.length,Ds];have:=hz ρ ds e;omega,fun q hq=>p1 _ _ (FM hq _) (JZ (hA.same s1) hq r1)⟩⟩
def Ju(W:XW)(H:Hp)(r:R (An Af))(Q:An Af->Hp->Prop):Prop:=match r with
  |.ok o=>∀ H',AE H H'->Q o H'
  |.exn x=>∀ H',AE H H'->W x H'
  |.bad=>AS
theorem Ju.bind{r:R (An Af)}{f:An Af->R D}(h:Bh Rq W H (r.bind f) Q)(k:∀ o H',r=.ok o->AE H H'->Bh Rq W H' (f o) Q->Q' o H'):Ju W H r Q':=by
 cases r with
 |ok d=>exact fun H2 s2=>k d H2 rfl s2 (Bh.same s2 h)
 |exn x=>exact h
 |bad=>exact h
def SO(X:Cx)(CL:ClA)(W:XW)(e:An Ap)(f:Rho->R (An Af)):Prop:=∀ A,PO X e (fun σ H Q=>AOk H A/\∃ ρ,Good X.K CL A ρ σ H/\Ju W H (f ρ) Q)
theorem PO.weak{e:An Ap}{t t':TO}(h:PO X e t)(k:∀ σ H Q,t' σ H Q->t σ H Q):PO X e t':=fun pI s σ H Q I q=>h pI s σ H Q I (k _ _ _ q)
theorem Ye:SO X CL W Ae (fun _=>.ok Ae):=fun A=>PO.weak Zl fun σ H Q ⟨hA,ρ,g,p⟩=>p H (AE.refl H)
theorem Yd(ha:ST X CL W a fa):SO X CL W (Aa a) (fun ρ=>(fa ρ).bind fun d=>(Ez d).bind fun i=>.ok (Aa i)):=fun A=>PO.weak (Zk (ha A)) fun σ H Q ⟨hA,ρ,g,p⟩=>by
 dsimp only at p;refine⟨hA,ρ,g,?_⟩;cases e:fa ρ with
 |bad=>rw[e]at p;exact p
 |exn x=>rw[e]at p;exact p
 |ok d=>
  rw[e]at p;intro v H1 s1 r1;cases d with
  |int i=>exact⟨i,r1.int_of,p H1 s1⟩
  |_=>exact p.elim
theorem Ri{ds:Ad D}(lo hi:An Af)(r:Reps K CL H A xs ds):Reps K CL H A (IQ xs lo hi) (JB ds lo hi):=by
 unfold IQ JB;have e:∀ d o,HT.sIx xs.length d o=Hz ds.length d o:=fun d o=>by rw[r.length];cases o<;>rfl
 rw[e,e,r.length];exact(r.drop _).take _
end
section
variable{X:Cx}{CL:ClA}{W:XW}{a b c:Ap}{fa fb fc:Rho->R D}{pos:AM}
def FS(K:Fg)(CL:ClA)(H:Hp)(A:Aj->Prop):Ad V->Ad D->Prop
 |[],[]=>Hw
 |v::vs,d::ds=>CG K CL H A v d/\FS K CL H A vs ds
 |_,_=>AS
theorem FS.same{K:Fg}{H H':Hp}{A:Aj->Prop}(s:AE H H'):∀{vs:Ad V}{ds:Ad D},FS K CL H A vs ds->FS K CL H' A vs ds
 |[],[],h=>h
 |_::_,_::_,h=>⟨h.1.same s,FS.same s h.2⟩
 |[],_::_,h=>h.elim
 |_::_,[],h=>h.elim
theorem FS.one(h:FS K CL H A vs [d]):∃ v,vs=[v]/\CG K CL H A v d:=by
 cases vs with
 |nil=>exact h.elim
 |cons v vs=>
  cases vs with
  |nil=>exact⟨v,rfl,h.1⟩
  |cons=>exact h.2.elim
theorem FS.two{e:D}(h:FS K CL H A vs [d,e]):∃ v w',vs=[v,w']/\CG K CL H A v d/\CG K CL H A w' e:=by
 cases vs with
 |nil=>exact h.elim
 |cons v vs=>
  cases vs with
  |nil=>exact h.2.elim
  |cons w' vs=>
   cases vs with
   |nil=>exact⟨v,w',rfl,h.1,h.2.1⟩
   |cons=>exact h.2.2.elim
def SAT(X:Cx)(CL:ClA)(W:XW)(es:Ad Ap)(f:Rho->R (Ad D)):Prop:=∀ A,PA X es (fun σ H Q=>AOk H A/\∃ ρ,Good X.K CL A ρ σ H/\Hc (fun H=>FS X.K CL H A) W H (f ρ) Q)
theorem QO:SAT X CL W [] (fun _=>.ok []):=fun A=>PA.weak GC fun σ H Q ⟨hA,ρ,g,p⟩=>p [] H (AE.refl H) trivial
theorem Qn(ha:ST X CL W a fa)(hs:SAT X CL W es fs)(hst:AA (a::es) X.env=(Ac,eval a X.env)::AA es X.env):SAT X CL W (a::es) (fun ρ=>(fa ρ).bind fun x=>(fs ρ).bind fun xs=>.ok (x::xs)):=
 fun A=>PA.weak (Et (ha A) (hs A) hst) fun σ H Q ⟨hA,ρ,g,p⟩=>by
  dsimp only at p;refine⟨hA,ρ,g,?_⟩;cases e:fa ρ with
  |bad=>rw[e]at p;exact p
  |exn x=>rw[e]at p;exact p
  |ok d=>
   rw[e]at p;intro v H1 s1 r1;refine⟨hA.same s1,ρ,g.same s1,?_⟩;cases e1:fs ρ with
   |bad=>rw[R.bind_ok,e1]at p;exact p
   |exn x=>rw[R.bind_ok,e1]at p;exact fun H2 s2=>p H2 (s1.trans s2)
   |ok ds=>
    rw[R.bind_ok,e1]at p;exact fun vs H2 s2 r2=>p (v::vs) H2 (s1.trans s2) ⟨r1.same s2,r2⟩
def H9(X:Cx)(CL:ClA)(W:XW)(f:Ai)(g:Ad D->R D):Prop:=∀ A,Hd X f (fun xs H Q=>AOk H A/\∃ ds,FS X.K CL H A xs ds/\Bh (fun H=>Rep X.K CL H A) W H (g ds) Q)
theorem Kb{x:Ah}{id:Dv}{g:Ad D->R D}(hc:H9 X CL W (.builtin id) g)(hg:Gl X x)(hm:X.mg x=Ae)(hv:CY x=Aa (.builtin id))(ha:SAT X CL W (e::es) fs)(hn:x≠"__name__")(hdb:(x==("__debug__" : Ah))=Ac)(he:AA (e::es) X.env=(Ac,eval e X.env)::AA es X.env)(hpl:∀ pos,(B8 pos (AA es X.env)).any (·.1)=Ac):SE X CL W (.Call (.Name x p) (e::es) [] pos) (fun ρ=>(fs ρ).bind g):=fun A=>PE.weak (K0 (hc A) hg hm hv (ha A) hn hdb he (hpl _)) fun σ H Q ⟨hA,ρ,gd,q⟩=>⟨hA,ρ,gd,Hc.bind q fun ds vs H1 _ s1 r1 p1=>⟨hA.same s1,ds,r1,p1⟩⟩
theorem aJ{x:Ah}{g:Ad D->R D}(hc:H9 X CL W (.type T) g)(hg:Gl X x)(hm:X.mg x=Ae)(hv:CY x=Aa (.type T))(ha:SAT X CL W (e::es) fs)(hn:x≠"__name__")(hdb:(x==("__debug__" : Ah))=Ac)(he:AA (e::es) X.env=(Ac,eval e X.env)::AA es X.env)(hpl:∀ pos,(B8 pos (AA es X.env)).any (·.1)=Ac):SE X CL W (.Call (.Name x p) (e::es) [] pos) (fun ρ=>(fs ρ).bind g):=fun A=>PE.weak (Pi (hc A) hg hm hv (ha A) hn hdb he (hpl _)) fun σ H Q ⟨hA,ρ,gd,q⟩=>⟨hA,ρ,gd,Hc.bind q fun ds vs H1 _ s1 r1 p1=>⟨hA.same s1,ds,r1,p1⟩⟩
theorem fD:H9 X CL W (.builtin "len") (biD .len):=by
  intro A pI s σ H xs us Q I r ⟨hA,ds,rs,p⟩
  match ds,rs,p with
  |[.lst es],rs,p=>
    obtain⟨v,rfl,rv⟩:=rs.one;obtain⟨q,ys,rfl,sq,ry⟩:=rv.lst_of;exact OY pI s σ H _ us Q I r ⟨q,ys,rfl,.inl sq,p _ H (AE.refl H) (by rw[ry.length];rfl)⟩
  |[.tup es],rs,p=>
    obtain⟨v,rfl,rv⟩:=rs.one;obtain⟨q,ys,rfl,_,sq,ry⟩:=rv.tup_of;exact OY pI s σ H _ us Q I r ⟨q,ys,rfl,.inr sq,p _ H (AE.refl H) (by rw[ry.length];rfl)⟩
  |[.str x],rs,p=>
    obtain⟨v,rfl,rv⟩:=rs.one;have e:=rv.str_of;subst e;have p':Bh (fun H=>Rep X.K CL H A) W H (if D7 x.length=Ab then .ok (.int x.length) else .bad) Q:=p
    split at p'
    · rename_i h;exact VV pI s σ H _ us Q I r ⟨x,rfl,JV h,p' _ H (AE.refl H) rfl⟩
    · exact p'.elim
  |[],_,p=>exact p.elim
  |[.non],_,p=>exact p.elim
  |[.bl _],_,p=>exact p.elim
  |[.int _],_,p=>exact p.elim
  |[.obj _ _],_,p=>exact p.elim
  |[.exc _ _],_,p=>exact p.elim
  |[.dic _],rs,p=>first|exact p.elim|(obtain⟨v,rfl,rv⟩:=rs.one;exact rv.plain.elim)
  |x::_::_,_,p=>cases x<;>exact p.elim
theorem WF(ds:Ad D):(∃ i j,ds=[.int i,.int j])\/biD .max ds=.bad:=by
  match ds with
  |[.int i,.int j]=>exact .inl ⟨i,j,rfl⟩
  |[]=>exact .inr rfl
  |[x]=>cases x<;>exact .inr rfl
  |x::y::z::r=>cases x<;>cases y<;>exact .inr rfl
  |[x,.non]=>cases x<;>exact .inr rfl
  |[x,.bl _]=>cases x<;>exact .inr rfl
  |[x,.str _]=>cases x<;>exact .inr rfl
  |[x,.tup _]=>cases x<;>exact .inr rfl
  |[x,.lst _]=>cases x<;>exact .inr rfl
  |[x,.obj _ _]=>cases x<;>exact .inr rfl
  |[x,.exc _ _]=>cases x<;>exact .inr rfl
  |[x,.dic _]=>cases x<;>exact .inr rfl
  |[.non,.int _]=>exact .inr rfl
  |[.bl _,.int _]=>exact .inr rfl
  |[.str _,.int _]=>exact .inr rfl
  |[.tup _,.int _]=>exact .inr rfl
  |[.lst _,.int _]=>exact .inr rfl
  |[.obj _ _,.int _]=>exact .inr rfl
  |[.exc _ _,.int _]=>exact .inr rfl
  |[.dic _,.int _]=>exact .inr rfl
theorem Pk:∀(is:Ad Af)(i:Af),HB i is∈i::is/\∀ a∈i::is,HB i is<=a
 |[],i=>⟨AH,fun a h=>by rw[List.mem_singleton]at h;rw[h];exact IW _⟩
 |j::r,i=>by
  obtain⟨h1,h2⟩:=Pk r (if j<i then j else i)
  refine⟨?_,fun a h=>?_⟩
  ·show HB (if j<i then j else i) r∈_
   rcases AB.mp h1 with e|e
   ·rw[e];split
    ·exact Ax _ AH
    ·exact AH
   ·exact Ax _ (Ax _ e)
  ·show HB (if j<i then j else i) r<=a
   have h0:=h2 _ AH;rcases AB.mp h with e|e
   ·subst e;refine Io h0 ?_;split<;>omega
   ·rcases AB.mp e with e|e
    ·subst e;refine Io h0 ?_;split<;>omega
    ·exact h2 a (Ax _ e)
theorem Pq:∀{is:Ad Af}{its:Ad Ai},Bi (is.map V.int) its->∃ xs:Bl (Af×CM),its.toArray=KG xs/\xs.toList.map (·.1)=is
 |[],_,h=>by cases h;exact⟨#[],by simp[KG],rfl⟩
 |i::is,_,h=>by
  cases h with
  |cons h1 h2=>
   obtain⟨t,rfl⟩:=h1;obtain⟨xs,e1,e2⟩:=Pq h2;refine⟨((i,t)::xs.toList).toArray,?_,?_⟩
   ·apply Array.toList_inj.mp
    have e1':=congrArg Im e1;simp[KG]at e1' ⊢;exact e1'
   ·simp[e2]
theorem Wz(hc:X.calm=Ab):Hd X (.builtin "min") (fun xs H Q=>∃ a i is,xs=[.ref a]/\SqL X.K H a ((i::is).map V.int)/\Q (.int (HB i is)) H):=by
 intro pI s σ H xs us Q I r h;obtain⟨a,i,is,rfl,sq,q⟩:=h;obtain⟨u,rfl,ru⟩:=He r;cases ru;obtain⟨its,rv,pl,hz⟩:=I.list sq;obtain⟨ys,e1,e2⟩:=Pq rv;have hsz:0<ys.size:=by
  have:=congrArg Us e2;simp at this;omega
 have hl:=pl.isList;rw[e1]at hl;refine min_intList (I.ok.hd hc) hl hsz fun v h' tk hv hk=>?_
 obtain⟨t,rfl⟩:=intItems_at hv;obtain⟨h1,h2⟩:=argBest_lt (HU ys) (ys.size-1);have nm:∀ j,j<ys.size->HU ys j∈i::is:=fun j hj=>by
  rw[<-e2];unfold HU;rw[T7 hj];simp only[ET,Option.getD_some];exact Cn.mpr ⟨ys[j],by simp,rfl⟩
 have nx:∀ x∈i::is,∃ j,j<ys.size/\HU ys j=x:=fun x hx=>by
  rw[<-e2]at hx;obtain⟨y,hy,rfl⟩:=Cn.mp hx;obtain⟨j,hj,ej⟩:=Array.mem_iff_getElem.mp (Array.mem_toList_iff.mp hy);refine⟨j,hj,?_⟩;unfold HU;rw[T7 hj,ej];rfl
 obtain⟨m1,m2⟩:=Pk is i;have em:HU ys (argBest (fun i j=>decide (HU ys i<HU ys j)) (ys.size-1))=HB i is:=by
  refine Int.le_antisymm ?_ (m2 _ (nm _ (by omega)))
  obtain⟨j,hj,ej⟩:=nx _ m1;rw[<-ej];exact h2 j (by omega)
 rw[em];exact⟨.int (HB i is),H,I.kept hk,⟨_,rfl⟩,q⟩
theorem Ps{K:Fg}{CL:ClA}{H:Hp}{A:Aj->Prop}:∀{es:Ad D}{is:Ad Af}{ys:Ad V},IN es=Aa is->Reps K CL H A ys es->ys=is.map V.int
 |[],_,[],h,_=>by cases h;rfl
 |[],_,_::_,_,r=>r.elim
 |_::_,_,[],_,r=>r.elim
 |e::es,is,y::ys,h,r=>by
  cases e with
  |int i=>
   have h':(IN es).map (i :: ·)=Aa is:=h;cases e2:IN es with
   |none=>rw[e2]at h';cases h'
   |some js=>
    rw[e2]at h';cases h';have ih:=Ps e2 r.2;have e1:y=.int i:=r.1;rw[ih,e1];rfl
  |_=>cases h
theorem WE(ds:Ad D)(hl:∀ es,ds≠[.lst es]):(∃ i j,ds=[.int i,.int j])\/biD .min ds=.bad:=by
  match ds with
  |[.int i,.int j]=>exact .inl ⟨i,j,rfl⟩
  |[]=>exact .inr rfl
  |[x]=>cases x<;>first|exact .inr rfl|exact absurd rfl (hl _)
  |x::y::z::r=>cases x<;>cases y<;>exact .inr rfl
  |[x,.non]=>cases x<;>exact .inr rfl
  |[x,.bl _]=>cases x<;>exact .inr rfl
  |[x,.str _]=>cases x<;>exact .inr rfl
  |[x,.tup _]=>cases x<;>exact .inr rfl
  |[x,.lst _]=>cases x<;>exact .inr rfl
  |[x,.obj _ _]=>cases x<;>exact .inr rfl
  |[x,.exc _ _]=>cases x<;>exact .inr rfl
  |[x,.dic _]=>cases x<;>exact .inr rfl
  |[.non,.int _]=>exact .inr rfl
  |[.bl _,.int _]=>exact .inr rfl
  |[.str _,.int _]=>exact .inr rfl
  |[.tup _,.int _]=>exact .inr rfl
  |[.lst _,.int _]=>exact .inr rfl
  |[.obj _ _,.int _]=>exact .inr rfl
  |[.exc _ _,.int _]=>exact .inr rfl
  |[.dic _,.int _]=>exact .inr rfl
theorem fC(hc:X.calm=Ab):H9 X CL W (.builtin "max") (biD .max):=by
 intro A pI s σ H xs us Q I r ⟨hA,ds,rs,p⟩;rcases WF ds with ⟨i,j,rfl⟩|e
 ·obtain⟨v,w',rfl,rv,rw'⟩:=rs.two;have e1:=rv.int_of;have e2:=rw'.int_of
  subst e1 e2;exact WB hc pI s σ H _ us Q I r ⟨i,j,rfl,p _ H (AE.refl H) rfl⟩
 ·rw[e]at p;exact p.elim
theorem fB(hc:X.calm=Ab):H9 X CL W (.builtin "min") (biD .min):=by
  intro A pI s σ H xs us Q I r ⟨hA,ds,rs,p⟩;by_cases hls:∃ es,ds=[.lst es]
  · obtain⟨es,rfl⟩:=hls;obtain⟨v,rfl,rv⟩:=rs.one;obtain⟨a,ys,rfl,sq,ry⟩:=rv.lst_of;have p':Bh (Rep X.K CL · A) W H (match IN es with
      |some (i::is)=>R.ok (.int (HB i is))
      | _=>.bad) Q:=p
    cases e1:IN es with
    |none=>rw[e1]at p';exact p'.elim
    |some is=>
      cases is with
      |nil=>rw[e1]at p';exact p'.elim
      |cons i is=>
        rw[e1]at p';have ey:=Ps e1 ry;subst ey;exact Wz hc pI s σ H _ us Q I r ⟨a,i,is,rfl,sq,p' _ H (AE.refl H) rfl⟩
  rcases WE ds (fun es z=>hls ⟨es,z⟩) with ⟨i,j,rfl⟩|e
  · obtain⟨v,w',rfl,rv,rw'⟩:=rs.two;have e1:=rv.int_of;have e2:=rw'.int_of
    subst e1 e2;exact WA hc pI s σ H _ us Q I r ⟨i,j,rfl,p _ H (AE.refl H) rfl⟩
  · rw[e]at p;exact p.elim
theorem XM:H9 X CL W (.type "tuple") (biD .tuple):=by
  intro A pI s σ H xs us Q I r ⟨hA,ds,rs,p⟩
  match ds,rs,p with
  |[.lst es],rs,p=>
    obtain⟨v,rfl,rv⟩:=rs.one;obtain⟨q,ys,rfl,sq,ry⟩:=rv.lst_of;exact O0 pI s σ H _ us Q I r ⟨q,ys,rfl,.inl ⟨sq,fun l hl=>p _ _ (FM hl _) (JZ hA hl ry)⟩⟩
  |[.tup es],rs,p=>
    obtain⟨v,rfl,rv⟩:=rs.one;obtain⟨q,ys,rfl,na,sq,ry⟩:=rv.tup_of;exact O0 pI s σ H _ us Q I r ⟨q,ys,rfl,.inr ⟨sq,p _ H (AE.refl H) ⟨q,ys,rfl,na,sq,ry⟩⟩⟩
  |[],_,p=>exact p.elim
  |[.non],_,p=>exact p.elim
  |[.bl _],_,p=>exact p.elim
  |[.int _],_,p=>exact p.elim
  |[.str _],_,p=>exact p.elim
  |[.obj _ _],_,p=>exact p.elim
  |[.exc _ _],_,p=>exact p.elim
  |[.dic _],rs,p=>first|exact p.elim|(obtain⟨v,rfl,rv⟩:=rs.one;exact rv.plain.elim)
  |x::_::_,_,p=>cases x<;>exact p.elim
end
section
variable{X:Cx}{CL:ClA}{W:XW}{a b c:Ap}{fa fb fc:Rho->R D}{pos:AM}
theorem SB.congr{g:Rho->R Ao}(h:SB X CL W a f)(e:∀ ρ,g ρ=f ρ):SB X CL W a g:=fun A=>PT.weak (h A) fun σ H Q ⟨hA,ρ,q,p⟩=>⟨hA,ρ,q,by rw[<-e];exact p⟩
theorem RE(ha:SB X CL W a f):SB X CL W (.UnaryOp .Not a pos) (fun ρ=>(f ρ).bind fun b=>.ok (!b)):=fun A=>PT.weak (dW (ha A)) fun σ H Q ⟨hA,ρ,g,p⟩=>⟨hA,ρ,g,C5.bindB p fun b H1 _ s1 p1=>p1 H1 (AE.refl H1)⟩
def SW(X:Cx)(CL:ClA)(W:XW)(e:Ap)(f:Rho->R Ao):Prop:=∀ A,PW X e (fun σ H Q=>AOk H A/\∃ ρ,Good X.K CL A ρ σ H/\C5 W H (f ρ) Q)
theorem PW.weak{t t':TT}(h:PW X e t)(k:∀ σ H Q,t' σ H Q->t σ H Q):PW X e t':=fun wh pI s σ H Q I q=>h wh pI s σ H Q I (k _ _ _ q)
theorem SW.sb(h:SW X CL W a f):SB X CL W a f:=fun A=>PW.pt (h A)
theorem SW.congr{g:Rho->R Ao}(h:SW X CL W a f)(e:∀ ρ,g ρ=f ρ):SW X CL W a g:=fun A=>PW.weak (h A) fun σ H Q ⟨hA,ρ,q,p⟩=>⟨hA,ρ,q,by rw[<-e];exact p⟩
theorem Q2(ha:SB X CL W a f):SW X CL W (.BoolOp .And [a] pos) f:=fun A=>Zd (ha A)
theorem R6(ha:SB X CL W a f):SW X CL W (.BoolOp .Or [a] pos) f:=fun A=>dS (ha A)
theorem R7{g:Rho->R Ao}{rest:Ad Ap}(ha:SB X CL W a f)(hb:SW X CL W (.BoolOp .And (b::rest) pos) g):SW X CL W (.BoolOp .And (a::b::rest) pos) (fun ρ=>(f ρ).bind fun c=>if c=Ab then g ρ else .ok Ac):=
 fun A=>PW.weak (dU (ha A) (hb A)) fun σ H Q ⟨hA,ρ,gd,p⟩=>⟨hA,ρ,gd,C5.bindB p fun c H1 _ s1 p1=>by
  cases c with
  |true=>exact⟨hA.same s1,ρ,gd.same s1,p1⟩
  | false=>exact p1 H1 (AE.refl H1)⟩
theorem So{g:Rho->R Ao}{rest:Ad Ap}(ha:SB X CL W a f)(hb:SW X CL W (.BoolOp .Or (b::rest) pos) g):SW X CL W (.BoolOp .Or (a::b::rest) pos) (fun ρ=>(f ρ).bind fun c=>if c=Ab then .ok Ab else g ρ):=
 fun A=>PW.weak (kG (ha A) (hb A)) fun σ H Q ⟨hA,ρ,gd,p⟩=>⟨hA,ρ,gd,C5.bindB p fun c H1 _ s1 p1=>by
  cases c with
  |false=>exact⟨hA.same s1,ρ,gd.same s1,p1⟩
  | true=>exact p1 H1 (AE.refl H1)⟩
theorem aK(ho:OpD X CL W (Ct op) g)(ha:ST X CL W a fa)(hb:ST X CL W b fb)(hm:GA op b=Ac):SB X CL W (.Compare a [op] [b] pos) (fun ρ=>(fa ρ).bind fun x=>(fb ρ).bind fun y=>(g x y).bind Dl):=
 fun A=>PT.weak (Zg (ho A) (ha A) (hb A) hm) fun σ H Q ⟨hA,ρ,gd,p⟩=>⟨hA,ρ,gd,C5.bind p fun dx x H1 _ s1 r1 p1=>⟨hA.same s1,ρ,gd.same s1,C5.bind p1 fun dy y H2 _ s2 r2 p2=>
  ⟨(hA.same s1).same s2,dx,dy,r1.same s2,r2,C5.bind p2 fun dz z H3 _ s3 r3 p3=>by
   cases dz with
   |bl k=>exact⟨k,r3,p3 H3 (AE.refl H3)⟩
   | _=>exact p3.elim⟩⟩⟩
theorem WZ{op':D0}(hu:X.A.units+64<BY)(ha:ST X CL W a fa)(hb:ST X CL W b fb)(hc:ST X CL W c fc)(hm:IC [op,op'] [b,c]=Ac):SB X CL W (.Compare a [op,op'] [b,c] pos) (fun ρ=>(fa ρ).bind fun x=>(fb ρ).bind fun y=>(BR op x y).bind fun z=>(Dl z).bind fun k=>if k=Ab then (fc ρ).bind fun u=>(BR op' y u).bind Dl else .ok Ac):=
  fun A=>PT.weak (W5 (JY hu op A) (JY hu op' A) (ha A) (hb A) (hc A) hm) fun σ H Q ⟨hA,ρ,g,p⟩=>⟨hA,ρ,g,C5.bind p fun dx x H1 _ s1 r1 p1=>⟨hA.same s1,ρ,g.same s1,C5.bind p1 fun dy y H2 _ s2 r2 p2=>
    ⟨(hA.same s1).same s2,dx,dy,r1.same s2,r2,C5.bind p2 fun dz z H3 _ s3 r3 p3=>by
      cases dz with
      |bl k=>
        refine⟨k,r3,?_⟩;cases k with
        |false=>exact⟨Ac,rfl,p3 H3 (AE.refl H3)⟩
        | true=>exact⟨((hA.same s1).same s2).same s3,ρ,((g.same s1).same s2).same s3,C5.bind p3 fun du u H4 _ s4 r4 p5=>⟨(((hA.same s1).same s2).same s3).same s4,dy,du,(r2.same s3).same s4,r4,C5.bind p5 fun dv v H5 _ s5 r5 p6=>by
            cases dv with
            |bl k'=>exact⟨k',r5,p6 H5 (AE.refl H5)⟩
            | _=>exact p6.elim⟩⟩
      | _=>exact p3.elim⟩⟩⟩
theorem RD(ha:ST X CL W a fa)(he:∀ whole,HK a X.env whole=(do let v <-whole;IV a.pos;holding [v] (truthy v))):SB X CL W a (fun ρ=>(fa ρ).bind BJ):=
 fun A=>PT.weak (W4 (ha A) he) fun σ H Q ⟨hA,ρ,g,p⟩=>⟨hA,ρ,g,C5.bind p fun d v H1 _ s1 r1 p1=>by
  cases d with
  |non=>
   have e:=r1.non_of;subst e;exact⟨Ac,rfl,p1 H1 (AE.refl H1)⟩
  |bl b=>
   have e:=r1.bl_of;subst e;exact⟨b,rfl,p1 H1 (AE.refl H1)⟩
  |int i=>
   have e:=r1.int_of;subst e;exact⟨_,rfl,p1 H1 (AE.refl H1)⟩
  |str x=>
   have e:=r1.str_of;subst e;have p2:C5 W H1 (if D7 x.length=Ab then .ok (x.length != 0) else .bad) Q:=p1
   split at p2
   ·rename_i h;refine⟨_,⟨JV h,rfl⟩,?_⟩;have e:((x.length:Af) != 0)=(x.length != 0):=by
     rw[CQ];simp
    rw[e];exact p2 H1 (AE.refl H1)
   ·exact p2.elim
  |tup ds=>
   obtain⟨q,xs,rfl,_,sq,r⟩:=r1.tup_of;refine⟨_,.inr (.inl ⟨xs,sq,rfl⟩),?_⟩;have e:xs.isEmpty=ds.isEmpty:=by
    have:=r.length;cases xs<;>cases ds<;>first|rfl|cases this
   rw[e];exact p1 H1 (AE.refl H1)
  |lst ds=>
   obtain⟨q,xs,rfl,sq,r⟩:=r1.lst_of;refine⟨_,.inl ⟨xs,sq,rfl⟩,?_⟩;have e:xs.isEmpty=ds.isEmpty:=by
    have:=r.length;cases xs<;>cases ds<;>first|rfl|cases this
   rw[e];exact p1 H1 (AE.refl H1)
  | _=>exact p1.elim⟩
noncomputable def nJ(K:Fg)(CL:ClA)(H:Hp)(A:Aj->Prop)(cls:Ai)(dx:An Aj)(x:Ex):Prop:=
 ∃ C,CL x.c=Aa C/\cls=.ref C/\(x.fs=[]\/∃ d vs,dx=Aa d/\¬ A d/\H d=Aa (.xd vs)/\Repf K CL H A vs x.fs)
def FR(K:Fg)(CL:ClA)(H:Hp)(cls:Ai)(dx:An Aj)(x:Ex):Prop:=∀ A,AOk H A->nJ K CL H A cls dx x
end
def BN(B:Aj->Prop)(ρ:Rho)(σ:L2.St):Aj->Prop:=fun a=>B a\/∃(j:Ag)(d:D),ρ[j]?=Aa (Aa (d,Ab))/\σ[j]?=Aa (Aa (.ref a))
structure Sx (K:Fg) (CL:ClA) (Fz:Aj->HO->Prop) (B:Aj->Prop) (ρ:Rho) (σ:L2.St) (H:Hp):Prop where
 good:Good K CL (BN B ρ σ) ρ σ H
 aok:AOk H (BN B ρ σ)
 new:∀(j:Ag)(d:D)(a:Aj),ρ[j]?=Aa (Aa (d,Ab))->σ[j]?=Aa (Aa (.ref a))->(∀ o,¬ Fz a o)/\¬ B a
 dis:∀(i j:Ag)(d e:D)(a:Aj),ρ[i]?=Aa (Aa (d,Ab))->ρ[j]?=Aa (Aa (e,Ab))->σ[i]?=Aa (Aa (.ref a))->σ[j]?=Aa (Aa (.ref a))->i=j
 same:∀ b o,Fz b o->H b=Aa o
 len:ρ.length=σ.length
def BS(K:Fg)(CL:ClA)(Fz:Aj->HO->Prop)(B:Aj->Prop)(W:XW)(o:O)(D:Ends):Prop:=match o with
  |.next ρ=>∀ σ H,Sx K CL Fz B ρ σ H->D.nx σ H
  |.brk ρ=>∀ σ H,Sx K CL Fz B ρ σ H->D.bk σ H
  |.cont ρ=>∀ σ H,Sx K CL Fz B ρ σ H->D.ct σ H
  |.ret d fr=>∀ v H,(∀ b o,Fz b o->H b=Aa o)->Rep K CL H B v d->(fr=Ab->∀ ds,d=.lst ds->∃ a xs,v=.ref a/\(∀ o,¬ Fz a o)/\H a=Aa (.lst xs)/\Reps K CL H (fun b=>B b\/b=a) xs ds)->D.rt v H
  |.exn x _=>∀ H,(∀ b o,Fz b o->H b=Aa o)->W x H
  |.bad=>AS
section
variable{K:Fg}{CL:ClA}{Fz Fy:Aj->HO->Prop}{B:Aj->Prop}{ρ:Rho}{σ:L2.St}{H H':Hp}
theorem Sx.mono(k:∀ b o,Fz b o->Fy b o)(x:Sx K CL Fy B ρ σ H):Sx K CL Fz B ρ σ H:=⟨x.good,x.aok,fun j d a h1 h2=>⟨fun o z=>(x.new j d a h1 h2).1 o (k _ _ z),(x.new j d a h1 h2).2⟩,x.dis,fun b o z=>x.same b o (k _ _ z),x.len⟩
theorem Sx.grow(x:Sx K CL Fz B ρ σ H)(s:AE H H'):Sx K CL Fz B ρ σ H':=⟨x.good.same s,x.aok.same s,x.new,x.dis,fun b o z=>s _ _ (x.same b o z),x.len⟩
theorem B7{l:Ad α}{v:α}(h:i≠j):(l.set i v)[j]?=l[j]?:=by rw[FX h]
theorem Gj{l:Ad α}{v w':α}(h:(l.set i v)[i]?=Aa w'):w'=v:=by
 rw[Fk]at h;cases e:l[i]? with
 |none=>rw[e]at h;cases h
 |some x=>rw[e]at h;cases h;rfl
theorem Sx.set(x:Sx K CL Fz B ρ σ H){v:V}{d:D}(i:Ag)(r:Rep K CL H (BN B ρ σ) v d):Sx K CL Fz B (ρ.set i (Aa (d,Ac))) (σ.set i (Aa v)) H:=by
 have own:∀(j:Ag)(e:D),(ρ.set i (Aa (d,Ac)))[j]?=Aa (Aa (e,Ab))->i≠j/\ρ[j]?=Aa (Aa (e,Ab)):=fun j e h=>by
  by_cases hj:i=j
  ·subst hj;have:=Gj h;cases this
  ·exact⟨hj,by rw[B7 hj]at h;exact h⟩
 have sub:∀ a,BN B (ρ.set i (Aa (d,Ac))) (σ.set i (Aa v)) a->BN B ρ σ a:=fun a h=>by
  rcases h with h|⟨j,e,h1,h2⟩
  ·exact .inl h
  ·obtain⟨hj,h1⟩:=own j e h1;rw[B7 hj]at h2;exact .inr ⟨j,e,h1,h2⟩
 refine⟨⟨fun j e h=>?_,fun j e h=>?_,by rw[A2,A2];exact x.len⟩,fun a h=>x.aok a (sub a h),fun j e a h1 h2=>?_,fun j k e f a h1 h2 h3 h4=>?_,x.same,by rw[A2,A2];exact x.len⟩
 ·by_cases hj:i=j
  ·subst hj;have e1:=Gj h;cases e1;refine⟨v,?_,Rep.sub sub _ r⟩;have hl:i<σ.length:=by
    rw[<-x.len];have:=(A7.mp h).1;simpa using this
   rw[CV hl]
  ·rw[B7 hj]at h;obtain⟨w',q,rw'⟩:=x.good.sh j e h;exact⟨w',by rw[B7 hj];exact q,Rep.sub sub _ rw'⟩
 ·obtain⟨hj,h1⟩:=own j e h;obtain⟨a,xs,ds,q,z,ha,hh,rr⟩:=x.good.ow j e h1;exact⟨a,xs,ds,by rw[B7 hj];exact q,z,.inr ⟨j,e,h,by rw[B7 hj];exact q⟩,hh,Reps.sub sub _ rr⟩
 ·obtain⟨hj,h1⟩:=own j e h1;rw[B7 hj]at h2;exact x.new j e a h1 h2
 ·obtain⟨hj,h1⟩:=own j e h1;obtain⟨hk,h2⟩:=own k f h2;rw[B7 hj]at h3;rw[B7 hk]at h4;exact x.dis j k e f a h1 h2 h3 h4
end
section
variable{X:Cx}{CL:ClA}{W:XW}{pos:AM}{e:Ap}{fe:Rho->R D}
def SS(X:Cx)(CL:ClA)(W:XW)(st:A9)(f:Rho->O):Prop:=∀ Fz B,PS X st (fun D σ H=>∃ ρ,Sx X.K CL Fz B ρ σ H/\BS X.K CL Fz B W (f ρ) D)
def SSs(X:Cx)(CL:ClA)(W:XW)(st:Ad A9)(f:Rho->O):Prop:=∀ Fz B,PSs X st (fun D σ H=>∃ ρ,Sx X.K CL Fz B ρ σ H/\BS X.K CL Fz B W (f ρ) D)
theorem PS.weak{e:A9}{t t':TS}(h:PS X e t)(k:∀ D σ H,t' D σ H->t D σ H):PS X e t':=fun pI s σ H D I q=>h pI s σ H D I (k _ _ _ q)
theorem PSs.weak{e:Ad A9}{t t':TS}(h:PSs X e t)(k:∀ D σ H,t' D σ H->t D σ H):PSs X e t':=fun pI s σ H D I q=>h pI s σ H D I (k _ _ _ q)
theorem BS.ex{f:D->O}(x:Sx X.K CL Fz B ρ σ H)(h:BS X.K CL Fz B W (O.of ρ r f) D')(k:∀ d v H',r=.ok d->AE H H'->Rp H' v d->Sx X.K CL Fz B ρ σ H'->BS X.K CL Fz B W (f d) D'->Q v H'):Bh Rp W H r Q:=by
 cases r with
 |ok d=>exact fun v H' s r=>k d v H' rfl s r (x.grow s) h
 |exn y=>exact fun H' s=>h H' fun b o z=>s _ _ (x.same b o z)
 |bad=>exact h
theorem BS.exB{r:R Ao}{f:Ao->O}{Q:Ao->Hp->Prop}(x:Sx X.K CL Fz B ρ σ H)(h:BS X.K CL Fz B W (O.of ρ r f) D')(k:∀ b H',r=.ok b->AE H H'->Sx X.K CL Fz B ρ σ H'->BS X.K CL Fz B W (f b) D'->Q b H'):C5 W H r Q:=by
 cases r with
 |ok d=>exact fun H' s=>k d H' rfl s (x.grow s) h
 |exn y=>exact fun H' s=>h H' fun b o z=>s _ _ (x.same b o z)
 |bad=>exact h
theorem X9(he:SE X CL W e fe)(hs:Di e Ae pos.line X.env=pure Ac):SS X CL W (.Expr e pos) (fun ρ=>O.of ρ (fe ρ) fun _=>.next ρ):=fun Fz B pI s σ H D I ⟨ρ,x,p⟩=>
 LV (he (BN B ρ σ)) hs pI s σ H D I ⟨x.aok,ρ,x.good,BS.ex x p fun d v H' _ s r x' q=>q σ H' x'⟩
theorem aS{n:Ah}(hN:X.N.Nodup)(hi:X.N[i]?=Aa n)(hx:Loc X.env.scope n)(he:SE X CL W e fe)(hs:Di e (Aa (.Name n pos')) pos.line X.env=pure Ac)(hf:X.fn n=Ab\/X.env.scope.names.lookup n=Aa .local):SS X CL W (.Assign [.Name n pos'] e pos) (fun ρ=>O.of ρ (fe ρ) fun d=>.next (ρ.set i (Aa (d,Ac)))):=fun Fz B pI s σ H D I ⟨ρ,x,p⟩=>
 Mi hN hi hx (he (BN B ρ σ)) hs hf pI s σ H D I ⟨x.aok,ρ,x.good,BS.ex x p fun d v H' _ s r x' q=>q _ H' (x'.set i r)⟩
theorem Q4(he:SE X CL W e fe):SS X CL W (.Return (Aa e) pos) (fun ρ=>O.of ρ (fe ρ) fun d=>.ret d Ac):=fun Fz B pI s σ H D I ⟨ρ,x,p⟩=>
 NS (he (BN B ρ σ)) pI s σ H D I ⟨x.aok,ρ,x.good,BS.ex x p fun d v H' _ s r x' q=>q v H' x'.same (Rep.sub (fun a h=>.inl h) _ r) fun z=>nomatch z⟩
theorem Sq{a b:Ad A9}{fa fb:Rho->O}(hc:SB X CL W c fc)(ha:SSs X CL W a fa)(hb:SSs X CL W b fb):SS X CL W (.If c a b pos) (fun ρ=>O.of ρ (fc ρ) fun k=>if k=Ab then fa ρ else fb ρ):=fun Fz B pI s σ H D I ⟨ρ,x,p⟩=>
 kH (hc (BN B ρ σ)) (ha Fz B) (hb Fz B) pI s σ H D I ⟨x.aok,ρ,x.good,BS.exB x p fun k H' _ s x' q=>by
  cases k with
  |true=>exact⟨ρ,x',q⟩
  | false=>exact⟨ρ,x',q⟩⟩
theorem Nz:SSs X CL W [] (fun ρ=>.next ρ):=fun Fz B=>PSs.weak Zh fun D σ H ⟨ρ,x,p⟩=>p σ H x
theorem LP{st:A9}{rest:Ad A9}{f g:Rho->O}(h1:SS X CL W st f)(h2:SSs X CL W rest g):SSs X CL W (st::rest) (fun ρ=>(f ρ).seq g):=fun Fz B=>PSs.weak (Qs (h1 Fz B) (h2 Fz B)) fun D σ H ⟨ρ,x,p⟩=>⟨ρ,x,by
 dsimp only at p;cases e:f ρ with
 |next ρ'=>rw[e]at p;exact fun σ' H' x'=>⟨ρ',x',p⟩
 |ret d b=>rw[e]at p;exact p
 |brk ρ'=>rw[e]at p;exact p
 |cont ρ'=>rw[e]at p;exact p
 |exn y ρ'=>rw[e]at p;exact p
 | bad=>rw[e]at p;exact p⟩
end
def Ih(K:Fg)(CL:ClA)(A:Aj->Prop)(ds:Ad D)(J:It)(H1:Hp):Prop:=∀ H,Kp A H1 H->∀ i:Ag,(ds.length<=i->J.stop i H)/\∀ d,ds[i]?=Aa d->J.go i H/\∀ x H',J.yld i H x H'->AE H H'/\∀ B,(∀ a,B a->A a\/H1 a=Ae)->AOk H B->Rep K CL H' B x d
def EA(K:Fg)(CL:ClA)(A:Aj->Prop)(W:XW)(H:Hp)(r:R (Ad D))(Q:It->Hp->Prop):Prop:=match r with
  |.ok ds=>∀ J H',AE H H'->Ih K CL A ds J H'->ds.length<=sizeLine->Q J H'
  |.exn x=>∀ H',AE H H'->W x H'
  |.bad=>AS
def SI(X:Cx)(CL:ClA)(W:XW)(tg iter:Ap)(f:Rho->R (Ad D)):Prop:=∀ A,PI X tg iter (fun σ H R=>AOk H A/\∃ ρ,Good X.K CL A ρ σ H/\EA X.K CL A W H (f ρ) R)
theorem PI.weak{t t':TI}(h:PI X tg e t)(k:∀ σ H Q,t' σ H Q->t σ H Q):PI X tg e t':=fun pI s σ H Q I q=>h pI s σ H Q I (k _ _ _ q)
section
variable{X:Cx}{CL:ClA}{W:XW}{pos p:AM}{tg e a b:Ap}{fe fa fb:Rho->R D}
theorem EA.ex{f:D->R (Ad D)}{Q:It->Hp->Prop}{Q':VK}(h:EA X.K CL A W H (r.bind f) Q)(k:∀ d v H',r=.ok d->AE H H'->Rp H' v d->EA X.K CL A W H' (f d) Q->Q' v H'):Bh Rp W H r Q':=by
  cases r with
  | ok d=>exact fun v H' s q=>k d v H' rfl s q (by
      have h':EA X.K CL A W H (f d) Q:=h;cases e:f d with
      |ok ds=>rw[e]at h';exact fun J H2 s2 y z=>h' J H2 (s.trans s2) y z
      |exn y=>rw[e]at h';exact fun H2 s2=>h' H2 (s.trans s2)
      | bad=>rw[e]at h';exact h')
  |exn y=>exact h
  |bad=>exact h
theorem KO{x:V}(r:Rep K CL H1 A x d)(k:Kp A H1 H)(hB:∀ a,B a->A a\/H1 a=Ae):Rep K CL H B x d:=by
 have r1:Rep K CL H1 (fun a=>A a\/B a) x d:=Rep.wide (fun a ha=>ha.elim .inl (hB a)) _ r
 have r2:Rep K CL H (fun a=>A a\/B a) x d:=Rep.kp (fun b o e na=>k b o e fun z=>na (.inl z)) _ r1
 exact Rep.sub (fun a ha=>.inr ha) _ r2
theorem V3{ds:Ad D}(na:¬ A q\/KL K q xs)(s:SqL K H q xs)(r:Reps K CL H A xs ds):Ih K CL A ds (Itl K q) H:=fun H' k i=>by
 have s':=Me k na s;refine⟨fun h=>⟨xs,s',by rw[r.length];exact h⟩,fun d hd=>?_⟩
 obtain⟨v,hv,rv⟩:=r.get hd;exact⟨⟨xs,v,s',hv⟩,fun x H2 ⟨e,y⟩=>by
  subst e;have:=y xs s';rw[hv]at this;cases this;exact⟨AE.refl _,fun B hB _=>KO rv k hB⟩⟩
theorem Xo{ds:Ad D}(na:¬ A q\/KT K q xs)(s:SqT K H q xs)(r:Reps K CL H A xs ds):Ih K CL A ds (Itt K q) H:=fun H' k i=>by
 have s':=Md k na s;refine⟨fun h=>⟨xs,s',by rw[r.length];exact h⟩,fun d hd=>?_⟩
 obtain⟨v,hv,rv⟩:=r.get hd;exact⟨⟨xs,v,s',hv⟩,fun x H2 ⟨e,y⟩=>by
  subst e;have:=y xs s';rw[hv]at this;cases this;exact⟨AE.refl _,fun B hB _=>KO rv k hB⟩⟩
theorem PF(lo:Af)(n:Ag):Ih K CL A (DK lo n) (Itr lo n) H:=fun H' k i=>by
 refine⟨fun h=>by rw[MY]at h;exact h,fun d hd=>?_⟩
 obtain⟨h1,rfl⟩:=Xj hd;exact⟨h1,fun x H2 ⟨e,y⟩=>by
  subst e y;exact⟨AE.refl _,fun _ _ _=>rfl⟩⟩
theorem eC{l:Ap}{tl:TE}(hl:PE X l tl):PI X tg l (fun σ H R=>tl σ H fun x H1=>(∃ a,x=.ref a/\(∃ xs,SqL X.K H1 a xs/\(xs.length<=sizeLine->R (Itl X.K a) H1)))\/∃ a,x=.ref a/\(∃ xs,SqT X.K H1 a xs/\(xs.length<=sizeLine->R (Itt X.K a) H1))):=by
 intro pI s σ H R I h;refine thn (hl pI s σ H _ I h) fun v s1 ⟨x,H1,I1,r1,q1⟩=>?_
 rcases q1 with ⟨a,e,xs,hq,q⟩|⟨a,e,xs,hq,q⟩
 ·subst e;cases r1;obtain⟨its,rv,p,hz⟩:=I1.list hq;refine DF p.isList ?_;refine⟨s1.heap.objs.size,[s1.heap.objs.size],_,_,H1,rfl,I1.kept (t':=s1.toks) fun b o e=>Au _ e,Wo a _,⟨_,AN _ rfl,rfl,rfl⟩,fun b hb=>?_,q hz⟩
  have e:b=s1.heap.objs.size:=by simpa using hb
  subst e;exact I1.fpOk (AY _) (I1.hok.fresh (AY _))
 ·subst e;cases r1;obtain⟨its,rv,p,hz⟩:=I1.tuple hq;refine E6 (show s1.heap.IsTuple a its.toArray from p) ?_
  refine⟨s1.heap.objs.size,[s1.heap.objs.size],_,_,H1,rfl,I1.kept (t':=s1.toks) fun b o e=>Au _ e,V5 a _,⟨_,AN _ rfl,rfl,rfl⟩,fun b hb=>?_,q hz⟩
  have e:b=s1.heap.objs.size:=by simpa using hb
  subst e;exact I1.fpOk (AY _) (I1.hok.fresh (AY _))
theorem lP(he:SE X CL W e fe):SI X CL W tg e (fun ρ=>(fe ρ).bind Ck):=fun A=>PI.weak (eC (he A)) fun σ H R ⟨hA,ρ,g,p⟩=>⟨hA,ρ,g,EA.ex p fun d v H1 _ s1 r1 p1=>by
 cases d with
 |lst ds=>
  obtain⟨q,xs,rfl,na,sq,r⟩:=r1;exact .inl ⟨q,rfl,xs,sq,fun hz=>p1 _ H1 (AE.refl H1) (V3 na sq r) (by rw[<-r.length];exact hz)⟩
 |tup ds=>
  obtain⟨q,xs,rfl,na,sq,r⟩:=r1;exact .inr ⟨q,rfl,xs,sq,fun hz=>p1 _ H1 (AE.refl H1) (Xo na sq r) (by rw[<-r.length];exact hz)⟩
 | _=>exact p1.elim⟩
theorem Pf{lo hi:Af}{ds:Ad D}(h:Da lo hi=.ok ds):(-(2 ^ 62)<=lo/\lo<2 ^ 62)/\(-(2 ^ 62)<=hi/\hi<2 ^ 62)/\ds=DK lo (hi-lo).toNat/\(DK lo (hi-lo).toNat).length<=sizeLine:=by
 unfold Da at h;split at h
 ·rename_i q;cases h;exact⟨by omega,by omega,rfl,by rw[MY,Ds];omega⟩
 ·cases h
theorem Po{lo hi:Af}(h:Da lo hi=.exn x):AS:=by
 unfold Da at h;split at h<;>cases h
theorem bA(ha:ST X CL W a fa)(hg:Gl X "range")(hm:X.mg "range" = Ae)(hs:AA [a] X.env=[(Ac,eval a X.env)]):SI X CL W tg (.Call (.Name "range" p) [a] [] pos) (fun ρ=>(fa ρ).bind fun x=>(Ez x).bind fun j=>Da 0 j):=
 fun A=>PI.weak (Wk hg hm (Et (ha A) GC hs) hs) fun σ H R ⟨hA,ρ,g,q⟩=>⟨hA,ρ,g,EA.ex q fun d v H1 _ s1 r1 p1=>by
  cases d with
  |int j=>
   have e:=r1.int_of;subst e;have p2:EA X.K CL A W H1 (Da 0 j) R:=p1;cases e2:Da 0 j with
   |ok ds=>
    rw[e2]at p2;obtain⟨_,h2,rfl,hz⟩:=Pf e2;exact⟨j,rfl,h2.1,h2.2,p2 _ H1 (AE.refl H1) (by rw[GX];exact PF 0 j.toNat) hz⟩
   |exn y=>exact(Po e2).elim
   |bad=>rw[e2]at p2;exact p2.elim
  | _=>exact p1.elim⟩
theorem Yh(ha:ST X CL W a fa)(hb:ST X CL W b fb)(hg:Gl X "range")(hm:X.mg "range" = Ae)(hs:AA [a,b] X.env=[(Ac,eval a X.env),(Ac,eval b X.env)])(hs2:AA [b] X.env=[(Ac,eval b X.env)]):
  SI X CL W tg (.Call (.Name "range" p) [a,b] [] pos) (fun ρ=>(fa ρ).bind fun x=>(fb ρ).bind fun y=>(Ez x).bind fun i=>(Ez y).bind fun j=>Da i j):=
 fun A=>PI.weak (Wj hg hm (Et (ha A) (Et (hb A) GC hs2) (by rw[hs,hs2])) hs hs2) fun σ H R ⟨hA,ρ,g,q⟩=>⟨hA,ρ,g,EA.ex q fun d v H1 _ s1 r1 p1=>⟨hA.same s1,ρ,g.same s1,EA.ex p1 fun d2 v2 H2 _ s2 r2 p2=>by
  cases d with
  |int i=>
   cases d2 with
   |int j=>
    have e:=r1.int_of;have e':=r2.int_of
    subst e e';have p3:EA X.K CL A W H2 (Da i j) R:=p2;cases e2:Da i j with
    |ok ds=>
     rw[e2]at p3;obtain⟨h1,h2,rfl,hz⟩:=Pf e2;exact⟨i,j,rfl,⟨h1.1,h1.2,h2.1,h2.2⟩,p3 _ H2 (AE.refl H2) (PF _ _) hz⟩
    |exn y=>exact(Po e2).elim
    |bad=>rw[e2]at p3;exact p3.elim
   |_=>exact p2.elim
  | _=>exact p2.elim⟩⟩
theorem BS.exI{r:R (Ad D)}{f:Ad D->O}{Q:It->Hp->Prop}(x:Sx X.K CL Fz B ρ σ H)(h:BS X.K CL Fz B W (O.of ρ r f) D')(k:∀ ds J H',r=.ok ds->AE H H'->Ih X.K CL A ds J H'->ds.length<=sizeLine->Sx X.K CL Fz B ρ σ H'->BS X.K CL Fz B W (f ds) D'->Q J H'):EA X.K CL A W H r Q:=by
 cases r with
 |ok d=>exact fun J H' s y z=>k d J H' rfl s y z (x.grow s) h
 |exn y=>exact fun H' s=>h H' fun b o z=>s _ _ (x.same b o z)
 |bad=>exact h
theorem BS.turn{Fy:Aj->HO->Prop}{o:O}{g:Rho->O}{N:L2.St->Hp->Prop}(hf:∀ b q,Fz b q->Fy b q)(h:BS K CL Fz B W (o.turn g) D')(k:∀ ρ' σ' H',Sx K CL Fy B ρ' σ' H'->BS K CL Fz B W (g ρ') D'->N σ' H'):BS K CL Fy B W o {D' with nx:=N,ct:=N,bk:=D'.nx}:=by
 cases o with
 |next ρ'=>exact fun σ' H' x=>k ρ' σ' H' x h
 |cont ρ'=>exact fun σ' H' x=>k ρ' σ' H' x h
 |brk ρ'=>exact fun σ' H' x=>h σ' H' (x.mono hf)
 |ret d b=>exact fun v H' s r n=>h v H' (fun b o z=>s b o (hf b o z)) r fun z ds e=>let ⟨a,xs,h1,h2,h3⟩:=n z ds e;⟨a,xs,h1,fun o q=>h2 o (hf a o q),h3⟩
 |exn y ρ'=>exact fun H' s=>h H' (fun b o z=>s b o (hf b o z))
 |bad=>exact h
noncomputable def E9(ts:Ad Ag)(ρ:Rho):Rho:=ts.foldl (fun ρ t=>ρ.set t Ae) ρ
def GT(K:Fg)(CL:ClA)(as:D->Rho->R Rho)(g:TG):Prop:=∀ Fz B ρ σ H v d ρ' Q,Sx K CL Fz B ρ σ H->Rep K CL H (BN B ρ σ) v d->as d ρ=.ok ρ'->(∀ σ',Sx K CL Fz B ρ' σ' H->Q σ' H)->g v σ H Q
theorem YJ(i:Ag):GT K CL (fun d ρ=>.ok (ρ.set i (Aa (d,Ac)))) (EN i):=fun Fz B ρ σ H v d ρ' Q x r e k=>by
 cases e;exact k _ (x.set i r)
theorem N4{K:Fg}{Fz:Aj->HO->Prop}{B:Aj->Prop}{H:Hp}:∀(ts:Ad Ag)(ds:Ad D)(vs:Ad V)(ρ ρ':Rho)(σ:L2.St)(Q:L2.St->Hp->Prop),Sx K CL Fz B ρ σ H->Reps K CL H (BN B ρ σ) vs ds->Eu ts ds ρ=Aa ρ'->(∀ σ',Sx K CL Fz B ρ' σ' H->Q σ' H)->(ts.foldr (fun t u=>Ha (EN t) u) Hh) vs σ H Q
 |[],[],[],ρ,ρ',σ,Q,x,_,e,k=>by
  cases e;exact⟨rfl,k σ x⟩
 |t::ts,d::ds,v::vs,ρ,ρ',σ,Q,x,r,e,k=>by
  refine⟨v,vs,rfl,N4 ts ds vs _ ρ' _ Q (x.set t r.1) (Reps.sub (fun a ha=>?_) ds r.2) e k⟩
  rcases ha with ha|⟨j,c,h1,h2⟩
  ·exact .inl ha
  ·by_cases hj:t=j
   ·subst hj;have:=Gj h1;cases this
   ·rw[B7 hj]at h1 h2;exact .inr ⟨j,c,h1,h2⟩
 |[],_::_,_,_,_,_,_,_,_,e,_=>by cases e
 |_::_,[],_,_,_,_,_,_,_,e,_=>by cases e
 |[],[],_::_,_,_,_,_,_,r,_,_=>r.elim
 |_::_,_::_,[],_,_,_,_,_,r,_,_=>r.elim
theorem LH:∀(ts:Ad Ag)(ds:Ad D)(ρ ρ':Rho),Eu ts ds ρ=Aa ρ'->ds.length=ts.length
 |[],[],_,_,_=>rfl
 |_::ts,_::ds,_,_,e=>congrArg (· + 1) (LH ts ds _ _ e)
 |[],_::_,_,_,e=>by cases e
 |_::_,[],_,_,e=>by cases e
theorem RO(ts:Ad Ag):GT K CL (FO ts) (Ko K ts.length (ts.foldr (fun t u=>Ha (EN t) u) Hh)):=fun Fz B ρ σ H v d ρ' Q x r e k=>by
 cases d with
 |tup ds=>
  obtain⟨a,xs,rfl,na,sq,rs⟩:=r;rw[Pv]at e;cases e2:Eu ts ds ρ with
  |none=>rw[e2]at e;cases e
  |some ρ2=>
   rw[e2]at e;cases e;exact⟨a,xs,rfl,sq,by rw[rs.length];exact LH _ _ _ _ e2,N4 ts ds xs ρ _ σ Q x rs e2 k⟩
 |_=>cases e
theorem R9{body:Ad A9}{fbd:Rho->O}{g:TG}(hp:E4 (model X.prog X.w) X.A X.env X.xe)(hc:X.calm=Ab)(hGT:GT X.K CL as g)(hg:PG X tg g)(hit:SI X CL W tg iter fi)(hb:SSs X CL W body fbd)(hs:∀ x,CN iter X.env x=pure x)(hax:∀ d ρ x,as d ρ≠.exn x):SS X CL W (.For tg iter body [] pos) (fun ρ=>O.of ρ (fi ρ) fun xs=>Ch (fun x ρ'=>O.of ρ' (as x ρ') fbd) xs ρ):=fun Fz B pI s σ H D I ⟨ρ,x,p⟩=>by
 refine dX hp hc (hit (BN B ρ σ)) hg (tb:=fun D σ H=>∃ Fy,(fun D σ H=>∃ ρ,Sx X.K CL Fy B ρ σ H/\BS X.K CL Fy B W (fbd ρ) D) D σ H) (fun pI s σ H D I ⟨Fy,q⟩=>hb Fy B pI s σ H D I q) hs pI s σ H D I ⟨x.aok,ρ,x.good,BS.exI x p fun ds J H1 _ s1 y _ x1 q=>?_⟩
 let Fy:Aj->HO->Prop:=fun b o=>H1 b=Aa o/\¬ ∃(j:Ag)(d:Ov.D),ρ[j]?=Aa (Aa (d,Ab))/\σ[j]?=Aa (Aa (.ref b))
 have hfy:∀ b o,Fz b o->Fy b o:=fun b o z=>⟨x1.same b o z,fun ⟨j,d,h1,h2⟩=>(x1.new j d b h1 h2).1 o z⟩
 have xy:Sx X.K CL Fy B ρ σ H1:=⟨x1.good,x1.aok,fun j d a h1 h2=>⟨fun o z=>z.2 ⟨j,d,h1,h2⟩,(x1.new j d a h1 h2).2⟩,x1.dis,fun b o z=>z.1,x1.len⟩
 refine⟨fun k m σ' H'=>m=ds.length-k/\k<=ds.length/\∃ ρ',Sx X.K CL Fy B ρ' σ' H'/\BS X.K CL Fz B W (Ch (fun x ρ'=>O.of ρ' (as x ρ') fbd) (ds.drop k) ρ') D,⟨ds.length,by simp,Fv _,ρ,xy,q⟩,?_⟩
 rintro k m σ' H' ⟨rfl,hk,ρ',x',q'⟩;have kp:Kp (BN B ρ σ) H1 H':=fun b o e na=>x'.same b o ⟨e,fun z=>na (.inr z)⟩
 obtain⟨yst,ygo⟩:=y H' kp k;by_cases hlt:k<ds.length
 ·have hd:ds[k]?=Aa ds[k]:=Cb hlt;obtain⟨hgo,hyl⟩:=ygo _ hd;refine .inr ⟨hgo,fun σ'' H''=>∃ ρ'',Sx X.K CL Fy B ρ'' σ'' H''/\BS X.K CL Fz B W (Ch (fun x ρ'=>O.of ρ' (as x ρ') fbd) (ds.drop (k+1)) ρ'') D,fun σ'' H'' z=>⟨ds.length-(k+1),by omega,rfl,hlt,z⟩,fun v H2 hv=>?_⟩
  obtain⟨e2,rv⟩:=hyl v H2 hv;rw[ER hlt]at q';have q2:BS X.K CL Fz B W ((O.of ρ' (as ds[k] ρ') fbd).turn (Ch (fun x ρ'=>O.of ρ' (as x ρ') fbd) (ds.drop (k+1)))) D:=q'
  have rv':Rep X.K CL H2 (BN B ρ' σ') v ds[k]:=rv _ (fun a ha=>by
    rcases ha with ha|⟨j,d,h1,h2⟩
    ·exact .inl (.inl ha)
    ·cases e:H1 a with
     |none=>exact .inr rfl
     |some o=>
      by_cases ho:∃(j:Ag)(d:Ov.D),ρ[j]?=Aa (Aa (d,Ab))/\σ[j]?=Aa (Aa (.ref a))
      ·exact .inl (.inr ho)
      ·exact absurd ⟨e,ho⟩ ((x'.new j d a h1 h2).1 o)) x'.aok
  cases ea:as ds[k] ρ' with
  |bad=>rw[ea]at q2;exact q2.elim
  |exn z=>exact absurd ea (hax _ _ z)
  |ok ρ2=>
   rw[ea,O.of_ok]at q2;exact hGT Fy B ρ' σ' H2 v ds[k] ρ2 _ (x'.grow e2) rv' ea fun σ3 x3=>⟨Fy,ρ2,x3,BS.turn hfy q2 fun ρ3 σ3 H3 x3 q3=>⟨ρ3,x3,q3⟩⟩
 ·have hk':ds.length<=k:=by omega
  rw[Uk hk']at q';exact .inl ⟨yst hk',q' σ' H' (x'.mono hfy)⟩
end
section
variable{X:Cx}{CL:ClA}{W:XW}{a b c:Ap}{fa fb fc:Rho->R D}{pos:AM}
noncomputable def tyK:Ki->An Dv
 |.int=>Aa "int"
 |.bool=>Aa "bool"
 |.str=>Aa "str"
 |.list=>Aa "list"
 |.tuple=>Aa "tuple"
 |_=>Ae
noncomputable def NT:D->Ao
 |.obj _ _=>Ac
 |.exc _ _=>Ac
 |.dic _=>Ac
 |_=>Ab
theorem fH{k:Ki}{Q:Vq}{E:Vq}(I:Inv X pI σ H s)(r:CG X.K CL H A v d)(q:BB v u)(hT:tyK k=Aa T)(hd:NT d=Ab)(h:∀ s',Inv X pI σ H s'->Q (.bool (kiD up k d)) s'):
  Ay (model X.prog X.w) X.A (call (.builtin "isinstance") [u,.type T]) Q E s:=by
 have r':=r.plain;have it:=fun t=>h _ (I.tok t)
 cases d with
 |obj=>cases hd
 |exc=>cases hd
 |dic=>cases hd
 |non=>
  cases r';cases q;cases k<;>simp only[tyK]at hT<;>cases hT
  ·exact IsiPair.NoneType_int (it _)
  ·exact IsiPair.NoneType_bool (it _)
  ·exact IsiPair.NoneType_str (it _)
  ·exact IsiPair.NoneType_list (it _)
  ·exact IsiPair.NoneType_tuple (it _)
 |bl b=>
  cases r';cases q;cases k<;>simp only[tyK]at hT<;>cases hT
  ·exact IsiPair.bool_int (h _ I)
  ·exact IsiPair.bool_bool (h _ I)
  ·exact IsiPair.bool_str (it _)
  ·exact IsiPair.bool_list (it _)
  ·exact IsiPair.bool_tuple (it _)
 |int i=>
  cases r';obtain⟨t,rfl⟩:=q;cases k<;>simp only[tyK]at hT<;>cases hT
  ·exact IsiPair.int_int (h _ I)
  ·exact IsiPair.int_bool (it _)
  ·exact IsiPair.int_str (it _)
  ·exact IsiPair.int_list (it _)
  ·exact IsiPair.int_tuple (it _)
 |str x=>
  cases r';obtain⟨t,rfl⟩:=q;cases k<;>simp only[tyK]at hT<;>cases hT
  ·exact IsiPair.str_int (it _)
  ·exact IsiPair.str_bool (it _)
  ·exact IsiPair.str_str (h _ I)
  ·exact IsiPair.str_list (it _)
  ·exact IsiPair.str_tuple (it _)
 |tup ds=>
  obtain⟨p,xs,rfl,_,sq,rr⟩:=r';obtain⟨its,rv,pt,_⟩:=I.tuple sq;cases q;have pt':s.heap.IsTuple p its.toArray:=pt;cases k<;>simp only[tyK]at hT<;>cases hT
  ·exact IsiPair.isTuple_int pt' (fun _ _ e=>e) (it _)
  ·exact IsiPair.isTuple_bool pt' (fun _ _ e=>e) (it _)
  ·exact IsiPair.isTuple_str pt' (fun _ _ e=>e) (it _)
  ·exact IsiPair.isTuple_list pt' (fun _ _ e=>e) (it _)
  ·exact IsiPair.isTuple_tuple pt' (fun _ _ e=>e) (h _ I)
 |lst ds=>
  obtain⟨p,xs,rfl,_,sq,rr⟩:=r';obtain⟨its,rv,pl,_⟩:=I.list sq;cases q;have pt':s.heap.IsList p its.toArray:=Hx pl;cases k<;>simp only[tyK]at hT<;>cases hT
  ·exact IsiPair.isList_int pt' (fun _ _ e=>e) (it _)
  ·exact IsiPair.isList_bool pt' (fun _ _ e=>e) (it _)
  ·exact IsiPair.isList_str pt' (fun _ _ e=>e) (it _)
  ·exact IsiPair.isList_list pt' (fun _ _ e=>e) (h _ I)
  ·exact IsiPair.isList_tuple pt' (fun _ _ e=>e) (it _)
theorem WJ{k:Ki}(hT:tyK k=Aa T)(p:Bh Rp W H (DV up [k] d) Q):NT d=Ab/\Bh Rp W H (.ok (.bl (kiD up k d))) Q:=by
 cases k<;>simp only[tyK]at hT<;>cases hT<;>cases d<;>first|exact p.elim|exact⟨rfl,by simpa using p⟩
theorem aE{k:Ki}{x:Ah}(hT:tyK k=Aa T)(hg:Gl X "isinstance")(hm:X.mg "isinstance" = Ae)(hg2:Gl X x)(hm2:X.mg x=Ae)(hv:CY x=Aa (.type T))(hn:x≠"__name__")(hdb:(x==("__debug__" : Ah))=Ac)(ha:ST X CL W a fa)(he:AA [a,.Name x p2] X.env=(Ac,eval a X.env)::AA [.Name x p2] X.env):SE X CL W (.Call (.Name "isinstance" p) [a,.Name x p2] [] pos) (fun ρ=>(fa ρ).bind fun x=>DV up [k] x):=fun A=>
 PE.weak (K0 (r:=fun xs H Q=>∃ y d,xs=[y,.ty T]/\CG X.K CL H A y d/\NT d=Ab/\Q (.bl (kiD up k d)) H) (fun pI s σ H xs us Q I r ⟨y,d,e,ry,hd,q⟩=>by
   subst e;obtain⟨u,w',rfl,r1,r2⟩:=Jv r;cases r2;exact fH I ry r1 hT hd fun s' I'=>⟨.bl _,H,I',rfl,q⟩)
  hg hm F3 (Et (ha A) (Et (QD (v:=.ty T) hg2 hm2 hv rfl hn hdb) GC rfl) he) (by decide) (by decide) he rfl) fun σ H Q ⟨hA,ρ,g,q⟩=>⟨hA,ρ,g,Bh.bind q fun d v H1 _ s1 r1 p1=>by
   obtain⟨hd,p2⟩:=WJ hT p1;exact⟨v,d,rfl,r1,hd,p2 _ H1 (AE.refl H1) rfl⟩⟩
theorem Ny{b:Ao}{A':AZ}{E:Vq}{Q:Ao->Ar->Prop}(r:Rep X.K CL H A v d)(q:BB v u)(h:DX d=.ok b)(hq:Q b s):Ay (model prog w) A' (truthy u) Q E s:=by
 cases d with
 |non=>
  cases r;cases q;cases h;exact truthy_none hq
 |bl k=>
  cases r;cases q;cases h;exact Cu hq
 |int i=>
  cases r;obtain⟨t,rfl⟩:=q;cases h;exact truthy_int hq
 |_=>cases h
theorem O8:∀{ds:Ad D}{b:Ao},GH ds=.ok b->(∀ j,j<ds.length->∃ c,DX (ds.getD j .non)=.ok c)/\b=(Bz ds.length).all fun j=>match DX (ds.getD j .non) with
  |.ok c=>c
  |_=>Ac
 |[],b,h=>by cases h;exact⟨fun j hj=>absurd hj (Ho _),rfl⟩
 |d::ds,b,h=>by
  rw[Pz]at h;cases e:DX d with
  |bad=>rw[e]at h;cases h
  |exn x=>rw[e]at h;cases h
  |ok c=>
   rw[e,R.bind_ok]at h;cases e2:GH ds with
   |bad=>rw[e2]at h;cases h
   |exn x=>rw[e2]at h;cases h
   |ok c2=>
    rw[e2,R.bind_ok]at h;cases h;obtain⟨h1,h2⟩:=O8 e2;refine⟨fun j hj=>?_,?_⟩
    ·cases j with
     |zero=>exact⟨c,e⟩
     |succ j=>exact h1 j (by simpa using hj)
    ·rw[Bs,O3,h2];show (c&&_)=((match DX d with | .ok c=>c|_=>Ac)&&_)
     rw[e];rfl
theorem O7:∀{ds:Ad D}{b:Ao},Fa ds=.ok b->(∀ j,j<ds.length->∃ c,DX (ds.getD j .non)=.ok c)/\b=(Bz ds.length).any fun j=>match DX (ds.getD j .non) with
  |.ok c=>c
  |_=>Ac
 |[],b,h=>by cases h;exact⟨fun j hj=>absurd hj (Ho _),rfl⟩
 |d::ds,b,h=>by
  rw[Py]at h;cases e:DX d with
  |bad=>rw[e]at h;cases h
  |exn x=>rw[e]at h;cases h
  |ok c=>
   rw[e,R.bind_ok]at h;cases e2:Fa ds with
   |bad=>rw[e2]at h;cases h
   |exn x=>rw[e2]at h;cases h
   |ok c2=>
    rw[e2,R.bind_ok]at h;cases h;obtain⟨h1,h2⟩:=O7 e2;refine⟨fun j hj=>?_,?_⟩
    ·cases j with
     |zero=>exact⟨c,e⟩
     |succ j=>exact h1 j (by simpa using hj)
    ·rw[Bs,UB,FC,Ip,h2];show (c||_)=((match DX d with | .ok c=>c|_=>Ac)||_)
     rw[e];rfl
theorem Ql:∀(ds:Ad D)(a z:Af),Gp a ds=.ok z->(∀ j,j<ds.length->∃ i,ds.getD j .non=.int i)/\z=a+IE (fun j=>match ds.getD j .non with
  |.int i=>i
  | _=>0) ds.length
 |[],a,z,h=>by cases h;exact⟨fun j hj=>absurd hj (Ho _),by simp[IE]⟩
 |.int i::ds,a,z,h=>by
  obtain⟨h1,h2⟩:=Ql ds (a+i) z h;refine⟨fun j hj=>?_,?_⟩
  ·cases j with
   |zero=>exact⟨i,rfl⟩
   |succ j=>exact h1 j (by simpa using hj)
  ·have key:∀ n,IE (fun j=>match (D.int i::ds).getD j .non with | .int i=>i|_=>0) (n+1)=i+IE (fun j=>match ds.getD j .non with | .int i=>i|_=>0) n:=by
    intro n
    induction n with
    |zero=>show (0:Af)+i=i+0;omega
    |succ n ih=>
     show IE _ (n+1)+(match ds.getD n .non with | .int i=>i|_=>0)=i+(IE _ n+(match ds.getD n .non with | .int i=>i|_=>0))
     rw[ih];omega
   rw[h2,Bs,key];omega
 |.non::_,_,_,h=>by cases h
 |.bl _::_,_,_,h=>by cases h
 |.str _::_,_,_,h=>by cases h
 |.tup _::_,_,_,h=>by cases h
 |.lst _::_,_,_,h=>by cases h
 |.obj _ _::_,_,_,h=>by cases h
 |.exc _ _::_,_,_,h=>by cases h
 |.dic _::_,_,_,h=>by cases h
theorem K4{ds:Ad D}{its:Ad Ai}(r:Reps X.K CL H A0 xs ds)(rv:Bi xs its){v:Ai}(h:its.toArray[j]?=Aa v):j<ds.length/\∃ x,Rep X.K CL H A0 x (ds.getD j .non)/\BB x v:=by
 have h':its[j]?=Aa v:=by simpa using h
 obtain⟨hj,e⟩:=A7.mp h';obtain⟨x,rx,q⟩:=Jq r rv hj;have l1:=rv.length;have l2:=r.length
 exact⟨by omega,x,rx,by rw[<-e];exact q⟩
theorem Lk{o:CW}(k:∀ b q,b∉[h.objs.size]->(h.push o).get? b=Aa q->h'.get? b=Aa q):∀ b q,h.get? b=Aa q->h'.get? b=Aa q:=fun b q e=>k b q (by
 intro z;have:=BE.mp z;rw[this]at e;exact absurd (AG e) (Bu _)) (Au _ e)
theorem fF(hc:X.calm=Ab):H9 X CL W (.builtin "all") (biD .all):=by
  intro A pI s σ H xs us Q I r ⟨hA,ds,rs,p⟩
  match ds,rs,p with
  |[.lst es],rs,p=>
    obtain⟨v,rfl,rv⟩:=rs.one;obtain⟨q,ys,e,_,sq,ry⟩:=rv.plain;subst e;obtain⟨u,rfl,ru⟩:=He r;cases ru;rw[lM]at p;cases e1:GH es with
    |bad=>rw[e1]at p;exact p.elim
    |exn x=>
      exfalso
      have:∀(es:Ad D) x,GH es≠.exn x:=by
        intro es
        induction es with
        |nil=>intro x h;cases h
        |cons d ds ih=>
          intro x h;rw[Pz]at h;cases e:DX d with
          |bad=>rw[e]at h;cases h
          |exn y=>cases d<;>cases e
          |ok c=>
            rw[e,R.bind_ok]at h;cases e2:GH ds with
            |bad=>rw[e2]at h;cases h
            |exn y=>exact ih y e2
            |ok c2=>rw[e2]at h;cases h
      exact this es x e1
    |ok b=>
      rw[e1,R.bind_ok]at p;obtain⟨h1,h2⟩:=O8 e1;obtain⟨its,rvv,pl,_⟩:=I.list sq;have hlt:q<s.heap.objs.size:=by obtain⟨o,n,e,_⟩:=pl;exact AG e
      have hl:its.toArray.size=es.length:=by rw[AO,<-rvv.length,ry.length]
      refine call_all_walk (DF (Hx pl) ⟨s.heap.objs.size,_,_,_,_,_,(fun j=>match DX (es.getD j .non) with | .ok c=>c|_=>Ac),rfl,JI (A:=X.A.in1) (I.ok.hd hc) s.heap.objs.size q (Bb hlt) its.toArray,⟨⟨_,AN _ rfl,rfl,rfl⟩,(Hx pl).push _⟩,fun j v s' Q' E' hv hQ=>?_,fun h' tk k=>?_⟩)
      · obtain⟨hj,x,rx,qx⟩:=K4 ry rvv hv;obtain⟨c,ec⟩:=h1 j hj;exact Ny rx qx ec (by dsimp only at hQ;rw[ec]at hQ;exact hQ)
      · rw[hl,<-h2];exact⟨.bl b,H,I.kept (Lk k),rfl,p _ H (AE.refl H) rfl⟩
  |[],_,p=>exact p.elim
  |[.non],_,p=>exact p.elim
  |[.bl _],_,p=>exact p.elim
  |[.int _],_,p=>exact p.elim
  |[.str _],_,p=>exact p.elim
  |[.tup _],_,p=>exact p.elim
  |[.obj _ _],_,p=>exact p.elim
  |[.exc _ _],_,p=>exact p.elim
  |[.dic _],_,p=>exact p.elim
  |x::_::_,_,p=>cases x<;>exact p.elim
theorem Q8(hc:X.calm=Ab){es:Ad D}(I:Inv X pI σ H s)(sq:SqL X.K H q ys\/SqT X.K H q ys)(ry:Reps X.K CL H A0 ys es)(p:Bh (fun H=>Rep X.K CL H A) W H ((Fa es).bind fun b=>.ok (.bl b)) Q):Ay (model X.prog X.w) X.A (call (.builtin "any") [.ref q]) (EP X pI σ Q) X.xe s:=by
 cases e1:Fa es with
 |bad=>rw[e1]at p;exact p.elim
 |exn x=>
  exfalso
  clear p
  have:∀(es:Ad D) x,Fa es≠.exn x:=by
   intro es
   induction es with
   |nil=>intro x h;cases h
   |cons d ds ih=>
    intro x h;rw[Py]at h;cases e:DX d with
    |bad=>rw[e]at h;cases h
    |exn y=>cases d<;>cases e
    |ok c=>
     rw[e,R.bind_ok]at h;cases e2:Fa ds with
     |bad=>rw[e2]at h;cases h
     |exn y=>exact ih y e2
     |ok c2=>rw[e2]at h;cases h
  exact this es x e1
 |ok b=>
  rw[e1,R.bind_ok]at p;obtain⟨h1,h2⟩:=O7 e1;rcases sq with sq|sq
  ·obtain⟨its,rvv,pl,_⟩:=I.list sq;have hlt:q<s.heap.objs.size:=by obtain⟨o,n,e,_⟩:=pl;exact AG e
   have hl:its.toArray.size=es.length:=by rw[AO,<-rvv.length,ry.length]
   refine call_any_walk (DF (Hx pl) ⟨s.heap.objs.size,_,_,_,_,_,(fun j=>match DX (es.getD j .non) with | .ok c=>c|_=>Ac),rfl,JI (A:=X.A.in1) (I.ok.hd hc) s.heap.objs.size q (Bb hlt) its.toArray,⟨⟨_,AN _ rfl,rfl,rfl⟩,(Hx pl).push _⟩,fun j v s' Q' E' hv hQ=>?_,fun h' tk k=>?_⟩)
   ·obtain⟨hj,x,rx,qx⟩:=K4 ry rvv hv;obtain⟨c,ec⟩:=h1 j hj;exact Ny rx qx ec (by dsimp only at hQ;rw[ec]at hQ;exact hQ)
   ·rw[hl,<-h2];exact⟨.bl b,H,I.kept (Lk k),rfl,p _ H (AE.refl H) rfl⟩
  ·obtain⟨its,rvv,pl,_⟩:=I.tuple sq;have pl':s.heap.IsTuple q its.toArray:=pl;have hlt:q<s.heap.objs.size:=by obtain⟨o,e,_⟩:=pl';exact AG e
   have hl:its.toArray.size=es.length:=by rw[AO,<-rvv.length,ry.length]
   refine call_any_walk (E6 pl' ⟨s.heap.objs.size,_,_,_,_,_,(fun j=>match DX (es.getD j .non) with | .ok c=>c|_=>Ac),rfl,Vw (A:=X.A.in1) (I.ok.hd hc) s.heap.objs.size q (Bb hlt) its.toArray,⟨⟨_,AN _ rfl,rfl,rfl⟩,pl'.push _⟩,fun j v s' Q' E' hv hQ=>?_,fun h' tk k=>?_⟩)
   ·obtain⟨hj,x,rx,qx⟩:=K4 ry rvv hv;obtain⟨c,ec⟩:=h1 j hj;exact Ny rx qx ec (by dsimp only at hQ;rw[ec]at hQ;exact hQ)
   ·rw[hl,<-h2];exact⟨.bl b,H,I.kept (Lk k),rfl,p _ H (AE.refl H) rfl⟩
theorem fE(hc:X.calm=Ab):H9 X CL W (.builtin "any") (biD .any):=by
  intro A pI s σ H xs us Q I r ⟨hA,ds,rs,p⟩
  match ds,rs,p with
  |[.lst es],rs,p=>
    obtain⟨v,rfl,rv⟩:=rs.one;obtain⟨q,ys,e,_,sq,ry⟩:=rv.plain;subst e;obtain⟨u,rfl,ru⟩:=He r;cases ru;exact Q8 hc I (.inl sq) ry p
  |[.tup es],rs,p=>
    obtain⟨v,rfl,rv⟩:=rs.one;obtain⟨q,ys,e,_,sq,ry⟩:=rv.plain;subst e;obtain⟨u,rfl,ru⟩:=He r;cases ru;exact Q8 hc I (.inr sq) ry p
  |[],_,p=>exact p.elim
  |[.non],_,p=>exact p.elim
  |[.bl _],_,p=>exact p.elim
  |[.int _],_,p=>exact p.elim
  |[.str _],_,p=>exact p.elim
  |[.obj _ _],_,p=>exact p.elim
  |[.exc _ _],_,p=>exact p.elim
  |[.dic _],_,p=>exact p.elim
  |x::_::_,_,p=>cases x<;>exact p.elim
theorem Q3(hc:X.calm=Ab){es:Ad D}(I:Inv X pI σ H s)(sq:SqL X.K H q ys\/SqT X.K H q ys)(ry:Reps X.K CL H A0 ys es)(p:Bh (fun H=>Rep X.K CL H A) W H ((Gp 0 es).bind fun b=>.ok (.int b)) Q):Ay (model X.prog X.w) X.A (call (.builtin "sum") [.ref q]) (EP X pI σ Q) X.xe s:=by
 cases e1:Gp 0 es with
 |bad=>rw[e1]at p;exact p.elim
 |exn x=>
  exfalso
  have:∀(es:Ad D)(a:Af) x,Gp a es≠.exn x:=by
   intro es
   induction es with
   |nil=>intro a x h;cases h
   |cons d ds ih=>
    intro a x h;cases d<;>first|exact ih _ _ h|cases h
  exact this es 0 x e1
 |ok z=>
  rw[e1,R.bind_ok]at p;obtain⟨h1,h2⟩:=Ql es 0 z e1;rw[DM]at h2;rcases sq with sq|sq
  ·obtain⟨its,rvv,pl,_⟩:=I.list sq;have hlt:q<s.heap.objs.size:=by obtain⟨o,n,e,_⟩:=pl;exact AG e
   have hl:its.toArray.size=es.length:=by rw[AO,<-rvv.length,ry.length]
   refine Vx (DF (Hx pl) ⟨s.heap.objs.size,_,_,_,_,_,(fun j=>match es.getD j .non with | .int i=>i|_=>0),rfl,JI (A:=X.A.in1) (I.ok.hd hc) s.heap.objs.size q (Bb hlt) its.toArray,⟨⟨_,AN _ rfl,rfl,rfl⟩,(Hx pl).push _⟩,fun b hb=>?_,fun j v hv=>?_,fun h' tk t' k=>?_⟩)
   ·show b<(s.heap.push _).objs.size;rw[Cc];rcases AB.mp hb with rfl|hb
    ·exact FJ _
    ·rw[BE.mp hb];exact De hlt
   ·obtain⟨hj,x,rx,qx⟩:=K4 ry rvv hv;obtain⟨i,ei⟩:=h1 j hj;rw[ei]at rx;dsimp only;rw[ei];cases rx;exact qx
   ·rw[hl,<-h2];exact⟨.int z,H,I.kept (Lk k),⟨_,rfl⟩,p _ H (AE.refl H) rfl⟩
  ·obtain⟨its,rvv,pl,_⟩:=I.tuple sq;have pl':s.heap.IsTuple q its.toArray:=pl;have hlt:q<s.heap.objs.size:=by obtain⟨o,e,_⟩:=pl';exact AG e
   have hl:its.toArray.size=es.length:=by rw[AO,<-rvv.length,ry.length]
   refine Vx (E6 pl' ⟨s.heap.objs.size,_,_,_,_,_,(fun j=>match es.getD j .non with | .int i=>i|_=>0),rfl,Vw (A:=X.A.in1) (I.ok.hd hc) s.heap.objs.size q (Bb hlt) its.toArray,⟨⟨_,AN _ rfl,rfl,rfl⟩,pl'.push _⟩,fun b hb=>?_,fun j v hv=>?_,fun h' tk t' k=>?_⟩)
   ·show b<(s.heap.push _).objs.size;rw[Cc];rcases AB.mp hb with rfl|hb
    ·exact FJ _
    ·rw[BE.mp hb];exact De hlt
   ·obtain⟨hj,x,rx,qx⟩:=K4 ry rvv hv;obtain⟨i,ei⟩:=h1 j hj;rw[ei]at rx;dsimp only;rw[ei];cases rx;exact qx
   ·rw[hl,<-h2];exact⟨.int z,H,I.kept (Lk k),⟨_,rfl⟩,p _ H (AE.refl H) rfl⟩
theorem fA(hc:X.calm=Ab):H9 X CL W (.builtin "sum") (biD .sum):=by
  intro A pI s σ H xs us Q I r ⟨hA,ds,rs,p⟩
  match ds,rs,p with
  |[.lst es],rs,p=>
    obtain⟨v,rfl,rv⟩:=rs.one;obtain⟨q,ys,e,_,sq,ry⟩:=rv.plain;subst e;obtain⟨u,rfl,ru⟩:=He r;cases ru;exact Q3 hc I (.inl sq) ry p
  |[.tup es],rs,p=>
    obtain⟨v,rfl,rv⟩:=rs.one;obtain⟨q,ys,e,_,sq,ry⟩:=rv.plain;subst e;obtain⟨u,rfl,ru⟩:=He r;cases ru;exact Q3 hc I (.inr sq) ry p
  |[],_,p=>exact p.elim
  |[.non],_,p=>exact p.elim
  |[.bl _],_,p=>exact p.elim
  |[.int _],_,p=>exact p.elim
  |[.str _],_,p=>exact p.elim
  |[.obj _ _],_,p=>exact p.elim
  |[.exc _ _],_,p=>exact p.elim
  |[.dic _],_,p=>exact p.elim
  |x::_::_,_,p=>cases x<;>exact p.elim
end
section
variable(K:Fg)(CL:ClA)
def lN(H0:Hp)(A:Aj->Prop)(H:Hp)(v:V)(d:D):Prop:=∀ ds,d=.lst ds->∃ a xs,v=.ref a/\H0 a=Ae/\H a=Aa (.lst xs)/\Reps K CL H (fun b=>A b\/b=a) xs ds
def Dq(fr:Ao)(H0:Hp)(A:Aj->Prop)(H:Hp)(v:V)(d:D):Prop:=Rep K CL H A v d/\(fr=Ab->lN K CL H0 A H v d)
end
section
variable{X:Cx}{CL:ClA}{W:XW}{a b c:Ap}{fa fb fc:Rho->R D}{pos:AM}
def SC(X:Cx)(CL:ClA)(W:XW)(fr:Ao)(e:Ap)(f:Rho->R D):Prop:=∀ A,PE X e (fun σ H Q=>AOk H A/\∃ ρ,Good X.K CL A ρ σ H/\Bh (Dq X.K CL fr H A) W H (f ρ) Q)
theorem SC.se{fr:Ao}(h:SC X CL W fr a fa):SE X CL W a fa:=fun A=>PE.weak (h A) fun σ H Q ⟨hA,ρ,g,p⟩=>⟨hA,ρ,g,by
 cases e:fa ρ with
 |ok d=>rw[e]at p;exact fun v H' s r=>p v H' s r.1
 |exn x=>rw[e]at p;exact p
 | bad=>rw[e]at p;exact p⟩
theorem SE.sc(h:SE X CL W a fa):SC X CL W Ac a fa:=fun A=>PE.weak (h A) fun σ H Q ⟨hA,ρ,g,p⟩=>⟨hA,ρ,g,by
 cases e:fa ρ with
 |ok d=>rw[e]at p;exact fun v H' s r=>p v H' s ⟨r,fun z=>nomatch z⟩
 |exn x=>rw[e]at p;exact p
 | bad=>rw[e]at p;exact p⟩
theorem SC.congr{fr:Ao}{f g:Rho->R D}(h:SC X CL W fr a f)(e:∀ ρ,g ρ=f ρ):SC X CL W fr a g:=fun A=>PE.weak (h A) fun σ H Q ⟨hA,ρ,q,p⟩=>⟨hA,ρ,q,by rw[<-e];exact p⟩
theorem J4{p:Aj}{ds:Ad D}(s:AE H0 H)(hA:AOk H A)(hp:H p=Ae)(r:Reps K CL H A xs ds):Dq K CL Ab H0 A (upd H p (.lst xs)) (.ref p) (.lst ds):=
 ⟨Rn hA hp r,fun _ ds' e=>by
  cases e;exact⟨p,xs,rfl,s.free hp,E8,(Reps.wide (fun a ha=>ha.imp id fun e=>by rw[e];exact hp) _ r).same (FM hp _)⟩⟩
theorem QQ{fr:Ao}(r:Rep K CL H A v d)(h:∀ ds,d≠.lst ds):Dq K CL fr H0 A H v d:=⟨r,fun _ ds e=>absurd e (h ds)⟩
theorem aV(hs:SA X CL W es fs)(hz:∀ ρ ds,fs ρ=.ok ds->ds.length<=100000):SC X CL W Ab (.List es pos) (fun ρ=>(fs ρ).bind fun xs=>.ok (.lst xs)):=
 fun A=>PE.weak (cN (hs A)) fun σ H Q ⟨hA,ρ,g,p⟩=>⟨hA,ρ,g,Hc.bind p fun ds vs H1 e s1 r1 p1=>⟨by
  rw[r1.length,Ds];have:=hz ρ ds e;omega,fun q hq=>p1 _ _ (FM hq _) (J4 s1 (hA.same s1) hq r1)⟩⟩
theorem Bh.bindF{fr:Ao}{f:D->R D}{Q':VK}(h:Bh (Dq K CL fr H A) W H (r.bind f) Q)(k:∀ d v H',r=.ok d->AE H H'->Rp H' v d->Bh (Dq K CL fr H A) W H' (f d) Q->Q' v H'):Bh Rp W H r Q':=by
 cases r with
 |ok d=>exact fun v H2 s2 q=>k d v H2 rfl s2 q (Bh.same s2 h)
 |exn x=>exact h
 |bad=>exact h
theorem Hc.bindF{Rp:Hp->Ad V->Ad D->Prop}{r:R (Ad D)}{f:Ad D->R D}{Q':Ad V->Hp->Prop}(h:Bh Rq W H (r.bind f) Q)(k:∀ d v H',r=.ok d->AE H H'->Rp H' v d->Bh Rq W H' (f d) Q->Q' v H'):Hc Rp W H r Q':=by
 cases r with
 |ok d=>exact fun v H2 s2 q=>k d v H2 rfl s2 q (Bh.same s2 h)
 |exn x=>exact h
 |bad=>exact h
theorem Ju.bindF{r:R (An Af)}{f:An Af->R D}(h:Bh Rq W H (r.bind f) Q)(k:∀ o H',r=.ok o->AE H H'->Bh Rq W H' (f o) Q->Q' o H'):Ju W H r Q':=by
 cases r with
 |ok d=>exact fun H2 s2=>k d H2 rfl s2 (Bh.same s2 h)
 |exn x=>exact h
 |bad=>exact h
theorem jA{lo hi:An Ap}{fl fh:Rho->R (An Af)}(ha:ST X CL W a fa)(hl:SO X CL W lo fl)(hh:SO X CL W hi fh):SC X CL W Ab (.Subscript a (.Slice lo hi Ae p2) pos) (fun ρ=>(fa ρ).bind fun x=>(fl ρ).bind fun l=>(fh ρ).bind fun h=>slD x l h):=
 fun A=>PE.weak (W7 (r:=fun x l h H Q=>Tq X.K x l h H Q\/Tp X.K x l h H Q) (fun pI s σ H x v vl vu lo hi sl Q I rx hs pl pu h=>h.elim (Yg pI s σ H x v vl vu lo hi sl Q I rx hs pl pu) (aY pI s σ H x v vl vu lo hi sl Q I rx hs pl pu)) (ha A) (hl A) (hh A)) fun σ H Q ⟨hA,ρ,g,p⟩=>⟨hA,ρ,g,Bh.bindF p fun dx x H1 _ s1 r1 p1=>⟨hA.same s1,ρ,g.same s1,Ju.bindF p1 fun l H2 _ s2 p2=>⟨(hA.same s1).same s2,ρ,(g.same s1).same s2,Ju.bindF p2 fun h H3 _ s3 p3=>by
  cases dx with
  |lst ds=>
   obtain⟨q,xs,rfl,sq,r⟩:=((r1.same s2).same s3).lst_of;exact .inl ⟨q,xs,rfl,sq,fun t ht=>p3 _ _ (FM ht _) (J4 ((s1.trans s2).trans s3) (((hA.same s1).same s2).same s3) ht (Ri l h r))⟩
  |tup ds=>
   obtain⟨q,xs,rfl,_,sq,r⟩:=((r1.same s2).same s3).tup_of;rw[mL]at p3;split at p3
   ·exact p3.elim
   ·rename_i hw;refine .inr ⟨q,xs,rfl,sq,?_,fun t ht=>p3 _ _ (FM ht _) (QQ (JZ (((hA.same s1).same s2).same s3) ht (Ri l h r)) (by intro _ z;cases z))⟩
    rintro⟨h1,h2⟩;refine hw ?_;have e:∀ d o,HT.sIx xs.length d o=Hz ds.length d o:=fun d o=>by rw[r.length];cases o<;>rfl
    rw[e]at h1 h2;rw[r.length]at h2;simp[h1,h2]
  | _=>exact p3.elim⟩⟩⟩
noncomputable def OpN(X:Cx)(CL:ClA)(W:XW)(f:Ai->Ai->Sem Ai)(g:D->D->R D):Prop:=
 ∀ A H0,OpR X f (fun x y H Q=>AE H0 H/\AOk H A/\∃ dx dy,CG X.K CL H A x dx/\CG X.K CL H A y dy/\Bh (Dq X.K CL Ab H0 A) W H (g dx dy) Q)
theorem Zr:OpN X CL W (BZ .Add) (Dk .Add):=by
 intro A H0 pI s σ H x y v u Q I rx ry ⟨s0,hA,dx,dy,hx,hy,p⟩;have key:(∀ ds,dx≠.lst ds)->EP X pI σ Q=EP X pI σ Q->Ay (model X.prog X.w) X.A (BZ .Add v u) (EP X pI σ Q) X.xe s:=fun hd _=>by
  refine QF (W:=W) A pI s σ H x y v u Q I rx ry ⟨hA,dx,dy,hx,hy,?_⟩;cases e:Dk .Add dx dy with
  |bad=>rw[e]at p;exact p
  |exn x=>rw[e]at p;exact p
  |ok d=>
   rw[e]at p;refine fun v' H' s' r'=>p v' H' s' (QQ r' fun ds z=>?_)
   subst z;cases dx with
   |lst ds=>exact hd _ rfl
   |_=>cases dy<;>first|(cases e;done)|(simp only[Dk]at e;split at e<;>cases e)
 cases dx with
 |lst ds=>
  cases dy with
  |lst es=>
   obtain⟨a,xs,rfl,s1,r1⟩:=hx.lst_of;obtain⟨b,ys,rfl,s2,r2⟩:=hy.lst_of;simp only[Rz]at p;split at p
   ·rename_i h;refine QG pI s σ H _ _ v u Q I rx ry ⟨a,b,xs,ys,rfl,rfl,s1,s2,by rw[r1.length,r2.length];exact JV h,fun q hq=>?_⟩
    exact p _ _ (FM hq _) (J4 s0 hA hq (r1.append r2))
   ·exact p.elim
  |_=>exact p.elim
 |_=>exact key (by intro _ z;cases z) rfl
theorem aX(ha:ST X CL W a fa)(hb:ST X CL W b fb):SC X CL W Ab (.BinOp a .Add b pos) (fun ρ=>(fa ρ).bind fun x=>(fb ρ).bind fun y=>Dk .Add x y):=
 fun A pI s σ H Q I h=>by
  obtain⟨hA,ρ,g,p⟩:=h;exact SQ (Zr (W:=W) A H) (ha A) (hb A) pI s σ H Q I ⟨hA,ρ,g,Bh.bindF p fun dx x H1 _ s1 r1 p1=>⟨hA.same s1,ρ,g.same s1,Bh.bind (Rq:=Dq X.K CL Ab H A) p1 fun dy y H2 _ s2 r2 p2=>⟨s1.trans s2,(hA.same s1).same s2,dx,dy,r1.same s2,r2,p2⟩⟩⟩
def Te(X:Cx)(CL:ClA)(W:XW)(f:Ai)(g:Ad D->R D):Prop:=∀ A H0,Hd X f (fun xs H Q=>AE H0 H/\AOk H A/\∃ ds,FS X.K CL H A xs ds/\Bh (Dq X.K CL Ab H0 A) W H (g ds) Q)
theorem Z1:Te X CL W (.type "list") (biD .list):=by
  intro A H0 pI s σ H xs us Q I r ⟨s0,hA,ds,rs,p⟩
  match ds,rs,p with
  |[.lst es],rs,p=>
    obtain⟨v,rfl,rv⟩:=rs.one;obtain⟨q,ys,rfl,sq,ry⟩:=rv.lst_of;exact OX pI s σ H _ us Q I r ⟨q,ys,rfl,.inl sq,fun l hl=>p _ _ (FM hl _) (J4 s0 hA hl ry)⟩
  |[.tup es],rs,p=>
    obtain⟨v,rfl,rv⟩:=rs.one;obtain⟨q,ys,rfl,_,sq,ry⟩:=rv.tup_of;exact OX pI s σ H _ us Q I r ⟨q,ys,rfl,.inr sq,fun l hl=>p _ _ (FM hl _) (J4 s0 hA hl ry)⟩
  |[],_,p=>exact p.elim
  |[.non],_,p=>exact p.elim
  |[.bl _],_,p=>exact p.elim
  |[.int _],_,p=>exact p.elim
  |[.str _],_,p=>exact p.elim
  |[.obj _ _],_,p=>exact p.elim
  |[.exc _ _],_,p=>exact p.elim
  |[.dic _],_,p=>exact p.elim
  |x::_::_,_,p=>cases x<;>exact p.elim
theorem aW{x:Ah}{g:Ad D->R D}(hc:Te X CL W (.type T) g)(hg:Gl X x)(hm:X.mg x=Ae)(hv:CY x=Aa (.type T))(ha:SAT X CL W (e::es) fs)(hn:x≠"__name__")(hdb:(x==("__debug__" : Ah))=Ac)(he:AA (e::es) X.env=(Ac,eval e X.env)::AA es X.env)(hpl:∀ pos,(B8 pos (AA es X.env)).any (·.1)=Ac):SC X CL W Ab (.Call (.Name x p) (e::es) [] pos) (fun ρ=>(fs ρ).bind g):=fun A pI s σ H Q I ⟨hA,ρ,gd,q⟩=>
 Pi (hc A H) hg hm hv (ha A) hn hdb he (hpl _) pI s σ H Q I ⟨hA,ρ,gd,Hc.bindF q fun ds vs H1 _ s1 r1 p1=>⟨s1,hA.same s1,ds,r1,p1⟩⟩
mutual
theorem Om{K:Fg}{H:Hp}{A:Aj->Prop}(hA:AOk H A):∀(n:Ag)(d:D){v:V},nlD n d=Ab->Rep K CL H A0 v d->Rep K CL H A v d
 |_,.non,_,_,h=>h
 |_,.bl _,_,_,h=>h
 |_,.int _,_,_,h=>h
 |_,.str _,_,_,h=>h
 |0,.tup _,_,hn,_=>by cases hn
 |n+1,.tup ds,_,hn,h=>by
  obtain⟨a,xs,e,_,s,r⟩:=h;refine⟨a,xs,e,?_,s,nls_up hA n ds hn r⟩;rcases s with s|s
  ·refine .inl fun z=>?_
   obtain⟨ys,q⟩:=hA a z;rcases s with s|⟨o,s⟩<;>rw[q]at s<;>cases s
  ·exact .inr s
 |n,.lst _,_,hn,_=>by cases n<;>cases hn
 |n,.obj _ _,_,hn,_=>by cases n<;>cases hn
 |n,.exc _ _,_,hn,_=>by cases n<;>cases hn
 |n,.dic _,_,hn,_=>by cases n<;>cases hn
theorem nls_up{K:Fg}{H:Hp}{A:Aj->Prop}(hA:AOk H A):∀(n:Ag)(ds:Ad D){vs:Ad V},ds.all (nlD n)=Ab->Reps K CL H A0 vs ds->Reps K CL H A vs ds
 |_,[],[],_,h=>h
 |n,d::ds,_::_,hn,h=>by
  simp only[FB,Ak]at hn;exact⟨Om hA n d hn.1 h.1,nls_up hA n ds hn.2 h.2⟩
 |_,[],_::_,_,h=>h.elim
 |_,_::_,[],_,h=>h.elim
end
theorem N5{fr:Ao}(hA0:AOk H0 A)(s:AE H0 H)(hc:Ft fr d=Ab)(r:Dq K CL fr H0 A0 H v d):Dq K CL fr H0 A H v d:=by
 have hA:=hA0.same s;cases d with
 |lst ds=>
  have hc':(fr&&ds.all (nlD 5))=Ab:=hc;rw[Ak]at hc';obtain⟨a,xs,e,h0,h1,rs⟩:=r.2 hc'.1 ds rfl;have hA2:AOk H (fun b=>A b\/b=a):=fun b hb=>hb.elim (hA b) fun e=>by rw[e];exact⟨xs,h1⟩
  have rs':=nls_up hA2 5 ds hc'.2 (Reps.sub (fun _ z=>z.elim) _ rs)
  refine⟨⟨a,xs,e,.inl (hA0.new h0),SqL.of h1,Reps.sub (fun _ z=>.inl z) _ rs'⟩,fun _ ds' e'=>?_⟩
  cases e';exact⟨a,xs,e,h0,h1,rs'⟩
 |_=>exact⟨Om hA 5 _ hc r.1,fun _ _ z=>nomatch z⟩
def spD(K:Fg)(CL:ClA)(n:Ag)(fr:Ao)(F:Ad D->R D):Sp:=fun vs H Q E=>∃(ds:Ad D)(A:Aj->Prop),vs.length=n/\AOk H A/\Reps K CL H A vs ds/\(match F ds with
  |.ok d=>∀ v H',AE H H'->Dq K CL fr H A H' v d->Q v H'
  |.exn x=>∀ cls dx H',AE H H'->FR K CL H' cls dx x->E cls dx H'
  | .bad=>AS)
def EKW(K:Fg)(CL:ClA)(A:Aj->Prop)(W:XW):XK:=fun cls dx H'=>∃ x,FR K CL H' cls dx x/\W x H'
theorem FS.plain{K:Fg}{H:Hp}{A:Aj->Prop}:∀{vs:Ad V}{ds:Ad D},FS K CL H A vs ds->Reps K CL H A0 vs ds
 |[],[],h=>trivial
 |_::_,_::_,h=>⟨h.1.plain,FS.plain h.2⟩
 |[],_::_,h=>h.elim
 |_::_,[],h=>h.elim
theorem Ym{CX:CXT}{fr:Ao}{f:Aj}{fd:BP}{ps:Ad Ah}{F:Ad D->R D}{x:Ah}{ft:Rho->R (Ad D)}{sh:Rho->Ao}(G:FnOk X.prog X.w X.K X.mg X.base CX k f fd ps (spD X.K CL n fr F))(hr:Room k X.A)(hg:Gl X x)(hm:X.mg x=Aa (.ref f))(hk:B0 X.K (.ref f)=Ab)(hb:Fp X.K fd ps [])(hx:∀ A,Kg CX X (EKW X.K CL A W))(ha:SA X CL W (e::es) fs)(hat:SAT X CL W (e::es) ft)(hst:∀ ρ,sh ρ=Ab->ft ρ=fs ρ)(hn:∀ ρ ds,ft ρ=.ok ds->ds.length=n)(hdb:(x==("__debug__" : Ah))=Ac)(he:AA (e::es) X.env=(Ac,eval e X.env)::AA es X.env)(hpl:∀ pos,(B8 pos (AA es X.env)).any (·.1)=Ac):SC X CL W fr (.Call (.Name x p) (e::es) [] pos) (fun ρ=>(ft ρ).bind fun ds=>(F ds).bind fun d=>if sh ρ=Ab then .ok d else if Ft fr d=Ab then .ok d else .bad):=fun A pI s σ H Q I ⟨hA,ρ,gd,q⟩=>by
 dsimp only at q;by_cases hs:sh ρ=Ab
 ·rw[hst ρ hs]at q;refine QC G hr hg hm hk hb .nil (hx A) (ha A) hdb he (hpl _) pI s σ H Q I ⟨hA,ρ,gd,?_⟩;cases e1:fs ρ with
  |bad=>rw[e1]at q;exact q
  |exn y=>rw[e1]at q;exact q
  |ok ds=>
   rw[e1]at q;intro vs H1 s1 r1;refine⟨ds,A,by rw[B1,r1.length];exact hn ρ ds (by rw[hst ρ hs];exact e1),hA.same s1,by rw[B1];exact r1,?_⟩
   have q':Bh (Dq X.K CL fr H A) W H ((F ds).bind fun d=>if sh ρ=Ab then .ok d else if Ft fr d=Ab then .ok d else .bad) Q:=q
   cases e2:F ds with
   |ok d=>
    rw[e2,R.bind_ok,Aw hs]at q';exact fun v H2 s2 r2=>q' v H2 (s1.trans s2) ⟨r2.1,fun z ds' e'=>let ⟨a,xs,z1,z2,z3⟩:=r2.2 z ds' e';⟨a,xs,z1,s1.free z2,z3⟩⟩
   |exn y=>rw[e2]at q';exact fun cls dx H2 s2 xr=>⟨y,xr,q' H2 (s1.trans s2)⟩
   |bad=>rw[e2]at q';exact q'.elim
 ·refine QC G hr hg hm hk hb .nil (hx A0) (hat A) hdb he (hpl _) pI s σ H Q I ⟨hA,ρ,gd,?_⟩;cases e1:ft ρ with
  |bad=>rw[e1]at q;exact q
  |exn y=>rw[e1]at q;exact q
  |ok ds=>
   rw[e1]at q;intro vs H1 s1 r1;refine⟨ds,A0,by rw[B1,r1.plain.length];exact hn ρ ds e1,fun _ z=>z.elim,by rw[B1];exact r1.plain,?_⟩
   have q':Bh (Dq X.K CL fr H A) W H ((F ds).bind fun d=>if sh ρ=Ab then .ok d else if Ft fr d=Ab then .ok d else .bad) Q:=q
   cases e2:F ds with
   |ok d=>
    rw[e2,R.bind_ok,Az hs]at q';split at q'
    ·rename_i hc;exact fun v H2 s2 r2=>q' v H2 (s1.trans s2) (N5 hA (s1.trans s2) hc ⟨r2.1,fun z ds' e'=>let ⟨a,xs,z1,z2,z3⟩:=r2.2 z ds' e';⟨a,xs,z1,s1.free z2,z3⟩⟩)
    ·exact q'.elim
   |exn y=>rw[e2]at q';exact fun cls dx H2 s2 xr=>⟨y,xr,q' H2 (s1.trans s2)⟩
   |bad=>rw[e2]at q';exact q'.elim
end
theorem MU(env:B5):∀(ns:Ad (Ah×DR))(acc:Ad (Ah×Aj)),(∀ x∈ns,x.2=.free->∃ c,env.cells.lookup x.1=Aa c)->(∀ x c,acc.lookup x=Aa c->env.cells.lookup x=Aa c) ->
  ∃ cl,(forIn ns acc fun(x:Ah×DR)(cs:Ad (Ah×Aj))=>(if (x.2==.free)=Ab then do let c <-cellOf env x.1;pure (DZ ((x.1,c)::cs)) else pure (DZ cs):Sem (ForInStep (Ad (Ah×Aj)))))=pure cl /\
   (∀ x c,cl.lookup x=Aa c->env.cells.lookup x=Aa c)/\(∀ x,((x,DC)∈ns\/∃ c,acc.lookup x=Aa c)->∃ c,cl.lookup x=Aa c)
 |[],acc,_,h2=>⟨acc,by rw[Gg],h2,fun x hx=>hx.elim (fun z=>nomatch z) id⟩
 |(n,k)::r,acc,h1,h2=>by
  rw[Hm];by_cases hk:k=.free
  ·subst hk;obtain⟨c,hc⟩:=h1 (n,.free) AH rfl;obtain⟨cl,e,p,q⟩:=MU env r ((n,c)::acc) (fun x hx=>h1 x (Ax _ hx)) (fun x d hd=>by
    rw[B4]at hd;split at hd
    ·rename_i hx;cases hd;rw[eq_of_beq hx];exact hc
    ·exact h2 x d hd)
   refine⟨cl,?_,p,fun x hx=>q x ?_⟩
   ·have e1:cellOf env n=pure c:=by unfold cellOf;dsimp only at hc;rw[hc]
    rw[Aw (by rfl),e1]
    exact e
   ·rcases hx with hx|⟨d,hd⟩
    ·rcases AB.mp hx with z|z
     ·cases z;exact .inr ⟨c,by simp[B4]⟩
     ·exact .inl z
    ·by_cases hxn:x=n
     ·exact .inr ⟨c,by subst hxn;simp[B4]⟩
     ·exact .inr ⟨d,by rw[B4];rw[Do.mpr hxn];exact hd⟩
  ·obtain⟨cl,e,p,q⟩:=MU env r acc (fun x hx=>h1 x (Ax _ hx)) h2
   refine⟨cl,?_,p,fun x hx=>q x ?_⟩
   ·rw[Az (by simpa using hk)]
    exact e
   ·rcases hx with hx|hx
    ·rcases AB.mp hx with z|z
     ·cases z;exact absurd rfl hk
     ·exact .inl z
    ·exact .inr hx
theorem Pu(h:∀ x∈scope.names,x.2=.free->∃ c,env.cells.lookup x.1=Aa c):∃ cl,closureFor scope env=pure cl/\(∀ x c,cl.lookup x=Aa c->env.cells.lookup x=Aa c)/\∀ x,(x,DC)∈scope.names->∃ c,cl.lookup x=Aa c:=by
 obtain⟨cl,e,p,q⟩:=MU env scope.names [] h (fun x c z=>by simp at z)
 refine⟨cl,?_,p,fun x hx=>q x (.inl hx)⟩
 unfold closureFor
 first
  |exact e
  |(simp only[bind_pure];exact e)
  |(rw[show (forIn scope.names ([]:Ad (Ah×Aj)) _:Sem _)=pure cl from e];rfl)
theorem M4:∀(names:Ad (Ah×DR))(h:AD)(acc:Ad (Ah×Aj))(x:Ah)(c:Aj),(CD h.objs.size names acc).lookup x=Aa c->acc.lookup x=Aa c\/((x,BQ)∈names/\h.objs.size<=c/\(Gz h names).IsCell c Ae)
 |[],_,_,_,_,e=>.inl e
 |(n,k)::r,h,acc,x,c,e=>by
  unfold CD at e;unfold Gz;by_cases hk:(k==BQ)=Ab
  ·rw[Aw hk]at e ⊢;have hs:h.objs.size+1=(h.push { cls:=.type "cell", data:=.cell Ae }).objs.size:=(Cc ..).symm;rw[hs]at e;rcases M4 r _ _ x c e with q|⟨q1,q2,q3⟩
   ·rw[B4]at q;cases hx:x==n with
    |true=>
     rw[hx]at q;cases q;refine .inr ⟨?_,AY _,?_⟩
     ·rw[eq_of_beq hx,eq_of_beq hk];exact AH
     ·exact⟨_,Hs r _ _ _ (AN _ rfl),rfl⟩
    |false=>rw[hx]at q;exact .inl q
   ·exact .inr ⟨Ax _ q1,by omega,q3⟩
  ·rw[Az hk]at e ⊢;rcases M4 r h acc x c e with q|⟨q1,q2,q3⟩
   ·exact .inl q
   ·exact .inr ⟨Ax _ q1,q2,q3⟩
theorem M5:∀(names:Ad (Ah×DR))(h:AD)(acc:Ad (Ah×Aj)),(∀ x y c,acc.lookup x=Aa c->acc.lookup y=Aa c->x=y)->(∀ x c,acc.lookup x=Aa c->c<h.objs.size)->∀ x y c,(CD h.objs.size names acc).lookup x=Aa c->(CD h.objs.size names acc).lookup y=Aa c->x=y
 |[],_,_,i,_,x,y,c,e1,e2=>i x y c e1 e2
 |(n,k)::r,h,acc,i,b,x,y,c,e1,e2=>by
  unfold CD at e1 e2;by_cases hk:(k==BQ)=Ab
  ·rw[Aw hk]at e1 e2;have hs:h.objs.size+1=(h.push { cls:=.type "cell", data:=.cell Ae }).objs.size:=(Cc ..).symm;rw[hs]at e1 e2;have look:∀ z d,Fu z ((n,h.objs.size)::acc)=Aa d->(z=n/\d=h.objs.size)\/(z≠n/\acc.lookup z=Aa d):=fun z d q=>by
    rw[B4]at q;cases hx:z==n with
    |true=>rw[hx]at q;cases q;exact .inl ⟨eq_of_beq hx,rfl⟩
    |false=>rw[hx]at q;exact .inr ⟨fun e=>by rw[e]at hx;simp at hx,q⟩
   refine M5 r _ _ (fun z z' d q q'=>?_) (fun z d q=>?_) x y c e1 e2
   ·rcases look z d q with ⟨rfl,q1⟩|⟨_,q1⟩<;>rcases look z' d q' with ⟨rfl,q2⟩|⟨_,q2⟩
    ·rfl
    ·exact absurd (b _ _ q2) (by rw[q1];exact Bu _)
    ·exact absurd (b _ _ q1) (by rw[q2];exact Bu _)
    ·exact i _ _ _ q1 q2
   ·rw[<-hs];rcases look z d q with ⟨_,q1⟩|⟨_,q1⟩
    ·rw[q1];exact FJ _
    ·exact De (b _ _ q1)
  ·rw[Az hk]at e1 e2;exact M5 r h acc i b x y c e1 e2
theorem MV:∀(names:Ad (Ah×DR))(n:Ag)(acc:Ad (Ah×Aj))(x:Ah),(x,BQ)∉names->(CD n names acc).lookup x=acc.lookup x
 |[],_,_,_,_=>rfl
 |(m,k)::r,n,acc,x,hx=>by
  unfold CD;have hr:(x,BQ)∉r:=fun z=>hx (Ax _ z)
  by_cases hk:(k==BQ)=Ab
  ·rw[Aw hk,MV r _ _ x hr,B4];cases q:x==m with
   |true=>exact absurd (by rw[eq_of_beq q,eq_of_beq hk];exact AH) hx
   |false=>rfl
  ·rw[Az hk];exact MV r n acc x hr
theorem M6(n0:Ag):∀(names:Ad (Ah×DR))(n:Ag)(acc:Ad (Ah×Aj))(x:Ah),n0<=n->((x,BQ)∈names\/∃ c,acc.lookup x=Aa c/\n0<=c)->∃ c,(CD n names acc).lookup x=Aa c/\n0<=c
 |[],_,_,_,_,h=>h.elim (fun z=>nomatch z) id
 |(m,k)::r,n,acc,x,hn,h=>by
  unfold CD;by_cases hk:(k==BQ)=Ab
  ·rw[Aw hk];refine M6 n0 r _ _ x (by omega) ?_
   by_cases hx:(x==m)=Ab
   ·exact .inr ⟨n,by rw[B4,hx],hn⟩
   ·rcases h with h|⟨c,h,hc⟩
    ·rcases AB.mp h with z|z
     ·cases z;simp at hx
     ·exact .inl z
    ·exact .inr ⟨c,by rw[B4];simp only[hx];exact h,hc⟩
  ·rw[Az hk];refine M6 n0 r _ _ x hn (h.imp (fun h=>?_) id)
   rcases AB.mp h with z|z
   ·cases z;simp at hk
   ·exact z
theorem VN{M:Gr}{A:AZ}{E:Vq}{globals:Aj}{qual:Ah}{Q:B5->Ar->Prop}(hQ:Q (newEnv scope s.heap.objs.size globals (CD (s.heap.objs.size+1) scope.names cl) qual Ae .none (Aa env) HR) { s with heap:=Gz (s.heap.push { cls:=.type "dict", data:=.dict #[] }) scope.names }):Ay M A (HL scope globals cl [] qual Ae .none (Aa env)) Q E s:=by
 simp only[HL,Option.isSome_some,Eo];refine Am (wpAny_alloc ?_);refine Am (wpAny_layCells _ (fun name kind cells=>by cases hkc:kind==BQ<;>simp[hkc]) _ _ _ _ ?_)
 rw[show ({ s with heap:=s.heap.push { cls:=.type "dict", data:=.dict #[] } }:Ar).heap.objs.size=s.heap.objs.size+1 from Cc ..]
 rw[Gg];exact Am (AJ (AJ hQ))
noncomputable def cxC(X:Cx)(scope:B9)(cl:Ad (Ah×Aj))(C:Aj)(N':Ad Ah)(s₀:Ar)(H₀:Hp)(fp:Ad Aj):Cx where
 prog:=X.prog
 w:=X.w
 K:=X.K
 mg:=X.mg
 base:=X.base
 A:=X.A
 N:=N'
 s₀:=s₀
 H₀:=H₀
 env:=compEnvC scope cl C X.env
 outer:=X.stack
 stack:=X.stack
 ex:=fp
 fn:=fun x=>scope.names.lookup x==Aa BQ
 calm:=X.calm
 pn:=[]
 xe:=fun _ _=>AS
theorem Lu{env:B5}:∀{names:Ad (Ah×DR)}{x:Ah}{k:DR},(names.map fun (n,k)=>if (k==DC&&env.scope.kind==.function&&env.kindOf n==Aa .cell) then (n,BQ) else (n,k)).lookup x=Aa k->names.lookup x=Aa k\/(k=.cell/\names.lookup x=Aa .free)
 |[],_,_,h=>by simp at h
 |(n,j)::r,x,k,h=>by
  have ih:=@Lu env r x k;have h':Fu x ((if (j==DC&&env.scope.kind==.function&&env.kindOf n==Aa .cell)=Ab then (n,BQ) else (n,j))::(r.map fun (n,k)=>if (k==DC&&env.scope.kind==.function&&env.kindOf n==Aa .cell) then (n,BQ) else (n,k)))=Aa k:=h
  by_cases hc:(j==DC&&env.scope.kind==.function&&env.kindOf n==Aa .cell)=Ab
  ·rw[Aw hc]at h';rw[B4]at h' ⊢;cases hx:x==n with
   |true=>
    rw[hx]at h';cases h';simp only[Ak]at hc;exact .inr ⟨rfl,by rw[eq_of_beq hc.1.1]⟩
   |false=>rw[hx]at h';exact ih h'
  ·rw[Az hc]at h';rw[B4]at h' ⊢;cases hx:x==n with
   |true=>rw[hx]at h';exact .inl h'
   |false=>rw[hx]at h';exact ih h'
structure BlockOk (X:Cx) (scope:B9) (N':Ad Ah) (ts:Ad Ag):Prop where
 kind:scope.kind=.function
 uniq:∀ y∈scope.names,scope.names.lookup y.1=Aa y.2
 names:∀ y∈scope.names,y.2=.local->scope.names.lookup y.1=Aa .local
 free:∀ y∈scope.names,y.2=.free->X.env.scope.names.lookup y.1=Aa .cell\/X.env.scope.names.lookup y.1=Aa .free
 len:N'.length=X.N.length
 same:∀ i x,N'[i]?=Aa x->scope.names.lookup x=Aa .free->i∉ts->X.N[i]?=Aa x
 loc:∀ i x,N'[i]?=Aa x->(scope.names.lookup x=Aa .local\/scope.names.lookup x=Aa .cell)->i∈ts
structure BCells (X:Cx) (scope:B9) (cl:Ad (Ah×Aj)) (C:Aj) (h:AD):Prop where
 own:∀ x c,cl.lookup x=Aa c->X.env.cells.lookup x=Aa c\/(scope.names.lookup x=Aa .cell/\C<c/\h.IsCell c Ae)
 inj:∀ x y c,cl.lookup x=Aa c->cl.lookup y=Aa c->x=y
 has:∀ x,scope.names.lookup x=Aa .cell->∃ c,cl.lookup x=Aa c/\C<c
 fr:∀ x,(x,DC)∈scope.names->∃ c,cl.lookup x=Aa c/\X.env.cells.lookup x=Aa c
section
variable{X:Cx}{pI:Pn}{σ:L2.St}{H:Hp}{s:Ar}
noncomputable def hideT(ts:Ad Ag)(σ:L2.St):L2.St:=ts.foldl (fun σ t=>σ.set t Ae) σ
theorem Nf:∀(ts:Ad Ag)(σ:L2.St),(hideT ts σ).length=σ.length
 |[],_=>rfl
 |t::ts,σ=>by show (hideT ts (σ.set t Ae)).length=_;rw[Nf ts,A2]
theorem PL:∀(ts:Ad Ag)(σ:L2.St){i:Ag}{v:V},(hideT ts σ)[i]?=Aa (Aa v)->σ[i]?=Aa (Aa v)/\i∉ts
 |[],_,_,_,h=>⟨h,by simp⟩
 |t::ts,σ,i,v,h=>by
  obtain⟨h1,h2⟩:=PL ts (σ.set t Ae) (i:=i) (v:=v) h;by_cases e:t=i
  ·subst e;have:=Gj h1;cases this
  ·rw[B7 e]at h1;exact⟨h1,by simp only[AB,D4];exact⟨fun z=>e z.symm,h2⟩⟩
theorem VU{tk:Ag}{C:Aj}{m:Ah->An Ai}(I:Inv X pI σ H s)(B:BlockOk X scope N' ts)(hf:∀ b∈fp,Gn X pI H b)(hfo:∀ b∈fp,b<s.heap.objs.size)(hb:BCells X scope cl C h')(hk:∀ b o,s.heap.get? b=Aa o->h'.get? b=Aa o)(hC:s.heap.objs.size<=C)(hn:h'.Ns C m):Inv (cxC X scope cl C N' s H fp) [] (hideT ts σ) H {s with heap:=h',toks:=tk}:=by
 have stf:∀ b∈fp,b∉frs X.stack:=fun b hb z=>by
  rcases AB.mp (I.stkSub b z) with e|e
  ·exact(hf b hb).2.1 e
  ·exact(hf b hb).2.2.1 e
 have frOf:∀ x,((relabel scope X.env).names.lookup x=Aa .cell\/(relabel scope X.env).names.lookup x=Aa .free)->scope.names.lookup x=Aa .free\/scope.names.lookup x=Aa .cell:=fun x hx=>by
  rcases hx with z|z
  ·rcases Lu z with z|⟨_,z⟩
   ·exact .inr z
   ·exact .inl z
  ·rcases Lu z with z|⟨z,_⟩
   ·exact .inl z
   ·cases z
 have gtC:∀ c:Aj,C<c->s.heap.objs.size<=c:=fun c z=>Co hC (F1 z)
 have cellK:∀ c v,s.heap.IsCell c v->h'.IsCell c v:=fun c v ⟨o,ho,hd⟩=>⟨o,hk _ _ ho,hd⟩
 refine⟨⟨I.ok.mod,B.kind,I.ok.glob,I.ok.blt,hC,hb.inj,fun x hx=>?_,fun x c h e=>?_,I.ok.hd,I.ok.frames,.inl rfl,fun b hbb=>⟨?_,fun x c e=>?_⟩,I.bs,Co I.ok.bsz I.sz,fun b o e hbb=>?_,stf,I.stack,I.stkFree⟩,rfl,I.bare,Un.kept hk,⟨m,hn,fun i x v h1 h2 h3=>?_⟩,fun x c e=>?_,I.hok.fresh hC,fun x c e=>(hb.own x c e).elim (I.freeC x c) (fun z=>I.hok.fresh (gtC c z.2.1)),fun p hp=>absurd (show p∈([]:Pn) from hp) (by simp),I.hok.kept hk,?_⟩
 ·rcases frOf x hx with z|z
  ·obtain⟨c,q,_⟩:=hb.fr x (Cv z);exact⟨c,q⟩
  ·obtain⟨c,q,_⟩:=hb.has x z;exact⟨c,q⟩
 ·obtain⟨c',q,z⟩:=hb.has x (eq_of_beq h);have e':cl.lookup x=Aa c:=e;rw[q]at e';cases e';exact gtC _ z
 ·intro z;have z':b=C:=z;have:=hfo b hbb;rw[z']at this;exact absurd (AQ this hC) (Bu _)
 ·rcases hb.own x c e with z|z
  ·exact(hf b hbb).2.2.2.2.1 x c z
  ·intro q;have:=hfo b hbb;have:=gtC c z.2.1;rw[q]at this;exact absurd ‹b<_› (UJ.mpr this)
 ·rcases (hf b hbb).2.2.2.1 with z|z
  ·exact I.ok.noex b o e z
  ·exact absurd (AQ (AG e) (Co I.ok.bsz z)) (Bu _)
 ·obtain⟨h2,hts⟩:=PL ts σ h2;have h3':(relabel scope X.env).names.lookup x=Aa .local\/(relabel scope X.env).names.lookup x=Aa .cell\/(relabel scope X.env).names.lookup x=Aa .free:=h3;have h1':N'[i]?=Aa x:=h1;rcases h3' with z|z
  ·rcases Lu z with z|⟨z,_⟩
   ·exact absurd (B.loc i x h1' (.inl z)) hts
   ·cases z
  ·have fr:=(frOf x z).resolve_right fun q=>hts (B.loc i x h1' (.inr q))
   have hm:=Cv fr;have hX:=B.same i x h1' fr hts;obtain⟨m0,hn0,hl0⟩:=I.loc;obtain⟨u,ru,lk⟩:=hl0 i x v hX h2 (by
    rcases B.free _ hm rfl with q|q
    ·exact .inr (.inl q)
    ·exact .inr (.inr q))
   refine⟨u,ru,?_⟩;obtain⟨c,hc,hcX⟩:=hb.fr x hm;rcases lk with ⟨q,_⟩|⟨_,c',hc',hcell⟩
   ·have q':X.env.scope.names.lookup x=Aa .local:=q;rcases B.free _ hm rfl with p|p
    ·rw[show X.env.scope.names.lookup x=_ from p]at q';cases q'
    ·rw[show X.env.scope.names.lookup x=_ from p]at q';cases q'
   ·have e:=hcX;rw[hc']at e;cases e;exact .inr ⟨z,c,hc,cellK _ _ hcell⟩
 ·rcases hb.own x c e with z|z
  ·obtain⟨v,q⟩:=I.cell x c z;exact⟨v,cellK _ _ q⟩
  ·exact⟨_,z.2.2⟩
 ·show (hideT ts σ).length=N'.length;rw[Nf,I.len,B.len]
theorem PX{C D:Aj}{s':Ar}{σ':L2.St}{pins':Pn}{h'':AD}{ys:Ad Ai}(I:Inv X pI σ H s)(hf:∀ b∈fp,Gn X pI H b)(I':Inv (cxC X scope cl C N' s H fp) pins' σ' H' s')(hD:s.heap.objs.size<=D)(hDC:D≠C)(hC:s.heap.objs.size<=C)(hd:s'.heap.get? D=Aa { cls:=.type "list", data:=.seq ys.toArray n })(hDn:H' D=Ae)(rv:Bi xs ys)(hz:xs.length<=sizeLine)(hs:Eh C s'.heap h''):Inv X pI σ (upd H' D (.lst xs)) {s' with heap:=h''}:=by
  have u:Un (frs X.stack) fp H H' s.heap s'.heap:=I'.base;have lt:∀ b o,s.heap.get? b=Aa o->b≠C/\b≠D:=fun b o e=>⟨fun z=>absurd (AQ (AG e) (z ▸ hC)) (Bu _),fun z=>absurd (AQ (AG e) (z ▸ hD)) (Bu _)⟩
  have HD:H D=Ae:=I.hok.fresh hD;have hCn:H' C=Ae:=I'.free;have kb:∀ b o,b≠C->s'.heap.get? b=Aa o->h''.get? b=Aa o:=fun b o hb e=>(hs.2 b hb).trans e
  have u2:Un (frs X.stack) fp H (upd H' D (.lst xs)) s.heap h'':=⟨fun b o e q hb hx=>kb b o (lt b o e).1 (u.keep b o e q hb hx),fun b o e q hb hx=>by
      obtain⟨sl,e1⟩:=u.slot b o e q hb hx;exact⟨sl,kb b _ (lt b o e).1 e1⟩,fun b o e q hx=>by rw[By (lt b o e).2];exact u.free b o e q hx,fun b o e hx=>by
      obtain⟨o',e1⟩:=u.there b o e hx;exact⟨o',kb b _ (lt b o e).1 e1⟩,fun b zs q=>by rw[By (Fo q HD)];exact u.tups b zs q,fun b o zs q=>by rw[By (Fo q HD)];exact u.frzs b o zs q,fun b ps q=>by rw[By (Fo q HD)];exact u.tbls b ps q⟩
  have hok:HOk X.prog X.w (upd H' D (.lst xs)) h'':=fun b o e=>by
    by_cases hb:b=D
    · subst hb;rw[E8]at e;cases e;exact⟨hz,ys,n,rv,kb _ _ hDC hd⟩
    · rw[By hb]at e;refine(I'.hok b o e).stay (fun c v hc q=>kb c v ?_ q) (fun c q=>by rw[By (Fo q hDn)];exact q) fun c zs q=>by rw[By (Fo q hDn)];exact q
      rcases hc with rfl|hc
      · exact Fo e hCn
      · exact Fo hc hCn
  exact I.call' (s':={s' with heap:=h''}) (ch:=fp) I'.os u2 hok I'.bare fun b hb=>⟨(hf b hb).2.2.2.1,(hf b hb).2.1,(hf b hb).2.2.2.2.1,(hf b hb).2.2.2.2.2⟩
end
def PTs(X:Cx)(ifs:Ad Ap)(tt:TT):Prop:=∀(pI:Pn)(s:Ar)(σ:L2.St)(H:Hp)(Q:Ao->Hp->Prop),Inv X pI σ H s->tt σ H Q ->
 Ay (model X.prog X.w) X.A (forIn ifs Ab fun c r=>if r=Ab then do let ok <-HK c X.env (eval c X.env);pure (DZ ok) else pure (DZ r)) (TP X pI σ Q) X.xe s
theorem Zf:PTs X [] (fun σ H Q=>Q Ab H):=fun pI s σ H Q I h=>wpAny_tests_nil ⟨H,I,h⟩
theorem Ze{t:TT}(h:PT X c t):PTs X [c] t:=fun pI s σ H Q I q=>wpAny_tests_one (h pI s σ H Q I q)
theorem V2{D:Aj}{ys:Ad Ai}{y:Ai}{E:Vq}{Q:Vq}(I:Inv X ((D,{ cls:=.type "list", data:=.seq ys.toArray n })::pI) σ H s)(hD:X.s₀.heap.objs.size<=D)(hp:∀ p∈X.pn++pI,p.1≠D)(hc:∀ x c,X.env.cells.lookup x=Aa c->c≠D)(hz:ys.length<=sizeLine)(h:∀ s',Inv X ((D,{ cls:=.type "list", data:=.seq (ys++[y]).toArray (n+1) })::pI) σ H s'->(∀ b o,b≠D->s.heap.get? b=Aa o->s'.heap.get? b=Aa o)->Q .none s'):Ay (model X.prog X.w) X.A (call (.builtin "list.append") [.ref D,y]) Q E s:=by
 obtain⟨e,hn,hL,hfs,_⟩:=I.pin (D,{ cls:=.type "list", data:=.seq ys.toArray n }) (Br _ AH);refine append_at (hsz:=by rw[AO];exact hz) e fun h' hs hd=>?_
 have hd':h'.get? D=Aa { cls:=.type "list", data:=.seq (ys++[y]).toArray (n+1) }:=by rw[hd];simp
 have kb:∀ b o,b≠D->s.heap.get? b=Aa o->h'.get? b=Aa o:=fun b o hb q=>(hs.2 b hb).trans q
 have I0:Inv X pI σ H s:=I.pins_of fun p hp=>I.pin p (Br _ (Ax _ hp))
 have I1:Inv X pI σ H {s with heap:=h'}:=I0.turned (t':=s.toks) kb hn hL (.inr hD) hc hp
 refine h _ (I1.pins_of fun p hp=>?_) kb
 rcases AB.mp hp with rfl|hp
 ·exact⟨hd',hn,hL,hfs,fun v z=>by
   have z':KB _ _=Kx v:=z;cases z'⟩
 ·exact I1.pin p (Br _ hp)
section
variable{prog:AR}{w:AC}{A:AZ}{R:Iw->Ar->Prop}{s:Ar}
theorem VT{target:Ap}{it acc:Ai}(I:Ag->Ar->Prop)(turn:∀ n s,I n s->Ay (model prog w) A (HN it) (fun r s₁=>match r with
      |none=>R (.ok .next) s₁
      | some v=>Ay (model prog w) A (F8 target it v) (fun _ s₁'=>Ay (model prog w) A (assign target env v) (fun _ s₂=>
          Ay (model prog w) A (forIn ifs Ab fun c r=>if r=Ab then do let ok <-HK c env (eval c env);pure (DZ ok) else pure (DZ r)) (fun ok s₃=>
            if ok=Ab then Ay (model prog w) A (eval elt env) (fun x s₄=>
              Ay (model prog w) A (call (.builtin "list.append") [acc,x]) (fun _ s₅=>∃ m,m<n/\I m s₅) (HM (model prog w) A env fun e s'=>R (.error e) s') s₄) (HM (model prog w) A env fun e s'=>R (.error e) s') s₃
            else ∃ m,m<n/\I m s₃) (HM (model prog w) A env fun e s'=>R (.error e) s') s₂) (HM (model prog w) A env fun e s'=>R (.error e) s') s₁') (HM (model prog w) A env fun e s'=>R (.error e) s') s₁) (HM (model prog w) A env fun e s'=>R (.error e) s') s)(n:Ag)(h:I n s):Fi (model prog w) A (.compLoop (.ListComp elt [⟨target,iter,ifs,0⟩] scope pos) 0 it acc env) R s:=by
  refine codeAny_loop rfl I (fun n s hI=>?_) n h
  show Ay _ A ((compTurn (.ListComp elt [⟨target,iter,ifs,0⟩] scope pos) 0 it acc env).onRaise (fun x=>do Gy x env;theTreesLotGoes x)) _ _ s
  refine wpAny_noted ?_;rw[compTurn_list];refine Am (DD (Am (Bg (turn n s hI) (fun r s₁ h₁=>?_) fun _ _ h'=>h')))
  cases r with
  |none=>exact AJ h₁
  |some v=>
    refine Am (Bg h₁ (fun _ s₁' h₁'=>?_) fun _ _ h'=>h')
    refine Am (Bg h₁' (fun _ s₂ h₂=>Am (Bg h₂ (fun ok s₃ h₃=>?_) fun _ _ h'=>h')) fun _ _ h'=>h')
    cases ok with
    |false=>exact AJ ⟨rfl,h₃⟩
    |true=>
      exact Am (Am (Bg h₃ (fun x s₄ h₄=>Am (Bg h₄ (fun _ s₅ h₅=>AJ (AJ ⟨rfl,h₅⟩)) fun _ _ h'=>h')) fun _ _ h'=>h'))
end
def KZ(J:It)(ts:Ad Ag)(g:TG)(tt:TT)(te:TE)(σ:L2.St)(H:Hp)(Q:VK):Prop:=∃ W:Ag->Ag->Ad V->L2.St->Hp->Prop,(∃ m,W 0 m [] (hideT ts σ) H)/\∀ i m xs σ H,W i m xs σ H ->
 (J.stop i H/\∀ p,H p=Ae->Q (.ref p) (upd H p (.lst xs))) \/
 (J.go i H/\xs.length<sizeLine/\∀ x H',J.yld i H x H'->g x σ H' fun σ2 H2=>tt σ2 H2 fun b H3=>if b=Ab then te σ2 H3 fun y H4=>∃ m',m'<m/\W (i+1) m' (xs++[y]) σ2 H4 else ∃ m',m'<m/\W (i+1) m' xs σ2 H3)
theorem Qg{g:TG}{it:Aj}{tn:Ag->AD->Prop}{E:Vq}{RR:Ai->Aj->Iw->Ar->Prop}(hc:X.calm=Ab)(B:BlockOk X scope N' ts)(I:Inv X pI σ H s)(T:Turn X.prog X.w X.K tg J fp it tn)(st:tn 0 s.heap)(hf:∀ b∈fp,Gn X pI H b)(hcl:∀ x c,cl.lookup x=Aa c->X.env.cells.lookup x=Aa c)(hcl2:∀ x,(x,DC)∈scope.names->∃ c,cl.lookup x=Aa c)(hg:∀ cl C s H,PG (cxC X scope cl C N' s H fp) tg g)(ht:∀ cl C s H,PTs (cxC X scope cl C N' s H fp) ifs tt)(he:∀ cl C s H,PE (cxC X scope cl C N' s H fp) elt te)(h:KZ J ts g tt te σ H Q)(hRR:∀ cl D C s' H' σ' pins' xs ys n m,Inv (cxC X scope cl C N' s H fp) pins' σ' H' s'->s'.heap.get? D=Aa { cls:=.type "list", data:=.seq (E1 ys) n }->H' D=Ae->Bi xs ys->xs.length<=sizeLine->s.heap.objs.size<=D->D≠C->s.heap.objs.size<=C->s'.heap.Ns C m->Q (.ref D) (upd H' D (.lst xs))->RR (.ref D) C (.ok .next) s'):Ay (model X.prog X.w) X.A (newList []) (fun acc s₃=>Ay (model X.prog X.w) X.A (HL scope X.env.globals cl [] X.env.qual Ae .none (Aa X.env)) (fun cenv s₄=>Fi (model X.prog X.w) X.A (.compStart (.ListComp elt [⟨tg,iter,ifs,0⟩] scope pos) 0 (.ref it) acc {cenv with scope:=relabel scope X.env}) (RR acc cenv.locals) s₄) E s₃) E s:=by
 refine CO (VN ?_);dsimp only;generalize hH2:s.heap.push { cls:=.type "list", dict:=Ae,data:=.seq ([]:Ad Ai).toArray }=H2;have hns₁:(Gz (H2.push { cls:=.type "dict", data:=.dict #[] }) scope.names).Ns H2.objs.size (fun _=>Ae):=(Heap.Ns.new H2 (.type "dict")).keeps (Hs _ _)
 have hkp₁:∀ b o,H2.get? b=Aa o->(Gz (H2.push { cls:=.type "dict", data:=.dict #[] }) scope.names).get? b=Aa o:=fun b o e=>Hs _ _ b o (Au _ e)
 have hown:=M4 scope.names (H2.push { cls:=.type "dict", data:=.dict #[] }) cl;have hinj:=M5 scope.names (H2.push { cls:=.type "dict", data:=.dict #[] }) cl;rw[Cc]at hown hinj;generalize hcl':CD (H2.objs.size+1) scope.names cl=cl' at hown hinj;have hcf:∀ x,(x,BQ)∉scope.names->cl'.lookup x=cl.lookup x:=fun x hx=>by rw[<-hcl'];exact MV _ _ _ x hx
 have hch:∀ x,(x,BQ)∈scope.names->∃ c,cl'.lookup x=Aa c/\H2.objs.size+1<=c:=fun x hx=>by rw[<-hcl'];exact M6 _ _ _ _ x (AY _) (.inl hx)
 generalize hh₁:Gz (H2.push { cls:=.type "dict", data:=.dict #[] }) scope.names=h₁ at hns₁ hkp₁ hown;have hC:H2.objs.size=s.heap.objs.size+1:=by rw[<-hH2,Cc]
 have hCle:s.heap.objs.size<=H2.objs.size:=by rw[hC];exact UH _
 have hDC:s.heap.objs.size≠H2.objs.size:=by rw[hC];exact Bb (FJ _)
 have below:∀ b,b<s.heap.objs.size->b≠H2.objs.size:=fun b hb=>by rw[hC];exact Bb (De hb)
 have old:∀ b o,s.heap.get? b=Aa o->h₁.get? b=Aa o:=fun b o e=>hkp₁ b o (hH2 ▸ Au _ e)
 have hacc:h₁.get? s.heap.objs.size=Aa { cls:=.type "list", data:=.seq ([]:Ad Ai).toArray 0 }:=hkp₁ _ _ (hH2 ▸ AN _ rfl);have clt:∀ x c,cl.lookup x=Aa c->c<s.heap.objs.size:=fun x c e=>by
  obtain⟨v,q⟩:=I.cell x c (hcl x c e);exact q.lt
 have bc:BCells X scope cl' H2.objs.size h₁:=by
  refine⟨fun x c e=>?_,hinj (fun x y c e1 e2=>I.ok.inj x y c (hcl x c e1) (hcl y c e2)) (fun x c e=>De (AQ (clt x c e) hCle)),fun x hx=>?_,fun x hx=>?_⟩
  ·rcases hown x c e with q|⟨q1,q2,q3⟩
   ·exact .inl (hcl x c q)
   ·exact .inr ⟨B.uniq _ q1,q2,q3⟩
  ·have hm:=Cv hx;obtain⟨c,e,hc⟩:=hch x hm;exact⟨c,e,hc⟩
  ·have hno:(x,BQ)∉scope.names:=fun z=>by
    have e1:=B.uniq _ hx;have e2:=B.uniq _ z;rw[show scope.names.lookup x=_ from e1]at e2
    cases e2
   obtain⟨c,e⟩:=hcl2 x hx;exact⟨c,by rw[hcf x hno];exact e,hcl x c e⟩
 have hfo:∀ b∈fp,b<s.heap.objs.size:=fun b hb=>by
  obtain⟨o,e,_⟩:=T.obj 0 _ st b hb;exact AG e
 generalize hD:s.heap.objs.size=D at *;generalize hC':H2.objs.size=C at *;have I0:Inv (cxC X scope cl' C N' s H fp) [] (hideT ts σ) H {s with heap:=h₁,toks:=s.toks+([]:Ad (Ah×Ai)).length}:=VU (tk:=s.toks+([]:Ad (Ah×Ai)).length) I B hf (fun b hb=>by rw[hD];exact hfo b hb) bc old (by rw[hD];exact hCle) hns₁
 have nD:H D=Ae:=I.hok.fresh (by rw[hD];exact AY _)
 have noD:∀ b∈fp,b≠D:=fun b hb=>Bb (hfo b hb)
 have noC:∀ b∈fp,b≠C:=fun b hb=>below b (hfo b hb)
 have stfs:D∉frs X.stack:=fun z=>by
  obtain⟨_,o,ho,_⟩:=I.stack.mem z;exact absurd (AG ho) (by rw[hD];exact Bu _)
 have cD:∀ x c,cl'.lookup x=Aa c->c≠D:=fun x c e z=>by
  rcases bc.own x c e with q|⟨_,q,_⟩
  ·obtain⟨v,q⟩:=I.cell x c q;exact absurd q.lt (by rw[z,hD];exact Bu _)
  ·rw[z]at q;exact absurd (AQ q hCle) (Bu _)
 have I1:Inv (cxC X scope cl' C N' s H fp) [(D,{ cls:=.type "list", data:=.seq ([]:Ad Ai).toArray 0 })] (hideT ts σ) H {s with heap:=h₁,toks:=s.toks+([]:Ad (Ah×Ai)).length}:=I0.pins_of fun p hp=>by
  have e:=BE.mp hp;subst e;exact⟨hacc,nD,hDC,stfs,fun v z=>by
   have z':KB _ _=Kx v:=z;cases z'⟩
 have st1:tn 0 h₁:=T.keep _ _ _ st fun b _ o e=>old b o e
 obtain⟨W,⟨m0,w0⟩,turn⟩:=h;have fpk:∀{pl:Pn}{H':Hp},(∀ p∈pl,p.1=D)->(∀ b∈fp,H' b=Ae)->∀ b∈fp,Gn (cxC X scope cl' C N' s H fp) pl H' b:=fun {pl H'} hp hn b hb=>
  ⟨hn b hb,noC b hb,fun z=>by
   rcases AB.mp (I.stkSub b z) with e|e
   ·exact(hf b hb).2.1 e
   ·exact(hf b hb).2.2.1 e,.inl hb,fun x c e=>(bc.own x c e).elim ((hf b hb).2.2.2.2.1 x c) (fun z q=>absurd (E2 hCle z.2.1) (UJ.mpr (by rw[q];exact F1 (hfo b hb)))),fun p hp'=>by
   have hp2:p∈pl:=hp';rw[hp p hp2];exact(noD b hb).symm⟩
 have loop:∀ s₃:Ar,s₃={s with heap:=h₁,toks:=s.toks+([]:Ad (Ah×Ai)).length} ->
   Fi (model X.prog X.w) X.A (.compLoop (.ListComp elt [⟨tg,iter,ifs,0⟩] scope pos) 0 (.ref it) (.ref D) (compEnvC scope cl' C X.env)) (RR (.ref D) C) s₃:=by
  rintro s₃ rfl;refine VT (fun k s'=>∃ i σ' H' xs ys n,Inv (cxC X scope cl' C N' s H fp) [(D,{ cls:=.type "list", data:=.seq (E1 ys) n })] σ' H' s'/\tn i s'.heap/\(∀ b∈fp,H' b=Ae)/\Bi xs ys/\xs.length<=sizeLine/\W i k xs σ' H') ?_ m0
   ⟨0,_,H,[],[],0,I1,st1,fun b hb=>(hf b hb).1,.nil,Fv _,w0⟩
  rintro k s' ⟨i,σ',H',xs,ys,n,I',st',fr',rv,hz,w'⟩;have one:∀ p∈[((D,{ cls:=.type "list", data:=.seq (E1 ys) n }):Aj×CW)],p.1=D:=fun p hp=>by rw[BE.mp hp]
  rcases turn i k xs σ' H' w' with ⟨stop,q⟩|⟨go,hlt,step⟩
  ·refine Bg (T.done (cxC X scope cl' C N' s H fp) rfl rfl rfl hc i _ s' σ' H' (fun _ _=>AS) I' (fpk one fr') st' stop) (fun r s1 ⟨hr,J1⟩=>?_) fun _ _ f=>f.elim
   subst hr;obtain⟨e,hn,_⟩:=J1.pin _ (Br _ AH);obtain⟨m,hm,_⟩:=J1.loc;exact hRR cl' D C s1 H' σ' _ xs ys n m J1 e hn rv hz (AY _) hDC hCle hm (q D hn)
  ·refine Bg (T.item (cxC X scope cl' C N' s H fp) rfl rfl rfl hc i _ s' σ' H' (fun _ _=>AS) I' (fpk one fr') st' go) (fun r s1 ⟨u,hr,h4⟩=>?_) fun _ _ f=>f.elim
   subst hr;refine Bg h4 (fun _ s5 ⟨x,H5,I5,r5,y5,st5,fr5⟩=>?_) fun _ _ f=>f.elim
   have I5':=I5.pinned (fpk one fr5) (T.obj _ _ st5);refine Bg (hg cl' C s H _ s5 σ' H5 x u _ I5' r5 (step x H5 y5)) (fun _ s6 ⟨σ6,H6,I6,q6⟩=>?_) fun _ _ f=>f.elim
   refine Bg (ht cl' C s H _ s6 σ6 H6 _ I6 q6) (fun ok s7 ⟨H7,I7,q7⟩=>?_) fun _ _ f=>f.elim
   have again:∀{s8:Ar}{H8:Hp}{ys':Ad Ai}{n':Ag},Inv (cxC X scope cl' C N' s H fp) ((D,{ cls:=.type "list", data:=.seq (E1 ys') n' })::Jr fp s5.heap) σ6 H8 s8->Inv (cxC X scope cl' C N' s H fp) [(D,{ cls:=.type "list", data:=.seq (E1 ys') n' })] σ6 H8 s8/\tn (i+1) s8.heap/\∀ b∈fp,H8 b=Ae:=fun {s8 H8 ys' n'} I8=>
    ⟨I8.pins_of fun p hp=>I8.pin p (Br _ (by rw[BE.mp hp];exact AH)),T.keep _ _ _ st5 fun b hb o e=>(I8.pin (b,o) (Br _ (Ax _ (LI hb e)))).1,fun b hb=>by
     obtain⟨o,e,d⟩:=T.obj _ _ st5 b hb;exact(I8.pin (b,o) (Br _ (Ax _ (LI hb e)))).2.1⟩
   cases ok with
   |false=>
    rw[Az (by decide)]at q7
    obtain⟨m',hm,w7⟩:=q7;obtain⟨a1,a2,a3⟩:=again I7;rw[Az (by decide)]
    exact⟨m',hm,i+1,σ6,H7,xs,ys,n,a1,a2,a3,rv,hz,w7⟩
   |true=>
    rw[Aw rfl]at q7;rw[Aw rfl];refine Bg (he cl' C s H _ s7 σ6 H7 _ I7 q7) (fun val s8 ⟨y,H8,I8,r8,m',hm,w8⟩=>?_) fun _ _ f=>f.elim
    have hl:=rv.length;refine V2 (X:=cxC X scope cl' C N' s H fp) (ys:=ys) (n:=n) (pI:=Jr fp s5.heap) I8 (by show s.heap.objs.size<=D;rw[hD];exact AY _) (fun p hp=>?_) cD (by omega) fun s9 I9 kb=>?_
    ·have hp2:p∈Jr fp s5.heap:=hp;exact noD _ (Pj hp2).1
    ·obtain⟨a1,a2,a3⟩:=again I9;exact⟨m',hm,i+1,σ6,H8,xs++[y],ys++[val],n+1,a1,a2,a3,rv.append (.cons r8 .nil),by rw[Dt];exact hlt,w8⟩
 exact codeAny_compStart_list (loop _ rfl) (T.self _ 0 _ _ _ st1 (loop _ rfl))
theorem Zo{g:TG}(hc:X.calm=Ab)(B:BlockOk X scope N' ts)(hi:PI X tg iter wi)(hg:∀ cl C s H fp,PG (cxC X scope cl C N' s H fp) tg g)(ht:∀ cl C s H fp,PTs (cxC X scope cl C N' s H fp) ifs tt)(he:∀ cl C s H fp,PE (cxC X scope cl C N' s H fp) elt te)(hs:∀ x,CN iter X.env x=pure x):PE X (.ListComp elt [⟨tg,iter,ifs,0⟩] scope pos) (fun σ H Q=>wi σ H fun J H1=>KZ J ts g tt te σ H1 Q):=by
 intro pI s σ H Q I h;obtain⟨cl,hclos,hcl,hcl2⟩:=Pu (scope:=scope) (env:=X.env) fun x hx hk=>I.ok.has x.1 ((B.free x hx hk).imp id id)
 rw[eval_ListComp];refine VE (use:=Ae) rfl hs hclos B.kind B.names (thn (hi pI s σ H _ I h) fun v s1 h1=>thn h1 fun itv s2 h2=>?_)
 obtain⟨it,fp,tn,J,H2,e,I2,T,st2,f2,h3⟩:=h2;subst e;refine Qg (RR:=fun acc C=>compPost (model X.prog X.w) X.A X.xe Ae (EP X pI σ Q) acc C) hc B I2 T st2 f2 hcl hcl2 (fun cl C s H=>hg cl C s H fp) (fun cl C s H=>ht cl C s H fp) (fun cl C s H=>he cl C s H fp) h3 fun cl' D C s' H' σ' pins' xs ys n m I' hd hDn rv hz hD hDC hC hm q=>?_
 exact⟨m,hm,fun h'' hs''=>⟨.ref D,_,PX I2 f2 I' hD hDC hC hd hDn rv hz hs'',rfl,q⟩⟩
theorem Zj{n:Ah}{g:TG}(hc:X.calm=Ab)(B:BlockOk X scope N' ts)(hi:PI X tg iter wi)(hg:∀ cl C s H fp,PG (cxC X scope cl C N' s H fp) tg g)(ht:∀ cl C s H fp,PTs (cxC X scope cl C N' s H fp) ifs tt)(he:∀ cl C s H fp,PE (cxC X scope cl C N' s H fp) elt te)(hs:∀ x,CN iter X.env x=pure x)(hN:X.N.Nodup)(hni:X.N[i]?=Aa n)(hx:X.env.scope.names.lookup n=Aa .local)(hsw:Di (.ListComp elt [⟨tg,iter,ifs,0⟩] scope pos) (Aa (.Name n pos')) pos2.line X.env=pure Ab):PS X (.Assign [.Name n pos'] (.ListComp elt [⟨tg,iter,ifs,0⟩] scope pos) pos2) (Mr (fun σ H Q=>wi σ H fun J H1=>KZ J ts g tt te σ H1 Q) (EN i)):=by
 intro pI s σ H Dn I h;obtain⟨cl,hclos,hcl,hcl2⟩:=Pu (scope:=scope) (env:=X.env) fun x hx hk=>I.ok.has x.1 ((B.free x hx hk).imp id id)
 rw[exec_Assign_Name_used _ _ _ _ hsw];refine Am (DD (Am ?_));show Ay _ X.A (do let _ <-comprehension (.ListComp elt [⟨tg,iter,ifs,0⟩] scope pos) scope X.env _ (newList []) Ac (eval iter X.env) (Aa (assign (.Name n pos') X.env))) _ _ s
 refine Am (Bg (VE (use:=Aa (assign (.Name n pos') X.env)) (Q:=fun _ s'=>SP X pI Dn .next s') rfl hs hclos B.kind B.names
  (thn (hi pI s σ H _ I h) fun v s1 h1=>thn h1 fun itv s2 h2=>?_)) (fun _ s' hq=>AJ (AJ hq)) fun _ _ e=>e)
 obtain⟨it,fp,tn,J,H2,e,I2,T,st2,f2,h3⟩:=h2;subst e;refine Qg (RR:=fun acc C=>compPost (model X.prog X.w) X.A X.xe (Aa (assign (.Name n pos') X.env)) (fun _ s'=>SP X pI Dn .next s') acc C) hc B I2 T st2 f2 hcl hcl2 (fun cl C s H=>hg cl C s H fp) (fun cl C s H=>ht cl C s H fp) (fun cl C s H=>he cl C s H fp) h3 fun cl' D C s' H' σ' pins' xs ys n' m I' hd hDn rv hz hD hDC hC hm q=>?_
 have J0:Inv X pI σ (upd H' D (.lst xs)) s':=PX I2 f2 I' hD hDC hC hd hDn rv hz (U7 ..);refine VD (Pd J0 hN hni (.inl hx) (show BB (.ref D) (.ref D) from rfl) (fun s'' J1 ⟨a,sb,ha⟩=>?_) (.inr hx))
 have hC0:X.s₀.heap.objs.size<=C:=Co I2.sz hC;have hL:C≠X.env.locals:=fun z=>absurd (AQ I2.lt (z ▸ hC)) (Bu _)
 have hcC:∀ x c,X.env.cells.lookup x=Aa c->c≠C:=fun x c e z=>by
  obtain⟨v,q'⟩:=I2.cell x c e;exact absurd (AQ q'.lt (by rw[z];exact hC)) (Bu _)
 have hp:∀ p∈X.pn++pI,p.1≠C:=fun p hp z=>absurd (AQ (AG (I2.pin p hp).1) (by rw[z];exact hC)) (Bu _)
 have hCn:upd H' D (.lst xs) C=Ae:=by rw[By hDC.symm];exact I'.free
 have hCa:C≠a:=by
  rcases ha with rfl|ha
  ·exact hL
  ·exact fun z=>hcC n a ha z.symm
 refine⟨m,hm.sameBut sb hCa,fun h'' hs''=>⟨_,_,J1.turned (t':=s''.toks) (fun b o hb e=>(hs''.2 b hb).trans e) hCn hL (.inr hC0) hcC hp,q⟩⟩
theorem JS:∀(ts:Ad Ag)(ρ:Rho)(j:Ag),(E9 ts ρ)[j]?=if j∈ts then (ρ[j]?).map (fun _=>Ae) else ρ[j]?
 |[],ρ,j=>by simp[E9]
 |t::ts,ρ,j=>by
  show (E9 ts (ρ.set t Ae))[j]?=_;rw[JS ts];by_cases h1:j∈ts
  ·rw[Aw h1,Aw (Ax _ h1)];by_cases h2:t=j
   ·subst h2;rw[Fk];cases ρ[t]?<;>rfl
   ·rw[B7 h2]
  ·rw[Az h1];by_cases h2:t=j
   ·subst h2;rw[Aw AH,Fk];cases ρ[t]?<;>rfl
   ·rw[B7 h2,Az (by simp only[AB,D4];exact⟨fun z=>h2 z.symm,h1⟩)]
theorem LD:∀(ts:Ad Ag)(ρ:Rho),(E9 ts ρ).length=ρ.length
 |[],_=>rfl
 |t::ts,ρ=>by show (E9 ts (ρ.set t Ae)).length=_;rw[LD ts,A2]
theorem MT:∀(ts:Ad Ag)(σ:L2.St){i:Ag},i∉ts->(hideT ts σ)[i]?=σ[i]?
 |[],_,_,_=>rfl
 |t::ts,σ,i,h=>by
  simp only[AB,D4]at h;show (hideT ts (σ.set t Ae))[i]?=_;rw[MT ts _ h.2,B7 (fun z=>h.1 z.symm)]
theorem OW:∀(ts:Ad Ag)(ds:Ad D)(ρ1 ρ2:Rho),ρ1.length=ρ2.length->(∀ j,j∉ts->ρ1[j]?=ρ2[j]?)->Eu ts ds ρ1=Eu ts ds ρ2
 |[],[],ρ1,ρ2,hl,h=>congrArg Aa (Ul fun j=>h j (by simp))
 |[],_::_,_,_,_,_=>rfl
 |_::_,[],_,_,_,_=>rfl
 |t::ts,d::ds,ρ1,ρ2,hl,h=>by
  refine OW ts ds _ _ (by rw[A2,A2];exact hl) fun j hj=>?_
  by_cases e:t=j
  ·subst e;rw[GN,GN,Aw rfl,Aw rfl,hl]
  ·rw[B7 e,B7 e];exact h j (by simp only[AB,D4];exact⟨fun z=>e z.symm,hj⟩)
theorem O9:∀(ts us:Ad Ag)(ds:Ad D)(ρ ρ':Rho),(∀ t∈ts,t∈us)->Eu ts ds ρ=Aa ρ'->E9 us ρ'=E9 us ρ
 |[],us,[],ρ,ρ',_,e=>by cases e;rfl
 |t::ts,us,d::ds,ρ,ρ',hs,e=>by
  rw[O9 ts us ds _ ρ' (fun u hu=>hs u (Ax _ hu)) e]
  refine Ul fun j=>?_
  rw[JS,JS];by_cases h:j∈us
  ·rw[Aw h,Aw h,GN];split
   ·rename_i e2;subst e2;split
    ·rename_i h3;rw[Cb h3];rfl
    ·rename_i h3;rw[List.getElem?_eq_none (by omega)]
   ·rfl
  ·rw[Az h,Az h,B7];rintro rfl;exact h (hs _ AH)
 |[],_,_::_,_,_,_,e=>by cases e
 |_::_,_,[],_,_,_,e=>by cases e
section
variable{K:Fg}{CL:ClA}{A:Aj->Prop}{ρ ρ':Rho}{σ:L2.St}{H:Hp}
theorem Good.less(g:Good K CL A ρ σ H)(hl:ρ'.length=ρ.length)(h:∀(i:Ag)(d:D)(o:Ao),ρ'[i]?=Aa (Aa (d,o))->ρ[i]?=Aa (Aa (d,o))):Good K CL A ρ' σ H:=⟨fun i d e=>g.sh i d (h i d Ac e),fun i d e=>g.ow i d (h i d Ab e),hl.trans g.len⟩
theorem Good.put(g:Good K CL A ρ σ H)(t:Ag)(r:Rep K CL H A v d):Good K CL A (ρ.set t (Aa (d,Ac))) (σ.set t (Aa v)) H:=by
 refine⟨fun j e h=>?_,fun j e h=>?_,by rw[A2,A2];exact g.len⟩
 ·by_cases hj:t=j
  ·subst hj;have e1:=Gj h;cases e1;have hl:t<σ.length:=by
    rw[<-g.len];have:=(A7.mp h).1;simpa using this
   exact⟨v,by rw[CV hl],r⟩
  ·rw[B7 hj]at h;obtain⟨w',q,rw'⟩:=g.sh j e h;exact⟨w',by rw[B7 hj];exact q,rw'⟩
 ·have hj:t≠j:=by
   rintro rfl;have:=Gj h;cases this
  rw[B7 hj]at h;obtain⟨a,xs,ds,q,z⟩:=g.ow j e h;exact⟨a,xs,ds,by rw[B7 hj];exact q,z⟩
theorem Good.hide(g:Good K CL A ρ σ H)(ts:Ad Ag):Good K CL A (E9 ts ρ) σ H:=g.less (LD _ _) fun i d o e=>by
 rw[JS]at e;split at e
 ·cases q:ρ[i]? with
  |none=>rw[q]at e;cases e
  |some x=>rw[q]at e;cases e
 ·exact e
theorem Good.hideT(g:Good K CL A ρ σ H)(ts:Ad Ag):Good K CL A (E9 ts ρ) (hideT ts σ) H:=by
 have key:∀ i x,(E9 ts ρ)[i]?=Aa (Aa x)->ρ[i]?=Aa (Aa x)/\i∉ts:=fun i x e=>by
  rw[JS]at e;split at e
  ·cases q:ρ[i]? with
   |none=>rw[q]at e;cases e
   |some x=>rw[q]at e;cases e
  ·exact⟨e,by assumption⟩
 refine⟨fun i d e=>?_,fun i d e=>?_,by rw[LD,Nf];exact g.len⟩
 ·obtain⟨e1,e2⟩:=key i _ e;obtain⟨v,q,r⟩:=g.sh i d e1;exact⟨v,by rw[MT _ _ e2];exact q,r⟩
 ·obtain⟨e1,e2⟩:=key i _ e;obtain⟨a,xs,ds,q,r⟩:=g.ow i d e1;exact⟨a,xs,ds,by rw[MT _ _ e2];exact q,r⟩
end
def GG(K:Fg)(CL:ClA)(ts:Ad Ag)(as:D->Rho->R Rho)(g:TG):Prop:=∀ A ρ σ H v d ρ' Q,Good K CL A (E9 ts ρ) σ H->Rep K CL H A v d->as d ρ=.ok ρ'->(∀ σ',Good K CL A ρ' σ' H->Good K CL A (E9 ts ρ) σ' H->Q σ' H)->g v σ H Q
theorem YK(i:Ag):GG K CL [i] (fun d ρ=>.ok (ρ.set i (Aa (d,Ac)))) (EN i):=fun A ρ σ H v d ρ' Q g r e k=>by
 cases e;have g2:=g.put i r;have e1:(E9 [i] ρ).set i (Aa (d,Ac))=ρ.set i (Aa (d,Ac)):=by
  show (ρ.set i Ae).set i (Aa (d,Ac))=_;rw[UD]
 rw[e1]at g2;refine k _ g2 ?_;have:=g2.hide [i];have e2:E9 [i] (ρ.set i (Aa (d,Ac)))=E9 [i] ρ:=by
  show (ρ.set i _).set i Ae=ρ.set i Ae;rw[UD]
 rw[e2]at this;exact this
theorem Ra{K:Fg}{CL:ClA}{A:Aj->Prop}{H:Hp}:∀(ts:Ad Ag)(ds:Ad D)(vs:Ad V)(ρ ρ':Rho)(σ:L2.St)(Q:L2.St->Hp->Prop),Good K CL A ρ σ H->Reps K CL H A vs ds->Eu ts ds ρ=Aa ρ'->(∀ σ',Good K CL A ρ' σ' H->Q σ' H)->(ts.foldr (fun t u=>Ha (EN t) u) Hh) vs σ H Q
 |[],[],[],ρ,ρ',σ,Q,x,_,e,k=>by
  cases e;exact⟨rfl,k σ x⟩
 |t::ts,d::ds,v::vs,ρ,ρ',σ,Q,x,r,e,k=>⟨v,vs,rfl,Ra ts ds vs _ ρ' _ Q (x.put t r.1) r.2 e k⟩
 |[],_::_,_,_,_,_,_,_,_,e,_=>by cases e
 |_::_,[],_,_,_,_,_,_,_,e,_=>by cases e
 |[],[],_::_,_,_,_,_,_,r,_,_=>r.elim
 |_::_,_::_,[],_,_,_,_,_,r,_,_=>r.elim
theorem fO(ts:Ad Ag):GG K CL ts (FO ts) (Ko K ts.length (ts.foldr (fun t u=>Ha (EN t) u) Hh)):=fun A ρ σ H v d ρ' Q g r e k=>by
 cases d with
 |tup ds=>
  obtain⟨a,xs,rfl,na,sq,rs⟩:=r;rw[Pv]at e;cases e2:Eu ts ds ρ with
  |none=>rw[e2]at e;cases e
  |some ρ2=>
   rw[e2]at e;cases e;have e3:Eu ts ds (E9 ts ρ)=Aa ρ':=by
    rw[<-e2];exact OW ts ds _ _ (LD _ _) fun j hj=>by rw[JS,Az hj]
   refine⟨a,xs,rfl,sq,by rw[rs.length];exact LH _ _ _ _ e2,Ra ts ds xs _ ρ' σ Q g rs e3 fun σ' g'=>k σ' g' ?_⟩
   have:=g'.hide ts;rw[O9 ts ts ds ρ ρ' (fun _ h=>h) e2]at this
   exact this
 |_=>cases e
noncomputable abbrev W0:XW:=fun _ _=>AS
def STs(X:Cx)(CL:ClA)(ifs:Ad Ap)(f:Rho->R Ao):Prop:=∀ A,PTs X ifs (fun σ H Q=>AOk H A/\∃ ρ,Good X.K CL A ρ σ H/\C5 W0 H (f ρ) Q)
theorem X2:STs X CL [] (fun _=>.ok Ab):=fun A pI s σ H Q I ⟨hA,ρ,g,p⟩=>Zf pI s σ H Q I (p H (AE.refl H))
theorem X1(h:SB X CL W0 c f):STs X CL [c] f:=fun A pI s σ H Q I q=>Ze (h A) pI s σ H Q I q
section
variable{X:Cx}{CL:ClA}{W:XW}{tg iter elt:Ap}{ifs:Ad Ap}{scope:B9}{pos:AM}{N':Ad Ah}{ts:Ad Ag}{fi:Rho->R (Ad D)}{fc:Rho->R Ao}{fe:Rho->R D}{as:D->Rho->R Rho}{g:TG}
theorem VR{g:D->R Ao}{f:D->R D}{x:D}{xs ys:Ad D}(h:BF g f (x::xs)=.ok ys):(g x=.ok Ac/\BF g f xs=.ok ys)\/∃ y r,g x=.ok Ab/\f x=.ok y/\BF g f xs=.ok r/\ys=y::r:=by
 unfold BF at h;cases e:g x with
 |bad=>rw[e]at h;cases h
 |exn z=>rw[e]at h;cases h
 |ok b=>
  rw[e,R.bind_ok]at h;cases b with
  |false=>exact .inl ⟨rfl,h⟩
  |true=>
   rw[Aw rfl]at h;cases e2:f x with
   |bad=>rw[e2]at h;cases h
   |exn z=>rw[e2]at h;cases h
   |ok y=>
    rw[e2,R.bind_ok]at h;cases e3:BF g f xs with
    |bad=>rw[e3]at h;cases h
    |exn z=>rw[e3]at h;cases h
    |ok r=>
     rw[e3,R.bind_ok]at h;cases h;exact .inr ⟨y,r,rfl,rfl,rfl,rfl⟩
theorem Jd{β:Type}{r:R α}{f:α->R β}{b:β}(h:r.bind f=.ok b):∃ a,r=.ok a/\f a=.ok b:=by
 cases r with
 |ok a=>exact⟨a,rfl,h⟩
 |exn x=>cases h
 |bad=>cases h
theorem Wy{ds ys:Ad D}(hGG:GG K CL ts as g)(hA:AOk H1 A)(gd:Good K CL A ρ σ H1)(yl:Ih K CL A ds J H1)(hz:ds.length<=sizeLine)(hcp:BF (fun x=>(as x ρ).bind fc) (fun x=>(as x ρ).bind fe) ds=.ok ys)(q:∀ xs H2,AE H1 H2->Reps K CL H2 A xs ys->∀ p,H2 p=Ae->Q (.ref p) (upd H2 p (.lst xs))):KZ J ts g (fun σ H Q=>AOk H A/\∃ ρ,Good K CL A ρ σ H/\C5 W0 H (fc ρ) Q) (fun σ H Q=>AOk H A/\∃ ρ,Good K CL A ρ σ H/\Bh (fun H=>Rep K CL H A) W0 H (fe ρ) Q) σ H1 Q:=by
 refine⟨fun i m xs σ' H'=>m=ds.length-i/\i<=ds.length/\xs.length<=i/\AE H1 H'/\Good K CL A (E9 ts ρ) σ' H'/\∃ outs rest,Reps K CL H' A xs outs/\BF (fun x=>(as x ρ).bind fc) (fun x=>(as x ρ).bind fe) (ds.drop i)=.ok rest/\ys=outs++rest,
  ⟨ds.length,by simp,Fv _,AY _,AE.refl _,gd.hideT ts,[],ys,trivial,hcp,rfl⟩,?_⟩
 rintro i m xs σ' H' ⟨rfl,hi,hxl,sm,g',outs,rest,rs,hc,e⟩;obtain⟨yst,ygo⟩:=yl H' (Kp.of sm) i;by_cases hlt:i<ds.length
 ·have hd:ds[i]?=Aa ds[i]:=Cb hlt;obtain⟨hgo,hyl⟩:=ygo _ hd;refine .inr ⟨hgo,by omega,fun x H2 hx=>?_⟩
  obtain⟨s2,rx⟩:=hyl x H2 hx;have rx':=rx A (fun a ha=>.inl ha) (hA.same sm)
  rw[ER hlt]at hc;have sm2:=sm.trans s2;rcases VR hc with ⟨h1,h2⟩|⟨y,r,h1,h2,h3,h4⟩
  ·obtain⟨ρ',ea,ec⟩:=Jd h1;refine hGG A ρ σ' H2 x ds[i] ρ' _ (g'.same s2) rx' ea fun σ3 g3 g4=>⟨hA.same sm2,ρ',g3,?_⟩
   rw[ec];exact fun H3 s3=>by
    dsimp only;rw[Az (by decide)]
    exact⟨ds.length-(i+1),by omega,rfl,hlt,by omega,sm2.trans s3,g4.same s3,outs,rest,(rs.same s2).same s3,h2,e⟩
  ·obtain⟨ρ',ea,ec⟩:=Jd h1;obtain⟨ρ2,ea2,ee⟩:=Jd h2;rw[ea]at ea2;cases ea2;refine hGG A ρ σ' H2 x ds[i] ρ' _ (g'.same s2) rx' ea fun σ3 g3 g4=>⟨hA.same sm2,ρ',g3,?_⟩
   rw[ec];exact fun H3 s3=>by
    dsimp only;rw[Aw rfl];refine⟨(hA.same sm2).same s3,ρ',g3.same s3,?_⟩;rw[ee];exact fun v H4 s4 r4=>⟨ds.length-(i+1),by omega,rfl,hlt,by rw[Dt,List.length_singleton];omega,(sm2.trans s3).trans s4,(g4.same s3).same s4,outs++[y],r,(((rs.same s2).same s3).same s4).append ⟨r4,trivial⟩,h3,by rw[e,h4];simp⟩
 ·have hk':ds.length<=i:=by omega
  rw[Uk hk']at hc;have hr:rest=[]:=by cases hc;rfl
  subst hr;rw[B1]at e;subst e;exact .inl ⟨yst hk',fun p hp=>q xs H' sm rs p hp⟩
theorem EA.ok_of{r:R (Ad D)}{f:Ad D->R D}{Q':It->Hp->Prop}(h:Bh Rq W H (r.bind f) Q)(k:∀ ds J H',r=.ok ds->AE H H'->Ih K CL A ds J H'->ds.length<=sizeLine->Bh Rq W H' (f ds) Q->Q' J H'):EA K CL A W H r Q':=by
 cases r with
 |ok d=>exact fun J H2 s2 y z=>k d J H2 rfl s2 y z (Bh.same s2 h)
 |exn x=>exact h
 |bad=>exact h
theorem cY{r:R α}{a:α}(h:noX r=.ok a):r=.ok a:=by
 cases r with
 |ok b=>exact h
 |exn x=>cases h
 |bad=>cases h
theorem PU(hGG:GG X.K CL ts as g)(hA:AOk H A)(gd:Good X.K CL A ρ σ H)(p:Bh (Dq X.K CL Ab H A) W H ((fi ρ).bind fun xs=>(noX (BF (fun x=>(as x ρ).bind fc) (fun x=>(as x ρ).bind fe) xs)).bind fun ys=>.ok (.lst ys)) Q):EA X.K CL A W H (fi ρ) (fun J H1=>KZ J ts g (fun σ H Q=>AOk H A/\∃ ρ,Good X.K CL A ρ σ H/\C5 W0 H (fc ρ) Q) (fun σ H Q=>AOk H A/\∃ ρ,Good X.K CL A ρ σ H/\Bh (fun H=>Rep X.K CL H A) W0 H (fe ρ) Q) σ H1 Q):=
 EA.ok_of p fun ds J H1 e1 s1 yl hz p1=>by
  cases e2:noX (BF (fun x=>(as x ρ).bind fc) (fun x=>(as x ρ).bind fe) ds) with
  |ok ys=>
   rw[e2]at p1;exact Wy hGG (hA.same s1) (gd.same s1) yl hz (cY e2) fun xs H2 s2 rs q hq=>p1 _ _ (s2.trans (FM hq _)) (J4 (s1.trans s2) ((hA.same s1).same s2) hq rs)
  |exn x=>rw[e2]at p1;cases hq:BF (fun x=>(as x ρ).bind fc) (fun x=>(as x ρ).bind fe) ds<;>rw[hq]at e2<;>cases e2
  |bad=>rw[e2]at p1;exact p1.elim
theorem Yl(hc:X.calm=Ab)(B:BlockOk X scope N' ts)(hi:SI X CL W tg iter fi)(hGG:GG X.K CL ts as g)(hg:∀ cl C s H fp,PG (cxC X scope cl C N' s H fp) tg g)(ht:∀ cl C s H fp,STs (cxC X scope cl C N' s H fp) CL ifs fc)(he:∀ cl C s H fp,SE (cxC X scope cl C N' s H fp) CL W0 elt fe)(hs:∀ x,CN iter X.env x=pure x):SC X CL W Ab (.ListComp elt [⟨tg,iter,ifs,0⟩] scope pos) (fun ρ=>(fi ρ).bind fun xs=>(noX (BF (fun x=>(as x ρ).bind fc) (fun x=>(as x ρ).bind fe) xs)).bind fun ys=>.ok (.lst ys)):=fun A pI s σ H Q I ⟨hA,ρ,gd,p⟩=>
 Zo hc B (hi A) hg (fun cl C s H fp=>ht cl C s H fp A) (fun cl C s H fp=>he cl C s H fp A) hs pI s σ H Q I ⟨hA,ρ,gd,PU hGG hA gd p⟩
end
section
variable{K:Fg}{CL:ClA}{Fz:Aj->HO->Prop}{B:Aj->Prop}{ρ:Rho}{σ:L2.St}{H H':Hp}
theorem Sx.setF(x:Sx K CL Fz B ρ σ H)(s:AE H H'){ds:Ad D}(h0:H a=Ae)(h1:H' a=Aa (.lst xs))(r:Reps K CL H' (fun b=>BN B ρ σ b\/b=a) xs ds):Sx K CL Fz B (ρ.set i (Aa (.lst ds,Ab))) (σ.set i (Aa (.ref a))) H':=by
 have nA:¬ BN B ρ σ a:=x.aok.new h0;have own:∀(j:Ag)(e:D),(ρ.set i (Aa (.lst ds,Ab)))[j]?=Aa (Aa (e,Ab))->(i=j/\e=.lst ds)\/(i≠j/\ρ[j]?=Aa (Aa (e,Ab))):=fun j e h=>by
  by_cases hj:i=j
  ·subst hj;have:=Gj h;cases this;exact .inl ⟨rfl,rfl⟩
  ·exact .inr ⟨hj,by rw[B7 hj]at h;exact h⟩
 have atI:∀{j:Ag}{y:Sl},(ρ.set i (Aa (.lst ds,Ab)))[j]?=Aa y->i=j->(σ.set i (Aa (.ref a)))[j]?=Aa (Aa (.ref a)):=fun {j y} h e=>by
  subst e;have hl:i<σ.length:=by
   rw[<-x.len];have:=(A7.mp h).1;simpa using this
  rw[CV hl]
 have sub:∀ b,BN B (ρ.set i (Aa (.lst ds,Ab))) (σ.set i (Aa (.ref a))) b->BN B ρ σ b\/b=a:=fun b h=>by
  rcases h with h|⟨j,e,h1,h2⟩
  ·exact .inl (.inl h)
  ·rcases own j e h1 with ⟨hj,_⟩|⟨hj,h1'⟩
   ·rw[atI h1 hj]at h2;cases h2;exact .inr rfl
   ·rw[B7 hj]at h2;exact .inl (.inr ⟨j,e,h1',h2⟩)
 have wide:∀{v:V}{d:D},Rep K CL H (BN B ρ σ) v d->Rep K CL H' (BN B (ρ.set i (Aa (.lst ds,Ab))) (σ.set i (Aa (.ref a)))) v d:=fun r=>(Rep.wide (fun b hb=>(sub b hb).imp id fun e=>by rw[e];exact h0) _ r).same s
 have wides:∀{v:Ad V}{d:Ad D},Reps K CL H (BN B ρ σ) v d->Reps K CL H' (BN B (ρ.set i (Aa (.lst ds,Ab))) (σ.set i (Aa (.ref a)))) v d:=fun r=>(Reps.wide (fun b hb=>(sub b hb).imp id fun e=>by rw[e];exact h0) _ r).same s
 refine⟨⟨fun j e h=>?_,fun j e h=>?_,by rw[A2,A2];exact x.len⟩,fun b h=>?_,fun j e b g1 g2=>?_,fun j k e f b g1 g2 g3 g4=>?_,fun b o z=>s _ _ (x.same b o z),by rw[A2,A2];exact x.len⟩
 ·have hj:i≠j:=by
   rintro rfl;have:=Gj h;cases this
  rw[B7 hj]at h;obtain⟨w',q,rw'⟩:=x.good.sh j e h;exact⟨w',by rw[B7 hj];exact q,wide rw'⟩
 ·rcases own j e h with ⟨hj,rfl⟩|⟨hj,h'⟩
  ·have q:=atI h hj;exact⟨a,xs,ds,q,rfl,.inr ⟨j,_,h,q⟩,h1,Reps.sub sub _ r⟩
  ·obtain⟨b,ys,es,q,z,ha,hh,rr⟩:=x.good.ow j e h';have q':(σ.set i (Aa (.ref a)))[j]?=Aa (Aa (.ref b)):=by rw[B7 hj];exact q
   exact⟨b,ys,es,q',z,.inr ⟨j,e,h,q'⟩,s _ _ hh,wides rr⟩
 ·rcases sub b h with z|z
  ·obtain⟨ys,q⟩:=x.aok b z;exact⟨ys,s _ _ q⟩
  ·rw[z];exact⟨xs,h1⟩
 ·rcases own j e g1 with ⟨hj,_⟩|⟨hj,h'⟩
  ·rw[atI g1 hj]at g2;cases g2;refine⟨fun o z=>?_,fun z=>nA (.inl z)⟩
   have:=x.same a o z;rw[h0]at this;cases this
  ·rw[B7 hj]at g2;exact x.new j e b h' g2
 ·rcases own j e g1 with ⟨hj,_⟩|⟨hj,h'⟩
  ·rw[atI g1 hj]at g3;cases g3;rcases own k f g2 with ⟨hk,_⟩|⟨hk,h''⟩
   ·exact hj.symm.trans hk
   ·rw[B7 hk]at g4;exact absurd (.inr ⟨k,f,h'',g4⟩) nA
  ·rw[B7 hj]at g3;rcases own k f g2 with ⟨hk,_⟩|⟨hk,h''⟩
   ·rw[atI g2 hk]at g4;cases g4;exact absurd (.inr ⟨j,e,h',g3⟩) nA
   ·rw[B7 hk]at g4;exact x.dis j k e f b h' h'' g3 g4
theorem Sx.upd(x:Sx K CL Fz B ρ σ H){i:Ag}{d:D}{a:Aj}{xs:Ad V}{ds:Ad D}(hi:ρ[i]?=Aa (Aa (d,Ab)))(ha:σ[i]?=Aa (Aa (.ref a)))(r:Reps K CL H (BN B ρ σ) xs ds):Sx K CL Fz B (ρ.set i (Aa (.lst ds,Ab))) σ (L2.upd H a (.lst xs)):=by
 have oa:BN B ρ σ a:=.inr ⟨i,d,hi,ha⟩;have hil:i<ρ.length:=(A7.mp hi).1;have get:∀(j:Ag)(e:D),(ρ.set i (Aa (.lst ds,Ab)))[j]?=Aa (Aa (e,Ab))↔(i=j/\e=.lst ds)\/(i≠j/\ρ[j]?=Aa (Aa (e,Ab))):=fun j e=>by
  by_cases hj:i=j
  ·subst hj;rw[CV hil];simp;exact⟨fun z=>z.symm,fun z=>z.symm⟩
  ·rw[B7 hj];simp[hj]
 have same:∀ b,BN B (ρ.set i (Aa (.lst ds,Ab))) σ b↔BN B ρ σ b:=fun b=>by
  constructor
  ·rintro (h|⟨j,e,h1,h2⟩)
   ·exact .inl h
   ·rcases (get j e).mp h1 with ⟨rfl,_⟩|⟨_,h1⟩
    ·exact .inr ⟨i,d,hi,h2⟩
    ·exact .inr ⟨j,e,h1,h2⟩
  ·rintro (h|⟨j,e,h1,h2⟩)
   ·exact .inl h
   ·by_cases hj:i=j
    ·subst hj;exact .inr ⟨i,.lst ds,(get i _).mpr (.inl ⟨rfl,rfl⟩),h2⟩
    ·exact .inr ⟨j,e,(get j e).mpr (.inr ⟨hj,h1⟩),h2⟩
 have kp:Kp (BN B ρ σ) H (L2.upd H a (.lst xs)):=fun b o e na=>by
  have hne:b≠a:=by
   rintro rfl;exact na oa
  rw[By hne];exact e
 refine⟨⟨fun j e h=>?_,fun j e h=>?_,by rw[A2];exact x.len⟩,fun b h=>?_,fun j e b g1 g2=>?_,fun j k e f b g1 g2 g3 g4=>?_,fun b o z=>?_,by rw[A2];exact x.len⟩
 ·have hj:i≠j:=by
   rintro rfl;have:=Gj h;cases this
  rw[B7 hj]at h;obtain⟨w',q,rw'⟩:=x.good.sh j e h;exact⟨w',q,Rep.sub (fun b hb=>(same b).mp hb) _ (Rep.kp kp _ rw')⟩
 ·rcases (get j e).mp h with ⟨rfl,rfl⟩|⟨hj,h'⟩
  ·exact⟨a,xs,ds,ha,rfl,(same a).mpr oa,E8,Reps.sub (fun b hb=>(same b).mp hb) _ (Reps.kp kp _ r)⟩
  ·obtain⟨b,ys,es,q,z,hb,hh,rr⟩:=x.good.ow j e h';have hne:b≠a:=fun z=>hj (x.dis i j d e a hi h' ha (z ▸ q))
   exact⟨b,ys,es,q,z,(same b).mpr hb,by rw[By hne];exact hh,Reps.sub (fun b hb=>(same b).mp hb) _ (Reps.kp kp _ rr)⟩
 ·obtain⟨ys,q⟩:=x.aok b ((same b).mp h);by_cases e:b=a
  ·rw[e];exact⟨xs,E8⟩
  ·exact⟨ys,by rw[By e];exact q⟩
 ·rcases (get j e).mp g1 with ⟨rfl,_⟩|⟨_,h'⟩
  ·exact x.new i d b hi g2
  ·exact x.new j e b h' g2
 ·rcases (get j e).mp g1 with ⟨rfl,_⟩|⟨hj,h'⟩
  ·rcases (get k f).mp g2 with ⟨rfl,_⟩|⟨hk,h''⟩
   ·rfl
   ·exact x.dis i k d f b hi h'' g3 g4
  ·rcases (get k f).mp g2 with ⟨rfl,_⟩|⟨hk,h''⟩
   ·exact x.dis j i e d b h' hi g3 g4
   ·exact x.dis j k e f b h' h'' g3 g4
 ·have hne:b≠a:=fun e=>(x.new i d a hi ha).1 o (e ▸ z)
  rw[By hne];exact x.same b o z
theorem Sx.rel(x:Sx K CL Fz B ρ σ H)(hi:ρ[i]?=Aa (Aa (d,Ab))):Sx K CL Fz B (ρ.set i (Aa (d,Ac))) σ H:=by
 obtain⟨a,xs,ds,q,rfl,oa,hh,rr⟩:=x.good.ow i d hi;have own:∀(j:Ag)(e:D),(ρ.set i (Aa (.lst ds,Ac)))[j]?=Aa (Aa (e,Ab))->i≠j/\ρ[j]?=Aa (Aa (e,Ab)):=fun j e h=>by
  by_cases hj:i=j
  ·subst hj;have:=Gj h;cases this
  ·exact⟨hj,by rw[B7 hj]at h;exact h⟩
 have sub:∀ b,BN B (ρ.set i (Aa (.lst ds,Ac))) σ b->BN B ρ σ b:=fun b h=>by
  rcases h with h|⟨j,e,h1,h2⟩
  ·exact .inl h
  ·exact .inr ⟨j,e,(own j e h1).2,h2⟩
 have na:¬ BN B (ρ.set i (Aa (.lst ds,Ac))) σ a:=fun h=>by
  rcases h with h|⟨j,e,h1,h2⟩
  ·exact(x.new i _ a hi q).2 h
  ·obtain⟨hj,h1⟩:=own j e h1;exact hj (x.dis i j _ e a hi h1 q h2)
 refine⟨⟨fun j e h=>?_,fun j e h=>?_,by rw[A2];exact x.len⟩,fun b h=>x.aok b (sub b h),fun j e b g1 g2=>x.new j e b (own j e g1).2 g2,fun j k e f b g1 g2 g3 g4=>x.dis j k e f b (own j e g1).2 (own k f g2).2 g3 g4,x.same,by rw[A2];exact x.len⟩
 ·by_cases hj:i=j
  ·subst hj;have e1:=Gj h;cases e1;exact⟨_,q,a,xs,rfl,.inl na,SqL.of hh,Reps.sub sub _ rr⟩
  ·rw[B7 hj]at h;obtain⟨w',q',rw'⟩:=x.good.sh j e h;exact⟨w',q',Rep.sub sub _ rw'⟩
 ·obtain⟨hj,h'⟩:=own j e h;obtain⟨b,ys,es,q',z,hb,hh',rr'⟩:=x.good.ow j e h';exact⟨b,ys,es,q',z,.inr ⟨j,e,h,q'⟩,hh',Reps.sub sub _ rr'⟩
end
section
variable{X:Cx}{CL:ClA}{W:XW}{pos:AM}{e:Ap}{fe:Rho->R D}{fr:Ao}
theorem BS.exC{f:D->O}(x:Sx X.K CL Fz B ρ σ H)(h:BS X.K CL Fz B W (O.of ρ r f) D')(k:∀ d v H',r=.ok d->AE H H'->Dq X.K CL fr H A H' v d->Sx X.K CL Fz B ρ σ H'->BS X.K CL Fz B W (f d) D'->Q v H'):Bh (Dq X.K CL fr H A) W H r Q:=by
 cases r with
 |ok d=>exact fun v H' s r=>k d v H' rfl s r (x.grow s) h
 |exn y=>exact fun H' s=>h H' fun b o z=>s _ _ (x.same b o z)
 |bad=>exact h
def SAs(X:Cx)(CL:ClA)(W:XW)(fr:Ao)(i:Ag)(st:A9)(f:Rho->R D):Prop:=∀ A,PS X st (Mr (fun σ H Q=>AOk H A/\∃ ρ,Good X.K CL A ρ σ H/\Bh (Dq X.K CL fr H A) W H (f ρ) Q) (EN i))
theorem SC.sas{n:Ah}(hN:X.N.Nodup)(hi:X.N[i]?=Aa n)(hx:Loc X.env.scope n)(he:SC X CL W fr e fe)(hs:Di e (Aa (.Name n pos')) pos.line X.env=pure Ac)(hf:X.fn n=Ab\/X.env.scope.names.lookup n=Aa .local):SAs X CL W fr i (.Assign [.Name n pos'] e pos) fe:=
 fun A=>Mi hN hi hx (he A) hs hf
theorem W1{n:Ah}{fe:Rho->R D}{g:TG}(hc:X.calm=Ab)(B:BlockOk X scope N' ts)(hi:SI X CL W tg iter fi)(hGG:GG X.K CL ts as g)(hg:∀ cl C s H fp,PG (cxC X scope cl C N' s H fp) tg g)(ht:∀ cl C s H fp,STs (cxC X scope cl C N' s H fp) CL ifs fc)(he:∀ cl C s H fp,SE (cxC X scope cl C N' s H fp) CL W0 elt fe)(hs:∀ x,CN iter X.env x=pure x)(hN:X.N.Nodup)(hni:X.N[i]?=Aa n)(hx:X.env.scope.names.lookup n=Aa .local)(hsw:Di (.ListComp elt [⟨tg,iter,ifs,0⟩] scope pos) (Aa (.Name n pos')) pos2.line X.env=pure Ab):SAs X CL W Ab i (.Assign [.Name n pos'] (.ListComp elt [⟨tg,iter,ifs,0⟩] scope pos) pos2) (fun ρ=>(fi ρ).bind fun xs=>(noX (BF (fun x=>(as x ρ).bind fc) (fun x=>(as x ρ).bind fe) xs)).bind fun ys=>.ok (.lst ys)):=fun A pI s σ H Dn I ⟨hA,ρ,gd,p⟩=>
 Zj hc B (hi A) hg (fun cl C s H fp=>ht cl C s H fp A) (fun cl C s H fp=>he cl C s H fp A) hs hN hni hx hsw pI s σ H Dn I ⟨hA,ρ,gd,PU hGG hA gd p⟩
theorem Sa{st:A9}(h:SAs X CL W fr i st fe):SS X CL W st (fun ρ=>O.of ρ (fe ρ) fun d=>.next (ρ.set i (Aa (d,Ac)))):=fun Fz B pI s σ H D I ⟨ρ,x,p⟩=>
 h (BN B ρ σ) pI s σ H D I ⟨x.aok,ρ,x.good,BS.exC x p fun d v H' _ s r x' q=>q _ H' (x'.set i r.1)⟩
theorem Yc{st:A9}(h:SAs X CL W Ab i st fe):SS X CL W st (fun ρ=>O.of ρ (fe ρ) fun d=>setF ρ i d):=fun Fz B pI s σ H D I ⟨ρ,x,p⟩=>
 h (BN B ρ σ) pI s σ H D I ⟨x.aok,ρ,x.good,BS.exC x p fun d v H' _ s r x' q=>by
  cases d with
  |lst ds=>
   obtain⟨a,xs,rfl,h0,h1,rs⟩:=r.2 rfl ds rfl;exact q _ H' (x.setF s h0 h1 rs)
  |dic ds=>exact r.1.elim
  | _=>exact q.elim⟩
theorem X8(he:SC X CL W Ab e fe):SS X CL W (.Return (Aa e) pos) (fun ρ=>O.of ρ (fe ρ) fun d=>.ret d Ab):=fun Fz B pI s σ H D I ⟨ρ,x,p⟩=>
 NS (he (BN B ρ σ)) pI s σ H D I ⟨x.aok,ρ,x.good,BS.exC x p fun d v H' _ s r x' q=>q v H' x'.same (Rep.sub (fun a h=>.inl h) _ r.1) fun _ ds e=>by
  obtain⟨a,xs,h0,h1,h2,h3⟩:=r.2 rfl ds e;refine⟨a,xs,h0,fun o z=>?_,h2,Reps.sub (fun b hb=>hb.imp .inl id) _ h3⟩
  have:=x.same a o z;rw[h1]at this;cases this⟩
noncomputable def OM(ρ:Rho)(i:Ag):Ao:=match ρ[i]? with
  |some (Aa (_,o))=>o
  |_=>Ac
theorem X7(he:PE X e (Go i)):SS X CL W (.Return (Aa e) pos) (fun ρ=>O.of ρ (Em ρ i) fun d=>.ret d (OM ρ i)):=fun Fz B pI s σ H D I ⟨ρ,x,p⟩=>
 NS he pI s σ H D I (by
  dsimp only at p;cases e:Em ρ i with
  |bad=>rw[e]at p;exact p.elim
  |exn z=>exact(PH e).elim
  |ok d=>
   rw[e]at p;obtain⟨o,e⟩:=QY e;have eo:OM ρ i=o:=by unfold OM;rw[e]
   rw[O.of_ok,eo]at p;cases o with
   |false=>
    obtain⟨v,q,r⟩:=x.good.sh i d e;exact⟨v,q,p v H x.same (Rep.sub (fun a h=>.inl h) _ r) fun z=>nomatch z⟩
   |true=>
    obtain⟨a,xs,ds,q,rfl,ha,hh,r⟩:=x.good.ow i d e;obtain⟨n1,n2⟩:=x.new i _ a e q;refine⟨_,q,p _ H x.same ⟨a,xs,rfl,.inl n2,SqL.of hh,Reps.sub (fun a h=>.inl h) _ r⟩ fun _ ds' e'=>?_⟩
    cases e';exact⟨a,xs,rfl,n1,hh,Reps.sub (fun b hb=>hb.elim .inl fun z=>z ▸ ha) _ r⟩)
theorem Zq{ds:Ad D}(h:DU ρ i=.ok ds):ρ[i]?=Aa (Aa (.lst ds,Ab)):=by
 unfold DU at h;split at h
 ·rename_i e;cases h;exact e
 ·cases h
theorem Xa(h:DU ρ i=.exn x):AS:=by
 unfold DU at h;split at h<;>cases h
variable{o:Ap}{i:Ag}{apos cpos:AM}
theorem aU{k:Ap}{fk:Rho->R Ov.D}{spos:AM}(ho:PE X o (Go i))(hk:ST X CL W k fk)(he:SE X CL W e fe)(ha:∀ v,assign (.Subscript o k spos) X.env v=(do
      let ov <-holding [v] (eval o X.env)
      let iv <-holding [v,ov] (eval k X.env)
      IV spos
      holding [v,ov,iv] (setItem ov iv v)
      release [v,ov,iv] []))(hs:GB [.Subscript o k spos] e pos.line X.env=pure Ac)(hw:FE [.Subscript o k spos] e X.env=pure Ae)(h1:(B2 [.Subscript o k spos] X.env).map (·.2)=[assign (.Subscript o k spos) X.env]):
    SS X CL W (.Assign [.Subscript o k spos] e pos) (fun ρ=>O.of ρ (fe ρ) fun d=>O.of ρ (DU ρ i) fun xs=>O.of ρ ((fk ρ).bind Ez) fun j=>match plD xs.length j with
      |some n=>.next (ρ.set i (Aa (.lst (xs.set n d),Ab)))
      | none=>.bad):=fun Fz B pI s σ H D I ⟨ρ,x,p⟩=>
  RG (he (BN B ρ σ)) (eE ho (hk (BN B ρ σ)) XF ha) hs hw h1 pI s σ H D I ⟨x.aok,ρ,x.good,BS.ex x p fun d v H' _ s rv x' q'=>by
    cases e1:DU ρ i with
    |bad=>rw[e1]at q';exact q'.elim
    |exn z=>exact(Xa e1).elim
    |ok ds=>
      rw[e1,O.of_ok]at q';have hi:=Zq e1;obtain⟨a,xs,ds',q,e2,ha,hh,r⟩:=x'.good.ow i _ hi;cases e2;refine⟨_,q,x'.aok,ρ,x'.good,?_⟩;cases e3:fk ρ with
      |bad=>rw[e3]at q';exact q'.elim
      |exn z=>rw[e3]at q';exact fun H2 s2=>q' H2 fun b o z=>s2 _ _ (x'.same b o z)
      |ok dk=>
        rw[e3]at q';intro y H2 s2 ry;cases dk with
        |int j=>
          have ey:=ry.int_of;subst ey;rw[R.bind_ok,P8,O.of_ok]at q';cases e4:plD ds.length j with
          |none=>rw[e4]at q';exact q'.elim
          |some n=>
            rw[e4]at q';refine⟨a,xs,j,n,rfl,rfl,s2 _ _ hh,?_,q' _ _ ((x'.grow s2).upd hi q (Reps.set (rv.same s2) n (r.same s2)))⟩;rw[r.length];exact e4
        | _=>exact q'.elim⟩
theorem Yb{as:Ov.D->Rho->R Rho}{g:TG}(hGT:GT X.K CL as g)(hg:PG X tg g)(he:SE X CL W e fe)(hs:GB [tg] e pos.line X.env=pure Ac)(hw:FE [tg] e X.env=pure Ae)(h1:(B2 [tg] X.env).map (·.2)=[assign tg X.env])(hax:∀ d ρ x,as d ρ≠.exn x):SS X CL W (.Assign [tg] e pos) (fun ρ=>O.of ρ (fe ρ) fun d=>O.of ρ (as d ρ) fun ρ'=>.next ρ'):=fun Fz B pI s σ H D I ⟨ρ,x,p⟩=>
 RG (he (BN B ρ σ)) hg hs hw h1 pI s σ H D I ⟨x.aok,ρ,x.good,BS.ex x p fun d v H' _ s rv x' q'=>by
  cases ea:as d ρ with
  |bad=>rw[ea]at q';exact q'.elim
  |exn z=>exact absurd ea (hax _ _ z)
  |ok ρ2=>
   rw[ea,O.of_ok]at q';exact hGT Fz B ρ σ H' v d ρ2 _ x' rv ea fun σ' x3=>q' σ' H' x3⟩
theorem X5{rest:Ad A9}{f:Rho->O}(i:Ag)(h:SSs X CL W rest f):SSs X CL W rest (fun ρ=>(match ρ[i]? with
   |some (Aa (d,Ab))=>O.next (ρ.set i (Aa (d,Ac)))
   | _=>O.next ρ).seq f):=fun Fz B=>PSs.weak (h Fz B) fun D σ H ⟨ρ,x,p⟩=>by
 dsimp only at p;split at p
 ·rename_i d e;exact⟨_,x.rel e,p⟩
 ·exact⟨ρ,x,p⟩
end
section
variable{prog:AR}{w:AC}{A:AZ}{E:Vq}{s:Ar}
theorem cW{j t:Aj}{x:Ai}{Q:Vq}(st:s.heap.IsTupleIter j t k)(sq:s.heap.IsTuple t its)(at_:its[k]?=Aa x)(go:∀ h2,h2.IsTupleIter j t (k+1)->Eh j s.heap h2->Q x {s with heap:=h2}):Ay (model prog w) A (BH (.ref j)) Q E s:=by
 obtain⟨oj,gj,cj,dj⟩:=id st;obtain⟨ot,gt,_,nt,dt⟩:=sq;show Ay _ _ (Iz _ _ >>= _) _ _ _;refine Am (Dm st.typeIs DB (Er DB st.typeIs U3 ?_ (UZ _)));show Ay _ _ (field (.ref j) 0 >>= _) _ _ _;refine Am (BO gj dj (x:=.ref t) rfl ?_);show Ay _ _ (field (.ref j) 1 >>= _) _ _ _;refine Am (BO gj dj (x:=.int k 0) rfl ?_);refine Am (Dp gt dt ?_);simp only[GL,at_];exact Am (Fj gj dj (by simp) (AJ ⟨x,rfl,AJ (go _ ⟨_,CB _ gj (Ej (C8 dj _)),(Vc ..).trans cj,by rw[C8 dj];simp[DS]⟩ (U8 ..))⟩))
theorem WC{j t:Aj}{Q:Vq}(calm:A.handled=Ae)(st:s.heap.IsTupleIter j t k)(sq:s.heap.IsTuple t its)(at_:its[k]?=Ae)(up:∀ h2 e,Hv j s.heap h2->(∃ o,h2.get? e=Aa o/\o.cls=.type "StopIteration")->E (.ref e) {s with heap:=h2}):Ay (model prog w) A (BH (.ref j)) Q E s:=by
 obtain⟨oj,gj,cj,dj⟩:=id st;obtain⟨ot,gt,_,nt,dt⟩:=sq;show Ay _ _ (Iz _ _ >>= _) _ _ _;refine Am (Dm st.typeIs DB (Er DB st.typeIs U3 ?_ (UZ _)));show Ay _ _ (field (.ref j) 0 >>= _) _ _ _;refine Am (BO gj dj (x:=.ref t) rfl ?_);show Ay _ _ (field (.ref j) 1 >>= _) _ _ _;refine Am (BO gj dj (x:=.int k 0) rfl ?_);refine Am (Dp gt dt ?_);simp only[GL,at_];refine Am (JM (Am (Fj gj dj (by simp) ?_)))
 refine Am ?_;simp only[newExc,newTuple];refine Am (CO ?_ (by size_fits))
 refine Am (m:=Vy _ _) (Ja (a:=.none) (by first|rfl|(simp only[Vy];rfl)) (CO ?_ (by size_fits)))
 simp only[raiseNew];refine Am (wpAny_handled ?_)
 first|rw[show A.in1.handled=Ae from calm]|rw[calm]
 exact Am (AJ (wpAny_throw (up _ _ (((U8 ..).extBut.push _).push _) ⟨_,AN _ rfl,rfl⟩)))
end
structure Dw (prog:AR) (w:AC) (A:AZ) (j:Aj) (fp:Ad Aj) (n:Ag) (P:Ag->Ai->Prop) (S:Ag->AD->Prop):Prop where
 frame:∀ i h h2,S i h->(∀ c∈fp,∀ o,h.get? c=Aa o->h2.get? c=Aa o)->S i h2
 item:∀ i (s:Ar) (Q:Vq) (E:Vq),i<n->S i s.heap->(∀ x h2 tk,P i x->S (i+1) h2->Eh j s.heap h2->Q x {s with heap:=h2,toks:=tk})->Ay (model prog w) A (BH (.ref j)) Q E s
 done:∀ i (s:Ar) (Q:Vq) (E:Vq),n<=i->S i s.heap->(∀ h2 e,Hv j s.heap h2->(∃ o,h2.get? e=Aa o/\o.cls=.type "StopIteration")->E (.ref e) {s with heap:=h2})->Ay (model prog w) A (BH (.ref j)) Q E s
def D9(t:Ao)(h:AD)(j l:Aj)(i:Ag):Prop:=match t with
  |true=>h.IsTupleIter j l i
  |false=>h.IsListIter j l i
def DW(t:Ao)(h:AD)(l:Aj)(its:Bl Ai):Prop:=match t with
  |true=>h.IsTuple l its
  |false=>h.IsList l its
theorem Kh{A:AZ}(calm:A.handled=Ae)(t:Ao)(j l:Aj)(ne:l≠j)(its:Bl Ai):Dw prog w A j [j,l] its.size (fun i v=>its[i]?=Aa v) (fun i h=>D9 t h j l i/\DW t h l its):=by
 cases t with
 |true=>exact⟨fun _ _ _ z k=>⟨z.1.at fun o e=>k j (by simp) o e,z.2.at fun o e=>k l (by simp) o e⟩,fun i s Q E hi z q=>cW z.1 z.2 (x:=its[i]) (by simp[hi]) fun h2 z2 sb=>q _ h2 s.toks (by simp[hi]) ⟨z2,z.2.extBut sb.extBut ne⟩ sb,fun i s Q E hi z q=>WC calm z.1 z.2 (by simp[hi]) q⟩
 |false=>exact⟨fun _ _ _ z k=>⟨z.1.at fun o e=>k j (by simp) o e,z.2.at fun o e=>k l (by simp) o e⟩,fun i s Q E hi z q=>wpAny_nextOf_list_item z.1 z.2 (x:=its[i]) (by simp[hi]) fun h2 z2 sb=>q _ h2 s.toks (by simp[hi]) ⟨z2,z.2.extBut sb.extBut ne⟩ sb,fun i s Q E hi z q=>wpAny_nextOf_list_end calm z.1 z.2 (by simp[hi]) q⟩
theorem nb1{I l c:Ag}(b:l<I)(h:c∈[I,l])(j:Ag):c≠I+(j+1):=by
 have h':c=I\/c=l:=by simpa using h
 omega
theorem nb2{I l c:Ag}(b:l<I)(h:c∈[I+1,l]):c≠I/\c≠I+3/\c≠I+4:=by
 have h':c=I+1\/c=l:=by simpa using h
 omega
theorem nij{I i j:Ag}(h:i≠j):I+i≠I+j:=by omega
theorem ni0{I i:Ag}(h:i≠0):I+i≠I:=by omega
section
variable{prog:AR}{w:AC}{A:AZ}{E:Vq}{s:Ar}
theorem Xl{I l1 l2 n1 n2 k:Ag}{P1 P2:Ag->Ai->Prop}{S1 S2:Ag->AD->Prop}{a b:Ai}{Q:Vq}(b1:l1<I)(b2:l2<I)(D1:Dw prog w A I [I,l1] n1 P1 S1)(D2:Dw prog w A (I+1) [I+1,l2] n2 P2 S2)(hz:F6 s.heap (I+4) (I+2) (I+3) .none)(hI:Ei s.heap (I+2) (.ref I) (.ref (I+1)))(hO:Ei s.heap (I+3) a b)(g1:S1 k s.heap)(g2:S2 k s.heap)(k1:k<n1)(k2:k<n2)(go:∀ x y h2 tk,P1 k x->P2 k y->F6 h2 (I+4) (I+2) (I+3) (DS s.heap.objs.size)->Ei h2 (I+3) x y->S1 (k+1) h2->S2 (k+1) h2->Ei h2 s.heap.objs.size x y ->
   (∀ c o,c∉[I,I+1,I+3,I+4]->s.heap.get? c=Aa o->h2.get? c=Aa o)->Q (.ref s.heap.objs.size) {s with heap:=h2,toks:=tk}):Ay (model prog w) A (Builtin.«zip.__next__» ⟨[.ref (I+4)],[]⟩) (fun fin s'=>∃ v,fin=.done (.ret v)/\Q v s') E s:=by
 refine Am (m:=field (.ref (I+4)) 2) (BO hz rfl (x:=.bool Ac) rfl ?_);refine Am (m:=field (.ref (I+4)) 3) (BO hz rfl (x:=.ref (I+2)) rfl (Am (Dp hI rfl ?_)));refine Am (m:=CK (.ref (I+4))) ?_;simp only[CK];refine Am (BO hz rfl (x:=.none) rfl (AJ ?_));rw[Aw rfl];refine Am (JM (Am (BO hz rfl (x:=.ref (I+3)) rfl (Am (Du hz (by simp) fun p1 z1 e1=>Am ?_)))))
 have z1':F6 p1 (I+4) (I+2) (I+3) .ellipsis:=z1;simp only[UF,UG,Hm,Gg];refine Am (Am (FH (Am (m:=BH (.ref I)) (D1.item k _ _ _ k1 (D1.frame _ _ _ g1 fun c hc o q=>e1.extBut c o (nb1 b1 hc 3) q) fun x p2 t2 px s2 e2=>AJ ?_))))
 have o2:Ei p2 (I+3) a b:=e2.extBut _ _ (ni0 (by decide)) (e1.extBut _ _ (nij (by decide)) hO)
 refine Am (Dp o2 rfl (Am (Ga o2 fun p3 o3 e3=>Am (IZ (AJ ?_)))))
 have o3':Ei p3 (I+3) x b:=o3;have g2':S2 k p3:=D2.frame _ _ _ g2 fun c hc o q=>e3.extBut c o (nb2 b2 hc).2.1 (e2.extBut c o (nb2 b2 hc).1 (e1.extBut c o (nb2 b2 hc).2.2 q))
 refine Am (Am (FH (Am (m:=BH (.ref (I+1))) (D2.item k _ _ _ k2 g2' fun y p4 t4 py s4 e4=>AJ ?_))))
 have o4:Ei p4 (I+3) x b:=e4.extBut _ _ (nij (by decide)) o3'
 refine Am (Dp o4 rfl (Am (Ga o4 fun p5 o5 e5=>Am (IZ (AJ (AJ ?_))))))
 have o5':Ei p5 (I+3) x y:=o5;have sz:p5.objs.size=s.heap.objs.size:=by rw[e5.1,e4.1,e3.1,e2.1,e1.1]
 have z5:F6 p5 (I+4) (I+2) (I+3) .ellipsis:=e5.extBut _ _ (nij (by decide)) (e4.extBut _ _ (nij (by decide)) (e3.extBut _ _ (nij (by decide)) (e2.extBut _ _ (ni0 (by decide)) z1')))
 refine Am (Dp o5' rfl (Am (wpAny_newTuple ?_)));refine Am (m:=UU (.ref (I+4)) (.ref p5.objs.size)) ?_;simp only[UU];have z6:F6 (p5.push { cls:=.type "tuple", data:=.seq #[x,y] }) (I+4) (I+2) (I+3) .ellipsis:=Au _ z5;refine Am (Du z6 (by simp) fun p7 z7 e7=>?_)
 have z7':F6 p7 (I+4) (I+2) (I+3) (DS p5.objs.size):=z7;refine Du z7' (by simp) fun p8 z8 e8=>AJ ⟨_,rfl,?_⟩
 have z8':F6 p8 (I+4) (I+2) (I+3) (DS p5.objs.size):=z8;have lt5:I+4<p5.objs.size:=AG z5;have up:∀ c o,c≠I+4->p5.get? c=Aa o->p8.get? c=Aa o:=fun c o nc q=>e8.extBut _ _ nc (e7.extBut _ _ nc (Au _ q))
 have t8:Ei p8 p5.objs.size x y:=e8.extBut _ _ (Ef lt5) (e7.extBut _ _ (Ef lt5) (AN _ rfl));have a1:S1 (k+1) p8:=D1.frame _ _ _ s2 fun c hc o q=>up c o (nb1 b1 hc 3) (e5.extBut c o (nb1 b1 hc 2) (e4.extBut c o (nb1 b1 hc 0) (e3.extBut c o (nb1 b1 hc 2) q)))
 have a2:S2 (k+1) p8:=D2.frame _ _ _ s4 fun c hc o q=>up c o (nb2 b2 hc).2.2 (e5.extBut c o (nb2 b2 hc).2.1 q)
 have kp:∀ c o,c∉[I,I+1,I+3,I+4]->s.heap.get? c=Aa o->p8.get? c=Aa o:=fun c o nc q=>by
  simp only[AB,Bc,Cd,D4]at nc;exact up c o nc.2.2.2 (e5.extBut c o nc.2.2.1 (e4.extBut c o nc.2.1 (e3.extBut c o nc.2.2.1 (e2.extBut c o nc.1 (e1.extBut c o nc.2.2.2 q)))))
 have q:=go x y p8 t4 px py (by rw[<-sz];exact z8') (up _ _ (nij (by decide)) o5') a1 a2 (by rw[<-sz];exact t8) kp
 rw[<-sz]at q;exact q
theorem Yp{I l1 l2 n1 n2 k:Ag}{P1 P2:Ag->Ai->Prop}{S1 S2:Ag->AD->Prop}{a b:Ai}{Q:Fin->Ar->Prop}(b1:l1<I)(b2:l2<I)(D1:Dw prog w A I [I,l1] n1 P1 S1)(D2:Dw prog w A (I+1) [I+1,l2] n2 P2 S2)(hz:F6 s.heap (I+4) (I+2) (I+3) .none)(hI:Ei s.heap (I+2) (.ref I) (.ref (I+1)))(hO:Ei s.heap (I+3) a b)(g1:S1 k s.heap)(g2:S2 k s.heap)(hk:n1<=k\/(k<n1/\n2<=k))(up:∀ h2 e tk,(∀ c o,c∉[I,I+1,I+3,I+4]->s.heap.get? c=Aa o->h2.get? c=Aa o)->(∃ o,h2.get? e=Aa o/\o.cls=.type "StopIteration")->E (.ref e) {s with heap:=h2,toks:=tk}):Ay (model prog w) A (Builtin.«zip.__next__» ⟨[.ref (I+4)],[]⟩) Q E s:=by
 refine Am (m:=field (.ref (I+4)) 2) (BO hz rfl (x:=.bool Ac) rfl ?_);refine Am (m:=field (.ref (I+4)) 3) (BO hz rfl (x:=.ref (I+2)) rfl (Am (Dp hI rfl ?_)));refine Am (m:=CK (.ref (I+4))) ?_;simp only[CK];refine Am (BO hz rfl (x:=.none) rfl (AJ ?_));rw[Aw rfl];refine Am (JM (Am (BO hz rfl (x:=.ref (I+3)) rfl (Am (Du hz (by simp) fun p1 z1 e1=>Am ?_)))))
 have z1':F6 p1 (I+4) (I+2) (I+3) .ellipsis:=z1;simp only[UF,UG,Hm,Gg];have g1':S1 k p1:=D1.frame _ _ _ g1 fun c hc o q=>e1.extBut c o (nb1 b1 hc 3) q
 rcases hk with k1|⟨k1,k2⟩
 ·refine Am (Am (FH (Am (m:=BH (.ref I)) (D1.done _ _ _ _ k1 g1' fun p2 e e2 he=>?_))))
  obtain⟨oe,hoe,hce⟩:=he;have z2:F6 p2 (I+4) (I+2) (I+3) .ellipsis:=e2 _ _ (ni0 (by decide)) z1'
  have ne:e≠I+4:=fun x=>by subst x;rw[z2]at hoe;cases hoe;simp at hce
  refine Du z2 (by simp) fun p3 _ e3=>up p3 e s.toks (fun c o nc q=>?_) ⟨oe,e3.extBut _ _ ne hoe,hce⟩
  simp only[AB,Bc,Cd,D4]at nc;exact e3.extBut c o nc.2.2.2 (e2 c o nc.1 (e1.extBut c o nc.2.2.2 q))
 ·refine Am (Am (FH (Am (m:=BH (.ref I)) (D1.item k _ _ _ k1 g1' fun x p2 t2 px s2 e2=>AJ ?_))))
  have o2:Ei p2 (I+3) a b:=e2.extBut _ _ (ni0 (by decide)) (e1.extBut _ _ (nij (by decide)) hO)
  refine Am (Dp o2 rfl (Am (Ga o2 fun p3 o3 e3=>Am (IZ (AJ ?_)))))
  have g2':S2 k p3:=D2.frame _ _ _ g2 fun c hc o q=>e3.extBut c o (nb2 b2 hc).2.1 (e2.extBut c o (nb2 b2 hc).1 (e1.extBut c o (nb2 b2 hc).2.2 q))
  refine Am (Am (FH (Am (m:=BH (.ref (I+1))) (D2.done _ _ _ _ k2 g2' fun p4 e e4 he=>?_))))
  obtain⟨oe,hoe,hce⟩:=he;have z4:F6 p4 (I+4) (I+2) (I+3) .ellipsis:=e4 _ _ (nij (by decide)) (e3.extBut _ _ (nij (by decide)) (e2.extBut _ _ (ni0 (by decide)) z1'))
  have ne:e≠I+4:=fun x=>by subst x;rw[z4]at hoe;cases hoe;simp at hce
  refine Du z4 (by simp) fun p5 _ e5=>up p5 e t2 (fun c o nc q=>?_) ⟨oe,e5.extBut _ _ ne hoe,hce⟩
  simp only[AB,Bc,Cd,D4]at nc;exact e5.extBut c o nc.2.2.2 (e4 c o nc.2.1 (e3.extBut c o nc.2.2.1 (e2.extBut c o nc.1 (e1.extBut c o nc.2.2.2 q))))
end
def SqX(t:Ao)(K:Fg)(H:Hp)(a:Aj)(xs:Ad V):Prop:=match t with
  |true=>SqT K H a xs
  |false=>SqL K H a xs
theorem HZ(I:Inv X pI σ H s)(h:SqX t X.K H a xs):∃ its:Ad Ai,Bi xs its/\DW t s.heap a its.toArray/\xs.length<=sizeLine:=by
 cases t with
 |true=>
  obtain⟨its,rv,p,z⟩:=I.tuple h;exact⟨its,rv,p,z⟩
 |false=>
  obtain⟨its,rv,p,z⟩:=I.list h;exact⟨its,rv,p.isList,z⟩
theorem MS(I:Inv X pI σ H s)(h:SqX t X.K H a xs)(h2:SqX t X.K H a ys):xs=ys:=by
 cases t with
 |true=>exact I.tuple_inj h h2
 |false=>exact I.list_inj h h2
noncomputable def Itz(K:Fg)(t1 t2:Ao)(a b:Aj):It:=
  ⟨fun i H=>∃ xs ys x y,SqX t1 K H a xs/\SqX t2 K H b ys/\xs[i]?=Aa x/\ys[i]?=Aa y,
   fun i H v H'=>∃ p x y,H p=Ae/\v=.ref p/\(∀ xs,SqX t1 K H a xs->xs[i]?=Aa x)/\(∀ ys,SqX t2 K H b ys->ys[i]?=Aa y)/\H'=upd H p (.tup [x,y]),
   fun i H=>∃ xs ys,SqX t1 K H a xs/\SqX t2 K H b ys/\(xs.length<=i\/(i<xs.length/\ys.length<=i))⟩
theorem Inv.turnedL{t':Ag}(ch:Ad Aj)(I:Inv X pI σ H s)(k:∀ b o,b∉ch->s.heap.get? b=Aa o->h'.get? b=Aa o)(hf:∀ b∈ch,Gn X pI H b):Inv X pI σ H {s with heap:=h',toks:=t'}:=by
 have nit:∀ b u,H b=Aa u->b∉ch:=fun b u e z=>by rw[(hf b z).1]at e;cases e
 refine I.step (g':=s.gens) (d':=s.drawn) (ch:=ch) (fun b hb=>⟨(hf b hb).2.2.2.1,(hf b hb).2.1,(hf b hb).2.2.2.2.1,(hf b hb).2.2.2.2.2⟩) (fun b o _ _ hc e _=>k b o hc e) (fun b o _ _ hc e _=>⟨o.slots,k b o hc e⟩) (fun _ _ _ _ n=>n)
  (fun b o hc e=>⟨o,k b o hc e⟩) (fun _ _ e=>e) (fun _ _ _ e=>e) (fun b ps e=>⟨#[],by rw[e];simp⟩) (fun m ⟨o,es,ep,ho,r⟩=>⟨o,es,ep,k _ o (fun z=>(hf _ z).2.1 rfl) ho,r⟩) (fun b u e=>(I.hok b u e).stay (fun c v hc q=>k c v ?_ q) (fun _ q=>q) fun _ _ q=>q) I.bare
 rcases hc with z|z
 ·rw[z];exact nit b u e
 ·exact nit c _ z
def zTn(t1 t2:Ao)(I l1 l2:Ag)(i:Ag)(h:AD):Prop:=F6 h (I+4) (I+2) (I+3) .none/\Ei h (I+2) (.ref I) (.ref (I+1))/\(∃ a b,Ei h (I+3) a b)/\D9 t1 h I l1 i/\D9 t2 h (I+1) l2 i
noncomputable def zFp(I:Ag):Ad Aj:=[I,I+1,I+2,I+3,I+4]
theorem D9.obj{j:Aj}(z:D9 t h j l i):∃ o,h.get? j=Aa o/\∀ v,o.data≠.cell v:=by
 cases t with
 |true=>obtain⟨o,e,c,d⟩:=z;exact⟨o,e,fun v z=>by rw[d]at z;cases z⟩
 |false=>obtain⟨o,e,c,d⟩:=z;exact⟨o,e,fun v z=>by rw[d]at z;cases z⟩
theorem D9.at'{j:Aj}(z:D9 t h j l i)(k:∀ o,h.get? j=Aa o->h2.get? j=Aa o):D9 t h2 j l i:=by
 cases t with
 |true=>exact PySem.Heap.IsTupleIter.at z k
 |false=>exact PySem.Heap.IsListIter.at z k
theorem Xy(t1 t2:Ao)(I l1 l2:Ag)(b1:l1<I)(b2:l2<I):Turn P w K (.Tuple es n pos) (Itz K t1 t2 l1 l2) (zFp I) (I+4) (zTn t1 t2 I l1 l2) where
  mem:=by simp[zFp]
  obj:=fun i h ⟨z1,z2,⟨a,b,z3⟩,z4,z5⟩ c hc=>by
    simp only[zFp,AB,Bc,Cd]at hc;rcases hc with rfl|rfl|rfl|rfl|rfl
    · exact z4.obj
    · exact z5.obj
    · exact⟨_,z2,fun v z=>by cases z⟩
    · exact⟨_,z3,fun v z=>by cases z⟩
    · exact⟨_,z1,fun v z=>by cases z⟩
  keep:=fun i h h2 ⟨z1,z2,⟨a,b,z3⟩,z4,z5⟩ k=>⟨k _ (by simp[zFp]) _ z1,k _ (by simp[zFp]) _ z2,⟨a,b,k _ (by simp[zFp]) _ z3⟩,z4.at' fun o e=>k _ (by simp[zFp]) o e,z5.at' fun o e=>k _ (by simp[zFp]) o e⟩
  item:=by
    intro X hP hw hK hc i pI s σ H E Iv hf ⟨z1,z2,⟨a,b,z3⟩,z4,z5⟩ ⟨xs,ys,x,y,q1,q2,hx,hy⟩;subst hP hw hK;obtain⟨us,rx,sx,_⟩:=HZ Iv q1;obtain⟨vs,ry,sy,_⟩:=HZ Iv q2;obtain⟨u,hu,ru⟩:=rx.get hx;obtain⟨v,hv,rv⟩:=ry.get hy;have hT:s.TypeIs (.ref (I+4)) "zip" := ⟨_,z1,rfl⟩;have calm:X.A.in1.handled=Ae:=Iv.ok.hd hc;show Ay _ _ (HN _) _ _ _;simp only[HN];refine Am (wpAny_attempt (Dm hT F5 (Er F5 hT U4 (Xl (k:=i) b1 b2 (Kh calm t1 I l1 (Bb b1) us.toArray) (Kh calm t2 (I+1) l2 (Bb (De b2)) vs.toArray) z1 z2 z3 ⟨z4,sx⟩ ⟨z5,sy⟩
      (by have:=(A7.mp hu).1;simpa using this) (by have:=(A7.mp hv).1;simpa using this) fun x' y' h2 tk px py c1 c2 c3 c4 c5 kp=>AJ ?_) (U0 _))))
    have ex:x'=u:=by
      have px':us[i]?=Aa x':=by simpa using px
      rw[hu]at px';exact(Bf px').symm
    have ey:y'=v:=by
      have py':vs[i]?=Aa y':=by simpa using py
      rw[hv]at py';exact(Bf py').symm
    subst ex ey;refine⟨_,rfl,wpAny_letOwnedTupleGo_zip c1 fun h3 d1 sb=>?_⟩
    have lt4:I+4<s.heap.objs.size:=AG z1;have kp3:∀ c o,c∉zFp I->s.heap.get? c=Aa o->h3.get? c=Aa o:=fun c o nc q=>by
      simp only[zFp,AB,Bc,Cd,D4]at nc;exact sb.extBut c o nc.2.2.2.2 (kp c o (by simp only[AB,Bc,Cd,D4];exact⟨nc.1,nc.2.1,nc.2.2.2.1,nc.2.2.2.2⟩) q)
    have nT:∀ c∈zFp I,c≠s.heap.objs.size:=fun c hc z=>by
      have:c<=I+4:=by
        simp only[zFp,AB,Bc,Cd]at hc;rcases hc with z|z|z|z|z<;>rw[z]<;>simp
      exact absurd (z ▸ E2 this lt4) (Bu _)
    have I1:Inv X pI σ (upd H s.heap.objs.size (.tup [x,y])) { s with heap:=s.heap.push { cls:=.type "tuple", data:=.seq #[x',y'] },toks:=s.toks }:=
      Iv.laid (fun _ _ q=>Au _ q) (AY _) ⟨(by decide:2<=sizeLine),[x',y'],.cons ru (.cons rv .nil),⟨_,AN _ rfl,rfl,_,rfl⟩⟩
    have hf':∀ b∈zFp I,Gn X pI (upd H s.heap.objs.size (.tup [x,y])) b:=fun b hb=>⟨by rw[By (nT b hb)];exact(hf b hb).1,(hf b hb).2⟩
    have I2:Inv X pI σ (upd H s.heap.objs.size (.tup [x,y])) {s with heap:=h3,toks:=tk}:=Inv.turnedL (s:={ s with heap:=s.heap.push { cls:=.type "tuple", data:=.seq #[x',y'] },toks:=s.toks }) (zFp I) I1 (fun c o nc q=>by
      rcases Va q with ⟨e1,e2⟩|e1
      · subst e1 e2;exact sb.extBut _ _ (Ef lt4) c5
      · exact kp3 c o nc e1) hf'
    refine⟨.ref s.heap.objs.size,_,I2,rfl,⟨s.heap.objs.size,x,y,Iv.fresh,rfl,fun zs hz=>by rw[MS Iv hz q1];exact hx,fun zs hz=>by rw[MS Iv hz q2];exact hy,rfl⟩,⟨d1,sb.extBut _ _ (nij (by decide)) (kp _ _ (by simp) z2),⟨_,_,sb.extBut _ _ (nij (by decide)) c2⟩,c3.1.at' fun o q=>sb.extBut _ o (CJ (ni0 (by decide))) q,c4.1.at' fun o q=>sb.extBut _ o (nij (by decide)) q⟩,fun b hb=>(hf' b hb).1⟩
  done:=by
    intro X hP hw hK hc i pI s σ H E Iv hf ⟨z1,z2,⟨a,b,z3⟩,z4,z5⟩ ⟨xs,ys,q1,q2,hk⟩;subst hP hw hK;obtain⟨us,rx,sx,_⟩:=HZ Iv q1;obtain⟨vs,ry,sy,_⟩:=HZ Iv q2;have hT:s.TypeIs (.ref (I+4)) "zip" := ⟨_,z1,rfl⟩;have calm:X.A.in1.handled=Ae:=Iv.ok.hd hc;have e1:=rx.length;have e2:=ry.length;simp only[HN];refine Am (wpAny_attempt (Dm hT F5 (Er F5 hT U4 (Yp (k:=i) b1 b2 (Kh calm t1 I l1 (Bb b1) us.toArray) (Kh calm t2 (I+1) l2 (Bb (De b2)) vs.toArray) z1 z2 z3 ⟨z4,sx⟩ ⟨z5,sy⟩
      (by simp only[AO];omega) fun h2 e tk kp he=>?_) (U0 _))))
    obtain⟨o,ho,hcl⟩:=he;refine Am (wpAny_isInstance (T := "StopIteration") (b:=Ab) ⟨o,ho,hcl⟩ isSubtype_stop (AJ ⟨rfl,Inv.turnedL [I,I+1,I+3,I+4] Iv (fun c o nc q=>kp c o nc q) fun c hc=>hf c ?_⟩))
    simp only[AB,Bc,Cd]at hc;simp only[zFp,AB,Bc,Cd];rcases hc with rfl|rfl|rfl|rfl<;>simp
  self:=fun _ _ _ _ _ st h=>VG st.1 h
section
variable{prog:AR}{w:AC}{A:AZ}{E:Vq}{s:Ar}
noncomputable def itO(t:Ao)(l:Aj):CW:=match t with
  |true=>{ cls:=.type "tuple_iterator", data:=.fields #[.ref l,.int 0 0] }
  |false=>{ cls:=.type "list_iterator", data:=.fields #[.ref l,.int 0 0] }
theorem Ll{Q:Vq}(h:DW t s.heap l its)(q:Q (.ref s.heap.objs.size) {s with heap:=s.heap.push (itO t l)}):Ay (model prog w) A (KH (.ref l)) Q E s:=by
 cases t with
 |true=>exact E6 h q
 |false=>exact DF h q
theorem DW.push(z:DW t h l its)(o:CW):DW t (h.push o) l its:=by
 cases t with
 |true=>exact PySem.Heap.IsTuple.at z fun _ e=>Au _ e
 |false=>exact PySem.Heap.IsList.at z fun _ e=>Au _ e
theorem Ob{j:Aj}(e:h.get? j=Aa (itO t l)):D9 t h j l 0:=by
 cases t with
 |true=>exact⟨_,e,rfl,rfl⟩
 |false=>exact⟨_,e,rfl,rfl⟩
theorem Ni(t:Ao)(l:Aj):(itO t l).isFreed=Ac:=by cases t<;>rfl
noncomputable abbrev zh2(t1 t2:Ao)(h:AD)(l1 l2:Aj):AD:=(h.push (itO t1 l1)).push (itO t2 l2)
noncomputable abbrev zh3(t1 t2:Ao)(h:AD)(l1 l2:Aj):AD:=(zh2 t1 t2 h l1 l2).push { cls:=.type "tuple", data:=.seq #[.ref h.objs.size,.ref (h.push (itO t1 l1)).objs.size] }
noncomputable abbrev zh4(t1 t2:Ao)(h:AD)(l1 l2:Aj):AD:=(zh3 t1 t2 h l1 l2).push { cls:=.type "tuple", data:=.seq #[.none,.none] }
noncomputable abbrev zh5(t1 t2:Ao)(h:AD)(l1 l2:Aj):AD:=(zh4 t1 t2 h l1 l2).push { cls:=.type "zip", data:=.fields #[.none,.bool Ac,.bool Ac,.ref (zh2 t1 t2 h l1 l2).objs.size,.ref (zh3 t1 t2 h l1 l2).objs.size] }
theorem Yo(t1 t2:Ao)(l1 l2:Aj)(xs ys:Bl Ai):Meets (Builtin.«zip.__new__» ⟨[.type "zip", .ref l1,.ref l2],[]⟩) (fun _ R s=>DW t1 s.heap l1 xs/\DW t2 s.heap l2 ys/\R (.ok (.ret (.ref (zh4 t1 t2 s.heap l1 l2).objs.size))) {s with heap:=zh5 t1 t2 s.heap l1 l2}):=
 .of_wp fun prog w A R s h=>by
  obtain⟨hp,g,d,tk,os⟩:=s;obtain⟨a1,a2,q⟩:=h;have hsub:=sub_zip;have L1:DW t1 (IX ⟨hp,g,d,tk,os⟩) l1 xs:=a1;have L2:DW t2 (IX ⟨hp.push (itO t1 l1),g,d,tk,os⟩) l2 ys:=a2.push _
  wp_walk using Ll L1,Ll L2
  exact⟨_,rfl,q⟩
theorem Xm{t1 t2:Ao}{l1 l2:Aj}{xs ys:Bl Ai}{Q:Vq}(a1:DW t1 s.heap l1 xs)(a2:DW t2 s.heap l2 ys)(q:∀ h2,zTn t1 t2 s.heap.objs.size l1 l2 0 h2->(∀ c o,s.heap.get? c=Aa o->h2.get? c=Aa o)->Q (.ref (s.heap.objs.size+4)) {s with heap:=h2}):Ay (model prog w) A (call (.type "zip") [.ref l1,.ref l2]) Q E s:=by
 refine callType_new F.called_zip (by decide) (F.typeCall_zip_2 _ _) (F.newCall_zip_2 _ _) (fun obj=>F.args_object_init_3 obj _ _) F.entry_zip_new (Yo t1 t2 l1 l2 xs ys) ⟨a1,a2,?_⟩
 have s1:(s.heap.push (itO t1 l1)).objs.size=s.heap.objs.size+1:=Cc ..;have s2:(zh2 t1 t2 s.heap l1 l2).objs.size=s.heap.objs.size+2:=by rw[Cc,s1]
 have s3:(zh3 t1 t2 s.heap l1 l2).objs.size=s.heap.objs.size+3:=by rw[Cc,s2]
 have s4:(zh4 t1 t2 s.heap l1 l2).objs.size=s.heap.objs.size+4:=by rw[Cc,s3]
 have u5:∀ {c o},(zh4 t1 t2 s.heap l1 l2).get? c=Aa o->(zh5 t1 t2 s.heap l1 l2).get? c=Aa o:=fun e=>Au _ e
 have u4:∀ {c o},(zh3 t1 t2 s.heap l1 l2).get? c=Aa o->(zh5 t1 t2 s.heap l1 l2).get? c=Aa o:=fun e=>u5 (Au _ e)
 have u3:∀ {c o},(zh2 t1 t2 s.heap l1 l2).get? c=Aa o->(zh5 t1 t2 s.heap l1 l2).get? c=Aa o:=fun e=>u4 (Au _ e)
 have u2:∀ {c o},(s.heap.push (itO t1 l1)).get? c=Aa o->(zh5 t1 t2 s.heap l1 l2).get? c=Aa o:=fun e=>u3 (Au _ e)
 have g5:(zh5 t1 t2 s.heap l1 l2).get? (zh4 t1 t2 s.heap l1 l2).objs.size=Aa _:=AN _ rfl;have g4:(zh5 t1 t2 s.heap l1 l2).get? (zh3 t1 t2 s.heap l1 l2).objs.size=Aa _:=u5 (AN _ rfl);have g3:(zh5 t1 t2 s.heap l1 l2).get? (zh2 t1 t2 s.heap l1 l2).objs.size=Aa _:=u4 (AN _ rfl);have g2:(zh5 t1 t2 s.heap l1 l2).get? (s.heap.push (itO t1 l1)).objs.size=Aa _:=u3 (AN _ (Ni _ _));have g1:(zh5 t1 t2 s.heap l1 l2).get? s.heap.objs.size=Aa _:=u2 (AN _ (Ni _ _));show _/\_;rw[s2,s3,s4]at g5;rw[s3]at g4;rw[s1,s2]at g3;rw[s1]at g2;rw[s4];exact⟨⟨_,g5,rfl⟩,q _ ⟨g5,g3,⟨_,_,g4⟩,Ob g1,Ob g2⟩ fun c o e=>u2 (Au _ e)⟩
end
def mX(K:Fg)(ta:TA):TI:=fun σ H R=>ta σ H fun vs H1=>∃ t1 t2 a b xs ys,vs=[.ref a,.ref b]/\SqX t1 K H1 a xs/\SqX t2 K H1 b ys/\(xs.length<=sizeLine->R (Itz K t1 t2 a b) H1)
theorem DW.lt(z:DW t h a its):a<h.objs.size:=by
 cases t with
 |true=>obtain⟨o,e,_⟩:=z;exact AG e
 |false=>obtain⟨o,e,_⟩:=z;exact AG e
theorem eB{a b:Ap}(hg:Gl X "zip")(hm:X.mg "zip" = Ae)(ha:PA X [a,b] ta)(hs:AA [a,b] X.env=[(Ac,eval a X.env),(Ac,eval b X.env)])(hs2:AA [b] X.env=[(Ac,eval b X.env)]):
  PI X (.Tuple es n tpos) (.Call (.Name "zip" p) [a,b] [] pos) (mX X.K ta):=by
 intro pI s σ H R I h;refine Call_ (Jt I hg hm PyProof.Rows.boot_zip (CT (thn (ha pos pI s σ H _ I h) fun us s1 ⟨vs,H1,I1,r1,q1⟩=>?_) (by rw[hs,hs2]) (by rw[hs2];rfl)))
 obtain⟨t1,t2,c,d,xs,ys,e,sx,sy,q⟩:=q1;subst e;cases r1 with
 |cons r rr=>
  cases rr with
  |cons r' rr=>
   cases rr;cases r;cases r';obtain⟨us,ru,iu,zu⟩:=HZ I1 sx;obtain⟨vs,rv,iv,_⟩:=HZ I1 sy;refine Xm iu iv fun h2 z kp=>VG z.1 ?_
   refine⟨s1.heap.objs.size+4,zFp s1.heap.objs.size,_,_,H1,rfl,I1.kept (t':=s1.toks) kp,Xy t1 t2 s1.heap.objs.size c d iu.lt iv.lt,z,fun b hb=>?_,q zu⟩
   have hb':s1.heap.objs.size<=b:=by
    simp only[zFp,AB,Bc,Cd]at hb;rcases hb with z|z|z|z|z<;>rw[z]<;>simp
   exact I1.fpOk hb' (I1.hok.fresh hb')
theorem Oe{ds:Ad D}(r:Rep K CL H A v d)(e:Ck d=.ok ds):∃ t a xs,v=.ref a/\(∀ H2,Kp A H H2->SqX t K H2 a xs)/\Reps K CL H A xs ds:=by
 cases d with
 |lst es=>
  cases e;obtain⟨q,xs,rfl,na,sq,r⟩:=r;exact⟨Ac,q,xs,rfl,fun H2 k=>Me k na sq,r⟩
 |tup es=>
  cases e;obtain⟨q,xs,rfl,na,sq,r⟩:=r;exact⟨Ab,q,xs,rfl,fun H2 k=>Md k na sq,r⟩
 |_=>cases e
theorem Nq:∀(xs ys:Ad D),(El xs ys).length=min xs.length ys.length
 |[],_=>by simp[El]
 |_::_,[]=>by simp[El]
 |x::xs,y::ys=>by
  rw[El,Bs,Nq xs ys];simp only[Bs];omega
theorem PC:∀(xs ys:Ad D)(i:Ag)(d:D),(El xs ys)[i]?=Aa d->∃ x y,xs[i]?=Aa x/\ys[i]?=Aa y/\d=.tup [x,y]
 |[],_,i,d,h=>by simp[El]at h
 |_::_,[],i,d,h=>by simp[El]at h
 |x::xs,y::ys,0,d,h=>by
  rw[El]at h;simp only[Up,Cr]at h;exact⟨x,y,rfl,rfl,h.symm⟩
 |x::xs,y::ys,i+1,d,h=>by
  rw[El]at h;simp only[Uo]at h ⊢;exact PC xs ys i d h
theorem Xn{t1 t2:Ao}{ds es:Ad D}(s1:∀ H2,Kp A H1 H2->SqX t1 K H2 a xs)(s2:∀ H2,Kp A H1 H2->SqX t2 K H2 b ys)(r1:Reps K CL H1 A xs ds)(r2:Reps K CL H1 A ys es) :Ih K CL A (El ds es) (Itz K t1 t2 a b) H1:=fun H k i=>by
 refine⟨fun hi=>⟨xs,ys,s1 H k,s2 H k,?_⟩,fun d hd=>?_⟩
 ·rw[Nq]at hi;rw[r1.length,r2.length];omega
 ·obtain⟨x,y,hx,hy,rfl⟩:=PC _ _ _ _ hd;obtain⟨u,hu,ru⟩:=r1.get hx;obtain⟨v,hv,rv⟩:=r2.get hy;refine⟨⟨xs,ys,u,v,s1 H k,s2 H k,hu,hv⟩,?_⟩;rintro w' H' ⟨p,x',y',hp,rfl,c1,c2,rfl⟩;have ex:x'=u:=Bf ((c1 xs (s1 H k)).symm.trans hu);have ey:y'=v:=Bf ((c2 ys (s2 H k)).symm.trans hv);subst ex ey;have sm:=FM hp (.tup [x',y']);exact⟨sm,fun B hB aB=>JZ aB hp ⟨KO ru k hB,KO rv k hB,trivial⟩⟩
section
variable{X:Cx}{CL:ClA}{W:XW}{pos p:AM}{a b:Ap}{fa fb:Rho->R D}
theorem aZ(ha:SE X CL W a fa)(hb:SE X CL W b fb)(hg:Gl X "zip")(hm:X.mg "zip" = Ae)(hs:AA [a,b] X.env=[(Ac,eval a X.env),(Ac,eval b X.env)])(hs2:AA [b] X.env=[(Ac,eval b X.env)]):
  SI X CL W (.Tuple es n tpos) (.Call (.Name "zip" p) [a,b] [] pos) (fun ρ=>(fa ρ).bind fun x=>(fb ρ).bind fun y=>(Ck x).bind fun xs=>(Ck y).bind fun ys=>.ok (El xs ys)):=
 fun A=>PI.weak (eB hg hm (Et (ha A) (Et (hb A) GC hs2) (by rw[hs,hs2])) hs hs2) fun σ H R ⟨hA,ρ,g,q⟩=>⟨hA,ρ,g,EA.ex q fun d v H1 _ s1 r1 p1=>⟨hA.same s1,ρ,g.same s1,EA.ex p1 fun d2 v2 H2 _ s2 r2 p2=>by
  cases e1:Ck d with
  |bad=>rw[e1]at p2;exact p2.elim
  |exn z=>exact absurd e1 (by cases d<;>simp[Ck])
  |ok ds=>
   cases e2:Ck d2 with
   |bad=>rw[e1,e2]at p2;exact p2.elim
   |exn z=>exact absurd e2 (by cases d2<;>simp[Ck])
   |ok es=>
    rw[e1,e2]at p2;obtain⟨t1,c1,xs,rfl,k1,rs1⟩:=Oe (r1.same s2) e1;obtain⟨t2,c2,ys,rfl,k2,rs2⟩:=Oe r2 e2;refine⟨t1,t2,c1,c2,xs,ys,rfl,k1 H2 (Kp.of (AE.refl H2)),k2 H2 (Kp.of (AE.refl H2)),fun hz=>p2 _ H2 (AE.refl H2) (Xn k1 k2 rs1 rs2) ?_⟩
    rw[Nq,<-rs1.length];omega⟩⟩
end
theorem D9.live{l:Ag}(z:D9 t h j l i):∃ o,h.get? j=Aa o/\∀ v,o.data≠.cell v:=by
 cases t with
 |true=>obtain⟨o,e,c,d⟩:=z;exact⟨o,e,fun v z=>by rw[d]at z;cases z⟩
 |false=>obtain⟨o,e,c,d⟩:=z;exact⟨o,e,fun v z=>by rw[d]at z;cases z⟩
theorem D9.keep{l:Ag}(z:D9 t h j l i)(k:∀ o,h.get? j=Aa o->h2.get? j=Aa o):D9 t h2 j l i:=by
 cases t with
 |true=>exact PySem.Heap.IsTupleIter.at z k
 |false=>exact PySem.Heap.IsListIter.at z k
theorem fU{A:AZ}(calm:A.handled=Ae)(t:Ao)(j l:Aj)(ne:l≠j)(its:Bl Ai):Draws prog w A j [j,l] its.size (fun i v=>its[i]?=Aa v) (fun i h=>D9 t h j l i/\DW t h l its):=
 have d:=Kh (prog:=prog) (w:=w) calm t j l ne its
 ⟨fun i h z=>let ⟨o,e,_⟩:=z.1.live;⟨o,e⟩,d.frame,d.item,fun s Q E h q=>d.done _ s Q E (AY _) h q⟩
theorem ZT{A:AZ}(calm:A.handled=Ae)(t:Ao)(j l:Aj)(ne:l≠j)(its:Bl Ai)(i:Ag)(hi:its.size<=i):Draws prog w A j [j,l] i (fun _ _=>AS) (fun k h=>k=i/\D9 t h j l i/\DW t h l its):=
 have d:=Kh (prog:=prog) (w:=w) calm t j l ne its
 ⟨fun _ h z=>let ⟨o,e,_⟩:=z.2.1.live;⟨o,e⟩,fun k h h' z q=>⟨z.1,d.frame i h h' z.2 q⟩,fun k s Q E lt z=>absurd z.1 (Bb lt),fun s Q E h q=>d.done i s Q E hi h.2 q⟩
noncomputable def Ite(K:Fg)(t:Ao)(a:Aj):It:=
 ⟨fun i H=>∃ xs x,SqX t K H a xs/\xs[i]?=Aa x,fun i H v H'=>∃ p x,H p=Ae/\v=.ref p/\(∀ xs,SqX t K H a xs->xs[i]?=Aa x)/\H'=upd H p (.tup [.int i,x]),fun i H=>∃ xs,SqX t K H a xs/\xs.length<=i⟩
def eTn(t:Ao)(I l:Ag)(i:Ag)(h:AD):Prop:=(∃ old,IsEnum h (I+1) I i old)/\D9 t h I l i
theorem Wp(t:Ao)(I l:Ag)(b:l<I):Turn P w K (.Tuple es n pos) (Ite K t l) [I,I+1] (I+1) (eTn t I l) where
  mem:=by simp
  obj:=fun i h ⟨⟨old,z1⟩,z2⟩ c hc=>by
    simp only[AB,Bc,Cd]at hc;rcases hc with rfl|rfl
    · exact z2.live
    · exact⟨_,z1,fun v z=>by cases z⟩
  keep:=fun i h h2 ⟨⟨old,z1⟩,z2⟩ k=>⟨⟨old,k _ (by simp) _ z1⟩,z2.keep fun o e=>k _ (by simp) o e⟩
  item:=by
    intro X hP hw hK hc i pI s σ H E Iv hf ⟨⟨old,z1⟩,z2⟩ ⟨xs,x,q1,hx⟩;subst hP hw hK;obtain⟨us,rx,px,_⟩:=HZ Iv q1;obtain⟨u,hu,ru⟩:=rx.get hx;have lu:i<us.toArray.size:=by
      have:=(A7.mp hu).1;simpa using this
    refine wpAny_pyNext_enum_itemD (fU (A:=X.A.in1) (Iv.ok.hd hc) t I l (Bb b) us.toArray) z1 ⟨z2,px⟩ lu (ni0 (by decide)) (by simp only[AB,Bc,Cd,D4];exact⟨ni0 (by decide),Ef (AQ b (Nat.le_add_right _ _))⟩) fun u' h2 tk hu' ho it2 hT sz kp=>⟨_,rfl,wpAny_letOwnedTupleGo_enum ho fun h3 d1 sb=>?_⟩
    have eu:u'=u:=by
      rw[List.getElem?_toArray,hu]at hu';exact(Bf hu').symm
    subst eu;have lt:I+1<s.heap.objs.size:=AG z1;have kp3:∀ c o,c∉[I,I+1]->s.heap.get? c=Aa o->h3.get? c=Aa o:=fun c o nc q=>by
      simp only[AB,Bc,Cd,D4]at nc;exact sb.extBut c o nc.2 (kp c o nc.2 nc.1 q)
    have nT:∀ c∈[I,I+1],c≠s.heap.objs.size:=fun c hc z=>by
      have:c<=I+1:=by
        simp only[AB,Bc,Cd]at hc;rcases hc with z|z<;>rw[z]<;>simp
      exact absurd (z ▸ E2 this lt) (Bu _)
    have I1:Inv X pI σ (upd H s.heap.objs.size (.tup [.int i,x])) { s with heap:=s.heap.push { cls:=.type "tuple", data:=.seq #[.int i tk,u'] },toks:=s.toks }:=
      Iv.laid (fun _ _ q=>Au _ q) (AY _) ⟨(by decide:2<=sizeLine),[.int i tk,u'],.cons ⟨_,rfl⟩ (.cons ru .nil),⟨_,AN _ rfl,rfl,_,rfl⟩⟩
    have hf':∀ b∈[I,I+1],Gn X pI (upd H s.heap.objs.size (.tup [.int i,x])) b:=fun b hb=>⟨by rw[By (nT b hb)];exact(hf b hb).1,(hf b hb).2⟩
    have I2:Inv X pI σ (upd H s.heap.objs.size (.tup [.int i,x])) {s with heap:=h3,toks:=tk+1}:=Inv.turnedL (s:={ s with heap:=s.heap.push { cls:=.type "tuple", data:=.seq #[.int i tk,u'] },toks:=s.toks }) [I,I+1] I1 (fun c o nc q=>by
      rcases Va q with ⟨e1,e2⟩|e1
      · subst e1 e2;exact sb.extBut _ _ (Ef lt) hT
      · exact kp3 c o nc e1) hf'
    exact⟨.ref s.heap.objs.size,_,I2,rfl,⟨s.heap.objs.size,x,Iv.fresh,rfl,fun zs hz=>by rw[MS Iv hz q1];exact hx,rfl⟩,⟨⟨u',by simpa using d1⟩,it2.1.keep fun o q=>sb.extBut _ o (CJ (ni0 (by decide))) q⟩,fun b hb=>(hf' b hb).1⟩
  done:=by
    intro X hP hw hK hc i pI s σ H E Iv hf ⟨⟨old,z1⟩,z2⟩ ⟨xs,q1,hk⟩;subst hP hw hK;obtain⟨us,rx,px,_⟩:=HZ Iv q1;have e1:=rx.length;have e2:us.toArray.size<=i:=by rw[AO,<-e1];exact hk
    refine wpAny_pyNext_enum_endD (ZT (A:=X.A.in1) (Iv.ok.hd hc) t I l (Bb b) us.toArray i e2) z1 ⟨rfl,z2,px⟩ fun h2 eb=>⟨rfl,Inv.turnedL [I] Iv (t':=s.toks) (fun c o nc q=>eb c o (fun z=>nc (by simp[z])) q) fun c hc=>hf c ?_⟩
    have:c=I:=by simpa using hc
    subst this;simp
  self:=fun _ _ _ _ _ st h=>VF st.1.choose_spec h
section
variable{prog:AR}{w:AC}{A:AZ}{E:Vq}{s:Ar}
theorem WY(t:Ao)(l:Aj)(xs:Bl Ai):Meets (Builtin.«enumerate.__new__» ⟨[.type "enumerate", .ref l],[]⟩) (fun _ R s=>DW t s.heap l xs /\
   R (.ok (.ret (.ref (s.heap.push (itO t l)).objs.size))) { s with heap:=(s.heap.push (itO t l)).push { cls:=.type "enumerate", data:=.fields #[.none,.bool Ac,.ref s.heap.objs.size,DS 0,.none,.none] } }):=
 .of_wp fun prog w A R s h=>by
  obtain⟨hp,g,d,tk,os⟩:=s;obtain⟨hl,h⟩:=h;have hsub:=sub_enumerate;have hL:DW t (IX ⟨hp,g,d,tk,os⟩) l xs:=hl
  wp_walk
  refine wpAny_stack_any fun st=>AJ ?_
  split
  ·rename_i c _ _ _ _ _;cases (c==JH "enumerate")
   ·wp_walk using Ll hL
    exact⟨_,rfl,h⟩
   ·wp_walk using Ll hL
    exact⟨_,rfl,h⟩
  ·wp_walk using Ll hL
   exact⟨_,rfl,h⟩
theorem Wx{xs:Bl Ai}{Q:Vq}(hL:DW t s.heap l xs)(h:∀ h',IsEnum h' (s.heap.objs.size+1) s.heap.objs.size 0 .none->D9 t h' s.heap.objs.size l 0->(∀ b o,s.heap.get? b=Aa o->h'.get? b=Aa o)->Q (.ref (s.heap.objs.size+1)) {s with heap:=h'}):
    Ay (model prog w) A (call (.type "enumerate") [.ref l]) Q E s:=by
  refine callType_new F.called_enumerate (by decide) (F.typeCall_enumerate_1 _) (F.newCall_enumerate_1 _) (fun obj=>F.args_object_init_2 obj _) F.entry_enumerate_new (WY t l xs) ⟨hL,?_⟩
  have hz:(s.heap.push (itO t l)).objs.size=s.heap.objs.size+1:=Cc ..;show _/\_;rw[hz];have he:IsEnum ((s.heap.push (itO t l)).push { cls:=.type "enumerate", data:=.fields #[.none,.bool Ac,.ref s.heap.objs.size,DS 0,.none,.none] }) (s.heap.objs.size+1) s.heap.objs.size 0 .none:=by
    have:=AN (s.heap.push (itO t l)) (o:={ cls:=.type "enumerate", data:=.fields #[.none,.bool Ac,.ref s.heap.objs.size,DS 0,.none,.none] }) rfl;rw[hz]at this;exact this
  exact⟨⟨_,he,rfl⟩,h _ he (Ob (Au _ (AN _ (Ni _ _)))) fun b o x=>Au _ (Au _ x)⟩
end
def mY(K:Fg)(ta:TA):TI:=fun σ H R=>ta σ H fun vs H1=>∃ t a xs,vs=[.ref a]/\SqX t K H1 a xs/\(xs.length<=sizeLine->R (Ite K t a) H1)
theorem Zm{a:Ap}(hg:Gl X "enumerate")(hm:X.mg "enumerate" = Ae)(ha:PA X [a] ta)(hs:AA [a] X.env=[(Ac,eval a X.env)]):
  PI X (.Tuple es n tpos) (.Call (.Name "enumerate" p) [a] [] pos) (mY X.K ta):=by
 intro pI s σ H R I h;refine Call_ (Jt I hg hm PyProof.Rows.boot_enumerate (CT (thn (ha pos pI s σ H _ I h) fun us s1 ⟨vs,H1,I1,r1,q1⟩=>?_) hs rfl))
 obtain⟨t,c,xs,e,sx,q⟩:=q1;subst e;cases r1 with
 |cons r rr=>
  cases rr;cases r;obtain⟨us,ru,pu,zu⟩:=HZ I1 sx;refine Wx pu fun h2 z1 z2 kp=>VF z1 ?_
  refine⟨s1.heap.objs.size+1,[s1.heap.objs.size,s1.heap.objs.size+1],_,_,H1,rfl,I1.kept (t':=s1.toks) kp,Wp t s1.heap.objs.size c pu.lt,⟨⟨_,z1⟩,z2⟩,fun b hb=>?_,q zu⟩
  have hb':s1.heap.objs.size<=b:=by
   simp only[AB,Bc,Cd]at hb;rcases hb with z|z<;>rw[z]<;>simp
  exact I1.fpOk hb' (I1.hok.fresh hb')
theorem Nn:∀(j:Af)(xs:Ad D),(EB j xs).length=xs.length
 |_,[]=>rfl
 |j,x::xs=>by rw[EB,Bs,Nn,Bs]
theorem Qe:∀(xs:Ad D)(j:Af)(i:Ag)(d:D),(EB j xs)[i]?=Aa d->∃ x,xs[i]?=Aa x/\d=.tup [.int (j+i),x]
 |[],j,i,d,h=>by simp[EB]at h
 |x::xs,j,0,d,h=>by
  rw[EB]at h;simp only[Up,Cr]at h;exact⟨x,rfl,by rw[<-h];simp⟩
 |x::xs,j,i+1,d,h=>by
  rw[EB]at h;simp only[Uo]at h ⊢;obtain⟨y,h1,h2⟩:=Qe xs (j+1) i d h;exact⟨y,h1,by rw[h2];congr 3;omega⟩
theorem Wl{ds:Ad D}(sq:∀ H2,Kp A H1 H2->SqX t K H2 a xs)(r1:Reps K CL H1 A xs ds):Ih K CL A (EB 0 ds) (Ite K t a) H1:=fun H k i=>by
 have s1:=sq H k;refine⟨fun hi=>⟨xs,s1,?_⟩,fun d hd=>?_⟩
 ·rw[Nn]at hi;rw[r1.length];exact hi
 ·obtain⟨x,hx,rfl⟩:=Qe _ _ _ _ hd;obtain⟨u,hu,ru⟩:=r1.get hx;refine⟨⟨xs,u,s1,hu⟩,?_⟩;rintro w' H' ⟨p,x',hp,rfl,c1,rfl⟩;have ex:x'=u:=Bf ((c1 xs s1).symm.trans hu);subst ex;rw[DM];exact⟨FM hp (.tup [.int i,x']),fun B hB aB=>JZ aB hp ⟨rfl,KO ru k hB,trivial⟩⟩
section
variable{X:Cx}{CL:ClA}{W:XW}{pos p:AM}{a:Ap}{fa:Rho->R D}
theorem Yi(ha:SE X CL W a fa)(hg:Gl X "enumerate")(hm:X.mg "enumerate" = Ae)(hs:AA [a] X.env=[(Ac,eval a X.env)]):
  SI X CL W (.Tuple es n tpos) (.Call (.Name "enumerate" p) [a] [] pos) (fun ρ=>(fa ρ).bind fun x=>(Ck x).bind fun xs=>.ok (EB 0 xs)):=
 fun A=>PI.weak (Zm hg hm (Et (ha A) GC hs) hs) fun σ H R ⟨hA,ρ,g,q⟩=>⟨hA,ρ,g,EA.ex q fun d v H1 _ s1 r1 p1=>by
  cases e1:Ck d with
  |bad=>rw[e1]at p1;exact p1.elim
  |exn z=>exact absurd e1 (by cases d<;>simp[Ck])
  |ok ds=>
   rw[e1]at p1;obtain⟨t,c,xs,rfl,k1,rs⟩:=Oe r1 e1;exact⟨t,c,xs,rfl,k1 H1 (Kp.of (AE.refl H1)),fun hz=>p1 _ H1 (AE.refl H1) (Wl k1 rs) (by rw[Nn,<-rs.length];exact hz)⟩⟩
end
noncomputable abbrev TN(h:AD)(z TI TO:Aj)(f0 f1:Ai):Prop:=h.get? z=Aa { cls:=.type "zip", dict:=Ae,data:=.fields #[f0,f1,.bool Ac,.ref TI,.ref TO],slots:=#[] }
noncomputable abbrev TQ(h:AD)(T:Aj)(a b c:Ai):Prop:=h.get? T=Aa { cls:=.type "tuple", data:=.seq #[a,b,c] }
section
variable{prog:AR}{w:AC}{A:AZ}{E:Vq}{s:Ar}
def Z3(t1 t2 t3:Ao)(I l1 l2 l3 i:Ag)(h:AD):Prop:=TQ h (I+3) (.ref (I+0)) (.ref (I+1)) (.ref (I+2))/\D9 t1 h (I+0) l1 i/\D9 t2 h (I+1) l2 i/\D9 t3 h (I+2) l3 i/\(∃ a b c,TQ h (I+4) a b c) /\
 (TN h (I+5) (I+3) (I+4) .none (.bool Ac)\/∃(T1:Ag)(f1:Ao),TN h (I+5) (I+3) (I+4) (DS T1) (.bool f1))
end
section
variable{prog:AR}{w:AC}{A:AZ}{R:Iw->Ar->Prop}
theorem DW.at'(z:DW t h l its)(k:∀ o,h.get? l=Aa o->h2.get? l=Aa o):DW t h2 l its:=by
 cases t with
 |true=>exact PySem.Heap.IsTuple.at z k
 |false=>exact PySem.Heap.IsList.at z k
theorem Z3.at'{t1 t2 t3:Ao}{I l1 l2 l3 i:Ag}{h h2:AD}(z:Z3 t1 t2 t3 I l1 l2 l3 i h)(k:∀ j,j<=5->∀ o,h.get? (I+j)=Aa o->h2.get? (I+j)=Aa o):Z3 t1 t2 t3 I l1 l2 l3 i h2:=by
 obtain⟨zI,i1,i2,i3,⟨a,b,c,hO⟩,zz⟩:=z;exact⟨k 3 (by decide) _ zI,i1.at' fun o q=>k 0 (by decide) o q,i2.at' fun o q=>k 1 (by decide) o q,i3.at' fun o q=>k 2 (by decide) o q,⟨a,b,c,k 4 (by decide) _ hO⟩,zz.imp (k 5 (by decide) _) fun ⟨T1,f1,hz⟩=>⟨T1,f1,k 5 (by decide) _ hz⟩⟩
end
section
variable{prog:AR}{w:AC}{A:AZ}{E:Vq}{s:Ar}
end
theorem Z3.ty{t1 t2 t3:Ao}{I l1 l2 l3 i:Ag}(z:Z3 t1 t2 t3 I l1 l2 l3 i s.heap):s.TypeIs (.ref (I+5)) "zip" := by
 obtain⟨_,_,_,_,_,hz|⟨_,_,hz⟩⟩:=z
 ·exact⟨_,hz,rfl⟩
 ·exact⟨_,hz,rfl⟩
theorem Z3.lt{t1 t2 t3:Ao}{I l1 l2 l3 i:Ag}(z:Z3 t1 t2 t3 I l1 l2 l3 i s.heap):I+5<s.heap.objs.size:=by
 obtain⟨o,h,_⟩:=z.ty;exact AG h
section
variable{prog:AR}{w:AC}{A:AZ}{E:Vq}{s:Ar}
end
section
variable{X:Cx}{CL:ClA}{W:XW}{pos p pos' p':AM}{a b c:Ap}{fa fb fc:Rho->R D}
end
section
variable{X:Cx}{CL:ClA}{W:XW}{pos p tpos:AM}{a b c:Ap}{fa fb fc:Rho->R D}{x:Ah}
end
section
variable{X:Cx}{CL:ClA}{W:XW}{a:Ap}{fa:Rho->R D}
end
section
variable{X:Cx}{CL:ClA}{W:XW}{o o' e:Ap}{fe:Rho->R D}{i j:Ag}{apos cpos apos' cpos' pos:AM}
end
section
variable{X:Cx}{CL:ClA}{W:XW}
end
section
variable{X:Cx}
variable{CL:ClA}{W:XW}{pos p pos' p':AM}{a b:Ap}{fa fb:Rho->R D}
end
section
variable{X:Cx}{CL:ClA}{W:XW}{e o o' k l:Ap}{fe:Rho->R Ov.D}{i ik il:Ag}{pos spos spos' tpos:AM}{kt:Ag}
end
section
variable{prog:AR}{w:AC}{A:AZ}{E:Vq}{s:Ar}
theorem PQ{it t:Aj}{items:Bl Ai}(hne:t≠it):∀(n i:Ag)(s:Ar)(Q:Ad Ai->Ar->Prop),s.heap.IsListIter it t i->s.heap.IsList t items->i+n<=items.size->(∀ h',h'.IsListIter it t (i+n)->Eh it s.heap h'->Q ((items.toList.drop i).take n) {s with heap:=h'})->Ay (model prog w) A (draw (.ref it) n) Q E s
 |0,i,s,Q,hit,_,_,hQ=>by
  show Ay _ _ (pure []) Q E s;exact AJ (by simpa using hQ s.heap hit (U7 ..))
 |n+1,i,s,Q,hit,ht,hle,hQ=>by
  have hlt:i<items.size:=by omega
  show Ay _ _ (HN (.ref it) >>= _) Q E s;refine Am (VI hit ht (x:=items[i]) (by simp[hlt]) fun h₁ hit₁ hs₁=>?_)
  refine Am (Ca (PQ hne n (i+1) _ _ hit₁ (ht.extBut hs₁.extBut hne) (by omega) fun h₂ hit₂ hs₂=>AJ ?_))
  have hd:items.toList.drop i=items[i]::items.toList.drop (i+1):=by simp[ER,hlt]
  have:=hQ h₂ (by rw[show i+(n+1)=i+1+n by omega];exact hit₂) (hs₁.trans hs₂)
  rw[hd,List.take_succ_cons]at this;exact this
theorem VJ{t:Aj}{Q:Ad Ai->Ar->Prop}(hh:A.handled=Ae)(ht:s.heap.IsList t items)(hQ:∀ h',Hv s.heap.objs.size s.heap h'->Q items.toList {s with heap:=h'}):Ay (model prog w) A (unpackItems (.ref t) items.size Ae) Q E s:=by
 have hlt:t≠s.heap.objs.size:=by obtain⟨o,ho,_⟩:=ht;exact Bb (AG ho)
 have htp:(s.heap.push { cls:=.type "list_iterator", data:=.fields #[.ref t,.int 0 0] }).IsList t items:=by
  obtain⟨o,ho,r⟩:=ht;exact⟨o,Au _ ho,r⟩
 unfold unpackItems;refine Am ?_
 ·unfold notIterableAtAll;refine Am (wpAny_specialOf ht.typeIs slot_list_iter.lookup ?_);refine AJ ?_;simp only[Gs,Hl];refine Am (Ca (DF ht ?_));refine Am (Ca (PQ hlt items.size 0 _ _ ⟨_,AN _ rfl,rfl,rfl⟩ htp (by omega) fun h₁ hit₁ hs₁=>?_))
  have hall:List.take items.size (List.drop 0 items.toList)=items.toList:=by
   rw[List.drop_zero];exact List.take_of_length_le (by simp)
  rw[hall];rw[Az (by simp)]
  have ht₁:h₁.IsList t items:=htp.extBut hs₁.extBut hlt;refine Am (Ca (VH hh hit₁ ht₁ (by simp) fun h₂ he₂=>?_))
  simp only[Option.isSome_none,Gs,Hl];refine AJ (hQ h₂ fun b o hb e=>he₂ b o hb (hs₁.extBut b o hb (Au _ e)))
theorem VM{elts:Ad Ap}{x1}{t:Aj}{Q:FL->Ar->Prop}(hh:A.handled=Ae)(ht:s.heap.IsList t items) (hn:(B2 elts env).length=items.size) (hstar:(B2 elts env).findIdx? (·.1)=Ae) (h:∀ h',Hv s.heap.objs.size s.heap h'->Ay (model prog w) A (assignInOrder ((B2 elts env).map (·.2)) items.toList) Q E {s with heap:=h'}):Ay (model prog w) A (assign (.Tuple elts x1 pos) env (.ref t)) Q E s:=by
 rw[assign_Tuple];refine Am (DD ?_);unfold unpack;rw[hn,hstar];exact Am (Ca (VJ hh ht h))
end
section
variable{X:Cx}{pos:AM}{CL:ClA}
def gSq(K:Fg)(n:Ag)(t:TGs):TG:=fun v σ H Q=>Ko K n t v σ H Q\/∃ a xs,v=.ref a/\SqL K H a xs/\xs.length=n/\t xs σ H Q
theorem kJ{t:TGs}(hc:X.calm=Ab)(h:PGs X es t)(hn:(B2 es X.env).length=n)(hst:(B2 es X.env).findIdx? (·.1)=Ae):PG X (.Tuple es k pos) (gSq X.K n t):=by
 intro pI s σ H v u Q I r hw;rcases hw with hw|hw
 ·exact NN hc h hn hst pI s σ H v u Q I r hw
 ·obtain⟨a,xs,e1,hq,hl,hw⟩:=hw;subst e1;cases r;obtain⟨its,rv,ht,hz⟩:=I.list hq;refine VM (I.ok.hd hc) ht.isList (by simp[hn,<-hl,rv.length]) hst fun h' hx=>?_
  have I1:Inv X pI σ H {s with heap:=h'}:=I.kept (t':=s.toks) fun b o e=>hx b o (Bb (AG e)) e
  exact h pI _ σ H xs _ Q I1 (by simpa using rv) hw
theorem lH(ts:Ad Ag):GT K CL (Hy ts) (gSq K ts.length (ts.foldr (fun t u=>Ha (EN t) u) Hh)):=fun Fz B ρ σ H v d ρ' Q x r e k=>by
 cases d with
 |lst ds=>
  obtain⟨a,xs,rfl,na,sq,rs⟩:=r;rw[Wt]at e;cases e2:Eu ts ds ρ with
  |none=>rw[e2]at e;cases e
  |some ρ2=>
   rw[e2]at e;cases e;exact .inr ⟨a,xs,rfl,sq,by rw[rs.length];exact LH _ _ _ _ e2,N4 ts ds xs ρ _ σ Q x rs e2 k⟩
 |_=>exact .inl (RO ts Fz B ρ σ H v _ ρ' Q x r e k)
end
section
variable{X:Cx}{CL:ClA}{W:XW}
end
end Ov
namespace Ov
open PySem PySem.W PyProof.Rows
variable{p:Bl Ag}{m:Ag}
def Kr{α:Type}(lt:Ag->Ag->Ao)(n:Ag):KasT α->(α->Prop)->Prop
 |.ret a,Q=>Q a
 |.ask i j k,Q=>i<n/\j<n/\Kr lt n (k (lt i j)) Q
theorem Kr.mono{α:Type}{lt:Ag->Ag->Ao}{n:Ag}{Q Q':α->Prop}:∀{t:KasT α},Kr lt n t Q->(∀ a,Q a->Q' a)->Kr lt n t Q'
 |.ret _,h,k=>k _ h
 |.ask i j f,h,k=>⟨h.1,h.2.1,Kr.mono (t:=f (lt i j)) h.2.2 k⟩
theorem Kr.bind{α β:Type}{lt:Ag->Ag->Ao}{n:Ag}{f:α->KasT β}{Q:β->Prop}:∀{t:KasT α},Kr lt n t (fun a=>Kr lt n (f a) Q)->Kr lt n (t.bind f) Q
 |.ret _,h=>h
 |.ask i j k,h=>⟨h.1,h.2.1,Kr.bind (t:=k (lt i j)) h.2.2⟩
structure Sto (lt:Ag->Ag->Ao) (n:Ag):Prop where
 tr:∀ i j k,i<n->j<n->k<n->lt i j=Ab->lt j k=Ab->lt i k=Ab
 tot:∀ i j,i<n->j<n->i≠j->lt i j=Ac->lt j i=Ab
 asy:∀ i j,i<n->j<n->lt i j=Ab->lt j i=Ac
noncomputable def at0(p:Bl Ag)(x:Ag):Ag:=p.getD x 0
structure Pm (n:Ag) (p:Bl Ag):Prop where
 sz:p.size=n
 lt:∀ x,x<n->at0 p x<n
 inj:∀ x y,x<n->y<n->at0 p x=at0 p y->x=y
section
variable{lt:Ag->Ag->Ao}{n:Ag}
def OS(lt:Ag->Ag->Ao)(p:Bl Ag)(m:Ag):Prop:=∀ x y,x<y->y<m->lt (at0 p x) (at0 p y)=Ab
def OU(lt:Ag->Ag->Ao)(p:Bl Ag)(m:Ag):Prop:=∀ x y,x<y->y<m->lt (at0 p y) (at0 p x)=Ab
theorem OS.succ(S:Sto lt n)(hp:Pm n p)(h1:1<=m)(hm:m<n)(h:OS lt p m)(e:lt (at0 p (m-1)) (at0 p m)=Ab):OS lt p (m+1):=fun x y hxy hy=>by
 by_cases hym:y<m
 ·exact h x y hxy hym
 ·have:y=m:=by omega
  subst this;by_cases hx:x=y-1
  ·rw[hx];exact e
  ·exact S.tr _ _ _ (hp.lt _ (by omega)) (hp.lt _ (by omega)) (hp.lt _ hm) (h x (y-1) (by omega) (by omega)) e
theorem OU.succ(S:Sto lt n)(hp:Pm n p)(h1:1<=m)(hm:m<n)(h:OU lt p m)(e:lt (at0 p m) (at0 p (m-1))=Ab):OU lt p (m+1):=fun x y hxy hy=>by
 by_cases hym:y<m
 ·exact h x y hxy hym
 ·have:y=m:=by omega
  subst this;by_cases hx:x=y-1
  ·rw[hx];exact e
  ·exact S.tr _ _ _ (hp.lt _ hm) (hp.lt _ (by omega)) (hp.lt _ (by omega)) e (h x (y-1) (by omega) (by omega))
end
section
variable{prog:AR}{w:AC}{A:AZ}{E:Vq}{κ:SortKind}{it:Bl Keyed}
end
section
variable{lt:Ag->Ag->Ao}{n:Ag}
end
def Nt(h:AD)(v:Ai)(r:Ad Af):Prop:=∃ a its,v=.ref a/\JC h a its/\HG its.toList r/\r≠[]
theorem Nt.kept{h h':AD}{v:Ai}{r:Ad Af}(t:Nt h v r)(k:∀ b o,h.get? b=Aa o->h'.get? b=Aa o):Nt h' v r:=by
 obtain⟨a,its,e,⟨o,ho,q⟩,i,n⟩:=t;exact⟨a,its,e,⟨o,k _ _ ho,q⟩,i,n⟩
section
variable{prog:AR}{w:AC}{A:AZ}{E:Vq}{s:Ar}
end
end Ov
namespace Ov
open PySem PySem.Spec PyProof.Rows L2
variable{h h':AD}{P:AR}{w:AC}{H H':Hp}{a T' C C' OV:Aj}{oe:CW}{vs:Bl Ai}{Q:FL->Ar->Prop}{a0 oc:Ai}{X:Cx}{pI:Pn}{σ σ0:L2.St}{K:Fg}{m:Ah->An Ai}{x n g name qual z x0 x1:Ah}{v:An Ai}{M:Gr}{tk:CM}{fill expr fr:Ao}{φ:AD->Prop}{CL:ClA}{Fz:Aj->HO->Prop}{B A:Aj->Prop}{W:XW}{hs body:Ad A9}{h0:A9}{p1 hp pos p pos' np cpos:AM}{fh:Rho->O}{dx an od:An Aj}{y:Ex}{up:Ag->Ad Ag}{CX:CXT}{k c kk l:Ag}{fd:BP}{ps:Ad Ah}{sp:Sp}{F:Ad D->R D}{fs:Rho->R (Ad D)}{Xw:Vq}{xn:Ag->Ad D->R Ex}{d:D}{scope:B9}{osl:Bl (An Ai)}{α:Type}{xs ys:Ad Ap}{env:B5}{ts:Ad Ag}{as:Es}
section
variable{X:Cx}{CL:ClA}{W:XW}
end
section
variable{X:Cx}
variable{CL:ClA}{W:XW}{pos p pos' p':AM}{a:Ap}{fa:Rho->R D}
end
section
end
section
variable{X:Cx}
variable{CL:ClA}{W:XW}{o e:Ap}{fe:Rho->R D}{i:Ag}{apos cpos pos:AM}
end
section
open PySem.AutoSeq1 (wpAny_loadPart')
end
section
variable{prog:AR}{w:AC}{A:AZ}{R:Iw->Ar->Prop}{I S T:Aj}{u v:Ai}{c:Ag}{P:Ag->Ai->Prop}{St:Ag->AD->Prop}{s:Ar}{r q:Ad Af}
end
section
variable{X:Cx}{CL:ClA}{W:XW}
end
def Mx(e T:Aj)(cls:Ai)(dx:An Aj)(fl:Ai)(h:AD):Prop:=∃ oe vs oT ts a0,h.get? e=Aa oe/\oe.cls=cls/\oe.dict=dx/\vs[0]?=Aa a0/\oe.data=.fields vs/\vs[1]?=Aa (.ref T)/\T≠e/\h.get? T=Aa oT/\oT.data=.fields ts/\ts[3]?=Aa fl
noncomputable abbrev Fly(e T:Aj)(cls:Ai)(dx:An Aj)(h:AD):Prop:=Mx e T cls dx Dr h
noncomputable def FQ(C:Aj)(dx:An Aj)(t:Aj):CW:={cls:=.ref C,dict:=dx,data:=.fields #[.ref t,.none,.none,.none,.bool Ac,.none]}
structure Shift (ex fs:Ad Aj) (h h':AD):Prop where
 keep:∀ b o,h.get? b=Aa o->b∉ex->b∉fs->h'.get? b=Aa o
 slot:∀ b o,h.get? b=Aa o->b∈fs->∃ sl,h'.get? b=Aa {o with slots:=sl}
theorem Shift.trans{ex fs:Ad Aj}{h1 h2:AD}(a:Shift ex fs h h1)(b:Shift ex fs h1 h2):Shift ex fs h h2:=
 ⟨fun c o q n m=>b.keep c o (a.keep c o q n m) n m,fun c o q m=>by
  obtain⟨sl,e1⟩:=a.slot c o q m;obtain⟨sl',e2⟩:=b.slot c _ e1 m;exact⟨sl',e2⟩⟩
theorem ObjOk.isThere:∀(o:HO),L2.ObjOk P w H h a o->∃ ob,h.get? a=Aa ob
 |.lst _,x=>by obtain⟨_,_,_,_,e⟩:=x;exact⟨_,e⟩
 |.tup _,x=>by obtain⟨_,_,_,p⟩:=x;obtain⟨o,e,_⟩:=p;exact⟨_,e⟩
 |.dK _,x=>by obtain⟨_,_,_,_,o,_,_,e,_⟩:=x;exact⟨_,e⟩
 |.dT _,x=>by obtain⟨_,_,_,_,o,_,_,e,_⟩:=x;exact⟨_,e⟩
 |.set _ _,x=>by obtain⟨o,_,_,_,e,_⟩:=x;exact⟨_,e⟩
 |.ins _ _ _,x=>by obtain⟨_,_,_,e,_⟩:=x;exact⟨_,e⟩
 |.own _,x=>x
 |.xd _,x=>by obtain⟨_,⟨_,_,_,e,_⟩,_⟩:=x;exact⟨_,e⟩
 |.met _ _,x=>⟨_,x⟩
 |.rng _ _,x=>by obtain⟨_,_,_,e⟩:=x;exact⟨_,e⟩
 |.frz _ _,x=>⟨_,x.1⟩
 |.tbl _,x=>⟨_,x⟩
 |.ext _,x=>x.2.1
theorem J7(x:HOk P w H h)(e:h.get? a=Ae):H a=Ae:=by
 cases q:H a with
 |none=>rfl
 |some o=>
  obtain⟨ob,z⟩:=ObjOk.isThere o (x a o q);rw[e]at z;cases z
theorem HOk.shift{ex fs:Ad Aj}(x:HOk P w H h)(sh:Shift ex fs h h')(h1:∀ b∈ex,H b=Ae)(h2:∀ b∈fs,H b=Ae):HOk P w H h':=fun a o e=>
 (x a o e).stay (fun b u hb q=>by
  have hs:∃ v,H b=Aa v:=by
   rcases hb with rfl|hb
   ·exact⟨_,e⟩
   ·exact⟨_,hb⟩
  obtain⟨v,hv⟩:=hs;exact sh.keep b u q (fun z=>by rw[h1 b z]at hv;cases hv) (fun z=>by rw[h2 b z]at hv;cases hv)) (fun _ q=>q) fun _ _ q=>q
theorem Un.shift{fs0 fs ex:Ad Aj}{h0:AD}(u:Un fs0 [] H H' h0 h)(sh:Shift ex fs h h')(h1:∀ b∈ex,h0.get? b=Ae)(h2:∀ b∈fs,b∈fs0\/h0.get? b=Ae):Un fs0 [] H H' h0 h' where
 keep:=fun b o q n hb hx=>sh.keep b o (u.keep b o q n hb hx) (fun z=>by rw[h1 b z]at q;cases q) fun z=>(h2 b z).elim hb fun e=>by rw[e]at q;cases q
 slot:=fun b o q n hb hx=>by
  obtain⟨sl,e1⟩:=u.slot b o q n hb hx;by_cases hf:b∈fs
  ·obtain⟨sl',e2⟩:=sh.slot b _ e1 hf;exact⟨sl',e2⟩
  ·exact⟨sl,sh.keep b _ e1 (fun z=>by rw[h1 b z]at q;cases q) hf⟩
 free:=u.free
 there:=fun b o q hx=>by
  obtain⟨o',e1⟩:=u.there b o q hx;by_cases hf:b∈fs
  ·obtain⟨sl',e2⟩:=sh.slot b _ e1 hf;exact⟨_,e2⟩
  ·exact⟨o',sh.keep b _ e1 (fun z=>by rw[h1 b z]at q;cases q) hf⟩
 tups:=u.tups
 frzs:=u.frzs
 tbls:=u.tbls
theorem ZX(f:Bl Ai->Bl Ai)(o:CW):(FD f o).dict=o.dict:=by
 obtain⟨c,d,dt,sl⟩:=o;cases dt<;>rfl
section
variable{M:Gr}{A:AZ}{E:Vq}{s:Ar}{env:B5}{outer:Ad B5}{L e T:Aj}{cls:Ai}{dx:An Aj}{base h:AD}
theorem Ph{hd:Ai}{nx:Ao}(hfr:A.frames=Aa (env::outer))(hf:env.frame=Aa L)(ff:s.heap.FunFrames base (env::outer))(he:s.heap.get? e=Aa oe)(dt:oe.data=.fields vs)(hz:1<vs.size)(hQ:∀ h' T' oT ts,h'.get? e=Aa (FD (·.setIfInBounds 1 (.ref T')) oe)->T'≠e->s.heap.get? T'=Ae->h'.get? T'=Aa oT->oT.data=.fields ts->ts[3]?=Aa (DS L)->Shift [e] (frs (env::outer)) s.heap h'->Q () {s with heap:=h'}):
  Ay M A (do
   let fr <-frameOf env
   let pl <-entryPlaceOf L nx
   let en <-UX hd fr .none (DS L) .none pl
   setField (.ref e) 1 en) Q E s:=by
 have nf:e∉frs (env::outer):=fun z=>by
  obtain⟨_,o,q,n⟩:=ff.mem z;rw[he]at q;cases q;exact n vs dt
 refine Am (wpAny_frameOf_fun hfr ff hf fun k1 so=>Am (wpAny_entryPlaceOf fun pl ip=>?_))
 obtain⟨sz,sm,sl⟩:=so;have e1:k1.get? e=Aa oe:=(sm e nf).trans he;unfold UX;unfold newFields;refine Am (CO ?_ (ip.sizeOk5 _ _ _ _ _));generalize hX:({ cls:=.type "traceback", dict:=Ae,data:=.fields ([hd,.ref L,.none,DS L,.none]++(if pl.isEmpty then Gh 6 Dr else pl)).toArray }:CW)=ob
 have od:ob.data=.fields ([hd,.ref L,.none,DS L,.none]++(if pl.isEmpty then Gh 6 Dr else pl)).toArray:=by rw[<-hX]
 have nl:k1.objs.size≠e:=Ef (AG e1);have e2:=Au ob e1;refine Fj e2 dt hz ?_;have up:∀ b,b≠e->((k1.push ob).update e (FD (·.setIfInBounds 1 (.ref k1.objs.size)))).get? b=(k1.push ob).get? b:=fun b nb=>Cq _ _ (CJ nb)
 have lf:ob.isFreed=Ac:=by rw[<-hX];rfl
 refine hQ _ k1.objs.size ob _ (CB _ e2 (Ej (C8 dt _))) nl ?_ ((up _ nl).trans (AN k1 lf)) od ?_ ⟨fun b o q n1 n2=>?_,fun b o q hb=>?_⟩
 ·rw[sz];exact Dd (AY _)
 ·simp
 ·have nb:b≠e:=fun z=>n1 (by rw[z];exact AH)
  rw[up b nb];exact Au ob ((sm b n2).trans q)
 ·obtain⟨sl',q'⟩:=sl b o q;have nb:b≠e:=fun z=>nf (z ▸ hb)
  exact⟨sl',(up b nb).trans (Au ob q')⟩
theorem PN{oT:CW}{ts:Bl Ai}{fl:Ai}(hc:oe.cls=cls)(hx:oe.dict=dx)(h0:vs[0]?=Aa a0)(dt:oe.data=.fields vs)(hz:1<vs.size)(g:h'.get? e=Aa (FD (·.setIfInBounds 1 (.ref T')) oe))(ne:T'≠e)(gT:h'.get? T'=Aa oT)(dT:oT.data=.fields ts)(f3:ts[3]?=Aa fl):Mx e T' cls dx fl h':=
 ⟨_,_,oT,ts,a0,g,(Vc _ _).trans hc,(ZX _ _).trans hx,by rw[Array.getElem?_setIfInBounds_ne (by decide)];exact h0,C8 dt _,by simp[hz],ne,gT,dT,f3⟩
theorem JX{i:Ag}{v:Ai}(q:vs[i]?=Aa v):i<vs.size:=(Array.getElem?_eq_some_iff.mp q).1
theorem Qc(hfr:A.frames=Aa (env::outer))(hf:env.frame=Aa L)(ff:s.heap.FunFrames base (env::outer))(fl:Fly e T cls dx s.heap)(hQ:∀ h' T',Mx e T' cls dx (DS L) h'->Shift [e,T] (frs (env::outer)) s.heap h'->s.heap.get? T'=Ae->Q () {s with heap:=h'}):Ay M A (Gy (.ref e) env) Q E s:=by
 obtain⟨oe,vs,oT,ts,a0,he,hc,hx,h0,dt,h1,ne,hT,dT,h3⟩:=fl;have z3:=JX h3;unfold Gy;simp only[hf];refine Am (BO he dt h1 ?_);rw[Aw (by simp:(Ci T != Dr)=Ab)]
 refine Am (BO hT dT h3 ?_);rw[Az (by simp[DS]:¬ (Dr==DS L)=Ab)]
 refine Am (Fj hT dT z3 ?_);have up:∀ b,b≠T->(s.heap.update T (FD (·.setIfInBounds 3 Dr))).get? b=s.heap.get? b:=fun b nb=>Cq _ _ (CJ nb)
 have rcd:∀ b o,s.heap.get? b=Aa o->(∀ us,o.data≠.fields us)->b≠T:=fun b o q n z=>by
  rw[z,hT]at q;cases q;exact n ts dT
 refine Ph (base:=base) hfr hf (ff.of_keeps fun b o q n=>⟨o,(up b (rcd b o q n)).trans q,rfl⟩) ((up e (CJ ne)).trans he) dt (JX h1) fun h' T' oT' ts' g nT gn gT dT' f3 sh=>?_
 have T0:s.heap.get? T'=Ae:=by
  by_cases z:T'=T
  ·rw[z]at gn;rw[CB _ hT (Ej (C8 dT _))]at gn;cases gn
  ·rw[<-up T' z];exact gn
 refine hQ h' T' (PN hc hx h0 dt (JX h1) g nT gT dT' f3) ⟨fun b o q n1 n2=>?_,fun b o q hb=>?_⟩ T0
 ·simp only[AB,Bc,Cd,D4]at n1;exact sh.keep b o ((up b n1.2).trans q) (by simp[n1.1]) n2
 ·obtain⟨_,o',q',n⟩:=ff.mem hb;rw[q]at q';cases q';exact sh.slot b o ((up b (rcd b o q n)).trans q) hb
theorem LX{fv:Ai}(fl:Mx e T cls dx fv s.heap)(hQ:∀ h',Fly e T cls dx h'->(∀ b o,b≠T->s.heap.get? b=Aa o->h'.get? b=Aa o)->Q () {s with heap:=h'}):Ay M A (Ht (.ref e) Ae) Q E s:=by
 obtain⟨oe,vs,oT,ts,a0,he,hc,hx,h0,dt,h1,ne,hT,dT,h3⟩:=fl;have z3:=JX h3;unfold Ht;refine Am (BO he dt h1 ?_);rw[Aw (by simp:(Ci T != Dr)=Ab)]
 refine Fj hT dT z3 (hQ _ ?_ fun b o nb q=>(Cq _ _ (CJ nb)).trans q)
 exact⟨oe,vs,_,_,a0,(Cq _ _ ne).trans he,hc,hx,h0,dt,h1,ne,CB _ hT (Ej (C8 dT _)),C8 dT _,by simp[z3]⟩
theorem Nb{h1 h2:AD}{ex:Ad Aj}(ff:s.heap.FunFrames base (env::outer))(sh:Shift ex (frs (env::outer)) s.heap h1)(hT:s.heap.get? T'=Ae)(k:∀ b o,b≠T'->h1.get? b=Aa o->h2.get? b=Aa o):Shift ex (frs (env::outer)) s.heap h2:=
 ⟨fun b o q n1 n2=>k b o (fun z=>by rw[z,hT]at q;cases q) (sh.keep b o q n1 n2),fun b o q hb=>let ⟨sl,q'⟩:=sh.slot b o q hb;⟨sl,k b _ (fun z=>by rw[z,hT]at q;cases q) q'⟩⟩
theorem Wv(hfr:A.frames=Aa (env::outer))(hf:env.frame=Aa L)(ff:s.heap.FunFrames base (env::outer))(fl:Fly e T cls dx s.heap)(hQ:∀ h' T',Fly e T' cls dx h'->Shift [e,T] (frs (env::outer)) s.heap h'->(T'=T\/s.heap.get? T'=Ae)->Q () {s with heap:=h'}):Ay M A (leaving env (.ref e)) Q E s:=by
 unfold leaving;exact Am (Qc hfr hf ff fl fun h1 T' f1 sh hT=>LX f1 fun h2 f2 k=>hQ h2 T' f2 (Nb ff sh hT k) (.inr hT))
theorem VZ(hfr:A.frames=Aa (env::outer))(hf:env.frame=Aa L)(ff:s.heap.FunFrames base (env::outer))(he:s.heap.get? e=Aa oe)(hc:oe.cls=cls)(hx:oe.dict=dx)(dt:oe.data=.fields vs)(h0:vs[0]?=Aa a0)(h1:vs[1]?=Aa .none)(hQ:∀ h' T',Fly e T' cls dx h'->Shift [e] (frs (env::outer)) s.heap h'->s.heap.get? T'=Ae->Q () {s with heap:=h'}):Ay M A (leaving env (.ref e)) Q E s:=by
 unfold leaving Gy;simp only[hf];refine Am (Am (BO he dt h1 ?_));rw[Az (by decide)]
 exact Ph (base:=base) hfr hf ff he dt (JX h1) fun h' T' oT ts g nT gn gT dT f3 sh=>LX (PN hc hx h0 dt (JX h1) g nT gT dT f3) fun h2 f2 k=>hQ h2 T' f2 (Nb ff sh gn k) gn
theorem WS(hfr:A.frames=Aa (env::outer))(hf:env.frame=Aa L)(ff:s.heap.FunFrames base (env::outer))(fl:Fly e T cls dx s.heap)(hQ:∀ h' T',Fly e T' cls dx h'->Shift [e,T] (frs (env::outer)) s.heap h'->(T'=T\/s.heap.get? T'=Ae)->Q () {s with heap:=h'}):Ay M A (Gy (.ref e) env) (fun _ s2=>Ay M A (Ht (.ref e) Ae) Q E s2) E s:=
 Qc hfr hf ff fl fun h1 T' f1 sh hT=>LX f1 fun h2 f2 k=>hQ h2 T' f2 (Nb ff sh hT k) (.inr hT)
theorem Ww{l:Ad B5}{A':AZ}(ff:s.heap.FunFrames base l)(fl:Fly e T cls dx s.heap)(hQ:∀ h' T',Fly e T' cls dx h'->Shift [e,T] (frs l) s.heap h'->(T'=T\/s.heap.get? T'=Ae)->Q () {s with heap:=h'}):Ay M A' (Ht (.ref e) Ae) Q E s:=by
 obtain⟨oe,vs,oT,ts,a0,he,hc,hx,h0,dt,h1,ne,hT,dT,h3⟩:=id fl;refine LX fl fun h' f' k=>hQ h' T f' ⟨fun b o q n1 n2=>k b o (fun z=>n1 (by rw[z];simp)) q,fun b o q hb=>⟨o.slots,k b o (fun z=>?_) q⟩⟩ (.inl rfl)
 obtain⟨_,o',q',n⟩:=ff.mem hb;rw[z,hT]at q';cases q';exact n ts dT
end
def CXR(P:AR)(w:AC):CXT:=fun outer H s E ev s'=>∃ e T cls dx H',ev=.ref e/\s'.os=s.os/\Fh s'.gens/\Un (frs outer) [] H H' s.heap s'.heap/\HOk P w H' s'.heap/\Fly e T cls dx s'.heap/\H' e=Ae/\H' T=Ae/\s.heap.get? e=Ae/\s.heap.get? T=Ae/\E cls dx H'
def Lr(X:Cx)(CL:ClA)(W:XW):Prop:=∀ pI σ H s e C dx t x,Inv X pI σ H s->(X.ex=[]->X.s₀.heap.get? e=Ae)->H e=Ae->s.heap.get? e=Aa (FQ C dx t)->FR X.K CL H (.ref C) dx x->W x H->X.xe (.ref e) s
section
variable{P:AR}{w:AC}{K:Fg}{mg:Ah->An Ai}{base:AD}{N:Ad Ah}{qual:Ah}{scope:B9}{f:Aj}{cd:Ai}{A:AZ}{outer:Ad B5}{s:Ar}{H:Hp}{E:XK}{CL:ClA}{W:XW}
theorem NI{s:Ar}(I:Inv X pI σ H s):∀ b∈frs X.stack,b∈X.fs\/X.s₀.heap.get? b=Ae:=fun b hb=>by
 rcases AB.mp (I.stkSub b hb) with z|z
 ·exact .inr (by rw[z];exact Dd I.ok.above)
 ·exact .inl z
theorem Jh{s:Ar}{b:Aj}(I:Inv X pI σ H s)(hx:X.ex=[])(h:s.heap.get? b=Ae):X.s₀.heap.get? b=Ae:=by
 cases q:X.s₀.heap.get? b with
 |none=>rfl
 |some o=>
  obtain⟨o',z⟩:=I.base.there b o q (by rw[hx];simp)
  rw[h]at z;cases z
theorem kQ(hE:∀ x cls dx H',W x H'->FR K CL H' cls dx x->E cls dx H'):∀ A',Kg (CXR P w) (En (CXR P w) P w K mg base N qual scope f cd A outer s H E) (EKW K CL A' W):=by
 intro A' pI σ H1 s1 ev s2 I h;obtain⟨e,T,cls,dx,H',rfl,os,bare,un,hok,fl,he,hT,ne,nT,x,xr,wx⟩:=h;have I':=I.call' (s':=s2) (ch:=[]) os un hok bare (fun b z=>absurd z (by simp))
 have hb0:Un (frs outer) [] H H' s.heap s2.heap:=I'.base;show Ay (model P w) (A.deeper (Eg qual scope s.heap.objs.size f cd)) (leaving (Eg qual scope s.heap.objs.size f cd) (.ref e)) _ _ s2;refine Wv (L:=s.heap.objs.size) I'.ok.frames rfl I'.stack fl fun h' T' fl' sh hT'=>?_
 have e0:s.heap.get? e=Ae:=Jh I rfl ne;have T0:s.heap.get? T=Ae:=Jh I rfl nT;refine⟨e,T',cls,dx,H',rfl,I'.os,bare,Un.shift hb0 sh ?_ (NI I'),HOk.shift hok sh ?_ I'.stkFree,fl',he,?_,e0,?_,?_⟩
 ·intro b hb;rcases AB.mp hb with rfl|hb
  ·exact e0
  ·rw[BE.mp hb];exact T0
 ·intro b hb;rcases AB.mp hb with rfl|hb
  ·exact he
  ·rw[BE.mp hb];exact hT
 ·rcases hT' with rfl|z
  ·exact hT
  ·exact J7 hok z
 ·rcases hT' with rfl|z
  ·exact T0
  ·exact Jh I' rfl z
 ·exact hE x cls dx H' wx xr
theorem rzR(hE:∀ x cls dx H',W x H'->FR K CL H' cls dx x->E cls dx H'):Lr (En (CXR P w) P w K mg base N qual scope f cd A outer s H E) CL W:=by
 intro pI σ H1 s1 e C dx t x I e0 he ge xr hw;have hb0:Un (frs outer) [] H H1 s.heap s1.heap:=I.base;have e0':s.heap.get? e=Ae:=e0 rfl;show Ay (model P w) (A.deeper (Eg qual scope s.heap.objs.size f cd)) (leaving (Eg qual scope s.heap.objs.size f cd) (.ref e)) _ _ s1;refine VZ (cls:=.ref C) (dx:=dx) (L:=s.heap.objs.size) I.ok.frames rfl I.stack ge rfl rfl rfl (a0:=.ref t) rfl rfl fun h' T' fl' sh hT'=>?_
 have one:∀{Z:Aj->Prop},Z e->∀ b∈[e],Z b:=fun {Z} z b hb=>by rw[BE.mp hb];exact z
 exact⟨e,T',.ref C,dx,H1,rfl,I.os,I.bare,Un.shift hb0 sh (one e0') (NI I),HOk.shift I.hok sh (one (Z:=fun b=>H1 b=Ae) he) I.stkFree,fl',he,J7 I.hok hT',e0',Jh I rfl hT',hE x _ dx H1 hw xr⟩
theorem ownR:E4 (model P w) (En (CXR P w) P w K mg base N qual scope f cd A outer s H E).A (En (CXR P w) P w K mg base N qual scope f cd A outer s H E).env (En (CXR P w) P w K mg base N qual scope f cd A outer s H E).xe:=Ve
end
noncomputable def veB:Ad Ai:=[.type "ValueError", .type "Exception", .type "BaseException", .type "object"]
noncomputable def DJ(K:Fg)(C:Aj)(v:An Ai):Ao:=match K.lookup C with
  | some ⟨.type "type", _,.cls c,z⟩=>(match c.mro,z.toList with
    |.ref c0::tl,[_,_,_,_,Aa (.builtin nw),_]=>c0==C&&(nw == "ValueError.__new__" && (!c.hasDel&&(PySem.W.tailIn K veB tl&&(Vu K c.ns&&AX K c.ns "__init__" == Aa v))))
    | _,_=>Ac)
  |_=>Ac
theorem L8(q:EF K C veB "ValueError.__new__" = Ab):DJ K C Ae=Ab:=by
 unfold EF at q;unfold DJ;split at q
 ·rename_i dd cd sl ho;split at q
  ·rename_i C' bm k0 k1 k2 k3 n k5 hm hs;simp only[Ak]at q;obtain⟨⟨⟨⟨⟨h1,h2⟩,h3⟩,h4⟩,h5⟩,h6⟩:=q;simp only[ho,hm,hs,Ak];exact⟨h1,h2,h3,h4,h5,h6⟩
  ·cases q
 ·cases q
structure XcOk (K:Fg) (C:Aj):Prop where
 exc:∃ v,DJ K C v=Ab
 ga:Av K (.ref C) "__getattribute__" = Aa (Aa (.builtin "BaseException.__getattribute__"))
 gt:Av K (.ref C) "__getattr__" = Aa Ae
 cl:Av K (.ref C) "__class__" = Aa (Aa (.builtin "object.__class__"))
 ob:Bj K C (.type "object")=Aa Ab
 be:Al K (.ref C) (.type "BaseException")=Aa Ab
 cs:(Dh K C).isSome=Ab
 ve:C9 K (.ref C) (.type "ValueError")=Aa Ab
def XAt(e C:Aj)(h:AD):Prop:=∃ o,h.get? e=Aa o/\o.cls=.ref C
theorem cX{N:Aj}{v:Ai}(X:K.In h)(G:h.Ns N m)(q:AX K N x=Aa (Aa v)):m x=Aa v:=by
 obtain⟨ob,es,ep,g,dt,_,fd⟩:=G;unfold AX at q;split at q
 ·rename_i es' n' sl lk;have g':=X _ _ lk;rw[g]at g';cases g';cases dt;split at q
  ·rename_i hf;cases q;rw[<-fd];unfold nsFind findBy;rw[<-Array.find?_toList,hf];rfl
  ·by_cases z:(es.toList.any fun y=>y.refKey)=Ab
   ·rw[Aw z]at q;cases q
   ·rw[Az z]at q;cases q
 ·cases q
theorem Nk{h0:AD}(X0:K.In h0)(q:DJ K C v=Ab):
  ∃ bm N nm qn bs hd sn sub ab col dd k0 k1 k2 k3 k5 mN,(∀ h:AD,K.In h->h.get? C=Aa (B6 nm qn C N bs bm hd sn sub ab col dd k0 k1 k2 k3 k5 "ValueError.__new__")/\h.Ns N mN/\DL h veB bm)/\mN "__init__" = v/\bm.contains (.type "BaseException")=Ab:=by
 unfold DJ at q;split at q
 ·rename_i dd cd sl ho;split at q
  ·rename_i C' bm k0 k1 k2 k3 n k5 hm hs;simp only[Ak,AW,Bp]at q;obtain⟨rfl,rfl,hdel,ht,hok,hni⟩:=q;obtain⟨nm,bs,mro,ns,qn,hd,sn,sub,ab,col,del⟩:=cd;dsimp only at hm hdel hok hni;subst hm hdel;have hsl:sl=#[k0,k1,k2,k3,Aa (.builtin "ValueError.__new__"),k5]:=by
    obtain⟨l⟩:=sl;simp only at hs;rw[hs]
   subst hsl;have kN:∃ o,K.lookup ns=Aa o:=by
    unfold Vu at hok;split at hok
    ·rename_i z;exact⟨_,z⟩
    ·cases hok
   obtain⟨oN,hoN⟩:=kN;have nsAt:∀ h:AD,K.In h->h.Ns ns (h0.nsMap ns):=fun h X=>by
    obtain⟨o,es,ep,e1,r⟩:=Heap.Ns.of_isNs (Vp X0 hok);have e2:=X0 _ _ hoN;rw[e1]at e2;cases e2;exact⟨_,es,ep,X _ _ hoN,r⟩
   refine⟨bm,ns,nm,qn,bs,hd,sn,sub,ab,col,dd,k0,k1,k2,k3,k5,h0.nsMap ns,fun h X=>⟨X _ _ ho,nsAt h X,Vv X ht⟩,?_,(Vv X0 ht).hasType (by decide)⟩
   cases v with
   |none=>exact PySem.W.nsMap_none_of_in X0 hok hni
   |some u=>exact cX X0 (.of_isNs (Vp X0 hok)) hni
  ·cases q
 ·cases q
theorem ZO(X:K.In h)(q:DJ K C v=Ab):
  ∃ bm N nm qn bs hd sn sub ab col dd k0 k1 k2 k3 k5 mN,h.get? C=Aa (B6 nm qn C N bs bm hd sn sub ab col dd k0 k1 k2 k3 k5 "ValueError.__new__")/\h.Ns N mN/\mN "__init__" = v/\DL h veB bm:=by
 obtain⟨bm,N,nm,qn,bs,hd,sn,sub,ab,col,dd,k0,k1,k2,k3,k5,mN,ho,hi,_⟩:=Nk X q;obtain⟨o1,o2,o3⟩:=ho h X;exact⟨bm,N,nm,qn,bs,hd,sn,sub,ab,col,dd,k0,k1,k2,k3,k5,mN,o1,o2,hi,o3⟩
section
variable{prog:AR}{w:AC}{A:AZ}{E:Vq}{h:AD}{g:Bl E3}{d:Hq}{t:Ag}{os:GR}{K:Fg}{e C:Aj}
theorem IL(p:XAt e C h):PySem.W.Looks M h (typeOf (.ref e)) (.ref C):=by
 obtain⟨o,h1,h2⟩:=p;exact h2 ▸ (PySem.W.Looks.ld h1).andThen .now
theorem Xr{R:Iw->Ar->Prop}{tp:Ai}(X:K.In h)(p:XAt e C h)(hm:Bj K C (.type "object")=Aa Ab)(hq:R (.ok (.ret (.ref C))) ⟨h,g,d,t,os⟩):
  Fi (model prog w) A (.call (.builtin "getset_descriptor.__get__") ⟨[.builtin "object.__class__", .ref e,tp],[]⟩) R ⟨h,g,d,t,os⟩:=by
 have L0:=IL (M:=model prog w) p;have L1:=PySem.W.looks_mroIn (M:=model prog w) X hm;refine DH PySem.W.KF.slot_gs.plain PySem.W.KF.entry_gs (PySem.W.KF.slot_gs.check _ _ _ _ _ _ _ _ PySem.W.KF.type_class (PySem.W.KF.args_gs _ _ _) ?_);unfold Builtin.«getset_descriptor.__get__» Builtin.Getset_descriptor.descrGet;rw[PySem.W.dga_obj];refine Am (AJ ?_);unfold Builtin.Getset_descriptor.descrGetter Builtin.Getset_descriptor.descrCheckInstance Builtin.Getset_descriptor.descrNameAndClass HS;simp only[PySem.W.KF.owner_class]
 repeat lk
 refine⟨Gv _ (by decide +kernel),codeAny_builtin PySem.W.KF.entry_class ?_⟩
 unfold Builtin.«object.__class__» shownTypeOf
 repeat lk
 exact hq
theorem V4{Q:Fin->Ar->Prop}(X:K.In h)(x:XcOk K C)(p:XAt e C h)(hq:Q (.done (.ret (.ref C))) ⟨h,g,d,t,os⟩):
  Ay (model prog w) A (Builtin.«object.__getattribute__» ⟨[.ref e,.str "__class__" tk],[]⟩) Q E ⟨h,g,d,t,os⟩:=by
 have L0:=IL (M:=model prog w) p;have L1:=Cj (M:=model prog w) X x.cl;have hT5:(⟨h,g,d,t,os⟩:Ar).TypeIs (.builtin "object.__class__") "getset_descriptor" := U6;have f5:=U6;have f6:=F.slot_gs_get.lookup;have f7:=F.slot_gs_set.lookup
 repeat (any_goals (first|assumption|with_reducible refine L0.at ?_|with_reducible refine L1.at ?_|wp_step))
 refine Xr X p x.ob ?_
 repeat (any_goals (first|assumption|wp_step))
theorem O4{nameV:Ai}(X:K.In h)(x:XcOk K C)(p:XAt e C h)(hq:Q () ⟨h,g,d,t,os⟩):Ay M A (FK "BaseException.__getattribute__" ⟨[.ref e,nameV],[]⟩) Q E ⟨h,g,d,t,os⟩:=by
 have hk:builtinKind "BaseException.__getattribute__" = Aa .slot:=by decide +kernel
 have hsplit:splitId "BaseException.__getattribute__" = Aa ("BaseException", "__getattribute__"):=by decide +kernel
 have L0:=IL (M:=M) p;have L1:=Vt (M:=M) X x.be;have ha:=F.args_bexc_ga (.ref e) nameV;simp only[FK,hk,hsplit];refine Am ?_
 ·unfold HS
  repeat (first|(with_reducible refine Am (L0.at ?_))|(with_reducible refine L1.at ?_)|wp_step)
  exact hq
theorem Ys{Q:Vq}(X:K.In h)(x:XcOk K C)(p:XAt e C h)(hq:Q (.ref C) ⟨h,g,d,t,os⟩):Ay (model prog w) A (getAttrBy (.ref e) (.str "__class__" tk) fill expr) Q E ⟨h,g,d,t,os⟩:=by
 have L0:=IL (M:=model prog w) p;have L1:=Cj (M:=model prog w) X x.ga;have L2:=Cj (M:=model prog w) X x.gt;have f3:=Fm.ga.bind (.ref e);have hx0:(expr&&ID (C3 "BaseException.__getattribute__"))=Ac:=by cases expr<;>rfl
 have hx2:(C3 "BaseException.__getattribute__" == C3 "object.__getattribute__")=Ac:=by decide +kernel
 have hx1:(ID (Ci C)&&C3 "BaseException.__getattribute__" == C3 "object.__getattribute__")=Ac:=by rw[hx2];rfl
 repeat (any_goals (first|assumption|with_reducible refine L0.at ?_|with_reducible refine L1.at ?_|with_reducible refine L2.at ?_|wp_step))
 refine DH Fm.ga.plain U1 (O4 X x p (V4 X x p ?_))
 repeat (any_goals (first|assumption|wp_step))
theorem Wn{Q:An Ai->Ar->Prop}(X:K.In h)(x:XcOk K C)(p:XAt e C h)(hq:Q (Aa (.ref C)) ⟨h,g,d,t+1,os⟩):Ay (model prog w) A (getAttr? (.ref e) "__class__") Q E ⟨h,g,d,t,os⟩:=by
 unfold getAttr? getAttrBy?
 repeat (any_goals (first|assumption|with_reducible apply Ys X x p|wp_step))
end
theorem Qz{e C:Aj}(x:XcOk K C):PySem.W.KitX K (.ref e) (.ref C) (XAt e C) where
 ty:=fun M h _ p=>IL p
 it:=fun M h X _=>by
  obtain⟨cd,hc⟩:=DP.mp x.cs;unfold Dh at hc;split at hc
  ·rename_i c' d' cd' sl' ho;intro A' Q' E' s' k q;unfold isType loadHead;exact Am (wpAny_loadPart (k _ _ (X _ _ ho)) (AJ q))
  ·cases hc
 ne:=fun h tp dd its n sl X htp=>by
  obtain⟨cd,hc⟩:=DP.mp x.cs;refine Bool.eq_false_iff.mpr fun q=>?_
  have e:C=tp:=Il (AW.mp q);subst e;unfold Dh at hc;split at hc
  ·rename_i c' d' cd' sl' ho;have z:=(X _ _ ho).symm.trans htp;cases z
  ·cases hc
 ca:=fun {_ _ _ _ _ s} X p k=>by
  obtain⟨h,g,d,t,os⟩:=s;exact Wn X x p k
theorem Xs{A:AZ}{E:Vq}{g:Bl E3}{d:Hq}{t:Ag}{os:GR}{e C C':Aj}{b:Ao}{Q:Ao->Ar->Prop}(X:K.In h)(p:XAt e C h)(x':XcOk K C')(hs:Al K (.ref C) (.ref C')=Aa b)(hq:Q b ⟨h,g,d,t,os⟩):Ay M A (excMatches (.ref e) (.ref C')) Q E ⟨h,g,d,t,os⟩:=by
 obtain⟨bm,N,nm,qn,bs,hd,sn,sub,ab,col,dd,k0,k1,k2,k3,k5,mN,hC',_,_,T⟩:=ZO X x'.exc.choose_spec;have hcB:(Ci C'::bm).contains (.type "BaseException")=Ab:=by rw[Gu,T.hasType (show veB.contains (.type "BaseException")=Ab by decide),GW]
 have L0:=IL (M:=M) p;have L1:=Vt (M:=M) X hs;have f:=tc_notTuple;unfold excMatches
 repeat (first|(with_reducible refine Am (L0.at ?_))|(with_reducible refine L1.at ?_)|(with_reducible refine Am (L1.at ?_))|with_reducible refine BX hC' ?_|(with_reducible refine EK hC' ?_;rw[hcB])|wp_step)
 all_goals first|exact hq|(cases b<;>(wp_walk;exact hq))
def GI(X:Cx)(pI:Pn)(e:Aj):Prop:=e≠X.env.locals/\(∀ x c,X.env.cells.lookup x=Aa c->c≠e)/\(∀ p∈X.pn++pI,p.1≠e)/\X.s₀.heap.get? e=Ae
section
variable{X:Cx}{pI:Pn}{σ:L2.St}{H:Hp}{s:Ar}{e:Aj}
theorem KY(I:Inv X pI σ H s)(hx:X.ex=[])(h:s.heap.get? e=Ae):GI X pI e:=by
 refine⟨?_,fun x c q z=>?_,fun p hp z=>?_,Jh I hx h⟩
 ·rintro rfl;obtain⟨m,⟨o,_,_,ho,_⟩,_⟩:=I.loc;rw[h]at ho;cases ho
 ·obtain⟨v,o,ho,_⟩:=I.cell x c q;rw[z,h]at ho;cases ho
 ·obtain⟨q,_⟩:=I.pin p hp;rw[z,h]at q;cases q
theorem PK{ex:Ad Aj}(I:Inv X pI σ H s)(hx:X.ex=[])(sh:Shift ex (frs X.stack) s.heap h')(ha:∀ b∈ex,GI X pI b)(hH:∀ b∈ex,H b=Ae):Inv X pI σ H {s with heap:=h'}:=by
 have kp:∀ b o,s.heap.get? b=Aa o->b∉ex->∃ sl,h'.get? b=Aa {o with slots:=sl}:=fun b o q n=>by
  by_cases hb:b∈frs X.stack
  ·exact sh.slot b o q hb
  ·exact⟨o.slots,sh.keep b o q n hb⟩
 have cellK:∀ x c,X.env.cells.lookup x=Aa c->∀ v,s.heap.IsCell c v->h'.IsCell c v:=fun x c q v ⟨o,ho,hd⟩=>by
  obtain⟨sl,z⟩:=kp c o ho fun z=>(ha c z).2.1 x c q rfl
  exact⟨_,z,hd⟩
 refine⟨I.ok,I.os,I.bare,?_,?_,fun x c q=>?_,I.free,I.freeC,fun p hp=>?_,HOk.shift I.hok sh hH I.stkFree,I.len⟩
 ·have b0:=I.base;rw[hx]at b0 ⊢;exact Un.shift b0 sh (fun b hb=>(ha b hb).2.2.2) (NI I)
 ·obtain⟨m,⟨o,es,ep,ho,r⟩,hl⟩:=I.loc;obtain⟨sl,z⟩:=kp _ o ho fun z=>(ha _ z).1 rfl
  refine⟨m,⟨_,es,ep,z,r⟩,fun i x v e1 e2 e3=>?_⟩
  obtain⟨u,ru,l⟩:=hl i x v e1 e2 e3;refine⟨u,ru,?_⟩;rcases l with l|⟨k,c,q,z⟩
  ·exact .inl l
  ·exact .inr ⟨k,c,q,cellK x c q _ z⟩
 ·obtain⟨v,z⟩:=I.cell x c q;exact⟨v,cellK x c q v z⟩
 ·obtain⟨q,n,ne,nf,d⟩:=I.pin p hp;exact⟨sh.keep p.1 p.2 q (fun z=>(ha p.1 z).2.2.1 p hp rfl) (fun z=>(AB.mp (I.stkSub p.1 z)).elim ne nf),n,ne,nf,d⟩
theorem WL(I:Inv X pI σ H s)(hx:X.ex=[])(ha:GI X pI e)(hH:H e=Ae)(ho:∃ o,s.heap.get? e=Aa o)(p:φ s.heap)(hφ:∀ h1 h2:AD,φ h1->(∀ o,h1.get? e=Aa o->h2.get? e=Aa o)->φ h2):Inv X pI σ (upd H e (.ext φ)) s:=by
 have ne:∀ b o,H b=Aa o->b≠e:=fun b o q z=>by rw[z,hH]at q;cases q
 refine⟨I.ok,I.os,I.bare,⟨I.base.keep,I.base.slot,fun b o q n hb=>?_,I.base.there,fun b xs q=>?_,fun b o u q=>?_,fun b ps q=>?_⟩,I.loc,I.cell,?_,fun x c q=>?_,fun p hp=>?_,fun b o q=>?_,I.len⟩
 ·rw[By fun z=>by rw[z,ha.2.2.2]at q;cases q]
  exact I.base.free b o q n hb
 ·have:=I.base.tups b xs q;rw[By (ne _ _ this)];exact this
 ·have:=I.base.frzs b o u q;rw[By (ne _ _ this)];exact this
 ·obtain⟨more,this⟩:=I.base.tbls b ps q;exact⟨more,by rw[By (ne _ _ this)];exact this⟩
 ·rw[By fun z=>ha.1 z.symm];exact I.free
 ·rw[By (ha.2.1 x c q)];exact I.freeC x c q
 ·obtain⟨q,n,r⟩:=I.pin p hp;exact⟨q,by rw[By (ha.2.2.1 p hp)];exact n,r⟩
 ·by_cases hb:b=e
  ·subst hb;rw[E8]at q;cases q;exact⟨p,ho,hφ⟩
  ·rw[By hb]at q;exact(I.hok b o q).stay (fun c v hc z=>z) (fun c z=>by rw[By (ne _ _ z)];exact z) fun c zs z=>by rw[By (ne _ _ z)];exact z
theorem WK{i:Ag}{tk:Ag}(I:Inv X pI σ H s)(hN:X.N.Nodup)(hi:X.N[i]?=Aa n)(hn:s.heap.Ns X.env.locals m)(hn':h'.Ns X.env.locals (fun x=>if x=n then v else m x))(hs:Eh X.env.locals s.heap h'):Inv X pI (σ.set i Ae) H {s with heap:=h',toks:=tk}:=by
 obtain⟨m0,hn0,hl⟩:=I.loc;have em:m0=m:=by
  obtain⟨o,es,ep,h1,h2,_,h3⟩:=hn0;obtain⟨o',es',ep',h1',h2',_,h3'⟩:=hn;rw[h1]at h1';cases h1';rw[h2]at h2';cases h2'
  funext y
  rw[<-h3,<-h3']
 subst em;obtain⟨oL,_,_,hoL,_⟩:=id hn;have lt:∀ b o,X.s₀.heap.get? b=Aa o->b≠X.env.locals:=fun b o q=>Bb (AQ (AG q) I.ok.above)
 refine⟨I.ok,I.os,I.bare,⟨fun b o q n hb hx=>?_,fun b o q n hb hx=>?_,I.base.free,fun b o q hx=>?_,I.base.tups,I.base.frzs,I.base.tbls⟩,⟨_,hn',fun j y v' e1 e2 e3=>?_⟩,fun y c q=>?_,I.free,I.freeC,fun p hp=>?_,fun b ob q=>?_,by rw[A2];exact I.len⟩
 ·exact(hs.2 b (lt b o q)).trans (I.base.keep b o q n hb hx)
 ·obtain⟨sl,e1⟩:=I.base.slot b o q n hb hx;exact⟨sl,(hs.2 b (lt b o q)).trans e1⟩
 ·obtain⟨o',e1⟩:=I.base.there b o q hx;exact⟨o',(hs.2 b (lt b o q)).trans e1⟩
 ·by_cases hj:i=j
  ·subst hj;have:=Gj e2;cases this
  ·rw[B7 hj]at e2;obtain⟨u',r',q⟩:=hl j y v' e1 e2 e3;refine⟨u',r',?_⟩;rcases q with ⟨k,e⟩|⟨k,c,e,z⟩
   ·refine .inl ⟨k,?_⟩;have:y≠n:=fun e=>hj (Ng hN hi (e ▸ e1))
    simp[this,e]
   ·exact .inr ⟨k,c,e,z.sameBut hs (I.cne y c e)⟩
 ·obtain⟨w',z⟩:=I.cell y c q;exact⟨w',z.sameBut hs (I.cne y c q)⟩
 ·obtain⟨q,n,ne,nf,d⟩:=I.pin p hp;exact⟨(hs.2 p.1 ne).trans q,n,ne,nf,d⟩
 ·refine(I.hok b ob q).stay (fun c w' hc z=>(hs.2 c ?_).trans z) (fun _ q=>q) fun _ _ q=>q
  rintro rfl;have hfree:=I.free;rcases hc with z|hc
  ·rw[<-z,hfree]at q;cases q
  ·rw[hfree]at hc;cases hc
end
noncomputable def Cx.hot(X:Cx)(e:Aj):Cx:={X with A:=X.A.mark (Aa (.ref e)),calm:=Ac,xe:=fun _ _=>AS}
section
variable{X:Cx}{pI:Pn}{σ:L2.St}{H:Hp}{s:Ar}{e:Aj}
theorem cV(ok:X.Ok):(Cx.hot X e).Ok:=⟨ok.mod,ok.kind,ok.glob,ok.blt,ok.above,ok.inj,ok.has,ok.cab,fun z=>(nomatch z),ok.frames,ok.stk,ok.exf,ok.bs,ok.bsz,ok.noex,ok.exfs,ok.funs,ok.frf⟩
theorem NG(I:Inv X pI σ H s)(e:Aj):Inv (Cx.hot X e) pI σ H s:=⟨cV I.ok,I.os,I.bare,I.base,I.loc,I.cell,I.free,I.freeC,I.pin,I.hok,I.len⟩
theorem Xh(ok:X.Ok)(I:Inv (Cx.hot X e) pI σ H s):Inv X pI σ H s:=⟨ok,I.os,I.bare,I.base,I.loc,I.cell,I.free,I.freeC,I.pin,I.hok,I.len⟩
theorem Sx.unset{ρ:Rho}(x:Sx K CL Fz B ρ σ H)(i:Ag):Sx K CL Fz B (ρ.set i Ae) (σ.set i Ae) H:=by
 have get:∀(j:Ag)(y:D×Ao),(ρ.set i Ae)[j]?=Aa (Aa y)->i≠j/\ρ[j]?=Aa (Aa y):=fun j y h=>by
  by_cases hj:i=j
  ·subst hj;have:=Gj h;cases this
  ·exact⟨hj,by rw[B7 hj]at h;exact h⟩
 have sub:∀ a,BN B (ρ.set i Ae) (σ.set i Ae) a->BN B ρ σ a:=fun a h=>by
  rcases h with h|⟨j,d,h1,h2⟩
  ·exact .inl h
  ·obtain⟨hj,h1⟩:=get j _ h1;rw[B7 hj]at h2;exact .inr ⟨j,d,h1,h2⟩
 refine⟨⟨fun j d h=>?_,fun j d h=>?_,by rw[A2,A2];exact x.len⟩,fun a h=>x.aok a (sub a h),fun j d a h1 h2=>?_,fun j k d f a h1 h2 h3 h4=>?_,x.same,by rw[A2,A2];exact x.len⟩
 ·obtain⟨hj,h1⟩:=get j _ h;obtain⟨v,q,r⟩:=x.good.sh j d h1;exact⟨v,by rw[B7 hj];exact q,Rep.sub sub _ r⟩
 ·obtain⟨hj,h1⟩:=get j _ h;obtain⟨a,xs,ds,q,z,ha,hh,rr⟩:=x.good.ow j d h1;exact⟨a,xs,ds,by rw[B7 hj];exact q,z,.inr ⟨j,d,h,by rw[B7 hj];exact q⟩,hh,Reps.sub sub _ rr⟩
 ·obtain⟨hj,h1⟩:=get j _ h1;rw[B7 hj]at h2;exact x.new j d a h1 h2
 ·obtain⟨hj,h1⟩:=get j _ h1;obtain⟨hk,h2⟩:=get k _ h2;rw[B7 hj]at h3;rw[B7 hk]at h4;exact x.dis j k d f a h1 h2 h3 h4
end
def Ii(e C:Aj)(dx:An Aj)(h:AD):Prop:=∃ o,h.get? e=Aa o/\o.cls=.ref C/\o.dict=dx/\∃ us,o.data=.fields us
noncomputable def Jz(X:Cx)(CL:ClA)(pI:Pn)(σ:L2.St)(H:Hp)(y:Ex)(Xw:Vq):Prop:=
 ∀ s' H' e T cls dx,Inv X pI σ H' s'->AE H H'->Fly e T cls dx s'.heap->H' e=Ae->H' T=Ae->GI X pI e->GI X pI T->FR X.K CL H' cls dx y->Xw (.ref e) s'
def STB(X:Cx)(CL:ClA)(body:Ad A9)(f:Rho->O):Prop:=∀ Fz B pI s σ H D ρ (Xw:Vq),E4 (model X.prog X.w) X.A X.env Xw->Inv X pI σ H s->Sx X.K CL Fz B ρ σ H ->
  (match f ρ with
   |.exn y ρ'=>ρ'=ρ->Jz X CL pI σ H y Xw
   | o=>BS X.K CL Fz B (fun _ _=>AS) o D)->(∀ y ρ',f ρ=.exn y ρ'->ρ'=ρ)->Ay (model X.prog X.w) X.A (execs body X.env) (SP X pI D) Xw s
noncomputable def TD(up:Ag->Ad Ag)(c i:Ag)(o:O)(fh:Rho->O):O:=match o with
  | .exn y ρ'=>if (up y.c).contains c=Ab then (match fh (ρ'.set i (Aa (.exc y.c y.fs,Ac))) with
      |.next ρ''=>.next (ρ''.set i Ae)
      |.ret d f=>.ret d f
      | _=>.bad) else .bad
  |o=>o
theorem NH{i:Ag}{b:Ao}{rest:Ad ED}{s1:Ar}{ρ':Rho}{D:Ends}{e T1:Aj}(hx:X.ex=[])(hN:X.N.Nodup)(hi:X.N[i]?=Aa n)(hl:X.env.scope.names.lookup n=Aa .local)(hg:Gl X g)(hm:X.mg g=Aa (.ref C'))(hdb:(g==("__debug__" : Ah))=Ac)(xc:XcOk X.K C')(hsu:Al X.K (.ref C) (.ref C')=Aa b)(hh:∀ e,SSs (Cx.hot X e) CL (fun _ _=>AS) (h0::hs) fh)(I1:Inv X pI σ H' s1)(fl1:Fly e T1 (.ref C) dx s1.heap)(ae:GI X pI e)(aT1:GI X pI T1)(he:H' e=Ae)(HT1:H' T1=Ae)(gx:Sx X.K CL Fz B ρ' σ H')(hcl:CL y.c=Aa C)(xr:FR X.K CL H' (.ref C) dx y)(p2:b=Ab->BS X.K CL Fz B W (hdO i y ρ' fh) D)(p3:b=Ac->Ay (model X.prog X.w) X.A (Jc (.ref e) X.env rest) (SP X pI D) X.xe s1):Ay (model X.prog X.w) X.A (Jc (.ref e) X.env (.ExceptHandler (Aa (.Name g p1)) (Aa n) (h0::hs) hp::rest)) (SP X pI D) X.xe s1:=by
 obtain⟨Cx0,hcl0,ecl,hfs⟩:=xr (BN B ρ' σ) gx.aok;have xat:∀{h:AD}{T:Aj},Fly e T (.ref C) dx h->XAt e C h:=fun {h T} z=>by
  obtain⟨oe,_,_,_,_,z1,z2,_⟩:=z;exact⟨oe,z1,z2⟩
 have xad:∀{h:AD}{T:Aj},Fly e T (.ref C) dx h->Ii e C dx h:=fun {h T} z=>by
  obtain⟨oe,vs,_,_,_,z1,z2,z3,_,z4,_⟩:=z;exact⟨oe,z1,z2,z3,vs,z4⟩
 have two:∀{T:Aj}{Z:Aj->Prop},Z e->Z T->∀ b∈[e,T],Z b:=fun {T Z} h1 h2 b hb=>by
  rcases AB.mp hb with rfl|hb
  ·exact h1
  ·rw[BE.mp hb];exact h2
 refine wpAny_handleBy_cons (codeAny_handlers_test (II (X:=Cx.hot X e) (NG I1 e) hg hm ?_ hdb)) (by intro q;cases q)
 refine Xs (K:=X.K) I1.kIn (xat fl1) xc hsu ?_;cases b with
 |false=>exact p3 rfl
 |true=>
 have p2:=p2 rfl;refine codeAny_handlers_suite_as ?_;refine Ww (base:=X.base) (l:=X.stack) I1.stack fl1 fun h3 T3 fl3 sh3 hT3=>?_
 have I3:=PK I1 hx sh3 (two ae aT1) (two (Z:=fun b=>H' b=Ae) he HT1)
 obtain⟨oe,oeg,oec⟩:=xad fl3;have I3':=WL (φ:=Ii e C dx) I3 hx ae he ⟨oe,oeg⟩ ⟨oe,oeg,oec⟩ fun h1 h2 ⟨o,q1,q2⟩ k=>⟨o,k o q1,q2⟩
 have sm3:AE H' (upd H' e (.ext (Ii e C dx))):=fun b o q=>by rw[By fun z=>by rw[z,he]at q;cases q];exact q
 refine Nr (X:=Cx.hot X e) (i:=i) (v:=.ref e) (NG I3' e) hN hi (.inl hl) rfl (fun s4 I4=>?_) (.inr hl)
 have x3:=gx.grow sm3;have nA:¬ BN B ρ' σ e:=fun z=>by
  obtain⟨xs,q⟩:=x3.aok e z;rw[E8]at q;cases q
 have rp:Rep X.K CL (upd H' e (.ext (Ii e C dx))) (BN B ρ' σ) (.ref e) (.exc y.c y.fs):=by
  refine⟨e,C,Ii e C dx,rfl,nA,hcl,E8,fun h ⟨o,z1,z2,_⟩=>⟨o,z1,z2⟩,?_⟩
  rcases hfs with z|⟨d,vs,ed,nd,hd,rf⟩
  ·exact .inl z
  ·exact .inr ⟨d,vs,nd,sm3 _ _ hd,Repf.kp (Kp.of sm3) _ rf,fun h ⟨o,z1,_,z3,z4⟩=>⟨o,z1,z3.trans ed,z4⟩⟩
 have x4:=x3.set i rp;have fin:∀{s5:Ar}{σ5:L2.St}{H5:Hp}{Q:FL->Ar->Prop},Inv (Cx.hot X e) pI σ5 H5 s5->(∀ s6,Inv X pI (σ5.set i Ae) H5 s6->Q () s6)->Ay (model X.prog X.w) X.A (do bindName X.env n .none;unbindBehindTheSuite X.env n hp) Q X.xe s5:=fun {s5 σ5 H5 Q} I5 k=>by
  have I5':=Xh I1.ok I5;obtain⟨m,hn,_⟩:=id I5'.loc;refine wpAny_nameGoes_keeps hl hn (by rw[I1.ok.kind];rfl) fun h6 v6 hn6 sb6=>?_
  exact k _ (WK I5' hN hi hn hn6 sb6)
 refine Bg (hh e Fz B pI s4 _ _ {nx:=fun σ5 H5=>D.nx (σ5.set i Ae) H5,rt:=D.rt} I4 ⟨_,x4,?_⟩) (fun f s5 hf=>?_) fun _ _ z=>Be z
 ·unfold hdO at p2;cases ef:fh (ρ'.set i (Aa (.exc y.c y.fs,Ac))) with
  |next ρ''=>rw[ef]at p2;exact fun σ5 H5 x5=>p2 _ _ (x5.unset i)
  |ret d b=>rw[ef]at p2;exact p2
  |brk _=>rw[ef]at p2;exact p2.elim
  |cont _=>rw[ef]at p2;exact p2.elim
  |exn _ _=>rw[ef]at p2;exact p2.elim
  |bad=>rw[ef]at p2;exact p2.elim
 ·cases f with
  |next=>
   obtain⟨σ5,H5,I5,q⟩:=hf;exact fin I5 fun s6 I6=>⟨_,H5,I6,q⟩
  |ret u=>
   obtain⟨v,σ5,H5,I5,r,q⟩:=hf;exact fin I5 fun s6 I6=>⟨v,_,H5,I6,r,q⟩
  |brk=>obtain⟨_,_,_,q⟩:=hf;exact Be q
  |cont=>obtain⟨_,_,_,q⟩:=hf;exact Be q
def MA(X:Cx)(CL:ClA)(up:Ag->Ad Ag)(g:Ah)(c:Ag):Prop:=∃ C',Gl X g/\X.mg g=Aa (.ref C')/\(g==("__debug__" : Ah))=Ac/\XcOk X.K C'/\∀ c' C,CL c'=Aa C->Al X.K (.ref C) (.ref C')=Aa ((up c').contains c)
theorem PJ{Q:Flow->Ar->Prop}{hd:Ad ED}(hx:X.ex=[])(hst:X.stack=X.env::X.outer)(hfm:X.env.frame=Aa X.env.locals)(k:∀ e T1 cls dx H' s1,Inv X pI σ H' s1->AE H H'->Fly e T1 cls dx s1.heap->GI X pI e->GI X pI T1->H' e=Ae->H' T1=Ae->FR X.K CL H' cls dx y->Ay (model X.prog X.w) X.A (Jc (.ref e) X.env hd) Q X.xe s1):Jz X CL pI σ H y (fun ev s1=>Ay (model X.prog X.w) X.A (Gy ev X.env) (fun _ s2=>Ay (model X.prog X.w) X.A (Ht ev Ae) (fun _ s3=>Ay (model X.prog X.w) X.A (Jc ev X.env hd) Q X.xe s3) X.xe s2) X.xe s1):=by
 intro s' H' e T cls dx I' sm fl he hT ae aT xr;have two:∀{T:Aj}{Z:Aj->Prop},Z e->Z T->∀ b∈[e,T],Z b:=fun {T Z} h1 h2 b hb=>by
  rcases AB.mp hb with rfl|hb
  ·exact h1
  ·rw[BE.mp hb];exact h2
 have hfr:X.A.frames=Aa (X.env::X.outer):=by rw[<-hst];exact I'.ok.frames
 refine WS (base:=X.base) hfr hfm (by rw[<-hst];exact I'.stack) fl fun h1 T1 fl1 sh1 hT1=>?_
 rw[<-hst]at sh1;exact k e T1 cls dx H' _ (PK I' hx sh1 (two ae aT) (two (Z:=fun b=>H' b=Ae) he hT)) sm fl1 ae (hT1.elim (fun z=>z ▸ aT) fun z=>KY I' hx z) he (hT1.elim (fun z=>z ▸ hT) fun z=>J7 I'.hok z) xr
theorem aR{c i:Ag}{fb:Rho->O}(hx:X.ex=[])(hst:X.stack=X.env::X.outer)(hfm:X.env.frame=Aa X.env.locals)(hN:X.N.Nodup)(hi:X.N[i]?=Aa n)(hl:X.env.scope.names.lookup n=Aa .local)(h1:MA X CL up g c)(hb:STB X CL body fb)(hρ:∀ ρ y ρ',fb ρ=.exn y ρ'->ρ'=ρ)(hh:∀ e,SSs (Cx.hot X e) CL (fun _ _=>AS) (h0::hs) fh):SS X CL W (.Try body [.ExceptHandler (Aa (.Name g p1)) (Aa n) (h0::hs) hp] [] [] pos) (fun ρ=>TD up c i (fb ρ) fh):=fun Fz B pI s σ H D I ⟨ρ,x,p⟩=>by
 refine VC (Bg (hb Fz B pI s σ H D ρ _ Vf I x ?_ (hρ ρ)) (fun f s1 hf=>?_) fun _ _ z=>z)
 ·dsimp only at p;cases eb:fb ρ with
  |exn y ρ'=>
   rw[eb]at p;intro e0;subst e0;have p2:BS X.K CL Fz B W (if (up y.c).contains c=Ab then hdO i y ρ' fh else .bad) D:=p
   refine PJ hx hst hfm fun e T1 cls dx H' s1 I1 sm fl1 ae aT1 he HT1 xr=>?_
   have gx:=x.grow sm;obtain⟨C,hcl,rfl,_⟩:=xr (BN B ρ' σ) gx.aok;obtain⟨C',hg,hm,hdb,xc,hup⟩:=h1;refine NH (W:=W) hx hN hi hl hg hm hdb xc (hup y.c C hcl) hh I1 fl1 ae aT1 he HT1 gx hcl xr (fun hc=>?_) (fun hc=>?_)
   ·rw[Aw hc]at p2;exact p2
   ·rw[Az (by rw[hc];exact As)]at p2;exact p2.elim
  |next ρ'=>rw[eb]at p;exact p
  |ret d b=>rw[eb]at p;exact p
  |brk ρ'=>rw[eb]at p;exact p
  |cont ρ'=>rw[eb]at p;exact p
  |bad=>rw[eb]at p;exact p.elim
 ·cases f with
  |next=>exact EX hf
  |ret u=>exact hf
  |brk=>exact hf
  |cont=>exact hf
noncomputable def Sy(up:Ag->Ad Ag)(c c' i:Ag)(o:O)(fh fh' fe:Rho->O):O:=match o with
  |.exn y ρ'=>if (up y.c).contains c=Ab then hdO i y ρ' fh else if (up y.c).contains c'=Ab then hdO i y ρ' fh' else .bad
  |.next ρ'=>fe ρ'
  |o=>o
theorem X6{c c' i:Ag}{g':Ah}{hs' els:Ad A9}{h0':A9}{p1' hp':AM}{fb fh' fe:Rho->O}(hx:X.ex=[])(hst:X.stack=X.env::X.outer)(hfm:X.env.frame=Aa X.env.locals)(hN:X.N.Nodup)(hi:X.N[i]?=Aa n)(hl:X.env.scope.names.lookup n=Aa .local)(h1:MA X CL up g c)(h2:MA X CL up g' c')(hb:STB X CL body fb)(hρ:∀ ρ y ρ',fb ρ=.exn y ρ'->ρ'=ρ)(hh:∀ e,SSs (Cx.hot X e) CL (fun _ _=>AS) (h0::hs) fh)(hh':∀ e,SSs (Cx.hot X e) CL (fun _ _=>AS) (h0'::hs') fh')(he:SSs X CL W els fe):SS X CL W (.Try body [.ExceptHandler (Aa (.Name g p1)) (Aa n) (h0::hs) hp,.ExceptHandler (Aa (.Name g' p1')) (Aa n) (h0'::hs') hp'] els [] pos) (fun ρ=>Sy up c c' i (fb ρ) fh fh' fe):=fun Fz B pI s σ H D I ⟨ρ,x,p⟩=>by
 refine VC (Bg (hb Fz B pI s σ H {D with nx:=fun σ1 H1=>∃ ρ1,Sx X.K CL Fz B ρ1 σ1 H1/\BS X.K CL Fz B W (fe ρ1) D} ρ _ Vf I x ?_ (hρ ρ)) (fun f s1 hf=>?_) fun _ _ z=>z)
 ·dsimp only at p;cases eb:fb ρ with
  |exn y ρ'=>
   rw[eb]at p;intro e0;subst e0;have p2:BS X.K CL Fz B W (if (up y.c).contains c=Ab then hdO i y ρ' fh else if (up y.c).contains c'=Ab then hdO i y ρ' fh' else .bad) D:=p
   refine PJ hx hst hfm fun e T1 cls dx H' s1 I1 sm fl1 ae aT1 he HT1 xr=>?_
   have gx:=x.grow sm;obtain⟨C,hcl,rfl,_⟩:=xr (BN B ρ' σ) gx.aok;obtain⟨C1,hg,hm,hdb,xc,hup⟩:=h1;obtain⟨C2,hg2,hm2,hdb2,xc2,hup2⟩:=h2;refine NH (W:=W) hx hN hi hl hg hm hdb xc (hup y.c C hcl) hh I1 fl1 ae aT1 he HT1 gx hcl xr (fun hc=>?_) (fun hc=>?_)
   ·rw[Aw hc]at p2;exact p2
   ·rw[Az (by rw[hc];exact As)]at p2
    refine NH (W:=W) hx hN hi hl hg2 hm2 hdb2 xc2 (hup2 y.c C hcl) hh' I1 fl1 ae aT1 he HT1 gx hcl xr (fun hc=>?_) (fun hc=>?_)
    ·rw[Aw hc]at p2;exact p2
    ·rw[Az (by rw[hc];exact As)]at p2;exact p2.elim
  |next ρ'=>rw[eb]at p;exact fun σ1 H1 x1=>⟨ρ',x1,p⟩
  |ret d b=>rw[eb]at p;exact p
  |brk ρ'=>rw[eb]at p;exact p
  |cont ρ'=>rw[eb]at p;exact p
  |bad=>rw[eb]at p;exact p.elim
 ·cases f with
  |next=>
   obtain⟨σ1,H1,I1,ρ1,x1,q⟩:=hf;exact he Fz B pI s1 σ1 H1 D I1 ⟨ρ1,x1,q⟩
  |ret u=>exact hf
  |brk=>exact hf
  |cont=>exact hf
theorem Qu{f:Aj}{E:XK}{e:Ap}{es:Ad Ap}{t:TA}(F:FnOk X.prog X.w X.K X.mg X.base CX k f fd ps sp)(hr:Room k X.A)(hg:Gl X x)(hm:X.mg x=Aa (.ref f))(hk:B0 X.K (.ref f)=Ab)(hb:Fp X.K fd ps [])(hx:∀ pI H s e s',Inv X pI σ0 H s->CX X.stack H s E e s'->X.xe e s')(ha:PA X (e::es) t)(hdb:(x==("__debug__" : Ah))=Ac)(he:AA (e::es) X.env=(Ac,eval e X.env)::AA es X.env)(hpl:(B8 pos (AA es X.env)).any (·.1)=Ac):PE X (.Call (.Name x p) (e::es) [] pos) (fun σ H Q=>σ=σ0/\t σ H fun vs H1=>sp vs H1 Q E):=by
 intro pI s σ H Q I ⟨e0,h⟩;subst e0;refine D3 (II I hg hm ?_ hdb);refine Gw (h₀:=X.base) I.ok.mod.kin hk (thn (ha pos pI s σ H _ I h) fun us s1 ⟨vs,H1,I1,r,q⟩=>⟨I1.kIn,?_⟩) he hpl
 have hl:us.length=ps.length:=by rw[<-r.length];exact F.len _ _ _ _ q
 have hb':FV s1 fd ⟨us,[]⟩ (ps.zip us):=by
  have:=hb s1 us I1.kIn (by rw[B1];exact hl)
  rw[B1]at this;exact this
 refine F9 (E5 (F.run X.A X.stack s1 H1 ⟨us,[]⟩ us vs Q E hr I1.env0 hb' r q) fun r s' hq=>?_)
 cases r with
 |error e=>exact hx pI H1 s1 e s' I1 hq
 |ok fl=>
  cases fl with
  |ret u=>exact I1.after hq
  |next=>exact Be hq
  |brk=>exact Be hq
  |cont=>exact Be hq
def Oz(K:Fg)(CL:ClA)(Rp:Hp->V->D->Prop)(E0:XK)(H:Hp)(r:R D)(Q:VK):Prop:=match r with
  |.ok d=>∀ v H',AE H H'->Rp H' v d->Q v H'
  |.exn y=>∀ cls dx H',AE H H'->FR K CL H' cls dx y->E0 cls dx H'
  |.bad=>AS
theorem LR{n:Ag}{f:Aj}{e:Ap}{es:Ad Ap}{ft:Rho->R (Ad D)}{sh:Rho->Ao}{E0:XK}(G:FnOk X.prog X.w X.K X.mg X.base CX k f fd ps (spD X.K CL n fr F))(hr:Room k X.A)(hg:Gl X x)(hm:X.mg x=Aa (.ref f))(hk:B0 X.K (.ref f)=Ab)(hb:Fp X.K fd ps [])(hx:∀ pI H s e s',Inv X pI σ0 H s->CX X.stack H s E0 e s'->X.xe e s')(ha:SA X CL (fun _ _=>AS) (e::es) fs)(hat:SAT X CL (fun _ _=>AS) (e::es) ft)(hst:∀ ρ,sh ρ=Ab->ft ρ=fs ρ)(hn:∀ ρ ds,ft ρ=.ok ds->ds.length=n)(hnx:∀ ρ y,ft ρ≠.exn y)(hdb:(x==("__debug__" : Ah))=Ac)(he:AA (e::es) X.env=(Ac,eval e X.env)::AA es X.env)(hpl:∀ pos,(B8 pos (AA es X.env)).any (·.1)=Ac)(A:Aj->Prop):PE X (.Call (.Name x p) (e::es) [] pos) (fun σ H Q=>σ=σ0/\AOk H A/\∃ ρ,Good X.K CL A ρ σ H/\Oz X.K CL (Dq X.K CL fr H A) E0 H ((ft ρ).bind fun ds=>(F ds).bind fun d=>if sh ρ=Ab then .ok d else if Ft fr d=Ab then .ok d else .bad) Q):=fun pI s σ H Q I ⟨e0,hA,ρ,gd,q⟩=>by
 by_cases hs:sh ρ=Ab
 ·rw[hst ρ hs]at q;refine Qu G hr hg hm hk hb hx (ha A) hdb he (hpl _) pI s σ H Q I ⟨e0,hA,ρ,gd,?_⟩;cases e1:fs ρ with
  |bad=>rw[e1]at q;exact q
  |exn y=>exact absurd (by rw[hst ρ hs];exact e1) (hnx ρ y)
  |ok ds=>
   rw[e1]at q;intro vs H1 s1 r1;refine⟨ds,A,by rw[r1.length];exact hn ρ ds (by rw[hst ρ hs];exact e1),hA.same s1,r1,?_⟩
   have q':Oz X.K CL (Dq X.K CL fr H A) E0 H ((F ds).bind fun d=>if sh ρ=Ab then .ok d else if Ft fr d=Ab then .ok d else .bad) Q:=q
   cases e2:F ds with
   |ok d=>
    rw[e2,R.bind_ok,Aw hs]at q';exact fun v H2 s2 r2=>q' v H2 (s1.trans s2) ⟨r2.1,fun z ds' e'=>let ⟨a,xs,z1,z2,z3⟩:=r2.2 z ds' e';⟨a,xs,z1,s1.free z2,z3⟩⟩
   |exn y=>
    rw[e2]at q';exact fun cls dx H2 s2 xr=>q' cls dx H2 (s1.trans s2) xr
   |bad=>rw[e2]at q';exact q'.elim
 ·refine Qu G hr hg hm hk hb hx (hat A) hdb he (hpl _) pI s σ H Q I ⟨e0,hA,ρ,gd,?_⟩;cases e1:ft ρ with
  |bad=>rw[e1]at q;exact q
  |exn y=>exact absurd e1 (hnx ρ y)
  |ok ds=>
   rw[e1]at q;intro vs H1 s1 r1;refine⟨ds,A0,by rw[r1.plain.length];exact hn ρ ds e1,fun _ z=>z.elim,r1.plain,?_⟩
   have q':Oz X.K CL (Dq X.K CL fr H A) E0 H ((F ds).bind fun d=>if sh ρ=Ab then .ok d else if Ft fr d=Ab then .ok d else .bad) Q:=q
   cases e2:F ds with
   |ok d=>
    rw[e2,R.bind_ok,Az hs]at q';split at q'
    ·rename_i hc;exact fun v H2 s2 r2=>q' v H2 (s1.trans s2) (N5 hA (s1.trans s2) hc ⟨r2.1,fun z ds' e'=>let ⟨a,xs,z1,z2,z3⟩:=r2.2 z ds' e';⟨a,xs,z1,s1.free z2,z3⟩⟩)
    ·exact q'.elim
   |exn y=>
    rw[e2]at q';exact fun cls dx H2 s2 xr=>q' cls dx H2 (s1.trans s2) xr
   |bad=>rw[e2]at q';exact q'.elim
noncomputable def Cx.pw(X:Cx)(pI:Pn)(Xw:Vq):Cx:={X with pn:=X.pn++pI,xe:=Xw}
section
variable{X:Cx}{pI pins':Pn}{σ:L2.St}{H:Hp}{s:Ar}{Xw:Vq}
theorem jK(ok:X.Ok):(Cx.pw X pI Xw).Ok:=⟨ok.mod,ok.kind,ok.glob,ok.blt,ok.above,ok.inj,ok.has,ok.cab,ok.hd,ok.frames,ok.stk,ok.exf,ok.bs,ok.bsz,ok.noex,ok.exfs,ok.funs,ok.frf⟩
theorem Lc(I:Inv X pI σ H s)(Xw:Vq):Inv (Cx.pw X pI Xw) [] σ H s:=⟨jK I.ok,I.os,I.bare,I.base,I.loc,I.cell,I.free,I.freeC,fun p hp=>I.pin p (by
 rcases Hn.mp hp with z|z
 ·exact z
 ·exact absurd z (by simp)),I.hok,I.len⟩
theorem J6(ok:X.Ok)(I:Inv (Cx.pw X pI Xw) pins' σ H s):Inv X pI σ H s:=⟨ok,I.os,I.bare,I.base,I.loc,I.cell,I.free,I.freeC,fun p hp=>I.pin p (FY _ hp),I.hok,I.len⟩
theorem L9(ok:X.Ok){D:Ends}{f:Flow}{s':Ar}(h:SP (Cx.pw X pI Xw) pins' D f s'):SP X pI D f s':=by
 cases f with
 |next=>obtain⟨σ',H',I,q⟩:=h;exact⟨σ',H',J6 ok I,q⟩
 |brk=>obtain⟨σ',H',I,q⟩:=h;exact⟨σ',H',J6 ok I,q⟩
 |cont=>obtain⟨σ',H',I,q⟩:=h;exact⟨σ',H',J6 ok I,q⟩
 |ret u=>obtain⟨v,σ',H',I,r,q⟩:=h;exact⟨v,σ',H',J6 ok I,r,q⟩
end
section
variable{X:Cx}{CL:ClA}{k n:Ag}{fr:Ao}{f:Aj}{fd:BP}{ps:Ad Ah}{F:Ad D->R D}{x:Ah}{p pos pos2:AM}{e:Ap}{es:Ad Ap}{fs ft:Rho->R (Ad D)}{sh:Rho->Ao}
theorem QV(hx:X.ex=[])(ok:X.Ok)(q:Jz X CL pI σ H y Xw):∀ pins' H1 s1 e s',Inv (Cx.pw X pI Xw) pins' σ H1 s1->CXR X.prog X.w (Cx.pw X pI Xw).stack H1 s1 (fun cls dx H'=>FR X.K CL H' cls dx y/\AE H H') e s'->(Cx.pw X pI Xw).xe e s':=by
 intro pins' H1 s1 ev s' J h;obtain⟨e,T,cls,dx,H',rfl,os,bare,un,hok,fl,he,hT,ne,nT,xr,sm⟩:=h;have J':=J6 ok J;have J2:=J'.call' (s':=s') (ch:=[]) os un hok bare (fun b z=>absurd z (by simp))
 exact q s' H' e T cls dx J2 sm fl he hT (KY J' hx ne) (KY J' hx nT) xr
theorem QW:∀ pins' H1 s1 e s',Inv (Cx.pw X pI Xw) pins' σ H1 s1->CXR X.prog X.w (Cx.pw X pI Xw).stack H1 s1 (fun _ _ _=>AS) e s'->(Cx.pw X pI Xw).xe e s':=by
 intro pins' H1 s1 ev s' J h;obtain⟨e,T,cls,dx,H',rfl,os,bare,un,hok,fl,he,hT,ne,nT,w⟩:=h;exact w.elim
variable(hx0:X.ex=[])(G:FnOk X.prog X.w X.K X.mg X.base (CXR X.prog X.w) k f fd ps (spD X.K CL n fr F))(hr:Room k X.A)(hg:Gl X x)(hm:X.mg x=Aa (.ref f))
    (hk:B0 X.K (.ref f)=Ab) (hb:Fp X.K fd ps []) (hst:∀ ρ,sh ρ=Ab->ft ρ=fs ρ) (hn:∀ ρ ds,ft ρ=.ok ds->ds.length=n) (hnx:∀ ρ y,ft ρ≠.exn y)
    (hdb:(x==("__debug__" : Ah))=Ac) (he:AA (e::es) X.env=(Ac,eval e X.env)::AA es X.env) (hpl:∀ pos,(B8 pos (AA es X.env)).any (·.1)=Ac)
    (ha:∀ pI Xw,E4 (model X.prog X.w) X.A X.env Xw->SA (Cx.pw X pI Xw) CL (fun _ _=>AS) (e::es) fs/\SAT (Cx.pw X pI Xw) CL (fun _ _=>AS) (e::es) ft)
include hx0 G hr hg hm hk hb hst hn hnx hdb he hpl ha
theorem XB(hs:Di (.Call (.Name x p) (e::es) [] pos) Ae pos2.line X.env=pure Ac):STB X CL [.Expr (.Call (.Name x p) (e::es) [] pos) pos2] (fun ρ=>O.of ρ ((ft ρ).bind fun ds=>(F ds).bind fun d=>if sh ρ=Ab then .ok d else if Ft fr d=Ab then .ok d else .bad) fun _=>.next ρ):=by
 intro Fz B pI s σ H D ρ Xw own I sx q _;obtain⟨ha1,ha2⟩:=ha pI Xw own;dsimp only at q;cases er:(ft ρ).bind fun ds=>(F ds).bind fun d=>if sh ρ=Ab then .ok d else if Ft fr d=Ab then .ok d else .bad with
 |bad=>rw[er]at q;exact q.elim
 |exn y=>
  rw[er]at q;have key:=LR (X:=Cx.pw X pI Xw) (p:=p) (pos:=pos) (σ0:=σ) (fr:=fr) (F:=F) (n:=n) (sh:=sh) G hr hg hm hk hb (QV hx0 I.ok (q rfl)) ha1 ha2 hst hn hnx hdb he hpl (BN B ρ σ);refine Bg (K7 (LV (pos:=pos2) key hs) [] s σ H D (Lc I Xw) ⟨rfl,sx.aok,ρ,sx.good,?_⟩) (fun _ _ z=>L9 I.ok z) fun _ _ z=>z
  rw[er];exact fun cls dx H' sm xr=>⟨xr,sm⟩
 |ok d=>
  rw[er]at q;have key:=LR (X:=Cx.pw X pI Xw) (p:=p) (pos:=pos) (σ0:=σ) (fr:=fr) (F:=F) (n:=n) (sh:=sh) (E0:=fun _ _ _=>AS) G hr hg hm hk hb QW ha1 ha2 hst hn hnx hdb he hpl (BN B ρ σ)
  refine Bg (K7 (LV (pos:=pos2) key hs) [] s σ H D (Lc I Xw) ⟨rfl,sx.aok,ρ,sx.good,?_⟩) (fun _ _ z=>L9 I.ok z) fun _ _ z=>z
  rw[er];exact fun v H' sm r=>q σ H' (sx.grow sm)
theorem X4{i:Ag}{m:Ah}(hN:X.N.Nodup)(hi:X.N[i]?=Aa m)(hl:Loc X.env.scope m)(hf:X.fn m=Ab\/X.env.scope.names.lookup m=Aa .local)(hs:Di (.Call (.Name x p) (e::es) [] pos) (Aa (.Name m pos')) pos2.line X.env=pure Ac):STB X CL [.Assign [.Name m pos'] (.Call (.Name x p) (e::es) [] pos) pos2] (fun ρ=>O.of ρ ((ft ρ).bind fun ds=>(F ds).bind fun d=>if sh ρ=Ab then .ok d else if Ft fr d=Ab then .ok d else .bad) fun d=>.next (ρ.set i (Aa (d,Ac)))):=by
 intro Fz B pI s σ H D ρ Xw own I sx q _;obtain⟨ha1,ha2⟩:=ha pI Xw own;dsimp only at q;cases er:(ft ρ).bind fun ds=>(F ds).bind fun d=>if sh ρ=Ab then .ok d else if Ft fr d=Ab then .ok d else .bad with
 |bad=>rw[er]at q;exact q.elim
 |exn y=>
  rw[er]at q;have key:=LR (X:=Cx.pw X pI Xw) (p:=p) (pos:=pos) (σ0:=σ) (fr:=fr) (F:=F) (n:=n) (sh:=sh) G hr hg hm hk hb (QV hx0 I.ok (q rfl)) ha1 ha2 hst hn hnx hdb he hpl (BN B ρ σ);refine Bg (K7 (Mi (X:=Cx.pw X pI Xw) (i:=i) (pos:=pos2) hN hi hl key hs hf) [] s σ H D (Lc I Xw) ⟨rfl,sx.aok,ρ,sx.good,?_⟩) (fun _ _ z=>L9 I.ok z) fun _ _ z=>z
  rw[er];exact fun cls dx H' sm xr=>⟨xr,sm⟩
 |ok d=>
  rw[er]at q;have key:=LR (X:=Cx.pw X pI Xw) (p:=p) (pos:=pos) (σ0:=σ) (fr:=fr) (F:=F) (n:=n) (sh:=sh) (E0:=fun _ _ _=>AS) G hr hg hm hk hb QW ha1 ha2 hst hn hnx hdb he hpl (BN B ρ σ)
  refine Bg (K7 (Mi (X:=Cx.pw X pI Xw) (i:=i) (pos:=pos2) hN hi hl key hs hf) [] s σ H D (Lc I Xw) ⟨rfl,sx.aok,ρ,sx.good,?_⟩) (fun _ _ z=>L9 I.ok z) fun _ _ z=>z
  rw[er];exact fun v H' sm r=>q _ H' ((sx.grow sm).set i r.1)
end
section
variable{X:Cx}{CL:ClA}{W:XW}
theorem XC{e:Ap}{es:Ad Ap}(hcalm:X.calm=Ab)(rz:Lr X CL W)(hg:Gl X g)(hm:X.mg g=Aa (.ref C))(hdb:(g==("__debug__" : Ah))=Ac)(xc:DJ X.K C Ae=Ab)(hcl:CL c=Aa C)(ha:SA X CL W (e::es) fs)(hxn:∀ ds,xn c ds=.bad\/xn c ds=.ok ⟨c,[]⟩)(he:AA (e::es) X.env=(Ac,eval e X.env)::AA es X.env)(hpl:∀ pos,(B8 pos (AA es X.env)).any (·.1)=Ac)(hz:∀ ρ ds,fs ρ=.ok ds->ds.length<=100000):SS X CL W (.Raise (Aa (.Call (.Name g np) (e::es) [] cpos)) Ae pos) (fun ρ=>O.of ρ (noX (fs ρ)) fun xs=>O.of ρ (xn c xs) fun x=>.exn x ρ):=fun Fz B pI s σ H D I ⟨ρ,x,p⟩=>by
 dsimp only at p;cases e1:fs ρ with
 |bad=>rw[e1]at p;exact p.elim
 |exn y=>rw[e1]at p;exact p.elim
 |ok ds=>
  rw[e1]at p;have p2:BS X.K CL Fz B W (O.of ρ (xn c ds) fun x=>.exn x ρ) D:=p
  rcases hxn ds with e2|e2
  ·rw[e2]at p2;exact p2.elim
  ·rw[e2]at p2;have p3:∀ H,(∀ b o,Fz b o->H b=Aa o)->W ⟨c,[]⟩ H:=p2;obtain⟨bm,N,nm,qn,bs,hd,sn,sub,ab,col,dd,k0,k1,k2,k3,k5,mN,hob,hni,hbase⟩:=Nk I.kIn xc;refine wpAny_Raise_call_subT (bmB:=veB) (nm:=nm) (q:=qn) (C:=C) (N:=N) (bs:=bs) (bm:=bm) (hdct:=hd) (sn:=sn) (sub:=sub) (ab:=ab) (col:=col) (dd:=dd) (k0:=k0) (k1:=k1) (k2:=k2) (k3:=k3) (k5:=k5) (mN:=mN) EE hbase (I.ok.hd hcalm) (by rw[he];show (Ac||(B8 cpos (AA es X.env)).any (·.1))=Ac;rw[hpl];rfl) hni ?_
   refine II I hg hm ⟨rfl,?_⟩ hdb;have q1:=ha (BN B ρ σ) cpos pI s σ H (fun vs H1=>AE H H1/\vs.length=ds.length) I ⟨x.aok,ρ,x.good,by rw[e1];exact fun vs H1 s1 r1=>⟨s1,r1.length⟩⟩
   rw[he]at q1 ⊢;refine F4 (Bg q1 (fun us s2 ⟨vs,H2,I2,r2,s2',hl⟩=>⟨rfl,?_⟩) fun _ _ z=>z)
   obtain⟨o1,o2,o3⟩:=hob _ I2.kIn;refine⟨?_,o1,o2,o3,fun h' ev hmade=>?_⟩
   ·rw[<-r2.length,hl,Ds];have:=hz ρ ds e1;omega
   ·obtain⟨t,ge,_⟩:=hmade.there;have I3:Inv X pI σ H2 {s2 with heap:=h'}:=I2.kept (t':=s2.toks) hmade.keeps
    exact rz pI σ H2 _ ev C Ae t ⟨c,[]⟩ I3 (fun hx=>Jh I2 hx hmade.new) (J7 I2.hok hmade.new) ge (fun A _=>⟨C,hcl,rfl,.inl rfl⟩) (p3 H2 fun b o z=>s2' _ _ (x.same b o z))
def Lh(K:Fg)(CL:ClA)(up:Ag->Ad Ag)(c':Ag)(C':Aj):Prop:=∀ c C,CL c=Aa C->C9 K (.ref C) (.ref C')=Aa ((up c).contains c')
theorem QA{s:Ar}{cv:Ai}{b:Ao}{Q:VK}(I:Inv X pI σ H s)(ha:H a=Aa (.ext φ))(hφ:∀ h,φ h->∃ o,h.get? a=Aa o/\o.cls=.ref C)(xc:XcOk X.K C)(e:C9 X.K (.ref C) cv=Aa b)(q:Q (.bl b) H):
  Ay (model X.prog X.w) X.A (call (.builtin "isinstance") [.ref a,cv]) (EP X pI σ Q) X.xe s:=by
 have p:XAt a C s.heap:=hφ _ (I.hok a _ ha).1;exact PySem.W.kia_one (Qz xc) I.kIn p e (by intro z;cases z) fun tk=>⟨.bl b,H,I.tok tk,rfl,q⟩
theorem Pb:∀(Cs:Ad Aj){its:Ad Ai},Bi (Cs.map V.ref) its->its=Cs.map Ci
 |[],_,rv=>by cases rv;rfl
 |c::cs,_,rv=>by
  cases rv with
  |cons h1 h2=>rw[Pb cs h2];cases h1;rfl
theorem Y2{s:Ar}{tp:Aj}{Cs:Ad Aj}{b:Ao}{Q:VK}(I:Inv X pI σ H s)(ha:H a=Aa (.ext φ))(hφ:∀ h,φ h->∃ o,h.get? a=Aa o/\o.cls=.ref C)(xc:XcOk X.K C)(ht:H tp=Aa (.tup (Cs.map V.ref)))(e:HJ X.K (.ref C) (Cs.map Ci)=Aa b)(q:Q (.bl b) H):
  Ay (model X.prog X.w) X.A (call (.builtin "isinstance") [.ref a,.ref tp]) (EP X pI σ Q) X.xe s:=by
 have p:XAt a C s.heap:=hφ _ (I.hok a _ ha).1;obtain⟨_,its,rv,⟨o,ho,hc,n,hd⟩⟩:=I.hok tp _ ht;have ei:its=Cs.map Ci:=Pb Cs rv;subst ei;obtain⟨cls,dd,dat,sl⟩:=o;have hc':cls=.type "tuple" := hc;have hd':dat=.seq (E1 (Cs.map Ci)) n:=hd;subst hc' hd';exact PySem.W.kia_tup (Qz xc) I.kIn p ho e (by intro z;cases z) fun tk=>⟨.bl b,H,I.tok tk,rfl,q⟩
theorem Ro{K:Fg}{up:Ag->Ad Ag}{c:Ag}{C:Aj}(h:CL c=Aa C):∀(cs:Ad (Ag×Aj)),(∀ p∈cs,Lh K CL up p.1 p.2)->HJ K (.ref C) ((cs.map fun q:Ag×Aj=>q.2).map Ci)=Aa (cs.any fun p=>(up c).contains p.1)
  |[],_=>rfl
  |p::cs,hk=>by
    have h1:=hk p AH c C h;have h2:=Ro h cs fun q hq=>hk q (Ax _ hq)
    show (match C9 K (.ref C) (.ref p.2) with
      |some Ab=>Aa Ab
      |some Ac=>HJ K (.ref C) ((cs.map fun q:Ag×Aj=>q.2).map Ci)
      | none=>Ae)=_
    rw[h1,FC];cases (up c).contains p.1 with
    |true=>rfl
    |false=>rw[h2];rfl
theorem Nj{ks:Ad Ki}{Rp:Hp->V->D->Prop}{Q:VK}(hk:ks.all Dy=Ab)(hne:ks≠[])(p:Bh Rp W H (DV up ks d) Q):∃ c fs,d=.exc c fs/\Bh Rp W H (.ok (.bl (ks.any fun k=>kiD up k d))) Q:=by
 have ha:ks.any Dy=Ab:=by
  cases ks with
  |nil=>exact absurd rfl hne
  |cons k ks=>simp only[FB,Ak]at hk;simp[FC,hk.1]
 cases d with
 | exc c fs=>exact⟨c,fs,rfl,by
   have p':Bh Rp W H (if ks.all Dy=Ab then .ok (.bl (ks.any fun k=>kiD up k (.exc c fs))) else .bad) Q:=p
   rw[Aw hk]at p';exact p'⟩
 |obj c fs=>exact Be p
 |dic _=>exact Be p
 |non=>simp only[DV,ha,Eo]at p;exact Be p
 |bl _=>simp only[DV,ha,Eo]at p;exact Be p
 |int _=>simp only[DV,ha,Eo]at p;exact Be p
 |str _=>simp only[DV,ha,Eo]at p;exact Be p
 |tup _=>simp only[DV,ha,Eo]at p;exact Be p
 |lst _=>simp only[DV,ha,Eo]at p;exact Be p
theorem NA{v:V}{fs:Ad (Ah×D)}(r:CG K CL H A v (.exc c fs)):∃ a C φ,v=.ref a/\CL c=Aa C/\H a=Aa (.ext φ)/\∀ h,φ h->∃ o,h.get? a=Aa o/\o.cls=.ref C:=by
 rcases r with ⟨a,C,φ,e,_,hc,hH,hφ,_⟩|⟨a,xs,ds,_,z,_⟩
 ·exact⟨a,C,φ,e,hc,hH,hφ⟩
 ·cases z
variable{a:Ap}{fa:Rho->R D}{up:Ag->Ad Ag}{x:Ah}{p p2 pos:AM}
theorem aF{c':Ag}(hxc:∀ c C,CL c=Aa C->XcOk X.K C)(hg:Gl X "isinstance")(hm:X.mg "isinstance" = Ae)(hg2:Gl X x)(hm2:X.mg x=Aa (.ref C'))(hkit:Lh X.K CL up c' C')(hdb:(x==("__debug__" : Ah))=Ac)(ha:ST X CL W a fa)(he:AA [a,.Name x p2] X.env=(Ac,eval a X.env)::AA [.Name x p2] X.env):SE X CL W (.Call (.Name "isinstance" p) [a,.Name x p2] [] pos) (fun ρ=>(fa ρ).bind fun x=>DV up [.cls c'] x):=fun A=>
 PE.weak (K0 (r:=fun xs H Q=>∃ a C φ c,xs=[.ref a,.ref C']/\CL c=Aa C/\H a=Aa (.ext φ)/\(∀ h,φ h->∃ o,h.get? a=Aa o/\o.cls=.ref C)/\Q (.bl ((up c).contains c')) H) (fun pI s σ H xs us Q I r ⟨b,C,φ,c,e,hc,hH,hφ,q⟩=>by
   subst e;obtain⟨u,w',rfl,r1,r2⟩:=Jv r;cases r1;cases r2;exact QA I hH hφ (hxc c C hc) (hkit c C hc) q)
  hg hm F3 (Et (ha A) (Et (QB (v:=.ref C') hg2 hm2 rfl hdb) GC rfl) he) (by decide) (by decide) he rfl) fun σ H Q ⟨hA,ρ,g,q⟩=>⟨hA,ρ,g,Bh.bind q fun d v H1 _ s1 r1 p1=>by
   obtain⟨c,fs,rfl,p2⟩:=Nj (by rfl) (by simp) p1
   obtain⟨b,C,φ,rfl,hc,hH,hφ⟩:=NA r1;refine⟨b,C,φ,c,rfl,hc,hH,hφ,p2 _ H1 (AE.refl H1) ?_⟩;show V.bl _=V.bl _;simp[kiD]⟩
theorem aC(hxc:∀ c C,CL c=Aa C->XcOk X.K C)(hg:Gl X "isinstance")(hm:X.mg "isinstance" = Ae)(hg2:Gl X "ValueError")(hm2:X.mg "ValueError" = Ae)(ha:ST X CL W a fa)(he:AA [a,.Name "ValueError" p2] X.env=(Ac,eval a X.env)::AA [.Name "ValueError" p2] X.env):SE X CL W (.Call (.Name "isinstance" p) [a,.Name "ValueError" p2] [] pos) (fun ρ=>(fa ρ).bind fun x=>DV up [.verr] x):=fun A=>
 PE.weak (K0 (r:=fun xs H Q=>∃ a C φ c,xs=[.ref a,.ty "ValueError"]/\CL c=Aa C/\H a=Aa (.ext φ)/\(∀ h,φ h->∃ o,h.get? a=Aa o/\o.cls=.ref C)/\Q (.bl Ab) H) (fun pI s σ H xs us Q I r ⟨b,C,φ,c,e,hc,hH,hφ,q⟩=>by
   subst e;obtain⟨u,w',rfl,r1,r2⟩:=Jv r;cases r1;cases r2;exact QA I hH hφ (hxc c C hc) (hxc c C hc).ve q)
  hg hm F3 (Et (ha A) (Et (QD (v:=.ty "ValueError") hg2 hm2 PyProof.Rows.Boot.«ValueError» rfl (by decide) (by decide)) GC rfl) he) (by decide) (by decide) he rfl) fun σ H Q ⟨hA,ρ,g,q⟩=>⟨hA,ρ,g,Bh.bind q fun d v H1 _ s1 r1 p1=>by
   obtain⟨c,fs,rfl,p2⟩:=Nj (by rfl) (by simp) p1
   obtain⟨b,C,φ,rfl,hc,hH,hφ⟩:=NA r1;refine⟨b,C,φ,c,rfl,hc,hH,hφ,p2 _ H1 (AE.refl H1) ?_⟩;show V.bl _=V.bl _;simp[kiD]⟩
def Ti(Cs:Ad Aj):TA:=fun _ H Q=>Q (Cs.map V.ref) H
theorem aD{ts:Ad Ap}{cs:Ad (Ag×Aj)}(hxc:∀ c C,CL c=Aa C->XcOk X.K C)(hg:Gl X "isinstance")(hm:X.mg "isinstance" = Ae)(hts:PA X ts (Ti (cs.map fun q:Ag×Aj=>q.2)))(hne:cs≠[])(hl:cs.length<=1000)(hkit:∀ q∈cs,Lh X.K CL up q.1 q.2)(ha:ST X CL W a fa)(he:AA [a,.Tuple ts kk p2] X.env=(Ac,eval a X.env)::AA [.Tuple ts kk p2] X.env):SE X CL W (.Call (.Name "isinstance" p) [a,.Tuple ts kk p2] [] pos) (fun ρ=>(fa ρ).bind fun x=>DV up (cs.map fun q=>.cls q.1) x):=fun A=>
 PE.weak (K0 (r:=fun xs H Q=>∃ a C φ c tp,xs=[.ref a,.ref tp]/\CL c=Aa C/\H a=Aa (.ext φ)/\(∀ h,φ h->∃ o,h.get? a=Aa o/\o.cls=.ref C)/\H tp=Aa (.tup ((cs.map fun q:Ag×Aj=>q.2).map V.ref))/\Q (.bl (cs.any fun q=>(up c).contains q.1)) H) (fun pI s σ H xs us Q I r ⟨b,C,φ,c,tp,e,hc,hH,hφ,ht,q⟩=>by
   subst e;obtain⟨u,w',rfl,r1,r2⟩:=Jv r;cases r1;cases r2;exact Y2 I hH hφ (hxc c C hc) ht (Ro hc cs hkit) q)
  hg hm F3 (Et (ha A) (Et (RH hts) GC rfl) he) (by decide) (by decide) he rfl) fun σ H Q ⟨hA,ρ,g,q⟩=>⟨hA,ρ,g,Bh.bind q fun d v H1 _ s1 r1 p1=>by
   have hk:(cs.map fun q=>Ki.cls q.1).all Dy=Ab:=by simp[Uh,Dy]
   obtain⟨c,fs,rfl,p2⟩:=Nj hk (by simpa using hne) p1
   obtain⟨b,C,φ,rfl,hc,hH,hφ⟩:=NA r1;refine⟨by rw[Cf,Cf,Ds];omega,fun t ht=>?_⟩
   have hbt:b≠t:=Fo hH ht;refine⟨b,C,φ,c,t,rfl,hc,by rw[By hbt];exact hH,hφ,E8,p2 _ _ (FM ht _) ?_⟩
   show V.bl _=V.bl _;simp[kiD,Ip,GK]⟩
end
theorem RW(q:DJ K C v=Ab):∃ dd cd sl bm,K.lookup C=Aa ⟨.type "type", dd,.cls cd,sl⟩/\cd.mro=.ref C::bm:=by
 unfold DJ at q;split at q
 ·rename_i dd cd sl ho;split at q
  ·rename_i C' bm k0 k1 k2 k3 n k5 hm hs;simp only[Ak,AW,Bp]at q;obtain⟨rfl,_⟩:=q;exact⟨dd,cd,sl,bm,ho,hm⟩
  ·cases q
 ·cases q
theorem LY(q:DJ K C v=Ab):∃ cd bm,Dh K C=Aa cd/\cd.mro=.ref C::bm:=by
 obtain⟨dd,cd,sl,bm,h1,h2⟩:=RW q;exact⟨cd,bm,by unfold Dh;rw[h1],h2⟩
theorem fR(q:DJ K C v=Ab):Bw K (.ref C)=Aa (.type "type"):=by
 obtain⟨dd,cd,sl,bm,h1,h2⟩:=RW q;show (K.lookup C).map _=_;rw[h1];rfl
theorem CA{v:Ao}{i i':An Ai}(q:DJ K C i=Ab)(q':DJ K C' i'=Ab)(su:Al K (.ref C) (.ref C')=Aa v):C9 K (.ref C) (.ref C')=Aa v:=by
 unfold C9;by_cases e:C=C'
 ·subst e;obtain⟨cd,bm,h1,h2⟩:=LY q;have su':Bj K C (.ref C)=Aa v:=su;have:v=Ab:=by
   unfold Bj at su';rw[h1,UK,h2,Az (by simp)]at su'
   rw[<-Bf su'];simp
  rw[Aw (by simp),this]
 ·rw[Az (fun z=>e (Il (AW.mp z)))]
  obtain⟨cd,bm,h1,h2⟩:=LY q';show (if ((Dh K C').isSome&&Bw K (.ref C')==Aa (.type "type"))=Ab then Al K (.ref C) (.ref C') else Ae)=_
  rw[h1,fR q',Aw (by simp),su]
theorem Kk(exc:DJ K C v=Ab)(ga:Av K (.ref C) "__getattribute__" = Aa (Aa (.builtin "BaseException.__getattribute__")))(gt:Av K (.ref C) "__getattr__" = Aa Ae)(cl:Av K (.ref C) "__class__" = Aa (Aa (.builtin "object.__class__")))(ob:Bj K C (.type "object")=Aa Ab)(be:Al K (.ref C) (.type "BaseException")=Aa Ab)(sv:Al K (.ref C) (.type "ValueError")=Aa Ab):XcOk K C:=by
 obtain⟨cd,bm,h1,h2⟩:=LY exc;refine⟨⟨v,exc⟩,ga,gt,cl,ob,be,by rw[h1];rfl,?_⟩
 unfold C9;rw[Az (fun z=>by cases AW.mp z)]
 have hm:Vs "ValueError" = Ab:=by decide +kernel
 show (if Vs "ValueError" = Ab then Al K (.ref C) (.type "ValueError") else Ae)=_
 rw[Aw hm,sv]
noncomputable abbrev Ij:CXT:=fun _ _ _ _ _ _=>AS
structure HotOk (P:AR) (w:AC) (K:Fg) (mg:Ah->An Ai) (base:AD) (k:Ag) (f:Aj) (fd:BP) (ps:Ad Ah) (sp:Sp):Prop where
 len:∀ vs H Q E,sp vs H Q E->vs.length=ps.length
 run:∀(A:AZ)(ev:Aj)(outer:Ad B5)(s:Ar)(H:Hp)(args:Args)(us:Ad Ai)(vs:Ad V)(Q:VK)(E:XK),Room k A->Env0 P w K mg base (A.mark (Aa (.ref ev))) outer s H->FV s fd args (ps.zip us)->Bi vs us->sp vs H Q E ->
  Fi (model P w) (A.mark (Aa (.ref ev))) (.call (.ref f) args) (CR Ij outer P w H s Q E) s
theorem fK{mg:Ah->An Ai}{base:AD}{f:Aj}{params:Kw}{dV kV doc pm cdv ct oc:Ai}{N ps:Ad Ah}(lk:K.lookup f=Aa ⟨oc,od,.func (CC name qual params body scope dV kV doc pm an cdv ct),osl⟩)(hcd:Ek K cdv qual=Ab)(S:FnScope N ps scope)(len:∀ vs H Q E,sp vs H Q E->vs.length=ps.length)(hbody:∀(A:AZ)(ev:Aj)(outer:Ad B5)(s:Ar)(H:Hp)(vs:Ad V)(Q:VK)(E:XK),Room k (A.deeper (Eg qual scope s.heap.objs.size f cdv))->sp vs H Q E ->
   ∃ t,PSs (Cx.hot (En Ij P w K mg base N qual scope f cdv A outer s H E) ev) body t/\t {nx:=fun _ H'=>Q .non H',rt:=Q} (start N vs) H):HotOk P w K mg base (k+1) f (CC name qual params body scope dV kV doc pm an cdv ct) ps sp:=by
 refine⟨len,fun A ev outer s H args us vs Q E hr e0 hb r hsp=>?_⟩
 have hl:=len _ _ _ _ hsp;have e1:Env0 P w K mg base A outer s H:=⟨e0.frames,e0.mod,e0.bs,e0.bsz,e0.funs,e0.frf,e0.hok,e0.bare⟩;have KX:K.In s.heap:=e0.mod.kin.keeps fun b o e=>(e0.bs b o e).1
 have lim:s.heap.NoLimit:=e0.mod.nolimit.keeps fun b o e=>(e0.bs b o e).1
 have hkind:∀ y∈ps.zip us,scope.names.lookup y.1=Aa .local\/(scope.names.lookup y.1=Aa .cell/\((CD (s.heap.objs.size+1) scope.names []).lookup y.1).isSome=Ab):=fun ⟨n,v⟩ hy=>by
  rcases S.par n (F0 hy).1 with q|q
  ·exact .inl q
  ·exact .inr ⟨q,Fx _ _ _ (.inl q)⟩
 have hdp:(A.mark (Aa (.ref ev))).depth<Gi:=hr.depth;refine FW hdp (KX _ _ lk) rfl S.co S.gen rfl (Gx KX hcd) (hb _ _ _ _ ?_);refine EG S.kind hkind fun env he s1 x=>?_
 subst he;refine⟨lim.keeps x.toInCall.keep,IA ?_⟩;obtain⟨t,ht,hq⟩:=hbody A ev outer s H vs Q E (hr.deeper _) hsp;have I:Inv (En Ij P w K mg base N qual scope f cdv A outer s H E) [] (start N vs) H s1:=Nd S hr.hd e1 hl r x;refine Bg (ht [] s1 (start N vs) H _ (NG I ev) hq) (fun fl s' hs=>?_) fun e s' hs=>hs.elim
 have fin:∀{σ':L2.St}{H':Hp}{v:V}{u:Ai},Inv (Cx.hot (En Ij P w K mg base N qual scope f cdv A outer s H E) ev) [] σ' H' s'->BB v u->Q v H'->CE outer P w H s Q u s':=
  fun {σ' H' v u} J rv q=>⟨v,H',J.os,J.bare,J.base,J.hok,rv,q⟩
 cases fl with
 |ret u=>
  obtain⟨v,σ',H',J,rv,q⟩:=hs;exact fin J rv q
 |next=>
  obtain⟨σ',H',J,q⟩:=hs;exact fin (v:=V.non) (u:=Dr) J rfl q
 |brk=>
  obtain⟨_,_,_,q⟩:=hs;exact Be q
 |cont=>
  obtain⟨_,_,_,q⟩:=hs;exact Be q
theorem Bx{v:Ao}{i:An Ai}(q:DJ K C i=Ab)(mr:Bj K C' (.type "object")=Aa Ab)(ty:Bw K (.ref C')=Aa (.type "type"))(su:Al K (.ref C) (.ref C')=Aa v):C9 K (.ref C) (.ref C')=Aa v:=by
 unfold C9;by_cases e:C=C'
 ·subst e;obtain⟨cd,bm,h1,h2⟩:=LY q;have su':Bj K C (.ref C)=Aa v:=su;have:v=Ab:=by
   unfold Bj at su';rw[h1,UK,h2,Az (by simp)]at su'
   rw[<-Bf su'];simp
  rw[Aw (by simp),this]
 ·rw[Az (fun z=>e (Il (AW.mp z)))]
  show (if ((Dh K C').isSome&&Bw K (.ref C')==Aa (.type "type"))=Ab then Al K (.ref C) (.ref C') else Ae)=_
  have cs:(Dh K C').isSome=Ab:=by
   unfold Bj at mr;cases e1:Dh K C' with
   |none=>rw[e1]at mr;cases mr
   |some cd=>rfl
  rw[cs,ty,Aw (by simp),su]
def spH(K:Fg)(CL:ClA)(n:Ag)(fr:Ao)(F:Ad D->R D):Sp:=fun vs H Q _=>∃(ds:Ad D)(A:Aj->Prop),vs.length=n/\AOk H A/\Reps K CL H A vs ds/\(match F ds with
  |.ok d=>∀ v H',AE H H'->Dq K CL fr H A H' v d->Q v H'
  |.exn _=>AS
  | .bad=>AS)
section
variable{X:Cx}{CL:ClA}{ev:Aj}
theorem Qv{f:Aj}{E:XK}{e:Ap}{es:Ad Ap}{t:TA}(F:HotOk X.prog X.w X.K X.mg X.base k f fd ps sp)(hr:Room k X.A)(hg:Gl X x)(hm:X.mg x=Aa (.ref f))(hk:B0 X.K (.ref f)=Ab)(hb:Fp X.K fd ps [])(ha:PA (Cx.hot X ev) (e::es) t)(hdb:(x==("__debug__" : Ah))=Ac)(he:AA (e::es) X.env=(Ac,eval e X.env)::AA es X.env)(hpl:(B8 pos (AA es X.env)).any (·.1)=Ac):PE (Cx.hot X ev) (.Call (.Name x p) (e::es) [] pos) (fun σ H Q=>t σ H fun vs H1=>sp vs H1 Q E):=by
 intro pI s σ H Q I h;refine D3 (II (X:=Cx.hot X ev) I hg hm ?_ hdb);refine Gw (h₀:=X.base) I.ok.mod.kin hk (thn (ha pos pI s σ H _ I h) fun us s1 ⟨vs,H1,I1,r,q⟩=>⟨I1.kIn,?_⟩) he hpl
 have hl:us.length=ps.length:=by rw[<-r.length];exact F.len _ _ _ _ q
 have hb':FV s1 fd ⟨us,[]⟩ (ps.zip us):=by
  have:=hb s1 us I1.kIn (by rw[B1];exact hl)
  rw[B1]at this;exact this
 refine F9 (E5 (F.run X.A ev X.stack s1 H1 ⟨us,[]⟩ us vs Q E hr I1.env0 hb' r q) fun r s' hq=>?_)
 cases r with
 |error e=>exact Be hq
 |ok fl=>
  cases fl with
  |ret u=>exact I1.after hq
  |next=>exact Be hq
  |brk=>exact Be hq
  |cont=>exact Be hq
theorem XH{n:Ag}{f:Aj}{e:Ap}{es:Ad Ap}{ft:Rho->R (Ad D)}{sh:Rho->Ao}(G:HotOk X.prog X.w X.K X.mg X.base k f fd ps (spH X.K CL n fr F))(hr:Room k X.A)(hg:Gl X x)(hm:X.mg x=Aa (.ref f))(hk:B0 X.K (.ref f)=Ab)(hb:Fp X.K fd ps [])(ha:SA (Cx.hot X ev) CL (fun _ _=>AS) (e::es) fs)(hat:SAT (Cx.hot X ev) CL (fun _ _=>AS) (e::es) ft)(hst:∀ ρ,sh ρ=Ab->ft ρ=fs ρ)(hn:∀ ρ ds,ft ρ=.ok ds->ds.length=n)(hdb:(x==("__debug__" : Ah))=Ac)(he:AA (e::es) X.env=(Ac,eval e X.env)::AA es X.env)(hpl:∀ pos,(B8 pos (AA es X.env)).any (·.1)=Ac):SC (Cx.hot X ev) CL (fun _ _=>AS) fr (.Call (.Name x p) (e::es) [] pos) (fun ρ=>(ft ρ).bind fun ds=>(F ds).bind fun d=>if sh ρ=Ab then .ok d else if Ft fr d=Ab then .ok d else .bad):=fun A pI s σ H Q I ⟨hA,ρ,gd,q⟩=>by
 dsimp only at q;by_cases hs:sh ρ=Ab
 ·rw[hst ρ hs]at q;refine Qv (E:=fun _ _ _=>AS) G hr hg hm hk hb (ha A) hdb he (hpl _) pI s σ H Q I ⟨hA,ρ,gd,?_⟩
  cases e1:fs ρ with
  |bad=>rw[e1]at q;exact q
  |exn y=>rw[e1]at q;exact q
  |ok ds=>
   rw[e1]at q;intro vs H1 s1 r1;refine⟨ds,A,by rw[r1.length];exact hn ρ ds (by rw[hst ρ hs];exact e1),hA.same s1,r1,?_⟩
   have q':Bh (Dq X.K CL fr H A) (fun _ _=>AS) H ((F ds).bind fun d=>if sh ρ=Ab then .ok d else if Ft fr d=Ab then .ok d else .bad) Q:=q
   cases e2:F ds with
   |ok d=>
    rw[e2,R.bind_ok,Aw hs]at q';exact fun v H2 s2 r2=>q' v H2 (s1.trans s2) ⟨r2.1,fun z ds' e'=>let ⟨a,xs,z1,z2,z3⟩:=r2.2 z ds' e';⟨a,xs,z1,s1.free z2,z3⟩⟩
   |exn y=>rw[e2]at q';exact(q' H (AE.refl H)).elim
   |bad=>rw[e2]at q';exact q'.elim
 ·refine Qv (E:=fun _ _ _=>AS) G hr hg hm hk hb (hat A) hdb he (hpl _) pI s σ H Q I ⟨hA,ρ,gd,?_⟩
  cases e1:ft ρ with
  |bad=>rw[e1]at q;exact q
  |exn y=>rw[e1]at q;exact q
  |ok ds=>
   rw[e1]at q;intro vs H1 s1 r1;refine⟨ds,A0,by rw[r1.plain.length];exact hn ρ ds e1,fun _ z=>z.elim,r1.plain,?_⟩
   have q':Bh (Dq X.K CL fr H A) (fun _ _=>AS) H ((F ds).bind fun d=>if sh ρ=Ab then .ok d else if Ft fr d=Ab then .ok d else .bad) Q:=q
   cases e2:F ds with
   |ok d=>
    rw[e2,R.bind_ok,Az hs]at q';split at q'
    ·rename_i hc;exact fun v H2 s2 r2=>q' v H2 (s1.trans s2) (N5 hA (s1.trans s2) hc ⟨r2.1,fun z ds' e'=>let ⟨a,xs,z1,z2,z3⟩:=r2.2 z ds' e';⟨a,xs,z1,s1.free z2,z3⟩⟩)
    ·exact q'.elim
   |exn y=>rw[e2]at q';exact(q' H (AE.refl H)).elim
   |bad=>rw[e2]at q';exact q'.elim
theorem X3{t:Ap}{xs ys:Ad A9}{fc:Rho->R Ao}{fx fy:Rho->O}(hc:∀ pI Xw,E4 (model X.prog X.w) X.A X.env Xw->SB (Cx.pw X pI Xw) CL (fun _ _=>AS) t fc)(hnx:∀ ρ y,fc ρ≠.exn y)(hx:STB X CL xs fx)(hy:STB X CL ys fy):STB X CL [.If t xs ys pos] (fun ρ=>O.of ρ (fc ρ) fun b=>if b=Ab then fx ρ else fy ρ):=by
  intro Fz B pI s σ H D ρ Xw own I sx q hρ;dsimp only at q hρ;cases ec:fc ρ with
  |bad=>rw[ec]at q;exact q.elim
  |exn y=>exact absurd ec (hnx ρ y)
  |ok b=>
    rw[ec]at q hρ;have key:=hc pI Xw own (BN B ρ σ) [] s σ H (fun b' H'=>b'=b/\AE H H') (Lc I Xw) ⟨sx.aok,ρ,sx.good,by rw[ec];exact fun H' sm=>⟨rfl,sm⟩⟩
    refine G4 (thn (wpAny_If (Q:=SP X pI D) (thn key fun b' s1 ⟨H1,I1,e,sm⟩=>?_)) (fun f s1 z=>by
      cases f with
      |next=>exact EX z
      |ret v=>exact z
      |brk=>exact z
      | cont=>exact z))
    subst e;have J:=J6 I.ok I1;have up:∀{y:Ex},Jz X CL pI σ H y Xw->Jz X CL pI σ H1 y Xw:=fun {y} w s' H' e T cls dx a1 a2=>w s' H' e T cls dx a1 (sm.trans a2)
    have lift:∀{o:O},(match o with
       |.exn y ρ'=>ρ'=ρ->Jz X CL pI σ H y Xw
       |o=>BS X.K CL Fz B (fun _ _=>AS) o D)->(match o with
       |.exn y ρ'=>ρ'=ρ->Jz X CL pI σ H1 y Xw
       | o=>BS X.K CL Fz B (fun _ _=>AS) o D):=fun {o} z=>by
      cases o with
      |exn y ρ'=>exact fun e=>up (z e)
      |next _=>exact z
      |ret _ _=>exact z
      |brk _=>exact z
      |cont _=>exact z
      |bad=>exact z
    cases b' with
    |true=>exact hx Fz B pI s1 σ H1 D ρ Xw own J (sx.grow sm) (lift q) hρ
    |false=>exact hy Fz B pI s1 σ H1 D ρ Xw own J (sx.grow sm) (lift q) hρ
end
section
variable{M:Gr}{A:AZ}{E:Vq}{s:Ar}{env:B5}{nm q:Ah}{C N:Aj}{bs bm bmB:Ad Ai}{hdct:Ao}{sn:Ad Ah}{sub:Ad Ai}{ab:Ao}{col:An Ao}{dd:An Aj}{k0 k1 k2 k3 k5:An Ai}{B newId initId:Dv}
theorem Yn{x:Sem Ai}{Q:Flow->Ar->Prop}(hb:bm.contains (.type "BaseException")=Ab)(hh:A.handled=Ae)(h:Ay M A x (fun v s'=>∃ e t dx,v=.ref e/\s'.heap.get? C=Aa (B6 nm q C N bs bm hdct sn sub ab col dd k0 k1 k2 k3 k5 newId)/\s'.heap.get? e=Aa (FQ C dx t)/\E (.ref e) s') E s):Ay M A (raiseStmt env (Aa x) Ae) Q E s:=by
 have hB:(Ci C::bm).contains (.type "BaseException")=Ab:=by rw[Gu,hb,GW]
 unfold raiseStmt;refine Am (Bg h (fun v s' z=>?_) fun _ _ z=>z)
 obtain⟨e,t,dx,rfl,gC,ge,hE⟩:=z;obtain⟨hp,g,d,tk,os⟩:=s';unfold FQ at ge
 repeat (first|(with_reducible refine BX ge ?_)|(with_reducible refine BX gC ?_)|(with_reducible refine EK gC ?_;rw[hB])|wp_step)
 exact wpAny_raiseNew_none hh hE
end
section
variable{prog:AR}{w:AC}{A:AZ}{E:Vq}{h:AD}{g:Bl E3}{d:Hq}{t:Ag}{os:GR}
variable{nm q:Ah}{C N fI:Aj}{bs bm bmB:Ad Ai}{hdct:Ao}{sn:Ad Ah}{sub:Ad Ai}{ab:Ao}{col:An Ao}{dd:An Aj}{k0 k1 k2 k3 k5:An Ai}{B newId initId:Dv}{mN:Ah->An Ai}{rest:Ad Ai}{oI:CW}
theorem Yq{Q:Fin->Ar->Prop}(F:G0 B newId initId bmB)(T:DL h bmB bm)(gC:h.get? C=Aa (B6 nm q C N bs bm hdct sn sub ab col dd k0 k1 k2 k3 k5 newId))(hn:h.Ns N mN)(hi:mN "__init__" = Aa (.ref fI))(gI:h.get? fI=Aa oI)(cI:oI.cls=.type "function")(hl:rest.length<=sizeLine)(hq:∀ h' e,HI h h' e (.ref C) rest->Ay (model prog w) A (call (.ref fI) (.ref e::rest)) (fun r s'=>r=.none/\Q (.done (.ret (.ref e))) s') E ⟨h',g,d,t,os⟩):Ay (model prog w) A (Builtin.«type.__call__» ⟨.ref C::rest,[]⟩) Q E ⟨h,g,d,t,os⟩:=by
 repeat (first|(with_reducible refine BX gC ?_)|(with_reducible refine wpAny_madeBy_exc gC ?_)|wp_step)
 refine codeAny_call_builtin_code (Gv _ F.quiet) (wpAny_check_new_subT F T gC (codeAny_exc_new_subT F T gC ?_ hl));show Ay _ _ _ _ _ _;have kp:∀ b o,h.get? b=Aa o->((h.push { cls:=.type "tuple", data:=.seq rest.toArray }).push {cls:=.ref C,data:=.fields #[.ref h.objs.size,.none,.none,.none,.bool Ac,.none]}).get? b=Aa o:=fun b o z=>Au _ (Au _ z)
 have ge:((h.push { cls:=.type "tuple", data:=.seq rest.toArray }).push {cls:=.ref C,data:=.fields #[.ref h.objs.size,.none,.none,.none,.bool Ac,.none]}).get? (h.objs.size+1)=Aa {cls:=.ref C,data:=.fields #[.ref h.objs.size,.none,.none,.none,.bool Ac,.none]}:=by heap_get
 have gt:((h.push { cls:=.type "tuple", data:=.seq rest.toArray }).push {cls:=.ref C,data:=.fields #[.ref h.objs.size,.none,.none,.none,.bool Ac,.none]}).get? h.objs.size=Aa { cls:=.type "tuple", data:=.seq rest.toArray }:=Au _ (U9 rfl rfl);generalize (h.push { cls:=.type "tuple", data:=.seq rest.toArray }).push {cls:=.ref C,data:=.fields #[.ref h.objs.size,.none,.none,.none,.bool Ac,.none]}=h2 at *;have gC2:=kp _ _ gC;have gI2:=kp _ _ gI;have hn2:h2.Ns N mN:=let ⟨o,es,ep,z,r⟩:=hn;⟨o,es,ep,kp _ _ z,r⟩
 have T2:=T.keeps (h':=h2) kp;have cC:(Ci C::bm).contains (.ref C)=Ab:=by simp
 unfold HS
 repeat (first|(with_reducible refine BX ge ?_)|(with_reducible refine EK gC2 ?_;rw[cC])|wp_step)
 show Ay _ _ (typeLookup (.ref C) _) _ _ _;refine wpAny_typeLookup_tail gC2 hn2 T2 F.mroIs F.init.lookup ?_;rw[hi];refine Ca (Am ?_);unfold bindSpecial;refine Am (wpAny_typeOf (T := "function") ⟨_,gI2,cI⟩ ?_);rw[Aw (by decide)]
 refine AJ (Am (Bg (hq h2 (h.objs.size+1) ⟨kp,Dd (UH _),h.objs.size,ge,Dd (AY _),gt⟩) (fun r s' z=>?_) fun _ _ z=>z))
 obtain⟨rfl,z⟩:=z
 wp_walk
 exact z
theorem Yr{Q:Vq}(F:G0 B newId initId bmB)(T:DL h bmB bm)(gC:h.get? C=Aa (B6 nm q C N bs bm hdct sn sub ab col dd k0 k1 k2 k3 k5 newId))(hn:h.Ns N mN)(hi:mN "__init__" = Aa (.ref fI))(gI:h.get? fI=Aa oI)(cI:oI.cls=.type "function")(hl:rest.length<=sizeLine)(hq:∀ h' e,HI h h' e (.ref C) rest->Ay (model prog w) (A.under (.builtin "type.__call__" ⟨.ref C::rest,[]⟩)) (call (.ref fI) (.ref e::rest)) (fun r s'=>r=.none/\Q (.ref e) s') E ⟨h',g,d,t,os⟩):Ay (model prog w) A (call (.ref C) rest) Q E ⟨h,g,d,t,os⟩:=by
 have l1:=tc_lookup;have l2:=tc_bind (.ref C);have ty:(⟨h,g,d,t,os⟩:Ar).TypeIs (.ref C) "type" := ⟨_,gC,rfl⟩;refine F9 (codeAny_of_tree ?_);show Ay _ _ (callAny (.ref C) _) _ _ _
 repeat (any_goals (first|assumption|(with_reducible refine BX gC ?_)|wp_step))
 refine⟨rfl,codeAny_call_builtin_at (Gv _ (by decide +kernel)) entry_typeCall (wpAny_check_type_call_sub gC (Yq F T gC hn hi gI cI hl fun h' e m=>?_))⟩
 exact hq h' e m
end
section
variable{prog:AR}{w:AC}{A:AZ}{E:Vq}{s:Ar}{env:B5}
variable{nm q:Ah}{C N fI:Aj}{bs bm bmB:Ad Ai}{hdct:Ao}{sn:Ad Ah}{sub:Ad Ai}{ab:Ao}{col:An Ao}{dd:An Aj}{k0 k1 k2 k3 k5:An Ai}{B newId initId:Dv}{mN:Ah->An Ai}
theorem Xp{Q:Flow->Ar->Prop}{args:Ad Ap}(F:G0 B newId initId bmB)(hb:bm.contains (.type "BaseException")=Ab)(hh:A.handled=Ae)(hp:(B8 cpos (AA args env)).any (·.1)=Ac)(hi:mN "__init__" = Aa (.ref fI))(h:Ay (model prog w) A (eval (.Name x np) env) (fun f s1=>f=.ref C/\Ay (model prog w) A (evalArgs (.ref C) Ab (B8 cpos (AA args env)) [])
   (fun a s2=>a.kw=[]/\a.pos.length<=sizeLine/\s2.heap.get? C=Aa (B6 nm q C N bs bm hdct sn sub ab col dd k0 k1 k2 k3 k5 newId)/\s2.heap.Ns N mN/\DL s2.heap bmB bm/\(∃ oI,s2.heap.get? fI=Aa oI/\oI.cls=.type "function") /\
    ∀ h' e,HI s2.heap h' e (.ref C) a.pos->Ay (model prog w) (A.under (.builtin "type.__call__" ⟨.ref C::a.pos,[]⟩)) (call (.ref fI) (.ref e::a.pos)) (fun r s'=>r=.none/\∃ t dx,s'.heap.get? C=Aa (B6 nm q C N bs bm hdct sn sub ab col dd k0 k1 k2 k3 k5 newId)/\s'.heap.get? e=Aa (FQ C dx t)/\E (.ref e) s') E {s2 with heap:=h'}) E s1) E s):Ay (model prog w) A (exec (.Raise (Aa (.Call (.Name x np) args [] cpos)) Ae pos) env) Q E s:=by
 rw[arm_exec_Raise]
 try simp only[evalOpt,Ff]
 refine Am (DD (Yn (nm:=nm) (q:=q) (C:=C) (N:=N) (bs:=bs) (bm:=bm) (hdct:=hdct) (sn:=sn) (sub:=sub) (ab:=ab) (col:=col) (dd:=dd) (k0:=k0) (k1:=k1) (k2:=k2) (k3:=k3) (k5:=k5) (newId:=newId) hb hh ?_));refine Am (Bg (wpAny_Call_ofName (Bg h (fun f s1 z=>?_) fun _ _ z=>z)) (fun v s3 z=>Am (DD (AJ z))) fun _ _ z=>z)
 obtain⟨rfl,z⟩:=z;unfold callWith;refine Am (Ca (Bg z (fun a s2 y=>Am (DD ?_)) fun _ _ y=>y))
 obtain⟨us,kw⟩:=a;obtain⟨hk,hl,gC,hn,T,⟨oI,gI,cI⟩,k⟩:=y;obtain rfl:kw=[]:=hk;obtain⟨hp2,g,d,tk,os⟩:=s2;simp only[hp];refine Am (wpAny_keeperOf_exc gC (Am (Yr F T gC hn hi gI cI hl fun h' e m=>Bg (k h' e m) (fun r s' y=>?_) fun _ _ y=>y)))
 obtain⟨rfl,t,dx,c1,c2,c3⟩:=y;exact⟨rfl,Am (Ca (wpAny_point (AJ ⟨e,t,dx,rfl,c1,c2,c3⟩)))⟩
end
section
variable{prog:AR}{w:AC}{A:AZ}{E:Vq}{h:AD}{g:Bl E3}{d:Hq}{tk0:Ag}{os:GR}
variable{nm q:Ah}{C N e t:Aj}{dx:An Aj}{bs bm bmB:Ad Ai}{hdct:Ao}{sn:Ad Ah}{sub:Ad Ai}{ab:Ao}{col:An Ao}{dd:An Aj}{k0 k1 k2 k3 k5:An Ai}{B newId initId:Dv}
theorem bO{Q:Vq}(F:G0 B newId initId bmB)(T:DL h bmB bm)(gC:h.get? C=Aa (B6 nm q C N bs bm hdct sn sub ab col dd k0 k1 k2 k3 k5 newId))(ge:h.get? e=Aa (FQ C dx t))(hq:∀ h' t',(∀ b o,b≠e->h.get? b=Aa o->h'.get? b=Aa o)->h'.get? e=Aa (FQ C dx t')->Q .none ⟨h',g,d,tk0,os⟩):Ay (model prog w) A (call (.builtin initId) [.ref e,.str z tk]) Q E ⟨h,g,d,tk0,os⟩:=by
 refine F9 (DH F.init.plain F.initEntry (wpAny_check_init_subT F T gC ge rfl ?_));unfold FQ at ge
 wp_walk
 refine hq _ h.objs.size (fun b o nb z=>(Cq _ _ (CJ nb)).trans (Au _ z)) ?_
 rw[CB _ (Au _ ge) rfl];rfl
end
noncomputable def xbd:Ag->Ag
 |0=>4
 |n+1=>8*xbd n+19
theorem Y4:∀ n:Fin 100,(AV (toString ((n.val:Ag):Af))).length<=4:=by decide +kernel
theorem R8{α:Type}(f:α->Ag){m:Ag}:∀ l:Ad α,(∀ x∈l,f x<=m)->(l.map f).sum<=l.length*m
 |[],_=>by simp
 |x::l,h=>by
  have h1:=h x AH;have h2:=R8 f l fun y hy=>h y (Ax _ hy)
  rw[CH,List.sum_cons,Bs,Nat.succ_mul];omega
section
variable{X:Cx}{CL:ClA}{pI:Pn}{σ:L2.St}{H:Hp}{s:Ar}
structure Shw (h:AD) (n:Ag) (u:Ai) (pd:JD):Prop where
 rd:Reads h u pd []
 sh:pd.showable=Ab
 nd:pd.hasDict=Ac
 dp:pd.depth<=n
 ln:pd.shown.length<=xbd n
inductive ShwA (h:AD) (n:Ag):Ad Ai->Ad JD->Prop where
 |nil:ShwA h n [] []
 |cons {u:Ai} {pd:JD} {us:Ad Ai} {pds:Ad JD}:Shw h n u pd->ShwA h n us pds->ShwA h n (u::us) (pd::pds)
theorem QK{h:AD}{n:Ag}:∀{us:Ad Ai}{pds:Ad JD},ShwA h n us pds->ReadsAll h us pds []/\Vh pds=Ab/\Vg pds=Ac/\Hr pds<=n/\(∀ t∈Dz pds,t.length<=xbd n)/\(Dz pds).length=us.length
 |[],[],_=>⟨.nil,rfl,rfl,Fv _,(fun _ h=>nomatch h),rfl⟩
 |u::us,pd::pds,.cons h1 h2=>by
  obtain⟨a,b,c,d,e,f⟩:=QK h2;refine⟨.cons h1.rd a,?_,?_,?_,?_,?_⟩
  ·show (pd.showable&&Vh pds)=Ab;rw[h1.sh,b];rfl
  ·show (pd.hasDict||Vg pds)=Ac;rw[h1.nd,c];rfl
  ·show max pd.depth (Hr pds)<=n;exact Nat.max_le.mpr ⟨h1.dp,d⟩
  ·intro t ht;rcases AB.mp ht with rfl|ht
   ·exact h1.ln
   ·exact e t ht
  ·show (Dz pds).length+1=us.length+1;rw[f]
theorem gO(I:Inv X pI σ H s):∀(n:Ag){d:D}{v:V}{u:Ai},xfD n d=Ab->Rep X.K CL H A v d->BB v u->∃ pd,Shw s.heap n u pd:=by
 intro n
 induction n with
 |zero=>
  intro d v u hx r rv;cases d with
  |int i=>
   have e:v=.int i:=r;subst e;obtain⟨t,rfl⟩:=rv;simp only[xfD,Ak,AU]at hx;refine⟨.int i,.int i t,?_,rfl,AY _,?_⟩
   ·show decide (i.natAbs.log2<1920)=Ab;refine Gq (E2 (Nat.log2_le_self _) (by omega))
   ·have:=Y4 ⟨i.toNat,by omega⟩
    rw[show ((i.toNat:Ag):Af)=i by omega]at this
    exact this
  |_=>exact absurd (show Ac=Ab from hx) As
 |succ n ih0=>
  intro d v u hx r rv;cases d with
  |tup ds=>
   obtain⟨a,xs,rfl,_,sq,rs⟩:=r;cases rv;obtain⟨its,vs,⟨o,ho,hc,m,hd⟩,hz⟩:=I.tuple sq;simp only[xfD,Ak,C4]at hx;have key:∀{xs:Ad V}{ds:Ad D}{its:Ad Ai},(∀ d∈ds,xfD n d=Ab)->Reps X.K CL H A xs ds->Bi xs its->∃ pds,ShwA s.heap n its pds:=fun {xs}=>by
    induction xs with
    |nil=>
     intro ds its _ rs vs;cases vs;exact⟨[],.nil⟩
    |cons x xs ih=>
     intro ds its hd rs vs;cases ds with
     |nil=>exact rs.elim
     |cons d ds=>
      cases vs with
      |cons v1 v2=>
       obtain⟨pd,h1⟩:=ih0 (hd d AH) rs.1 v1;obtain⟨pds,h2⟩:=ih (fun e he=>hd e (Ax _ he)) rs.2 v2
       exact⟨pd::pds,.cons h1 h2⟩
   obtain⟨pds,hf⟩:=key hx.2 rs vs;obtain⟨p1,p2,p3,p4,p5,p6⟩:=QK hf;have l8:its.length<=8:=by
    have h8:=Nat.ble_eq.mp hx.1;rw[<-vs.length,rs.length];exact h8
   refine⟨.tuple pds,.tuple ho hc hd (by simpa using p1),p2,p3,?_,?_⟩
   ·show Hr pds+1<=n+1;omega
   ·show (tupleText (Dz pds)).length<=8*xbd n+19;have h1:=tupleText_len_le (Dz pds);have h2:=R8 (fun t:Ah=>t.length) (Dz pds) p5
    have h3:(Dz pds).length*xbd n<=8*xbd n:=Nat.mul_le_mul_right _ (by omega)
    omega
  |_=>exact absurd (show Ac=Ab from hx) As
end
section
variable{X:Cx}{CL:ClA}
def tFs(K:Fg)(CL:ClA)(i:Ag):TE:=fun σ H Q=>∃ v d A n,σ[i]?=Aa (Aa v)/\Rep K CL H A v d/\xfD (n+1) d=Ab/\n<=1/\∀ t:Ah,Q (.str t) H
theorem Zn{e:Ap}{i:Ag}{p2 p3:AM}(hu:X.A.units+64<BY)(hg:X.A.guards=Aa [])(hz:z.length<=1000)(he:PE X e (Go i)):PE X (.JoinedStr [.FormattedValue e (-1) Ae p1,.Constant (.str z) k p2] p3) (tFs X.K CL i):=by
 intro pI s σ H Q I ⟨v,d,A,n,hv,r,hx,hn,q⟩;refine wpAny_JoinedStr ?_;show Ay (model X.prog X.w) X.A (eval (.FormattedValue e (-1) Ae p1) X.env) (fun v s1=>∃ y t,v=.str y t/\(Iy++y).length<=sizeLine/\Joins (model X.prog X.w) X.A X.xe [eval (.Constant (.str z) k p2) X.env] (Iy++y) _ s1) X.xe s
 refine wpAny_FormattedValue_plain (thn (he pI s σ H (fun x H1=>x=v/\H1=H) I ⟨v,hv,rfl,rfl⟩) fun u s1 ⟨x,H1,I1,r1,e1,e2⟩=>?_)
 subst e1 e2;have zl:sizeLine ≥ 2000:=by decide
 obtain⟨pd,sw⟩:=gO I1 (n+1) hx r r1;cases d with
 |tup ds=>
  obtain⟨a,xs,rfl,_,sq,rs⟩:=r;cases r1;have xb:xbd (n+1)<=500:=by
   have:n=0\/n=1:=by omega
   rcases this with rfl|rfl<;>decide
  have ln:=sw.ln;have dp:=sw.dp;refine formatField_of_reads sw.rd sw.sh (fun z=>by rw[sw.nd]at z;cases z) hg (by omega) (fun _ _ z=>z) (fun h' tk1 tk2 kp=>?_) (by omega)
  have l0:(Iy++pd.shown).length<=500:=by
   rw[strLen_append];have:Str.empty.length=0:=rfl;omega
  refine⟨pd.shown,tk1,rfl,by omega,?_⟩
  have I2:Inv X pI σ H1 {s1 with heap:=h',toks:=tk2}:=I1.kept kp
  show Ay (model X.prog X.w) X.A (eval (.Constant (.str z) k p2) X.env) _ X.xe {s1 with heap:=h',toks:=tk2}
  refine thn (RI (X:=X) pI _ σ H1 (fun x H2=>x=.str z/\H2=H1) I2 ⟨rfl,rfl⟩) fun u2 s2 ⟨x2,H2,I3,r3,e3,e4⟩=>?_
  subst e3 e4;obtain⟨t3,rfl⟩:=r3;have l1:(Iy++pd.shown++z).length<=sizeLine:=by
   rw[strLen_append];omega
  exact⟨z,t3,rfl,l1,l1,⟨.str _,H2,I3.tok _,⟨_,rfl⟩,q _⟩⟩
 |_=>cases hx
end
def XEx(e C:Aj)(dx:An Aj)(t:Aj):AD->Prop:=fun h=>h.get? e=Aa (FQ C dx t)
theorem NU{e C:Aj}{t:Aj}:∀ h1 h2:AD,XEx e C dx t h1->(∀ o,h1.get? e=Aa o->h2.get? e=Aa o)->XEx e C dx t h2:=fun _ _ p k=>k _ p
section
variable{X:Cx}{CL:ClA}{C:Aj}{nm q:Ah}{N:Aj}{bs bm:Ad Ai}{hdct:Ao}{sn:Ad Ah}{sub:Ad Ai}{ab:Ao}{col:An Ao}{dd:An Aj}{k0 k1 k2 k3 k5:An Ai}
theorem W8{apos:AM}{es ej:Ap}{i j:Ag}(hob:∀ h:AD,X.K.In h->h.get? C=Aa (B6 nm q C N bs bm hdct sn sub ab col dd k0 k1 k2 k3 k5 "ValueError.__new__")/\DL h veB bm)(hg:Gl X g)(hm:X.mg g=Aa (.ref OV))(hdb:(g==("__debug__" : Ah))=Ac)(s1:Ea X.K (.ref OV) "__getattribute__" = Aa (Aa (.builtin "type.__getattribute__")))(s2:EW X.K OV (.type "type")=Ab)(s3:EV X.K (.ref OV) (.type "type") "__init__" = Aa (.val (.builtin "ValueError.__init__")))(hline:(apos.endLine==cpos.line)=Ab)(he:PE X es (Go i))(hj:PE X ej (tFs X.K CL j))(sA:AA [es,ej] X.env=(Ac,eval es X.env)::AA [ej] X.env)(sB:AA [ej] X.env=[(Ac,eval ej X.env)]):
  PE X (.Call (.Attribute (.Name g np) "__init__" apos) [es,ej] [] cpos) (fun σ H Q=>∃ e dx t v d A n,σ[i]?=Aa (Aa (.ref e))/\H e=Aa (.ext (XEx e C dx t))/\σ[j]?=Aa (Aa v)/\Rep X.K CL H A v d/\xfD (n+1) d=Ab/\n<=1/\∀ t',Q .non (upd H e (.ext (XEx e C dx t')))):=by
 have st1:AA [es,ej] X.env=[(Ac,eval es X.env),(Ac,eval ej X.env)]:=by rw[sA,sB]
 intro pI s σ H Q I ⟨e,dx,t,v,d,A,n,h1,h2,h3,r,hx,hn,hq⟩;rw[arm_eval_Call];refine Am (show Ay (model X.prog X.w) X.A (eval (.Name g np) X.env) _ X.xe s from II I hg hm ?_ hdb)
 refine Am (DD ?_);have form:methodCallForm ([es,ej].length+([]:Ad Keyword).length) (B8 cpos (AA [es,ej] X.env)) (backToKw cpos (keywordEach [] X.env))=Ab:=by
  rw[st1];rfl
 have mpos:methodCallPos Ab (.Name g np) X.env apos cpos=pure cpos:=by
  unfold methodCallPos;simp[hline]
 unfold methodCall;rw[form];refine Am (Ca (PySem.W.method_cls I.kIn s1 (PySem.W.cls_value I.kIn s2 s3 rfl ?_)));refine Am (Ja mpos ?_);have I1:=I.tok (s.toks+1);have pa:PA X [es,ej] _:=Et he (Et hj GC sB) sA;have hA:=pa cpos pI {s with toks:=s.toks+1} σ H (fun xs H'=>H'=H/\∃ z,xs=[.ref e,.str z]) I1 ⟨_,h1,⟨v,d,A,n,h3,r,hx,hn,fun z=>⟨rfl,z,rfl⟩⟩⟩
 rw[st1]at hA ⊢;refine Calls.callWith_builtin rfl (F4 (thn hA fun us s2 ⟨xs,H2,I2,rv,e2,z,ex⟩=>?_))
 subst e2 ex;obtain⟨u1,u2,rfl,ru1,ru2⟩:=Jv rv;cases ru1;obtain⟨tk,rfl⟩:=ru2;obtain⟨gC,T⟩:=hob _ I2.kIn;have ge:XEx e C dx t s2.heap:=(I2.hok e _ h2).1;obtain⟨hp,g2,d2,tk2,os2⟩:=s2;refine bO EE T gC ge fun h' t' kp ge'=>?_
 refine⟨.non,_,I2.write (x:=e) (e:=e) (o:=.ext (XEx e C dx t')) (t':=tk2) (by rw[h2];exact trivial) (.inl rfl) kp ⟨_,ge'⟩ ⟨ge',⟨_,ge'⟩,NU⟩,rfl,hq t'⟩
end
theorem VS{bmB bm:Ad Ai}(T:DL h bmB bm){self:Ai}{what:Ah}(hb:refuseLoop self what bmB=pure ()):refuseLoop self what bm=pure ():=by
 induction T with
 |base=>exact hb
 |own _ _ _ _ ih=>rw[VA];exact ih
section
variable{prog:AR}{w:AC}{A:AZ}{E:Vq}{h:AD}{g:Bl E3}{d:Hq}{tk0:Ag}{os:GR}{K:Fg}
variable{nm q:Ah}{C N e t:Aj}{bs bm bmB:Ad Ai}{sn:Ad Ah}{sub:Ad Ai}{ab:Ao}{col:An Ao}{dd:An Aj}{k0 k1 k2 k3 k5:An Ai}{B newId sa owner:Dv}
theorem Yt{Q:Fin->Ar->Prop}{v:Ai}(X:K.In h)(SF:JF B bmB sa owner)(T:DL h bmB bm)(gC:h.get? C=Aa (B6 nm q C N bs bm Ab sn sub ab col dd k0 k1 k2 k3 k5 newId))(hf:Av K (.ref C) name=Aa Ae)(ge:h.get? e=Aa (FQ C Ae t))(hq:∀ h' dx tk',(∀ b o,b≠e->h.get? b=Aa o->h'.get? b=Aa o)->h'.get? e=Aa (FQ C (Aa dx) t)->h.get? dx=Ae->h'.Ns1 dx (fun y=>if y=name then Aa v else Ae)->Q (.done (.ret .none)) ⟨h',g,d,tk',os⟩):Ay (model prog w) A (Builtin.«object.__setattr__» ⟨[.ref e,.str name tk,v],[]⟩) Q E ⟨h,g,d,tk0,os⟩:=by
  have pass:=VS T (SF.passes (.ref e));have L1:=Cj (M:=model prog w) X hf;obtain⟨o,ho⟩:∃ o,FQ C Ae t=o:=⟨_,rfl⟩;rw[ho]at ge;have oc:o.cls=.ref C:=by rw[<-ho];rfl
  unfold Builtin.«object.__setattr__»
  repeat (first|rw[refuse_eq]|(rw[VA,pass])|(with_reducible refine BX ge ?_;rw[oc])|(with_reducible refine wpAny_mroOf_exc gC ?_)|(with_reducible refine L1.at ?_)|(with_reducible refine Am (L1.at ?_))|wp_step)
  have od:o.dict=Ae:=by rw[<-ho];rfl
  have odt:o.data=.fields #[.ref t,.none,.none,.none,.bool Ac,.none]:=by rw[<-ho];rfl
  rw[od,odt,Az (by simp[typeHasDict])]
  let D:CW:={ cls:=.type "dict", data:=.dict #[] }
  have g1:(h.push D).get? e=Aa o:=Au _ ge;have ne:e≠h.objs.size:=Bb (AG ge);refine Am (wpAny_alloc' ?_);refine Am (wpAny_update' g1 ?_);refine AJ ?_
  let U:CW->CW:=fun o=>{cls:=o.cls,dict:=Aa h.objs.size,data:=o.data,slots:=o.slots}
  have gD:((h.push D).update e U).get? h.objs.size=Aa D:=(Vb _ _ _ _ ne.symm).trans (U9 rfl rfl);have nD:((h.push D).update e U).Ns h.objs.size (fun _=>Ae):=⟨_,#[],_,gD,rfl,fun z hz=>absurd hz (by simp),fun _=>rfl⟩
  change Ay _ _ (US h.objs.size (.str name tk) name v) _ _ _;unfold US Builtin.ObjectAttr.newKeyGuard;refine Am (AJ (Am (wpAny_nsSet1 (Heap.Ns1.of_empty nD) fun k hk hs=>?_)))
  obtain⟨oD,eD,pD,q1,q2,q3⟩:=hk.count (Within.cons name v Within.nil);have le:oD.data.pastItsLine=Ae:=by
    rw[q2];refine pastItsLine_dict (Co q3 ?_);rw[Bs,List.length_nil,Ds];omega
  refine Am (wpAny_lookBehind q1 le ?_)
  wp_walk
  refine hq k h.objs.size _ (fun b ob nb hb=>?_) ?_ (Dd (AY _)) hk
  · rw[hs.2 b (Bb (AG hb)),Vb _ _ _ _ nb];exact Au _ hb
  · rw[hs.2 e ne];have:Aa (FQ C (Aa h.objs.size) t)=Aa (U o):=by rw[<-ho];rfl
    rw[this];exact CB _ g1 (by rw[<-ho];rfl)
end
section
variable{prog:AR}{w:AC}{A:AZ}{E:Vq}{h:AD}{g:Bl E3}{d:Hq}{tk0:Ag}{os:GR}{K:Fg}
variable{nm q:Ah}{C N e t:Aj}{bs bm bmB:Ad Ai}{sn:Ad Ah}{sub:Ad Ai}{ab:Ao}{col:An Ao}{dd:An Aj}{k0 k1 k2 k3 k5:An Ai}{B newId sa owner:Dv}
theorem Yu{o:CW}{a b:Ai}(SF:JF B bmB sa owner)(T:DL h bmB bm)(gC:h.get? C=Aa (B6 nm q C N bs bm Ab sn sub ab col dd k0 k1 k2 k3 k5 newId))(ge:h.get? e=Aa o)(hc:o.cls=.ref C)(hq:Q () ⟨h,g,d,tk0,os⟩):Ay M A (FK sa ⟨[.ref e,a,b],[]⟩) Q E ⟨h,g,d,tk0,os⟩:=by
 have hb:(Ci C::bm).contains (.type owner)=Ab:=by rw[Gu,T.hasType SF.hasOwner,GW]
 have ha:=SF.args (.ref e) a b;simp only[FK,SF.kind,SF.split];refine Am ?_;unfold HS
 repeat (first|(with_reducible refine BX ge ?_;rw[hc])|(with_reducible refine EK gC ?_;rw[hb])|wp_step)
 unfold argsOk at ha;split
 ·rename_i sig hs;rw[hs]at ha;refine Ja ha ?_;exact hq
 ·exact AJ hq
theorem bF{v:Ai}(X:K.In h)(SF:JF B bmB sa owner)(T:DL h bmB bm)(gC:h.get? C=Aa (B6 nm q C N bs bm Ab sn sub ab col dd k0 k1 k2 k3 k5 newId))(hf:Av K (.ref C) name=Aa Ae)(hs:Av K (.ref C) "__setattr__" = Aa (Aa (.builtin sa)))(ge:h.get? e=Aa (FQ C Ae t))(hq:∀ h' dx tk',(∀ b o,b≠e->h.get? b=Aa o->h'.get? b=Aa o)->h'.get? e=Aa (FQ C (Aa dx) t)->h.get? dx=Ae->h'.Ns1 dx (fun y=>if y=name then Aa v else Ae)->Q () ⟨h',g,d,tk',os⟩):Ay (model prog w) A (setAttr (.ref e) name v) Q E ⟨h,g,d,tk0,os⟩:=by
 have f3:=SF.slot.bind (.ref e);have L1:=Cj (M:=model prog w) X hs;obtain⟨o,ho⟩:∃ o,FQ C Ae t=o:=⟨_,rfl⟩;have oc:o.cls=.ref C:=by rw[<-ho];rfl
 have ge':=ge;rw[ho]at ge';unfold setAttr Iz specialOf
 repeat (any_goals (first|assumption|(with_reducible refine BX ge' ?_;rw[oc])|(with_reducible refine Am (L1.at ?_))|(with_reducible refine L1.at ?_)|wp_step))
 refine DH SF.slot.plain SF.entry (Yu SF T gC ge' oc (Yt X SF T gC hf ge fun h' dx tk' k1 k2 k3 k4=>?_))
 repeat (any_goals (first|assumption|wp_step))
 exact hq h' dx tk' k1 k2 k3 k4
end
section
variable{X:Cx}{pI:Pn}{σ:L2.St}{H:Hp}{s:Ar}{e:Aj}
theorem Rs{o:HO}(I:Inv X pI σ H s)(ha:GI X pI e)(hH:H e=Ae)(ho:ObjOk X.prog X.w (upd H e o) s.heap e o):Inv X pI σ (upd H e o) s:=by
 have ne:∀ b o,H b=Aa o->b≠e:=fun b o q z=>by rw[z,hH]at q;cases q
 refine⟨I.ok,I.os,I.bare,⟨I.base.keep,I.base.slot,fun b o q n hb=>?_,I.base.there,fun b xs q=>?_,fun b o u q=>?_,fun b ps q=>?_⟩,I.loc,I.cell,?_,fun x c q=>?_,fun p hp=>?_,fun b o q=>?_,I.len⟩
 ·rw[By fun z=>by rw[z,ha.2.2.2]at q;cases q]
  exact I.base.free b o q n hb
 ·have:=I.base.tups b xs q;rw[By (ne _ _ this)];exact this
 ·have:=I.base.frzs b o u q;rw[By (ne _ _ this)];exact this
 ·obtain⟨more,this⟩:=I.base.tbls b ps q;exact⟨more,by rw[By (ne _ _ this)];exact this⟩
 ·rw[By fun z=>ha.1 z.symm];exact I.free
 ·rw[By (ha.2.1 x c q)];exact I.freeC x c q
 ·obtain⟨q,n,r⟩:=I.pin p hp;exact⟨q,by rw[By (ha.2.2.1 p hp)];exact n,r⟩
 ·by_cases hb:b=e
  ·subst hb;rw[E8]at q;cases q;exact ho
  ·rw[By hb]at q;exact(I.hok b o q).stay (fun c v hc z=>z) (fun c z=>by rw[By (ne _ _ z)];exact z) fun c zs z=>by rw[By (ne _ _ z)];exact z
theorem Xg(I:Inv X pI σ H s)(hH:H e=Aa (.ext φ))(h0:X.s₀.heap.get? e=Ae)(h1:X.ex=[]->Hw):Inv X pI σ (fun b=>if b=e then Ae else H b) s:=by
 have get:∀ b o,(if b=e then Ae else H b)=Aa o->b≠e/\H b=Aa o:=fun b o q=>by
  by_cases z:b=e
  ·rw[Aw z]at q;cases q
  ·rw[Az z]at q;exact⟨z,q⟩
 have put:∀ b o,H b=Aa o->o≠.ext φ->(if b=e then Ae else H b)=Aa o:=fun b o q n=>by
  by_cases z:b=e
  ·rw[z,hH]at q;cases q;exact absurd rfl n
  ·rw[Az z];exact q
 have non:∀ b,H b=Ae->(if b=e then Ae else H b)=Ae:=fun b q=>by
  by_cases z:b=e
  ·rw[Aw z]
  ·rw[Az z];exact q
 refine⟨I.ok,I.os,I.bare,⟨fun b o q n hb hx=>?_,I.base.slot,fun b o q n hb=>?_,I.base.there,fun b xs q=>?_,fun b o u q=>?_,fun b ps q=>?_⟩,I.loc,I.cell,non _ I.free,fun x c q=>non _ (I.freeC x c q),fun p hp=>?_,fun b o q=>?_,I.len⟩
 ·exact I.base.keep b o q n hb hx
 ·exact non b (I.base.free b o q n hb)
 ·exact put b _ (I.base.tups b xs q) (by intro z;cases z)
 ·exact put b _ (I.base.frzs b o u q) (by intro z;cases z)
 ·obtain⟨more,this⟩:=I.base.tbls b ps q;exact⟨more,put b _ this (by intro z;cases z)⟩
 ·obtain⟨q,n,r⟩:=I.pin p hp;exact⟨q,non _ n,r⟩
 ·obtain⟨nb,q⟩:=get b o q;exact(I.hok b o q).stay (fun c v hc z=>z) (fun c z=>put c _ z (by intro z;cases z)) fun c zs z=>put c _ z (by intro z;cases z)
end
section
variable{X:Cx}{C:Aj}{nm q:Ah}{N:Aj}{bs bm:Ad Ai}{sn:Ad Ah}{sub:Ad Ai}{ab:Ao}{col:An Ao}{dd:An Aj}{k0 k1 k2 k3 k5:An Ai}
theorem Zi{i j:Ag}{f:Ah}{eo ev:Ap}{p8 p10:AM}(hob:∀ h:AD,X.K.In h->h.get? C=Aa (B6 nm q C N bs bm Ab sn sub ab col dd k0 k1 k2 k3 k5 "ValueError.__new__")/\DL h veB bm)(hx:X.ex=[])(hf:Av X.K (.ref C) f=Aa Ae)(hs:Av X.K (.ref C) "__setattr__" = Aa (Aa (.builtin "object.__setattr__")))(he:PE X eo (Go i))(hv:PE X ev (Go j))(sw:Di ev (Aa (.Attribute eo f p8)) p10.line X.env=pure Ac):PS X (.Assign [.Attribute eo f p8] ev p10) (fun D σ H=>∃ e t v,σ[i]?=Aa (Aa (.ref e))/\H e=Aa (.ext (XEx e C Ae t))/\σ[j]?=Aa (Aa v)/\∀ dx,H dx=Ae->dx≠e->D.nx σ (upd (upd H e (.ext (XEx e C (Aa dx) t))) dx (.xd [(f,v)]))):=by
 intro pI s σ H D I ⟨e,t,v,h1,h2,h3,hq⟩;refine plainObj_wpAny_Assign_Attribute (thn (hv pI s σ H (fun x H1=>x=v/\H1=H) I ⟨v,h3,rfl,rfl⟩) fun u s1 ⟨x,H1,I1,r1,e1,e2⟩=>?_) sw
 subst e1 e2;refine thn (he pI s1 σ H1 (fun x H2=>x=.ref e/\H2=H1) I1 ⟨_,h1,rfl,rfl⟩) fun u2 s2 ⟨x2,H2,I2,r2,e3,e4⟩=>?_
 subst e3 e4;cases r2;obtain⟨gC,T⟩:=hob _ I2.kIn;have ge:XEx e C Ae t s2.heap:=(I2.hok e _ h2).1;obtain⟨hp,g2,d2,tk2,os2⟩:=s2;refine bF I2.kIn PySem.F.store_ValueError T gC hf hs ge fun h' dx tk' kp ge' nd ns=>?_
 have nH:H2 dx=Ae:=J7 I2.hok nd;have nde:dx≠e:=fun z=>by rw[z,h2]at nH;cases nH
 have ap:GI X pI dx:=KY I2 hx nd;have I3:=I2.write (x:=e) (e:=e) (o:=.ext (XEx e C (Aa dx) t)) (t':=tk') (by rw[h2];exact trivial) (.inl rfl) kp ⟨_,ge'⟩ ⟨ge',⟨_,ge'⟩,NU⟩
 have I4:=Rs (o:=.xd [(f,x)]) I3 ap (by rw[By nde];exact nH) ⟨_,ns,fun y=>by
  by_cases z:y=f
  ·subst z;rw[Aw rfl];simp only[Fu,Hk];exact r1
  ·rw[Az z];have:(y==f)=Ac:=by simp[z]
   simp only[Fu,this]
   trivial⟩
 exact⟨σ,_,I4,hq dx nH nde⟩
end
noncomputable def Fb(K:Fg)(C:Aj):Ao:=match K.lookup C with
  |some ⟨_,_,.cls c,_⟩=>c.hasDict
  |_=>Ac
noncomputable def OI(g par f z:Ah)(k:Ag)(np apos p1 p2 p3 p4 p5 cpos p6 p7 p8 p9 p10:AM):Ad A9:=
 [.Expr (.Call (.Attribute (.Name g np) "__init__" apos) [.Name "self" p1,.JoinedStr [.FormattedValue (.Name par p2) (-1) Ae p3,.Constant (.str z) k p4] p5] [] cpos) p6,.Assign [.Attribute (.Name "self" p7) f p8] (.Name par p9) p10]
inductive XIn (K:Fg) (mg:Ah->An Ai) (C:Aj) (f:Ah):Prop
 |mk {fI OV:Aj} {x qual g par z:Ah} {st:A9} {fd:BP} {k:Ag} {np apos p1 p2 p3 p4 p5 cpos p6 p7 p8 p9 p10:AM} (xc:DJ K C (Aa (.ref fI))=Ab) (dc:Fb K C=Ab) (fn:Fun K x qual st fI fd) (ty:Bw K (.ref fI)=Aa (.type "function"))
  (S:FnScope ["self", par] ["self", par] (Cp st)) (l1:(Cp st).names.lookup ("self" : Ah)=Aa .local) (l2:(Cp st).names.lookup par=Aa .local) (bd:Fp K fd ["self", par] []) (body:Fn st=OI g par f z k np apos p1 p2 p3 p4 p5 cpos p6 p7 p8 p9 p10)
  (gl:(Cp st).names.lookup g=Aa .globalImplicit) (mo:mg g=Aa (.ref OV)) (dg:(g==("__debug__" : Ah))=Ac) (dp:(par==("__debug__" : Ah))=Ac) (dq:(par==("__classdict__" : Ah))=Ac)
  (s1:Ea K (.ref OV) "__getattribute__" = Aa (Aa (.builtin "type.__getattribute__"))) (s2:EW K OV (.type "type")=Ab) (s3:EV K (.ref OV) (.type "type") "__init__" = Aa (.val (.builtin "ValueError.__init__")))
  (hl:(apos.endLine==cpos.line)=Ab) (hz:z.length<=1000) (hf:Av K (.ref C) f=Aa Ae) (hs:Av K (.ref C) "__setattr__" = Aa (Aa (.builtin "object.__setattr__"))):XIn K mg C f
section
variable{P:AR}{w:AC}{K:Fg}{mg:Ah->An Ai}{base:AD}{CL:ClA}{C fI OV:Aj}{x qual g par z f:Ah}{st:A9}{fd:BP}{k:Ag}{np apos p1 p2 p3 p4 p5 cpos p6 p7 p8 p9 p10:AM}
variable{nm q:Ah}{N:Aj}{bs bm:Ad Ai}{sn:Ad Ah}{sub:Ad Ai}{ab:Ao}{col:An Ao}{dd:An Aj}{k0 k1 k2 k3 k5:An Ai}
theorem Y5(hob:∀ h:AD,K.In h->h.get? C=Aa (B6 nm q C N bs bm Ab sn sub ab col dd k0 k1 k2 k3 k5 "ValueError.__new__")/\DL h veB bm)(fn:Fun K x qual st fI fd)(S:FnScope ["self", par] ["self", par] (Cp st))(l1:(Cp st).names.lookup ("self" : Ah)=Aa .local)(l2:(Cp st).names.lookup par=Aa .local)(bd:Fp K fd ["self", par] [])(body:Fn st=OI g par f z k np apos p1 p2 p3 p4 p5 cpos p6 p7 p8 p9 p10)(gl:(Cp st).names.lookup g=Aa .globalImplicit)(mo:mg g=Aa (.ref OV))(dg:(g==("__debug__" : Ah))=Ac)(dp:(par==("__debug__" : Ah))=Ac)(dq:(par==("__classdict__" : Ah))=Ac)(s1:Ea K (.ref OV) "__getattribute__" = Aa (Aa (.builtin "type.__getattribute__")))(s2:EW K OV (.type "type")=Ab)(s3:EV K (.ref OV) (.type "type") "__init__" = Aa (.val (.builtin "ValueError.__init__")))(hl:(apos.endLine==cpos.line)=Ab)(hz:z.length<=1000)(hf:Av K (.ref C) f=Aa Ae)(hs:Av K (.ref C) "__setattr__" = Aa (Aa (.builtin "object.__setattr__"))){A:AZ}{outer:Ad B5}{s:Ar}{E:XK}{e t:Aj}{v:V}{u:Ai}{n:Ag}(hh:A.handled=Ae)(hdp:A.depth<Gi)(hun:A.units+70<BY)(hgd:A.guards=Aa [])(e0:Env0 P w K mg base A outer s H)(he:H e=Aa (.ext (XEx e C Ae t)))(rp:Rep K CL H B v d)(hx:xfD (n+1) d=Ab)(hn:n<=1)(r:BB v u):Fi (model P w) A (.call (.ref fI) ⟨[.ref e,u],[]⟩) (CR Ij outer P w H s (fun y H'=>y=.non/\∃ t' dx,H dx=Ae/\dx≠e/\H'=upd (upd H e (.ext (XEx e C (Aa dx) t'))) dx (.xd [(f,v)])) E) s:=by
 obtain⟨oc,od,kV,doc,pm,an,cdv,ct,osl,rfl,lk,hcd⟩:=fn.ex;have KX:K.In s.heap:=e0.mod.kin.keeps fun b o e=>(e0.bs b o e).1
 have lim:s.heap.NoLimit:=e0.mod.nolimit.keeps fun b o e=>(e0.bs b o e).1
 have hkind:∀ y∈(["self", par]:Ad Ah).zip [Ci e,u],(Cp st).names.lookup y.1=Aa .local\/((Cp st).names.lookup y.1=Aa .cell/\((CD (s.heap.objs.size+1) (Cp st).names []).lookup y.1).isSome=Ab):=fun y hy=>by
  refine .inl ?_;rcases AB.mp hy with rfl|hy
  ·exact l1
  ·rw[BE.mp hy];exact l2
 have rv:Bi [.ref e,v] [.ref e,u]:=.cons rfl (.cons r .nil);refine FW hdp (KX _ _ lk) rfl S.co S.gen rfl (Gx KX hcd) (bd s [.ref e,u] KX rfl _ _ _ _ ?_);refine EG S.kind hkind fun env hen s1' x=>?_
 subst hen;refine⟨lim.keeps x.toInCall.keep,IA ?_⟩;have I:Inv (En Ij P w K mg base ["self", par] qual (Cp st) fI cdv A outer s H E) [] (start ["self", par] [.ref e,v]) H s1':=Nd S hh e0 rfl rv x;generalize hX:En Ij P w K mg base ["self", par] qual (Cp st) fI cdv A outer s H E=X at I;have pself:∀ p,PE X (.Name "self" p) (Go 0):=fun p=>by rw[<-hX];exact Mk rfl (.inl l1)
 have ppar:∀ p,PE X (.Name par p) (Go 1):=fun p=>by rw[<-hX];exact Mk rfl (.inl l2) dp dq
 have st1:=W8 (X:=X) (CL:=CL) (C:=C) (g:=g) (np:=np) (apos:=apos) (cpos:=cpos) (i:=0) (j:=1) (OV:=OV) (by rw[<-hX];exact hob) (by rw[<-hX];exact gl) (by rw[<-hX];exact mo) dg (by rw[<-hX];exact s1) (by rw[<-hX];exact s2) (by rw[<-hX];exact s3) hl (pself p1)
  (Zn (k:=k) (p1:=p3) (p2:=p4) (p3:=p5) (by rw[<-hX];show A.units+3+64<BY;omega) (by rw[<-hX];exact hgd) hz (ppar p2)) rfl rfl
 have st2:=Zi (X:=X) (p8:=p8) (p10:=p10) (by rw[<-hX];exact hob) (by rw[<-hX];rfl) (by rw[<-hX];exact hf) (by rw[<-hX];exact hs) (pself p7) (ppar p9) rfl
 have all:=Qs (LV (pos:=p6) st1 rfl) (K7 st2);have hk:=all [] s1' _ H {nx:=fun _ H'=>∃ t' dx,H dx=Ae/\dx≠e/\H'=upd (upd H e (.ext (XEx e C (Aa dx) t'))) dx (.xd [(f,v)]),rt:=fun _ _=>AS} I ⟨e,Ae,t,v,d,B,n,rfl,he,rfl,by rw[<-hX];exact rp,hx,hn,fun t'=>⟨e,t',v,rfl,E8,rfl,fun dx h1 h2=>⟨t',dx,by rw[By h2]at h1;exact h1,h2,by rw[QZ]⟩⟩⟩
 rw[body];refine Bg (by rw[<-hX]at hk;exact hk) (fun fl s' hfl=>?_) fun ev s' hev=>hev
 cases fl with
 |next=>
  obtain⟨σ',H',J,w'⟩:=hfl;exact⟨.non,H',J.os,J.bare,J.base,J.hok,rfl,rfl,w'⟩
 |ret y=>obtain⟨_,_,_,_,_,w'⟩:=hfl;exact w'.elim
 |brk=>obtain⟨_,_,_,w'⟩:=hfl;exact w'.elim
 |cont=>obtain⟨_,_,_,w'⟩:=hfl;exact w'.elim
end
theorem Sw:∀(n m:Ag)(d:D),xfD n d=Ab->n+1<=m->nlD m d=Ab
 |0,m+1,.int i,_,_=>rfl
 |n+1,m+1,.tup ds,h,hm=>by
  have h':(C7 ds.length 8&&ds.all (xfD n))=Ab:=h;rw[Ak]at h';show ds.all (nlD m)=Ab;rw[C4]at h' ⊢;exact fun x hx=>Sw n m x (h'.2 x hx) (by omega)
 |0,_,.tup _,h,_=>nomatch h
 |n+1,_,.int _,h,_=>nomatch h
section
variable{X:Cx}{CL:ClA}{W:XW}
def Mq(xn:Ag->Ad D->R Ex)(c:Ag)(f:Ah)(ds:Ad D):Prop:=∃ d n,ds=[d]/\xfD (n+1) d=Ab/\n<=1/\xn c ds=.ok ⟨c,[(f,d)]⟩
theorem Wr{e:Ap}{es:Ad Ap}(hcalm:X.calm=Ab)(hx:X.ex=[])(hr:Room k X.A)(rz:Lr X CL W)(hg:Gl X g)(hm:X.mg g=Aa (.ref C))(hdb:(g==("__debug__" : Ah))=Ac)(hcl:CL c=Aa C)(ha:SA X CL W (e::es) fs)(hxn:∀ ds,xn c ds=.bad\/(xn c ds=.ok ⟨c,[]⟩/\DJ X.K C Ae=Ab)\/∃ f,XIn X.K X.mg C f/\Mq xn c f ds)(he:AA (e::es) X.env=(Ac,eval e X.env)::AA es X.env)(hpl:∀ pos,(B8 pos (AA es X.env)).any (·.1)=Ac)(hz:∀ ρ ds,fs ρ=.ok ds->ds.length<=100000):SS X CL W (.Raise (Aa (.Call (.Name g np) (e::es) [] cpos)) Ae pos) (fun ρ=>O.of ρ (noX (fs ρ)) fun xs=>O.of ρ (xn c xs) fun x=>.exn x ρ):=fun Fz B pI s σ H D I ⟨ρ,x,p⟩=>by
 have hpl':(B8 cpos (AA (e::es) X.env)).any (·.1)=Ac:=by rw[he];show (Ac||(B8 cpos (AA es X.env)).any (·.1))=Ac;rw[hpl];rfl
 cases e1:fs ρ with
 |bad=>dsimp only at p;rw[e1]at p;exact p.elim
 |exn y=>dsimp only at p;rw[e1]at p;exact p.elim
 |ok ds=>
  rcases hxn ds with e2|⟨e2,xc⟩|⟨f,xi,d,n,rfl,xf,hn,e2⟩
  ·dsimp only at p;rw[e1]at p;have p2:BS X.K CL Fz B W (O.of ρ (xn c ds) fun x=>.exn x ρ) D:=p
   rw[e2]at p2;exact p2.elim
  ·refine XC (fs:=fs) (xn:=fun _ ds'=>match xn c ds' with | .ok ⟨_,[]⟩=>.ok ⟨c,[]⟩|_=>.bad) hcalm rz hg hm hdb xc hcl ha (fun ds'=>by
    split
    ·exact .inr rfl
    ·exact .inl rfl) he hpl hz Fz B pI s σ H D I ⟨ρ,x,?_⟩
   dsimp only at p ⊢;rw[e1]at p ⊢;have p2:BS X.K CL Fz B W (O.of ρ (xn c ds) fun x=>.exn x ρ) D:=p
   rw[e2]at p2;show BS X.K CL Fz B W (O.of ρ (match xn c ds with | .ok ⟨_,[]⟩=>(.ok ⟨c,[]⟩:R Ex)|_=>.bad) fun x=>.exn x ρ) D
   rw[e2];exact p2
  ·dsimp only at p;rw[e1]at p;have p2:BS X.K CL Fz B W (O.of ρ (xn c [d]) fun x=>.exn x ρ) D:=p
   rw[e2]at p2;have p3:∀ H,(∀ b o,Fz b o->H b=Aa o)->W ⟨c,[(f,d)]⟩ H:=p2;cases xi with
   |mk xc dc fn ty S l1 l2 bd body gl mo dg dp dq w1 w2 w3 hl hz0 hf hs=>
    rename_i fI OV x0 qual g0 par z st fd k0' np0 apos q1 q2 q3 q4 q5 cpos0 q6 q7 q8 q9 q10;obtain⟨bm,N,nm,qn,bs,hd,sn,sub,ab,col,dd,k0,k1,k2,k3,k5,mN,hob,hni,hbase⟩:=Nk I.kIn xc;have hdt:hd=Ab:=by
     unfold Fb at dc;split at dc
     ·rename_i c0 d0 cd sl lk;have g1:=I.kIn _ _ lk;rw[(hob _ I.kIn).1]at g1;unfold B6 at g1;cases g1;exact dc
     ·cases dc
    subst hdt;have hob2:∀ h:AD,X.K.In h->h.get? C=Aa (B6 nm qn C N bs bm Ab sn sub ab col dd k0 k1 k2 k3 k5 "ValueError.__new__")/\DL h veB bm:=fun h z=>⟨(hob h z).1,(hob h z).2.2⟩
    refine Xp (bmB:=veB) (nm:=nm) (q:=qn) (C:=C) (N:=N) (fI:=fI) (bs:=bs) (bm:=bm) (hdct:=Ab) (sn:=sn) (sub:=sub) (ab:=ab) (col:=col) (dd:=dd) (k0:=k0) (k1:=k1) (k2:=k2) (k3:=k3) (k5:=k5) (mN:=mN) EE hbase (I.ok.hd hcalm) hpl' hni ?_;refine II I hg hm ⟨rfl,?_⟩ hdb;have q1:=ha (BN B ρ σ) cpos pI s σ H (fun vs H1=>AE H H1/\Reps X.K CL H1 (BN B ρ σ) vs [d]) I ⟨x.aok,ρ,x.good,by rw[e1];exact fun vs H1 s1 r1=>⟨s1,r1⟩⟩
    rw[he]at q1 ⊢;refine F4 (Bg q1 (fun us s2 ⟨vs,H2,I2,r2,sm2,rps⟩=>⟨rfl,?_⟩) fun _ _ z=>z)
    cases vs with
    |nil=>exact rps.elim
    |cons v vs=>
     cases vs with
     |cons=>exact rps.2.elim
     |nil=>
      obtain⟨u,rfl,ru⟩:=He r2;obtain⟨o1,o2,o3⟩:=hob _ I2.kIn;obtain⟨oc,od,kV,doc,pm,an,cdv,ct,osl,efd,lk,hcd⟩:=fn.ex;have coc:oc=.type "function" := by
       have ty':(X.K.lookup fI).map _=_:=ty;rw[lk]at ty';exact Bf ty'
      refine⟨by rw[Ds];show 1<=_;omega,o1,o2,o3,⟨_,I2.kIn _ _ lk,coc⟩,fun h' e0 made=>?_⟩
      obtain⟨t,ge,_⟩:=made.there;have I3:Inv X pI σ H2 {s2 with heap:=h'}:=I2.kept (t':=s2.toks) made.keeps
      have ap:GI X pI e0:=KY I2 hx made.new;have n0:H2 e0=Ae:=J7 I2.hok made.new;have I4:=Rs (o:=.ext (XEx e0 C Ae t)) I3 ap n0 ⟨ge,⟨_,ge⟩,NU⟩;have sm4:AE H2 (upd H2 e0 (.ext (XEx e0 C Ae t))):=fun b o z=>by rw[By fun y=>by rw[y,n0]at z;cases z];exact z
      have ru0:=hr.mono (Fv k);have run:=Y5 (P:=X.prog) (w:=X.w) (mg:=X.mg) (base:=X.base) (CL:=CL) (E:=fun _ _ _=>AS) (B:=BN B ρ σ) (H:=upd H2 e0 (.ext (XEx e0 C Ae t))) (t:=t) hob2 fn S l1 l2 bd body gl mo dg dp dq w1 w2 w3 hl hz0 hf hs (A:=X.A.under (.builtin "type.__call__" ⟨.ref C::[u],[]⟩)) (outer:=X.stack) hr.hd (by rw[VY];have:=ru0.dp;omega) (by rw[VW];have:=ru0.un;omega) hr.gd (I4.env0.make C [u] []) E8 (Rep.same sm4 rps.1) xf hn ru
      refine F9 (E5 run fun r s' hq=>?_)
      cases r with
      |error _=>exact Be hq
      |ok fl=>
       cases fl with
       |next=>exact Be hq
       |brk=>exact Be hq
       |cont=>exact Be hq
       |ret u'=>
        obtain⟨v',H5,I5,rr,ev,t',dx,ndx,dne,eH⟩:=I4.after hq;subst ev;cases rr;have nd2:H2 dx=Ae:=by rw[By dne]at ndx;exact ndx
        rw[QZ]at eH;have H5e:H5 e0=Aa (.ext (XEx e0 C (Aa dx) t')):=by rw[eH,By (CJ dne),E8]
        have ge5:XEx e0 C (Aa dx) t' s'.heap:=(I5.hok e0 _ H5e).1;have I6:=Xg I5 H5e ap.2.2.2 fun _=>trivial
        have H6d:(if dx=e0 then Ae else H5 dx)=Aa (.xd [(f,v)]):=by rw[Az dne,eH,E8]
        have sm6:AE H2 (fun b=>if b=e0 then Ae else H5 b):=fun b o z=>by
         have nb:b≠e0:=fun y=>by rw[y,n0]at z;cases z
         have nb2:b≠dx:=fun y=>by rw[y,nd2]at z;cases z
         show (if b=e0 then Ae else H5 b)=Aa o
         rw[Az nb,eH,By nb2,By nb];exact z
        refine⟨rfl,t',Aa dx,(hob2 _ I6.kIn).1,ge5,rz pI σ _ s' e0 C (Aa dx) t' ⟨c,[(f,d)]⟩ I6 (fun hx=>Jh I2 hx made.new) (Aw rfl) ge5 (fun A hA=>⟨C,hcl,rfl,.inr ⟨dx,[(f,v)],rfl,fun z=>?_,H6d,⟨rfl,?_⟩,trivial⟩⟩) (p3 _ fun b o z=>sm6 _ _ (sm2 _ _ (x.same b o z)))⟩
        ·obtain⟨ys,q⟩:=hA dx z;have q':(if dx=e0 then Ae else H5 dx)=Aa (.lst ys):=q
         rw[H6d]at q';cases q'
        ·exact Om hA 5 d (Sw (n+1) 5 d xf (by omega)) (Rep.sub (fun _ z=>z.elim) _ (Rep.same sm6 rps.1))
end
section
variable{prog:AR}{w:AC}{A:AZ}{E:Vq}{h:AD}{g:Bl E3}{d:Hq}{t:Ag}{os:GR}{K:Fg}{e C dx:Aj}{f:Ah}{mA:Ah->An Ai}{v:Ai}
theorem NV(p:Ii e C (Aa dx) h):XAt e C h:=let ⟨o,a,b,_⟩:=p;⟨o,a,b⟩
theorem Wm{Q:Fin->Ar->Prop}(X:K.In h)(hf:Av K (.ref C) f=Aa Ae)(hd:Fb K C=Ab)(p:Ii e C (Aa dx) h)(hn:h.Ns1 dx mA)(hv:mA f=Aa v)(hq:Q (.done (.ret v)) ⟨h,g,d,t,os⟩):Ay (model prog w) A (Builtin.«object.__getattribute__» ⟨[.ref e,.str f tk],[]⟩) Q E ⟨h,g,d,t,os⟩:=by
 have L0:=IL (M:=model prog w) (NV p);have L1:=Cj (M:=model prog w) X hf;obtain⟨o,ge,oc,od,us,dt⟩:=p;unfold Fb at hd;split at hd
 ·rename_i c' d' cd' sl' lk;have gC:=X _ _ lk;unfold Builtin.«object.__getattribute__»
  repeat (any_goals (first|assumption|with_reducible refine L0.at ?_|with_reducible refine L1.at ?_|wp_step))
  rw[dt];unfold instanceDict
  repeat (first|(with_reducible refine BX ge ?_;rw[oc])|with_reducible refine BX gC ?_|wp_step)
  rw[od]
  repeat (first|(with_reducible refine wpAny_nsGet hn.ns ?_;rw[hv])|wp_step)
  exact hq
 ·cases hd
theorem bE{Q:Vq}(X:K.In h)(x:XcOk K C)(hf:Av K (.ref C) f=Aa Ae)(hd:Fb K C=Ab)(p:Ii e C (Aa dx) h)(hn:h.Ns1 dx mA)(hv:mA f=Aa v)(hh:handedOut v=pure v)(hq:Q v ⟨h,g,d,t,os⟩):Ay (model prog w) A (getAttrBy (.ref e) (.str f tk) fill expr) Q E ⟨h,g,d,t,os⟩:=by
 have L0:=IL (M:=model prog w) (NV p);have L1:=Cj (M:=model prog w) X x.ga;have L2:=Cj (M:=model prog w) X x.gt;have f3:=Fm.ga.bind (.ref e);have hx0:(expr&&ID (C3 "BaseException.__getattribute__"))=Ac:=by cases expr<;>rfl
 have hx2:(C3 "BaseException.__getattribute__" == C3 "object.__getattribute__")=Ac:=by decide +kernel
 have hx1:(ID (Ci C)&&C3 "BaseException.__getattribute__" == C3 "object.__getattribute__")=Ac:=by rw[hx2];rfl
 repeat (any_goals (first|assumption|with_reducible refine L0.at ?_|with_reducible refine L1.at ?_|with_reducible refine L2.at ?_|wp_step))
 refine DH Fm.ga.plain U1 (O4 X x (NV p) (Wm X hf hd p hn hv ?_))
 repeat (any_goals (first|assumption|wp_step))
 all_goals trace_state
theorem Xq{b:Ao}{Q:Vq}(X:K.In h)(x:XcOk K C)(hf:Av K (.ref C) f=Aa Ae)(hd:Fb K C=Ab)(p:Ii e C (Aa dx) h)(hn:h.Ns1 dx mA)(hv:mA f=Aa v)(hh:handedOut v=pure v)(hq:Q v ⟨h,g,d,t+1,os⟩):Ay (model prog w) A (getAttr (.ref e) f b) Q E ⟨h,g,d,t,os⟩:=by
 unfold getAttr
 repeat (any_goals (first|assumption|with_reducible apply bE X x hf hd p hn hv hh|wp_step))
end
section
variable{X:Cx}{CL:ClA}{W:XW}{K:Fg}{H:Hp}{A:Aj->Prop}
theorem Qq{f:Ah}{d:D}:∀{vs:Ad (Ah×V)}{fs:Ad (Ah×D)},Repf K CL H A vs fs->fs.lookup f=Aa d->∃ v,vs.lookup f=Aa v/\Rep K CL H A v d
 |[],[],_,q=>nomatch q
 |(n,v)::vs,(m,d')::fs,⟨⟨e,r⟩,rs⟩,q=>by
  have e':n=m:=e;subst e';by_cases z:(f==n)=Ab
  ·simp only[Fu,z]at q ⊢;cases q;exact⟨v,rfl,r⟩
  ·simp only[Fu,z]at q ⊢;exact Qq rs q
theorem Yj{a:Ap}{fa:Rho->R D}{f:Ah}(hxc:∀ c C,CL c=Aa C->XcOk X.K C)(hnf:∀ c C,CL c=Aa C->Fb X.K C=Ab/\Av X.K (.ref C) f=Aa Ae)(ha:ST X CL W a fa)(hb:attributeBase a f X.env (eval a X.env)=eval a X.env):SE X CL W (.Attribute a f pos) (fun ρ=>(fa ρ).bind fun x=>Kq x f):=fun A=>by
 intro pI s σ H Q I ⟨hA,ρ,gd,q⟩;refine ZK hb (thn (ha A pI s σ H _ I ⟨hA,ρ,gd,Bh.bind q (Q':=fun v H1=>∃ d,CG X.K CL H1 A v d/\Bh (fun H2=>Rep X.K CL H2 A) W H1 (Kq d f) Q) fun d v H1 _ s1 r1 p1=>⟨d,r1,p1⟩⟩) fun u s1 ⟨v,H1,I1,rv,d,rp,p1⟩=>?_)
 cases d with
 |exc c fs=>
  have p2:Bh (fun H2=>Rep X.K CL H2 A) W H1 (match fs.lookup f with|some d=>.ok d|none=>.bad) Q:=p1
  cases el:fs.lookup f with
  |none=>rw[el]at p2;exact p2.elim
  |some d=>
   rw[el]at p2;rcases rp with ⟨e,C,φ,rfl,_,hc,hH,hφ,hfs⟩|⟨a,xs,ds,_,z,_⟩
   ·rcases hfs with z|⟨dx,vs,nd,hd,rf,hφ2⟩
    ·rw[z]at el;cases el
    ·obtain⟨y,l,ry⟩:=Qq rf el;cases rv;have ph:=(I1.hok e _ hH).1;obtain⟨o,ge,oc⟩:=hφ _ ph;obtain⟨o',ge',od,us,odt⟩:=hφ2 _ ph;rw[ge]at ge';cases ge';obtain⟨mA,hn,rel⟩:=I1.hok dx _ hd;obtain⟨u',hu,ru⟩:=Ls.some_of (v:=y) (o:=mA f) (by rw[<-l];exact rel f)
     obtain⟨k1,k2⟩:=hnf c C hc;obtain⟨hp,g2,d2,tk2,os2⟩:=s1;exact Xq I1.kIn (hxc c C hc) k2 k1 ⟨o,ge,oc,od,us,odt⟩ hn hu (PySem.W.handedOut_of (WO ru)) ⟨y,H1,I1.tok _,ru,p2 y H1 (AE.refl H1) ry⟩
   ·cases z
 |_=>exact p1.elim
end
structure Tc where
 sc:B9
 N:Ad Ah
 /-- a def's name,its number,how many parameters it has -/
 fns:Ad (Ah×Ag×Ag)
 /-- built-in names that the text does not hide -/
 bl:Ad Ah
 /-- exceptions' classes by their names: those that are raised,all that are asked for -/
 rzs:Ad (Ah×Ag)
 exs:Ad (Ah×Ag)
 /-- the text's constants -/
 gls:Ad (Ah×Ag)
noncomputable def OE(T:Tc)(x:Ah):Ao:=match T.sc.names.lookup x with
  |some .local=>Ab
  |some .cell=>Ab
  |some .free=>Ab
  |_=>Ac
noncomputable def IS(T:Tc)(x:Ah):Ao:=match T.sc.names.lookup x with
  |some .local=>Ab
  |some .cell=>Ab
  |_=>Ac
noncomputable def glB(T:Tc)(x:Ah):Ao:=T.sc.names.lookup x==Aa .globalImplicit
noncomputable def Hj(x:Ah):Ao:=!(x==("__debug__" : Ah)) && !(x==("__classdict__" : Ah)) && !(x==("__name__" : Ah))
noncomputable def isV(T:Tc)(x:Ah)(i:Ag):Ao:=T.N[i]? == Aa x&&OE T x&&Hj x
noncomputable def isB(T:Tc)(x:Ah):Ao:=T.bl.contains x&&glB T x&&Hj x
noncomputable def EL:Ap->Ao
 |.Starred _ _=>Ac
 |_=>Ab
noncomputable def NB:Ap->Ao
 |.Slice _ _ _ _=>Ac
 |_=>Ab
noncomputable def Li:Ap->Ao
 |.Set _ _ _=>Ac
 |_=>Ab
noncomputable def Js:Ap->Ao
 |.ListComp _ _ _ _=>Ac
 |.SetComp _ _ _ _=>Ac
 |.DictComp _ _ _ _ _=>Ac
 |_=>Ab
noncomputable def Th(tu:Ao):Ap->Ao
 |.Tuple ..=>tu
 |.Name ..=>!tu
 |_=>Ac
noncomputable def jB:Ap->Ao
 |.Tuple _ _ _=>Ab
 |_=>Ac
noncomputable def SG:Ap->Ao
 |.Tuple _ _ _=>Ac
 |_=>Ab
noncomputable def JW:Ap->Ao
 |.UnaryOp _ _ _=>Ac
 |.BoolOp _ _ _=>Ac
 |.IfExp _ _ _ _=>Ac
 |.Compare _ _ _ _=>Ac
 |_=>Ab
noncomputable def On:Ki->An Ah
 |.int=>Aa "int"
 |.bool=>Aa "bool"
 |.str=>Aa "str"
 |.list=>Aa "list"
 |.tuple=>Aa "tuple"
 |_=>Ae
noncomputable def Oo:BI->An Ah
 |.len=>Aa "len"
 |.abs=>Ae
 |.max=>Aa "max"
 |.min=>Aa "min"
 |.int=>Ae
 |.list=>Aa "list"
 |.tuple=>Aa "tuple"
 |.all=>Aa "all"
 |.any=>Aa "any"
 |.sum=>Aa "sum"
 |.sorted=>Ae
 |.tmin=>Ae
 |.tmax=>Ae
 |_=>Ae
noncomputable def Od(o scope:B9):B9:={scope with names:=scope.names.map fun (n,k)=>if (k==.free&&o.kind==.function&&o.names.lookup n==Aa .cell) then (n,.cell) else (n,k)}
noncomputable def Kn:Ad Ag->Ad Ah->Ad Ah->Ad Ah
 |t::ts,x::xs,N=>Kn ts xs ((N.map fun y=>if y==x then N.getD t x else y).set t x)
 |_,_,N=>N
noncomputable def Kc:Ad Ah->Ao
 |[]=>Ab
 |x::xs=>!xs.contains x&&Kc xs
noncomputable def Lq(T:Tc)(scope:B9)(ts:Ad Ag)(N':Ad Ah):Ao:=
  scope.kind==.function&&scope.names.all (fun y=>scope.names.lookup y.1==Aa y.2) &&
  scope.names.all (fun y=>y.2 != .free||T.sc.names.lookup y.1==Aa .cell||T.sc.names.lookup y.1==Aa .free) &&
  N'.length==T.N.length&&Kc N' &&
  (Bz N'.length).all fun i=>ts.contains i||(match N'[i]? with
    |some x=>(scope.names.lookup x != Aa .local&&scope.names.lookup x != Aa .cell)&&(scope.names.lookup x != Aa .free||T.N[i]? == Aa x)
    | none=>Ab)
noncomputable def EM:Ad Ap->An (Ad Ah)
 |[]=>Aa []
 |.Name x _::r=>(EM r).map (x :: ·)
 |_=>Ae
noncomputable def tgN(ys:Ad Ap):Ad Ah:=(EM ys).getD []
noncomputable def tgB(T:Tc):Ad Ag->Ad Ah->Ao
 |[],[]=>Ab
 |t::ts,x::xs=>T.N[t]? == Aa x&&T.sc.names.lookup x==Aa .local&&tgB T ts xs
 |_,_=>Ac
noncomputable def tgO(T:Tc)(scope:B9)(t:Ag)(x:Ah):Ao:=T.N[t]? == Aa x&&(T.sc.names.lookup x==Aa .local||(T.sc.names.lookup x==Aa .cell&&scope.names.lookup x==Aa .cell))
noncomputable def tgC(T:Tc):Ad Ag->Ad Ah->Ao
 |[],[]=>Ab
 |t::ts,x::xs=>T.N[t]? == Aa x&&IS T x&&tgC T ts xs
 |_,_=>Ac
noncomputable def Tc.blk(T:Tc)(scope:B9)(ts:Ad Ag)(xs:Ad Ah):Tc:={T with sc:=Od T.sc scope,N:=Kn ts xs T.N}
noncomputable def inX(l:Ad (Ah×Ag))(g:Ah)(c:Ag):Ao:=l.any fun p=>p.1==g&&p.2==c
noncomputable def TK:Ap->An (Ap×Ap×AM)
  | .Compare x ops ys p=>(match ops with
    | [.Lt]=>(match ys with
      |[y]=>Aa (x,y,p)
      | _=>Ae)
    | _=>Ae)
  |_=>Ae
noncomputable def Ot(_:Es):An (E×E):=Ae
noncomputable def TH(_:Tc)(_:Tc->Ap->E->Ao)(_:Ap)(_:Ad D0)(_:Ad Ap)(_:BI)(_:Es):Ao:=Ac
noncomputable def T4(T:Tc)(e:Ap)(b:BI)(as:Es):Ao:=Ac
noncomputable def Rx:Ap->An (Ah×AM)
 |.Name x p=>Aa (x,p)
 |_=>Ae
noncomputable def Ry:Ap->An (Ap×Ad Ap×Ad Keyword×AM)
 |.Call f as ks p=>Aa (f,as,ks,p)
 |_=>Ae
noncomputable def kW:Ap->An (Ad Ap×Ag×AM)
 |.Tuple es k p=>Aa (es,k,p)
 |_=>Ae
noncomputable def one{α:Type}:Ad α->An α
 |[a]=>Aa a
 |_=>Ae
noncomputable def T5(e:Ap):An (Ah×Ah×Ad Ap):=(Ry e).bind fun c=>(Rx c.1).bind fun g=>(one c.2.1).bind fun a=>(Ry a).bind fun d=>(Rx d.1).bind fun h=>if (c.2.2.1.isEmpty&&d.2.2.1.isEmpty)=Ab then Aa (g.1,h.1,d.2.1) else Ae
noncomputable def Tg(e:Ap):An (Ah×Ah×Ap×Ap):=match T5 e with
  | some (g,h,bs)=>(match bs with
    |[x,y]=>Aa (g,h,x,y)
    | _=>Ae)
  |none=>Ae
noncomputable def Oy(_:Es):An (E×E):=Ae
noncomputable def Tf(e:Ap):An (Ah×Ah×Ap):=match T5 e with
  | some (g,h,bs)=>(match bs with
    |[x]=>Aa (g,h,x)
    | _=>Ae)
  |none=>Ae
noncomputable def Ow(_:Es):An E:=Ae
noncomputable def two(e:Ap):An (Ap×Ap):=(kW e).bind fun t=>match t.1 with
  |[a,b]=>Aa (a,b)
  |_=>Ae
noncomputable def OO(_:Es):An E:=Ae
noncomputable def Tl(_:Ap):An Ap:=Ae
noncomputable def Tj:Ap->An (Ap×Af)
  | .Subscript v s _=>(match s with
    | .Slice lo hi st _=>(match lo with
      | some (.Constant (.int k) _ _)=>(match hi with
        | none=>(match st with
          |some (.Constant (.int j) _ _)=>if j=2 then Aa (v,k) else Ae
          | _=>Ae)
        | some _=>Ae)
      | _=>Ae)
    | _=>Ae)
  |_=>Ae
noncomputable def Ou(_:Es):An (E×Af):=Ae
mutual
noncomputable def Bk:Ag->Tc->Ap->E->Ao
  |0,_,_,_=>Ac
  |n+1,T,e,c=>match c with
    |.non=>(match e with | .Constant .none _ _=>Ab|_=>Ac)
    |.bl b=>(match e with | .Constant (.bool b') _ _=>b' == b|_=>Ac)
    |.int i=>(match e with | .Constant (.int j) _ _=>decide (j=i)|_=>Ac)
    |.str x=>(match e with | .Constant (.str y) _ _=>decide (y=x)|_=>Ac)
    |.var i=>(match e with | .Name x _=>isV T x i|_=>Ac)
    |.glob g=>Ac
    |.bin op a b=>(match e with | .BinOp x op' y _=>decide (op'=op)&&Bk n T x a&&Bk n T y b|_=>Ac)
    |.un op a=>Ac
    |.no a=>(match e with | .UnaryOp .Not x _=>Bk n T x a|_=>Ac)
    |.and es=>(match e with | .BoolOp .And xs _=>chkEs n T xs es && !xs.isEmpty|_=>Ac)
    |.or es=>(match e with | .BoolOp .Or xs _=>chkEs n T xs es && !xs.isEmpty|_=>Ac)
    |.cmp op a b=>(match e with | .Compare x [op'] [y] _=>decide (op'=op) && !behindInMarks op y&&Bk n T x a&&Bk n T y b|_=>Ac)
    |.cmp2 op1 op2 a b c=>(match e with | .Compare x [o1,o2] [y,z] _=>decide (o1=op1)&&decide (o2=op2) && !lastMarks [op1,op2] [y,z]&&Bk n T x a&&Bk n T y b&&Bk n T z c|_=>Ac)
    |.ite c a b=>Ac
    |.call f as=>(match e with | .Call (.Name g _) (x::xs) [] _=>(T.fns.any fun p=>p.1==g&&p.2.1==f&&p.2.2==xs.length+1)&&decide (xs.length<900)&&glB T g&&Hj g&&chkEs n T (x::xs) as|_=>Ac)
    |.bi b as=>(match e with | .Call (.Name g _) (x::xs) [] _=>Oo b==Aa g&&isB T g&&chkEs n T (x::xs) as|_=>Ac)||T4 T e b as||(match Oy as with|some (a,c)=>(match Tg e with|some (g,h,x,y)=>decide (b=.list)&&g==("list" : Ah)&&h==("range" : Ah)&&isB T g&&isB T h&&EL x&&EL y&&Bk n T x a&&Bk n T y c|none=>Ac)|none=>Ac)||(match Ou as with|some (a,k)=>(match Tj e with|some (x,j)=>decide (b=.stp)&&decide (j=k)&&decide (0<=k)&&Bk n T x a|none=>Ac)|none=>Ac)||(match Ow as with|some a=>(match Tf e with|some (g,h,x)=>decide (b=.lset)&&g==("len" : Ah)&&h==("set" : Ah)&&isB T g&&isB T h&&EL x&&Bk n T x a|none=>Ac)|none=>Ac)||(match Ot as with|some (a,c)=>(match TK e with|some (x,y,_)=>decide (b=.tlt) && !behindInMarks .Lt y&&Bk n T x a&&Bk n T y c|none=>Ac)|none=>Ac)||(match OO as with|some a=>(match Tl e with|some x=>decide (b=.rvs)&&Bk n T x a|none=>Ac)|none=>Ac)
    |.isi a ks=>(match ks with | [k]=>(match e with | .Call (.Name g _) [x,.Name t _] [] _=>g==("isinstance" : Ah)&&isB T g&&On k==Aa t&&isB T t&&EL x&&Bk n T x a|_=>Ac)|_=>Ac)
    |.idx a i=>(match e with | .Subscript x y _=>NB y&&Bk n T x a&&Bk n T y i|_=>Ac)
    |.sl a lo hi=>(match e with | .Subscript x (.Slice l h Ae _) _=>Bk n T x a&&chkO n T l lo&&chkO n T h hi|_=>Ac)
    |.tup es=>(match e with | .Tuple xs _ _=>chkEs n T xs es&&decide (xs.length<=1000)|_=>Ac)
    |.lst es=>(match e with | .List xs _=>chkEs n T xs es&&decide (xs.length<=1000)|_=>Ac)
    |.comp elt t it c=>(match e with | .ListComp x [⟨.Name y _,iter,ifs,0⟩] scope _=>chkI n T Ac iter it&&Li iter&&Lq T scope [t] (Kn [t] [y] T.N)&&tgO (T.blk scope [t] [y]) scope t y&&chkT n (T.blk scope [t] [y]) ifs c&&Bk n (T.blk scope [t] [y]) x elt|_=>Ac)
    |.compT elt ts it c=>(match e with | .ListComp x [⟨.Tuple ys _ _,iter,ifs,0⟩] scope _=>(EM ys).isSome&&chkI n T Ab iter it&&Li iter&&Lq T scope ts (Kn ts (tgN ys) T.N)&&tgB (T.blk scope ts (tgN ys)) ts (tgN ys)&&chkT n (T.blk scope ts (tgN ys)) ifs c&&Bk n (T.blk scope ts (tgN ys)) x elt|_=>Ac)
    |.tupI _=>Ac
    |.dnew=>Ac
    |.fld _ _=>Ac
noncomputable def IR:Ag->Tc->Ap->E->Ao
  |0,_,_,_=>Ac
  |n+1,T,e,c=>match e with
    |.UnaryOp .Not x _=>(match c with | .no a=>IR n T x a|_=>Ac)
    |.BoolOp .And xs _=>(match c with | .and es=>chkBs n T xs es && !xs.isEmpty|_=>Ac)
    |.BoolOp .Or xs _=>(match c with | .or es=>chkBs n T xs es && !xs.isEmpty|_=>Ac)
    | .Compare x ops ys _=>(match c with
      |.cmp op a b=>(match ops,ys with | [op'],[y]=>decide (op'=op) && !behindInMarks op y&&Bk n T x a&&Bk n T y b|_,_=>Ac)
      |.cmp2 op1 op2 a b c=>(match ops,ys with | [o1,o2],[y,z]=>decide (o1=op1)&&decide (o2=op2) && !lastMarks [op1,op2] [y,z]&&Bk n T x a&&Bk n T y b&&Bk n T z c|_,_=>Ac)
      |.bi b as=>TH T (Bk n) x ops ys b as
      | _=>Ac)
    |e=>JW e&&Bk n T e c
noncomputable def chkBs:Ag->Tc->Ad Ap->Es->Ao
  |0,_,_,_=>Ac
  |n+1,T,xs,es=>match xs,es with
    |[],.nil=>Ab
    |x::xs,.cons e es=>IR n T x e&&chkBs n T xs es
    |_,_=>Ac
noncomputable def chkEs:Ag->Tc->Ad Ap->Es->Ao
  |0,_,_,_=>Ac
  |n+1,T,xs,es=>match xs,es with
    |[],.nil=>Ab
    |x::xs,.cons e es=>EL x&&Bk n T x e&&chkEs n T xs es
    |_,_=>Ac
noncomputable def chkO:Ag->Tc->An Ap->E->Ao
  |0,_,_,_=>Ac
  |n+1,T,x,e=>match x with
    |none=>(match e with | .non=>Ab|_=>Ac)
    |some x=>(match e with | .non=>Ac|e=>Bk n T x e)
noncomputable def chkT:Ag->Tc->Ad Ap->E->Ao
  |0,_,_,_=>Ac
  |n+1,T,xs,e=>match xs with
    |[]=>(match e with | .bl Ab=>Ab|_=>Ac)
    |[x]=>IR n T x e
    |_=>Ac
noncomputable def chkI:Ag->Tc->Ao->Ap->I->Ao
  |0,_,_,_,_=>Ac
  |n+1,T,tu,e,i=>match i with
    |.e a=>Bk n T e a
    |.rng a=>(match e with | .Call (.Name g _) [x] [] _=>g==("range" : Ah)&&isB T g&&EL x&&Bk n T x a|_=>Ac)
    |.enm a=>(match e with | .Call (.Name g _) [x] [] _=>tu&&g==("enumerate" : Ah)&&isB T g&&EL x&&Bk n T x a|_=>Ac)
    |.zip a b=>(match e with | .Call (.Name g _) [x,y] [] _=>tu&&g==("zip" : Ah)&&isB T g&&EL x&&EL y&&Bk n T x a&&Bk n T y b|_=>Ac)
    |.rng2 a b=>(match e with | .Call (.Name g _) [x,y] [] _=>g==("range" : Ah)&&isB T g&&EL x&&EL y&&Bk n T x a&&Bk n T y b|_=>Ac)
    |.zip3 a b c=>Ac
end
noncomputable def Ms:E->Ao
 |.var _=>Ab
 |.int _=>Ab
 |.bl _=>Ab
 |.str _=>Ab
 |.non=>Ab
 |_=>Ac
noncomputable def Kl:Es->Ao
 |.nil=>Ab
 |.cons e es=>Ms e&&Kl es
noncomputable def Fd:Ap->An (Ah×AM)
 |.Name x p=>Aa (x,p)
 |_=>Ae
theorem GE{e:Ap}{t:Ah×AM}(h:Fd e=Aa t):e=.Name t.1 t.2:=by
 cases e with
 |Name x p=>cases h;rfl
 |_=>exact nomatch (show Ae=Aa t from h)
noncomputable def Mw:Ap->An (Ap×Ad Ap×AM)
  | .Call f as ks p=>(match ks with
    |[]=>Aa (f,as,p)
    | _=>Ae)
  |_=>Ae
theorem Nx{e:Ap}{t:Ap×Ad Ap×AM}(h:Mw e=Aa t):e=.Call t.1 t.2.1 [] t.2.2:=by
 cases e with
 |Call f as ks p=>
  cases ks with
  |nil=>cases h;rfl
  |cons=>exact nomatch (show Ae=Aa t from h)
 |_=>exact nomatch (show Ae=Aa t from h)
noncomputable def JA{α:Type}:Ad α->An (α×α)
 |[a,b]=>Aa (a,b)
 |_=>Ae
theorem K6{l:Ad α}{t:α×α}(h:JA l=Aa t):l=[t.1,t.2]:=by
 cases l with
 |nil=>exact nomatch (show Ae=Aa t from h)
 |cons a l=>
  cases l with
  |nil=>exact nomatch (show Ae=Aa t from h)
  |cons b l=>
   cases l with
   |nil=>cases h;rfl
   |cons=>exact nomatch (show Ae=Aa t from h)
noncomputable def xC2(e:Ap):An (Ah×Ah×Ap):=(Mw e).bind fun c=>(Fd c.1).bind fun g=>(JA c.2.1).bind fun ab=>(Fd ab.1).bind fun v=>Aa (g.1,v.1,ab.2)
theorem bG{e t:Ap}{v:Ah}(h:xC2 e=Aa (g,v,t)):∃ p q r,e=.Call (.Name g p) [.Name v q,t] [] r:=by
 obtain⟨c,e1,h⟩:=AI.mp h;obtain⟨g',e2,h⟩:=AI.mp h;obtain⟨ab,e3,h⟩:=AI.mp h;obtain⟨v',e4,h⟩:=AI.mp h;cases h;rw[Nx e1,GE e2,K6 e3,GE e4];exact⟨_,_,_,rfl⟩
noncomputable def OB:Ap->An (Ad Ap)
 |.Tuple ts _ _=>Aa ts
 |_=>Ae
theorem Yv{e:Ap}{ts:Ad Ap}(h:OB e=Aa ts):∃ c p,e=.Tuple ts c p:=by
 cases e with
 |Tuple l c p=>cases h;exact⟨_,_,rfl⟩
 |_=>exact nomatch (show Ae=Aa ts from h)
noncomputable def xC1(e:Ap):An (Ah×Ah):=(Mw e).bind fun c=>(Fd c.1).bind fun g=>(match c.2.1 with
  |[a]=>(Fd a).bind fun v=>Aa (g.1,v.1)
  | _=>Ae)
theorem bH{e:Ap}{v:Ah}(h:xC1 e=Aa (g,v)):∃ p q r,e=.Call (.Name g p) [.Name v q] [] r:=by
 obtain⟨c,e1,h⟩:=AI.mp h;obtain⟨g',e2,h⟩:=AI.mp h;obtain⟨f,as,p⟩:=c;cases as with
 |nil=>exact nomatch (show Ae=Aa (g,v) from h)
 |cons a as=>
  cases as with
  |cons=>exact nomatch (show Ae=Aa (g,v) from h)
  |nil=>
   obtain⟨v',e4,h⟩:=AI.mp (show ((Fd a).bind fun v=>Aa (g'.1,v.1))=Aa (g,v) from h)
   cases h;rw[Nx e1,GE e2,GE e4];exact⟨_,_,_,rfl⟩
noncomputable def xHd:ED->An (Ah×Ah×A9×Ad A9)
  | .ExceptHandler ty nm b _=>(match nm,b,ty with
    |some m,h0::hs,Aa e=>(Fd e).bind fun g=>Aa (g.1,m,h0,hs)
    | _,_,_=>Ae)
theorem NW{h:ED}{m:Ah}(q:xHd h=Aa (g,m,h0,hs)):∃ p r,h=.ExceptHandler (Aa (.Name g p)) (Aa m) (h0::hs) r:=by
 obtain⟨ty,nm,b,r⟩:=h;cases nm with
 |none=>cases ty<;>cases b<;>exact nomatch (show Ae=Aa (g,m,h0,hs) from q)
 |some m'=>
  cases b with
  |nil=>cases ty<;>exact nomatch (show Ae=Aa (g,m,h0,hs) from q)
  |cons h0' hs'=>
   cases ty with
   |none=>exact nomatch (show Ae=Aa (g,m,h0,hs) from q)
   |some e=>
    obtain⟨g',e1,q⟩:=AI.mp (show ((Fd e).bind fun g=>Aa (g.1,m',h0',hs'))=Aa (g,m,h0,hs) from q)
    cases q;rw[GE e1];exact⟨_,_,rfl⟩
noncomputable def Lo:A9->An (A9×Ad ED×Ad A9)
  | .Try b hs es fs _=>(match b,fs with
    |[bt],[]=>Aa (bt,hs,es)
    | _,_=>Ae)
  |_=>Ae
theorem QT{st bt:A9}{hs:Ad ED}{es:Ad A9}(q:Lo st=Aa (bt,hs,es)):∃ p,st=.Try [bt] hs es [] p:=by
 cases st with
 |Try b h e f p=>
  cases b with
  |nil=>cases f<;>exact nomatch (show Ae=Aa (bt,hs,es) from q)
  |cons x b=>
   cases b with
   |cons=>cases f<;>exact nomatch (show Ae=Aa (bt,hs,es) from q)
   |nil=>
    cases f with
    |nil=>cases q;exact⟨_,rfl⟩
    |cons=>exact nomatch (show Ae=Aa (bt,hs,es) from q)
 |_=>exact nomatch (show Ae=Aa (bt,hs,es) from q)
noncomputable def IP(T:Tc):Ad Ap->Ad Ki->Ao
 |[],[]=>Ab
 |.Name t _::r,.cls c::ks=>inX T.exs t c&&glB T t&&Hj t&&IP T r ks
 |_,_=>Ac
noncomputable def TY(T:Tc)(g:Ah)(f:Ag):Ao:=(T.fns.any fun p=>p.1==g&&p.2.1==f&&p.2.2==1001)&&glB T g&&Hj g
noncomputable def Dx:Ag->Tc->Ag->Ap->E->Ao
  |0,_,_,_,_=>Ac
  |n+1,T,x,e,c=>match c with
    |.bl b=>(match e with | .Constant (.bool b') _ _=>b' == b|_=>Ac)
    |.no a=>(match e with | .UnaryOp .Not y _=>Dx n T x y a|_=>Ac)
    |.and (.cons a .nil)=>(match e with | .BoolOp .And [y] _=>Dx n T x y a|_=>Ac)
    |.and (.cons a (.cons a' as))=>(match e with | .BoolOp .And (y::z::zs) p=>Dx n T x y a&&Dx n T x (.BoolOp .And (z::zs) p) (.and (.cons a' as))|_=>Ac)
    | .isi (.var i) [.verr]=>(match xC2 e with
      | some (g,v,t)=>i==x&&g==("isinstance" : Ah)&&isB T g&&isV T v x&&(match Fd t with
        |some (t,_)=>t==("ValueError" : Ah)&&isB T t
        | none=>Ac)
      | none=>Ac)
    | .isi (.var i) [.cls c]=>(match xC2 e with
      | some (g,v,t)=>i==x&&g==("isinstance" : Ah)&&isB T g&&isV T v x&&(match Fd t with
        |some (t,_)=>inX T.exs t c&&glB T t&&Hj t
        | none=>Ac)
      | none=>Ac)
    | .isi (.var i) (.cls c::k::ks)=>(match xC2 e with
      | some (g,v,t)=>i==x&&g==("isinstance" : Ah)&&isB T g&&isV T v x&&(match OB t with
        |some ts=>IP T ts (.cls c::k::ks)&&decide (ts.length<=1000)
        | none=>Ac)
      | none=>Ac)
    | .call f (.cons (.var i) .nil)=>(match xC1 e with
      |some (g,v)=>TY T g f&&isV T v i
      | none=>Ac)
    |.str s=>(match e with | .Constant (.str s') _ _=>s' == s|_=>Ac)
    | .fld (.var i) f=>(match e with
      |.Attribute (.Name v _) g _=>i==x&&g==f&&(f==("triple" : Ah)||f==("points" : Ah))&&isV T v x
      | _=>Ac)
    |_=>Ac
noncomputable def Mp(n:Ag)(T:Tc)(x:Ag)(y:Ap)(e:E):Ao:=match y with
  |.UnaryOp .Not z _=>(match e with | .no a=>JW z&&Dx n T x z a|_=>Ac)
  |y=>JW y&&Dx n T x y e
noncomputable def Gk(n:Ag)(T:Tc)(x:Ag):Ad Ap->Es->Ao
 |[],.nil=>Ab
 |y::ys,.cons e es=>Mp n T x y e&&Gk n T x ys es
 |_,_=>Ac
noncomputable def Oq(n:Ag)(T:Tc)(x:Ag)(e:Ap)(c:E):Ao:=match e with
  |.BoolOp .Or ys _=>(match c with | .or es=>Gk n T x ys es && !ys.isEmpty|_=>Ac)
  |.BoolOp .And ys _=>(match c with | .and es=>Gk n T x ys es && !ys.isEmpty|_=>Ac)
  |e=>Mp n T x e c
noncomputable def mU:E->Ao
 |.isi _ _=>Ab
 |.bl _=>Ab
 |_=>Ac
noncomputable def Hb:Ag->Tc->Ag->Ad A9->Ss->Ao
  |0,_,_,_,_=>Ac
  |n+1,T,x,sts,ss=>match ss with
    |.nil=>sts.isEmpty
    | .cons (.asg i Ac e) ss=>(match sts with
      |.Assign [.Name y _] v _::r=>T.N[i]? == Aa y&&IS T y&&Js v&&Dx n T x v e&&Hb n T x r ss
      | _=>Ac)
    | .cons (.ife c a .nil) ss=>(match sts with
      |.If t xs [] _::r=>Oq n T x t c&&Hb n T x xs a&&Hb n T x r ss
      | _=>Ac)
    | .cons (.ret e) ss=>(match sts with
      |.Return (Aa v) _::r=>mU e&&Dx n T x v e&&Hb n T x r ss
      | _=>Ac)
    |_=>Ac
noncomputable def OH:E->Ao
 |.var _=>Ab
 |.cmp _ a b=>Ms a&&Ms b
 |_=>Ac
noncomputable def Mc(n:Ag)(T:Tc)(st:A9)(s:S):Ao:=match s with
  |.expr (.call f as)=>(match st with | .Expr v _=>Bk n T v (.call f as)&&Kl as|_=>Ac)
  |.asg i Ac (.call f as)=>(match st with | .Assign [.Name y _] v _=>T.N[i]? == Aa y&&IS T y&&Bk n T v (.call f as)&&Kl as|_=>Ac)
  |_=>Ac
noncomputable def Jy:Ag->Ag->Tc->A9->S->Ao
  |0,n,T,st,s=>Mc n T st s
  | m+1,n,T,st,s=>Mc n T st s||(match s with
    | .ife c (.cons a .nil) (.cons b .nil)=>(match st with
      |.If t [xs] [ys] _=>IR n T t c&&OH c&&Jy m n T xs a&&Jy m n T ys b
      | _=>Ac)
    | _=>Ac)
noncomputable def hdB(T:Tc)(g:Ah)(c:Ag):Ao:=inX T.exs g c&&inX T.rzs g c&&glB T g&&Hj g
mutual
noncomputable def FU:Ag->Tc->A9->S->Ao
  |0,_,_,_=>Ac
  |n+1,T,st,s=>match s with
    |.pass=>Ac
    |.brk=>Ac
    |.cont=>Ac
    |.asg i _ e=>(match st with | .Assign [.Name x _] v _=>T.N[i]? == Aa x&&IS T x&&Bk n T v e|_=>Ac)
    |.asgT ts e=>(match st with | .Assign [.Tuple ys _ _] v _=>(EM ys).isSome&&tgC T ts (tgN ys)&&(SG v||C7 4 ys.length)&&Bk n T v e|_=>Ac)
    |.expr e=>(match st with | .Expr v _=>Js v&&Bk n T v e|_=>Ac)
    |.ret e=>(match st with | .Return (Aa v) _=>Bk n T v e|_=>Ac)
    |.retN=>Ac
    |.ife c a b=>(match st with | .If t xs ys _=>IR n T t c&&chkSs n T xs a&&chkSs n T ys b|_=>Ac)
    |.fors t it body=>(match st with | .For (.Name x _) iter xs [] _=>tgC T [t] [x]&&Li iter&&chkI n T Ac iter it&&chkSs n T xs body|_=>Ac)
    |.forT ts it body=>(match st with | .For (.Tuple ys _ _) iter xs [] _=>(EM ys).isSome&&tgC T ts (tgN ys)&&Li iter&&chkI n T Ab iter it&&chkSs n T xs body|_=>Ac)
    |.whl c body=>Ac
    |.rais c as=>!(T.rzs.any fun p=>p.2==c)||(match st with | .Raise (Aa (.Call (.Name g _) (x::xs) [] _)) Ae _=>inX T.rzs g c&&glB T g&&Hj g&&decide (xs.length<=1000)&&chkEs n T (x::xs) as|_=>Ac)
    |.tryx bs c x h=>(match bs with | .cons b .nil=>(match Lo st with|some (bt,[h1],[])=>(match xHd h1 with|some (g,m,h0,hs)=>hdB T g c&&T.N[x]? == Aa m&&T.sc.names.lookup m==Aa .local&&Jy 6 n T bt b&&Hb n T x (h0::hs) h|none=>Ac)|_=>Ac)|_=>Ac)
    |.try2 bs c x h c' h' els=>(match bs with | .cons b .nil=>(match Lo st with|some (bt,hl,es)=>(match JA hl with|some (h1,h2)=>(match xHd h1,xHd h2 with|some (g,m,h0,hs),Aa (g',m',h0',hs')=>m' == m&&hdB T g c&&hdB T g' c'&&T.N[x]? == Aa m&&T.sc.names.lookup m==Aa .local&&Jy 6 n T bt b&&Hb n T x (h0::hs) h&&Hb n T x (h0'::hs') h'&&chkSs n T es els|_,_=>Ac)|none=>Ac)|none=>Ac)|_=>Ac)
    |.app i e=>Ac
    |.ext i e=>Ac
    |.rev i=>Ac
    |.clr i=>Ac
    |.put i k e=>(match st with | .Assign [.Subscript (.Name x _) y _] v _=>isV T x i&&NB y&&Bk n T y k&&Bk n T v e|_=>Ac)
    |.swp _ _ _=>Ac
    |.apop _ _ _=>Ac
    |.ins _ _ _=>Ac
    |.dput _ _ _=>Ac
    |.dsd _ _ _=>Ac
    |.rel _=>Ac
noncomputable def chkSs:Ag->Tc->Ad A9->Ss->Ao
  |0,_,_,_=>Ac
  |n+1,T,sts,ss=>match ss with
    |.nil=>sts.isEmpty
    |.cons (.rel i) ss=>chkSs n T sts ss
    | .cons s ss=>(match sts with
      |st::r=>FU n T st s&&chkSs n T r ss
      | []=>Ac)
end
noncomputable def Hi(fuel:Ag)(hot:Ao)(fns:Ad (Ah×Ag×Ag))(bl:Ad Ah)(rzs exs gls:Ad (Ah×Ag))(ps N:Ad Ah)(st:A9)(df:Df):Ao:=
  let sc:=Cp st
  sc.kind==.function && !sc.isCoroutine && !sc.isGenerator&&Kc N&&N.take ps.length==ps&&ps.all (fun x=>sc.names.lookup x==Aa .local||sc.names.lookup x==Aa .cell)&&sc.names.all (fun y=>y.2 != .free)&&N.length==df.n &&
  (match hot with
  |true=>Hb fuel ⟨sc,N,fns,bl,rzs,exs,gls⟩ 0 (Fn st) df.body
  | false=>chkSs fuel ⟨sc,N,fns,bl,rzs,exs,gls⟩ (Fn st) df.body)
structure XT (up:Ag->Ad Ag) (xn:Ag->Ad D->R Ex) (CL:ClA) (rzs exs:Ad (Ah×Ag)) (K:Fg) (mg:Ah->An Ai):Prop where
 xc:∀ c C,CL c=Aa C->XcOk K C
 rz:∀ p∈rzs,∃ C,CL p.2=Aa C/\mg p.1=Aa (.ref C)
 ex:∀ p∈exs,∃ C,mg p.1=Aa (.ref C)/\Lh K CL up p.2 C/\∀ c D,CL c=Aa D->Al K (.ref D) (.ref C)=Aa ((up c).contains p.2)
 made:∀ c C ds,CL c=Aa C->xn c ds=.bad\/(xn c ds=.ok ⟨c,[]⟩/\DJ K C Ae=Ab)\/∃ f,XIn K mg C f/\Mq xn c f ds
 nf:∀ c C,CL c=Aa C->∀ f:Ah,(f==("triple" : Ah)||f==("points" : Ah))=Ab->Fb K C=Ab/\Av K (.ref C) f=Aa Ae
 xb:∀ c,(∀ p∈rzs,p.2≠c)->∀ ds,xn c ds=.bad
def MB(K:Fg)(mg:Ah->An Ai)(CL:ClA)(x:Ah)(d:D):Prop:=∃ u v,mg x=Aa u/\BB v u/\∀ H A,Rep K CL H A v d
structure VX (Γ:Gam) (CL:ClA) (k:Ag) (W:XW) (T:Tc) (X:Cx):Prop where
 sc:X.env.scope=T.sc
 kd:T.sc.kind=.function
 N:X.N=T.N
 nd:T.N.Nodup
 calm:X.calm=Ab
 room:Room k X.A
 bl:∀ x,x∈T.bl->X.mg x=Ae
 fn:∀ p∈T.fns,∃ f fd ps,X.mg p.1=Aa (.ref f)/\B0 X.K (.ref f)=Ab/\Fp X.K fd ps []/\ps.length=p.2.2%1000/\(p.2.2<1000->FnOk X.prog X.w X.K X.mg X.base (CXR X.prog X.w) k f fd ps (spD X.K CL (p.2.2%1000) (Γ.fr p.2.1) (Γ.F p.2.1)))/\(1000<=p.2.2->HotOk X.prog X.w X.K X.mg X.base k f fd ps (spH X.K CL (p.2.2%1000) (Γ.fr p.2.1) (Γ.F p.2.1)))
 own:E4 (model X.prog X.w) X.A X.env X.xe
 px:∀ A,Kg (CXR X.prog X.w) X (EKW X.K CL A W)
 rz:Lr X CL W
 xt:XT Γ.up Γ.xn CL T.rzs T.exs X.K X.mg
 gl:∀ p∈T.gls,MB X.K X.mg CL p.1 (Γ.G p.2)
theorem NO:∀ A,Kg (CXR X.prog X.w) X (EKW X.K CL A W0):=fun A pI σ H s ev s' I h=>by
 obtain⟨e,T,cls,dx,H',_,_,_,_,_,_,_,_,_,_,x,_,w⟩:=h;exact w.elim
theorem OF:Lr X CL W0:=fun _ _ _ _ _ _ _ _ _ _ _ _ _ _ z=>z.elim
def Rf{α:Type}(g f:Rho->R α):Prop:=∀ ρ,g ρ=.bad\/g ρ=f ρ
section
variable{X:Cx}{CL:ClA}{W:XW}{a:Ap}{f g:Rho->R D}
theorem SE.ref(h:SE X CL W a f)(r:Rf g f):SE X CL W a g:=fun A=>PE.weak (h A) fun σ H Q ⟨hA,ρ,q,p⟩=>⟨hA,ρ,q,by
 rcases r ρ with e|e
 ·rw[e]at p;exact p.elim
 ·rw[e]at p;exact p⟩
theorem SB.ref{f g:Rho->R Ao}(h:SB X CL W a f)(r:Rf g f):SB X CL W a g:=fun A=>PT.weak (h A) fun σ H Q ⟨hA,ρ,q,p⟩=>⟨hA,ρ,q,by
 rcases r ρ with e|e
 ·rw[e]at p;exact p.elim
 ·rw[e]at p;exact p⟩
theorem SW.ref{f g:Rho->R Ao}(h:SW X CL W a f)(r:Rf g f):SW X CL W a g:=fun A=>PW.weak (h A) fun σ H Q ⟨hA,ρ,q,p⟩=>⟨hA,ρ,q,by
 rcases r ρ with e|e
 ·rw[e]at p;exact p.elim
 ·rw[e]at p;exact p⟩
theorem SC.ref(h:SC X CL W fr a f)(r:Rf g f):SC X CL W fr a g:=fun A=>PE.weak (h A) fun σ H Q ⟨hA,ρ,q,p⟩=>⟨hA,ρ,q,by
 rcases r ρ with e|e
 ·rw[e]at p;exact p.elim
 ·rw[e]at p;exact p⟩
theorem SS.ref{st:A9}{f g:Rho->O}(h:SS X CL W st f)(r:∀ ρ,g ρ=.bad\/g ρ=f ρ):SS X CL W st g:=fun Fz B=>PS.weak (h Fz B) fun D σ H ⟨ρ,x,p⟩=>⟨ρ,x,by
 rcases r ρ with e|e
 ·rw[e]at p;exact p.elim
 ·rw[e]at p;exact p⟩
end
theorem Jk:∀{l:Ad Ah},Kc l=Ab->l.Nodup
 |[],_=>HF
 |x::xs,h=>by
  unfold Kc at h;simp only[Ak,Bp,Uj,nL]at h;exact List.nodup_cons.mpr ⟨h.1,Jk h.2⟩
section
variable{T:Tc}{X:Cx}{Γ:Gam}{CL:ClA}{k:Ag}{W:XW}
theorem QX(h:OE T x=Ab):Vis T.sc x:=by
 unfold OE at h;split at h
 ·exact .inl (by assumption)
 ·exact .inr (.inl (by assumption))
 ·exact .inr (.inr (by assumption))
 ·cases h
theorem K9(h:IS T x=Ab):Loc T.sc x:=by
 unfold IS at h;split at h
 ·exact .inl (by assumption)
 ·exact .inr (by assumption)
 ·cases h
theorem G8(h:Hj x=Ab):(x==("__debug__" : Ah))=Ac/\(x==("__classdict__" : Ah))=Ac/\x≠"__name__" := by
 unfold Hj at h;simp only[Ak,Bp]at h;exact⟨h.1.1,h.1.2,fun e=>by subst e;exact absurd h.2 (by simp)⟩
theorem Ma{i:Ag}(v:VX Γ CL k W T X)(h:isV T x i=Ab):PE X (.Name x pos) (Go i):=by
 unfold isV at h;simp only[Ak,AW]at h;obtain⟨h2,h3,_⟩:=G8 h.2;exact Mk (by rw[v.N];exact h.1.1) (by rw[v.sc];exact QX h.1.2) h2 h3
theorem G7(v:VX Γ CL k W T X)(h:isB T x=Ab):Gl X x/\X.mg x=Ae/\x≠"__name__"/\(x==("__debug__" : Ah))=Ac:=by
 unfold isB glB at h;simp only[Ak,AW,Uj,AU]at h;obtain⟨h2,h3,h4⟩:=G8 h.2;exact⟨by show X.env.scope.names.lookup x=_;rw[v.sc];exact h.1.2,v.bl x h.1.1,h4,h2⟩
theorem DI{x:Ap}(h:EL x=Ab):AA (x::xs) env=(Ac,eval x env)::AA xs env:=by
 cases x<;>first|rfl|cases h
theorem XE{y:Ap}(h:NB y=Ab):Nw y:=by
 intro o i;cases y<;>first|rfl|cases h
theorem Mf{e:Ap}(h:Li e=Ab):∀ x,CN e env x=pure x:=by
 intro x;cases e<;>first|rfl|cases h
theorem K3{e:Ap}{t:An Ap}(h:Js e=Ab):Di e t l env=pure Ac:=by
 cases e<;>first|rfl|cases h
theorem Q1{e:Ap}(h:JW e=Ab):∀ whole,HK e env whole=(do let v <-whole;IV e.pos;holding [v] (truthy v)):=by
 intro whole;cases e<;>first|rfl|cases h
theorem V7(v:VX Γ CL k W T X)(scope:B9):relabel scope X.env=Od T.sc scope:=by
 unfold relabel Od;have:∀ n,X.env.kindOf n=T.sc.names.lookup n:=fun n=>by show X.env.scope.names.lookup n=_;rw[v.sc]
 simp only[this,v.sc]
theorem N9{N':Ad Ah}(v:VX Γ CL k W T X)(h:Lq T scope ts N'=Ab):BlockOk X scope N' ts/\N'.Nodup/\scope.kind=.function:=by
 unfold Lq at h;simp only[Ak,AW,C4,Ce,GQ,KA]at h;obtain⟨⟨⟨⟨⟨h1,h2⟩,h4⟩,h5⟩,h6⟩,h7⟩:=h;have at7:∀ i x,N'[i]?=Aa x->i∈ts\/((scope.names.lookup x≠Aa .local/\scope.names.lookup x≠Aa .cell)/\(scope.names.lookup x≠Aa .free\/T.N[i]?=Aa x)):=fun i x e=>by
  have hi:=(A7.mp e).1;have:=h7 i (BA.mpr hi);rcases this with z|z
  ·exact .inl (by simpa using z)
  ·rw[e]at z;simp only[Ak,GQ,KA,Ce,AW]at z;exact .inr z
 refine⟨⟨h1,h2,fun y hy hl=>by rw[h2 y hy,hl],fun y hy hf=>?_,by rw[v.N];exact h5,fun i x e hf hn=>?_,fun i x e hl=>?_⟩,Jk h6,h1⟩
 ·rw[v.sc];rcases h4 y hy with (z|z)|z
  ·exact absurd hf z
  ·exact .inl z
  ·exact .inr z
 ·rw[v.N];rcases at7 i x e with z|⟨_,z⟩
  ·exact absurd z hn
  ·exact z.resolve_left fun q=>q hf
 ·rcases at7 i x e with z|⟨z,_⟩
  ·exact z
  ·exact hl.elim (fun q=>absurd q z.1) (fun q=>absurd q z.2)
theorem VX.blk{xs:Ad Ah}{cl:Ad (Ah×Aj)}{s:Ar}{fp:Ad Aj}(v:VX Γ CL k W T X)(h:Lq T scope ts (Kn ts xs T.N)=Ab):VX Γ CL k W0 (T.blk scope ts xs) (cxC X scope cl C (Kn ts xs T.N) s H fp):=by
 obtain⟨_,h2,h3⟩:=N9 v h;exact⟨V7 v scope,h3,rfl,h2,v.calm,v.room,v.bl,v.fn,PassesOwn.never,NO,OF,v.xt,v.gl⟩
theorem YE{t:Ag}(v:VX Γ CL k W T X)(hfn:scope.names.lookup x=Aa .cell->X.fn x=Ab)(h:tgO T scope t x=Ab):PG X (.Name x pos) (EN t):=by
 unfold tgO at h;simp only[Ak,Ce,AW]at h;rcases h with ⟨h1,h2|h2⟩
 ·exact K8 (by rw[v.N];exact v.nd) (by rw[v.N];exact h1) (by rw[v.sc];exact .inl h2) (.inr (by rw[v.sc];exact h2))
 ·exact K8 (by rw[v.N];exact v.nd) (by rw[v.N];exact h1) (by rw[v.sc];exact .inr h2.1) (.inl (hfn h2.2))
theorem MN{y:Ap}{r:Ad Ap}{zs:Ad Ah}(h:EM (y::r)=Aa zs):∃ x p ws,y=.Name x p/\EM r=Aa ws/\zs=x::ws:=by
 cases y with
 |Name x p=>
  have h':(EM r).map (x :: ·)=Aa zs:=h;cases e:EM r with
  |none=>rw[e]at h';cases h'
  |some ws=>rw[e]at h';cases h';exact⟨x,p,ws,rfl,rfl,rfl⟩
 |_=>cases h
theorem M3(x:Ah)(p:AM)(r:Ad Ap)(env:B5):B2 (.Name x p::r) env=(Ac,assign (.Name x p) env)::B2 r env:=rfl
theorem ML:∀(ys:Ad Ap)(zs:Ad Ah),EM ys=Aa zs->(B2 ys env).length=ys.length/\(B2 ys env).findIdx? (·.1)=Ae/\(B2 ys env).map (·.2)=ys.map fun y=>assign y env:=by
 intro ys
 induction ys with
 |nil=>intro _ _;exact⟨rfl,rfl,rfl⟩
 |cons y r ih=>
  intro zs h;obtain⟨x,p,ws,rfl,e,rfl⟩:=MN h;obtain⟨h1,h2,h3⟩:=ih ws e;rw[M3];refine⟨?_,?_,?_⟩
  ·rw[Bs,Bs,h1]
  ·rw[List.findIdx?_cons,h2];simp
  ·rw[CH,CH,h3]
theorem YI(v:VX Γ CL k W T X):∀(ys:Ad Ap)(ts:Ad Ag)(zs:Ad Ah),EM ys=Aa zs->tgB T ts zs=Ab->PGs X ys (ts.foldr (fun t u=>Ha (EN t) u) Hh)/\ts.length=ys.length:=by
 intro ys
 induction ys with
 |nil=>
  intro ts zs e h;cases e;cases ts with
  |nil=>exact⟨QS,rfl⟩
  |cons t ts=>cases h
 |cons y r ih=>
  intro ts zs e h;obtain⟨x,p,ws,rfl,e2,rfl⟩:=MN e;cases ts with
  |nil=>cases h
  |cons t ts=>
   have h':(T.N[t]? == Aa x&&T.sc.names.lookup x==Aa .local&&tgB T ts ws)=Ab:=h;simp only[Ak,AW]at h';obtain⟨h1,h2⟩:=ih ts ws e2 h'.2;exact⟨Qt (K8 (by rw[v.N];exact v.nd) (by rw[v.N];exact h'.1.1) (by rw[v.sc];exact .inl h'.1.2) (.inr (by rw[v.sc];exact h'.1.2))) h1 (by rw[M3];rfl),congrArg (· + 1) h2⟩
theorem YH(v:VX Γ CL k W T X)(hn:(EM ys).isSome=Ab)(h:tgB T ts (tgN ys)=Ab):PG X (.Tuple ys kk pos) (Ko X.K ts.length (ts.foldr (fun t u=>Ha (EN t) u) Hh)):=by
 cases e:EM ys with
 |none=>rw[e]at hn;cases hn
 |some zs=>
  have e2:tgN ys=zs:=by unfold tgN;rw[e];rfl
  rw[e2]at h;obtain⟨h1,h2⟩:=YI v ys ts zs e h;obtain⟨h3,h4,_⟩:=ML (env:=X.env) ys zs e;exact NN v.calm h1 (by rw[h3,h2]) h4
end
noncomputable def Es.len:Es->Ag
 |.nil=>0
 |.cons _ es=>es.len+1
theorem LZ(Γ:Gam)(ρ:Rho):∀(es:Es)(ds:Ad D),evA Γ ρ es=.ok ds->ds.length=es.len
 |.nil,ds,h=>by cases h;rfl
 |.cons e es,ds,h=>by
  obtain⟨x,h1,h2⟩:=Jd (Qd Γ ρ e es ▸ h);obtain⟨xs,h3,h4⟩:=Jd h2;cases h4;exact congrArg (· + 1) (LZ Γ ρ es xs h3)
theorem K2(Γ:Gam)(ρ:Rho):∀(es:Es)(ds:Ad D),evB Γ ρ es=.ok ds->ds.length=es.len
 |.nil,ds,h=>by cases h;rfl
 |.cons e es,ds,h=>by
  obtain⟨x,h1,h2⟩:=Jd (Nm Γ ρ e es ▸ h);obtain⟨xs,h3,h4⟩:=Jd h2;cases h4;exact congrArg (· + 1) (K2 Γ ρ es xs h3)
theorem R1(Γ:Gam)(ρ:Rho)(e:E)(h:shE ρ e=Ab):top ρ e (evE Γ ρ e)=evE Γ ρ e:=by
 cases e with
 |var i=>
  show Em ρ i=Fs ρ i;have h':shV ρ i=Ab:=h;unfold shV at h';unfold Em Fs;cases q:ρ[i]? with
  |none=>rfl
  |some x=>
   cases x with
   |none=>rfl
   |some y=>
    obtain⟨d,o⟩:=y;cases o with
    |true=>rw[q]at h';cases h'
    |false=>rfl
 |_=>rfl
theorem Lf(Γ:Gam)(ρ:Rho):∀(es:Es),Hf ρ es=Ab->evB Γ ρ es=evA Γ ρ es
 |.nil,_=>rfl
 |.cons e es,h=>by
  simp only[Wb,Ak]at h;rw[Qd,Nm,R1 Γ ρ e h.1,Lf Γ ρ es h.2]
theorem NX(Γ:Gam)(c:E):Rf (fun ρ=>evE Γ ρ c) (fun ρ=>top ρ c (evE Γ ρ c)):=fun ρ=>by
 by_cases h:shE ρ c=Ab
 ·exact .inr (R1 Γ ρ c h).symm
 ·cases c with
  |var i=>
   refine .inl ?_;show Fs ρ i=.bad;have h':¬ shV ρ i=Ab:=h;unfold shV at h';unfold Fs;cases q:ρ[i]? with
   |none=>rfl
   |some x=>
    cases x with
    |none=>rfl
    |some y=>
     obtain⟨d,o⟩:=y;cases o with
     |true=>rfl
     |false=>rw[q]at h';exact absurd rfl h'
  |_=>exact absurd rfl h
def Pcs(X:Cx)(CL:ClA)(W:XW)(e:Ap)(f:Rho->R D):Prop:=∃ tg iter elt ifs scope pos N' ts fi fc fe as g,e=.ListComp elt [⟨tg,iter,ifs,0⟩] scope pos/\BlockOk X scope N' ts/\SI X CL W tg iter fi/\GG X.K CL ts as g /\
 (∀ cl C s H fp,PG (cxC X scope cl C N' s H fp) tg g)/\(∀ cl C s H fp,STs (cxC X scope cl C N' s H fp) CL ifs fc)/\(∀ cl C s H fp,SE (cxC X scope cl C N' s H fp) CL W0 elt fe)/\(∀ x,CN iter X.env x=pure x) /\
 ∀ ρ,f ρ=(fi ρ).bind fun xs=>(noX (BF (fun x=>(as x ρ).bind fc) (fun x=>(as x ρ).bind fe) xs)).bind fun ys=>.ok (.lst ys)
theorem Pcs.sc{e:Ap}{f:Rho->R D}(hc:X.calm=Ab)(h:Pcs X CL W e f):SC X CL W Ab e f:=by
 obtain⟨tg,iter,elt,ifs,scope,pos,N',ts,fi,fc,fe,as,g,rfl,B,hi,hGG,hg,ht,he,hs,ef⟩:=h;exact SC.congr (Yl hc B hi hGG hg ht he hs) ef
structure OkE (Γ:Gam) (CL:ClA) (W:XW) (X:Cx) (e:Ap) (c:E):Prop where
 se:SE X CL W e (fun ρ=>evE Γ ρ c)
 st:ST X CL W e (fun ρ=>top ρ c (evE Γ ρ c))
 nw:DY Γ c=Ab->SC X CL W Ab e (fun ρ=>evE Γ ρ c)
 cp:Js e=Ac->Pcs X CL W e (fun ρ=>evE Γ ρ c)
section
variable{Γ:Gam}{CL:ClA}{W:XW}{X:Cx}{e:Ap}{c:E}
theorem Ev(h:SE X CL W e (fun ρ=>evE Γ ρ c))(ht:∀ ρ r,top ρ c r=r)(hn:DY Γ c=Ac)(hc:Js e=Ab):OkE Γ CL W X e c:=
 ⟨h,by simp only[ht];exact h.st,fun z=>absurd z (by rw[hn];decide),fun z=>absurd z (by rw[hc];decide)⟩
theorem NP(h:SC X CL W Ab e (fun ρ=>evE Γ ρ c))(ht:∀ ρ r,top ρ c r=r)(hc:Js e=Ab):OkE Γ CL W X e c:=
 ⟨h.se,by simp only[ht];exact h.se.st,fun _=>h,fun z=>absurd z (by rw[hc];decide)⟩
theorem SD(hc:X.calm=Ab)(h:Pcs X CL W e (fun ρ=>evE Γ ρ c))(ht:∀ ρ r,top ρ c r=r):OkE Γ CL W X e c:=
 ⟨(h.sc hc).se,by simp only[ht];exact(h.sc hc).se.st,fun _=>h.sc hc,fun _=>h⟩
end
theorem kT{k:Ki}(h:On k=Aa x):∃ T,tyK k=Aa T/\CY x=Aa (.type T):=by
 cases k<;>simp only[On]at h<;>cases h
 ·exact⟨_,rfl,PyProof.Rows.boot_int⟩
 ·exact⟨_,rfl,PyProof.Rows.boot_bool⟩
 ·exact⟨_,rfl,PyProof.Rows.boot_str⟩
 ·exact⟨_,rfl,UM⟩
 ·exact⟨_,rfl,UN⟩
structure Snd (Γ:Gam) (CL:ClA) (k:Ag) (n:Ag):Prop where
 e:∀(W:XW)(T:Tc)(X:Cx)(x:Ap)(c:E),VX Γ CL k W T X->Bk n T x c=Ab->OkE Γ CL W X x c
 b:∀(W:XW)(T:Tc)(X:Cx)(x:Ap)(c:E),VX Γ CL k W T X->IR n T x c=Ab->SB X CL W x (fun ρ=>(top ρ c (evE Γ ρ c)).bind BJ)
 bs:∀(W:XW)(T:Tc)(X:Cx)(xs:Ad Ap)(es:Es)(pos:AM),VX Γ CL k W T X->chkBs n T xs es=Ab->xs≠[]->SW X CL W (.BoolOp .And xs pos) (fun ρ=>(evN Γ ρ es).bind BJ)/\SW X CL W (.BoolOp .Or xs pos) (fun ρ=>(evO Γ ρ es).bind BJ)
 es:∀(W:XW)(T:Tc)(X:Cx)(xs:Ad Ap)(es:Es),VX Γ CL k W T X->chkEs n T xs es=Ab->SA X CL W xs (fun ρ=>evA Γ ρ es)/\SAT X CL W xs (fun ρ=>evB Γ ρ es)/\xs.length=es.len/\(∀ pos,xs≠[]->SE X CL W (.BoolOp .And xs pos) (fun ρ=>evN Γ ρ es)/\SE X CL W (.BoolOp .Or xs pos) (fun ρ=>evO Γ ρ es))/\(∀ pos,(B8 pos (AA xs X.env)).any (·.1)=Ac)
 o:∀(W:XW)(T:Tc)(X:Cx)(x:An Ap)(c:E),VX Γ CL k W T X->chkO n T x c=Ab->SO X CL W x (fun ρ=>(top ρ c (evE Γ ρ c)).bind (slE c))
 t:∀(T:Tc)(X:Cx)(xs:Ad Ap)(c:E),VX Γ CL k W0 T X->chkT n T xs c=Ab->STs X CL xs (fun ρ=>(top ρ c (evE Γ ρ c)).bind BJ)
 i:∀(W:XW)(T:Tc)(X:Cx)(tu:Ao)(tg x:Ap)(i:I),VX Γ CL k W T X->Th tu tg=Ab->chkI n T tu x i=Ab->SI X CL W tg x (fun ρ=>evI Γ ρ i)
section
variable{Γ:Gam}{CL:ClA}{W:XW}{k n:Ag}{T:Tc}{X:Cx}
theorem XD:Snd Γ CL k 0:=⟨fun _ _ _ _ _ _ h=>absurd (show Ac=Ab from h) As,fun _ _ _ _ _ _ h=>absurd (show Ac=Ab from h) As,fun _ _ _ _ _ _ _ h=>absurd (show Ac=Ab from h) As,fun _ _ _ _ _ _ h=>absurd (show Ac=Ab from h) As,fun _ _ _ _ _ _ h=>absurd (show Ac=Ab from h) As,fun _ _ _ _ _ h=>absurd (show Ac=Ab from h) As,fun _ _ _ _ _ _ _ _ _ h=>absurd (show Ac=Ab from h) As⟩
theorem OZ{x:Ap}(h:EL x=Ab)(hx:(B8 pos (AA xs env)).any (·.1)=Ac):(B8 pos (AA (x::xs) env)).any (·.1)=Ac:=by
 rw[DI h];show (Ac||(B8 pos (AA xs env)).any (·.1))=Ac;rw[hx];rfl
theorem aP(S:Snd Γ CL k n)(W:XW)(T:Tc)(X:Cx)(xs:Ad Ap)(es:Es)(v:VX Γ CL k W T X)(h:chkEs (n+1) T xs es=Ab):SA X CL W xs (fun ρ=>evA Γ ρ es)/\SAT X CL W xs (fun ρ=>evB Γ ρ es)/\xs.length=es.len/\(∀ pos,xs≠[]->SE X CL W (.BoolOp .And xs pos) (fun ρ=>evN Γ ρ es)/\SE X CL W (.BoolOp .Or xs pos) (fun ρ=>evO Γ ρ es))/\(∀ pos,(B8 pos (AA xs X.env)).any (·.1)=Ac):=by
 cases xs with
 |nil=>
  cases es with
  |nil=>exact⟨RF,QO,rfl,fun _ z=>absurd rfl z,fun _=>rfl⟩
  |cons=>simp[chkEs]at h
 |cons x xs=>
  cases es with
  |nil=>simp[chkEs]at h
  |cons e es=>
   simp only[chkEs,Ak]at h;obtain⟨⟨h0,h1⟩,h2⟩:=h;have he:=S.e W T X x e v h1;obtain⟨a1,a2,a3,a4,a5⟩:=S.es W T X xs es v h2;refine⟨QP he.se a1 (DI h0),Qn he.st a2 (DI h0),congrArg (· + 1) a3,fun pos _=>?_,fun pos=>OZ h0 (a5 pos)⟩
   cases xs with
   |nil=>
    cases es with
    |nil=>exact⟨NQ he.se,NQ he.se⟩
    |cons=>cases a3
   |cons y ys=>
    cases es with
    |nil=>cases a3
    |cons e' es'=>
     obtain⟨b1,b2⟩:=a4 pos (by simp)
     exact⟨RB he.se b1,hV he.se b2⟩
theorem gN(S:Snd Γ CL k n)(W:XW)(T:Tc)(X:Cx)(x:An Ap)(c:E)(v:VX Γ CL k W T X)(h:chkO (n+1) T x c=Ab):SO X CL W x (fun ρ=>(top ρ c (evE Γ ρ c)).bind (slE c)):=by
 cases x with
 |none=>
  simp only[chkO]at h;split at h
  ·exact Ye
  ·cases h
 |some x=>
  simp only[chkO]at h;split at h
  ·cases h
  ·rename_i hne;have q:=Yd (S.e W T X x c v h).st;have e:slE c=fun d=>(Ez d).bind fun i=>.ok (Aa i):=by
    funext d
    cases c<;>first|rfl|exact absurd rfl hne
   rw[e];exact q
theorem gL(S:Snd Γ CL k n)(T:Tc)(X:Cx)(xs:Ad Ap)(c:E)(v:VX Γ CL k W0 T X)(h:chkT (n+1) T xs c=Ab):STs X CL xs (fun ρ=>(top ρ c (evE Γ ρ c)).bind BJ):=by
 cases xs with
 |nil=>
  simp only[chkT]at h;split at h
  ·exact X2
  ·cases h
 |cons x xs=>
  cases xs with
  |nil=>
   simp only[chkT]at h;exact X1 (S.b W0 T X x c v h)
  |cons y ys=>simp[chkT]at h
theorem iX(S:Snd Γ CL k n)(W:XW)(T:Tc)(X:Cx)(tu:Ao)(tg x:Ap)(i:I)(v:VX Γ CL k W T X)(ht':Th tu tg=Ab)(h:chkI (n+1) T tu x i=Ab):SI X CL W tg x (fun ρ=>evI Γ ρ i):=by
 have ht:tu=Ab->jB tg=Ab:=fun z=>by
  subst z;cases tg<;>first|rfl|cases ht'
 cases i with
 |e a=>
  simp only[chkI]at h;exact lP (S.e W T X x a v h).se
 |rng a=>
  simp only[chkI]at h;split at h
  ·simp only[Ak,AW]at h;obtain⟨⟨⟨rfl,h1⟩,h2⟩,h3⟩:=h;obtain⟨g1,g2,_,_⟩:=G7 v h1;exact bA (S.e W T X _ a v h3).st g1 g2 (DI h2)
  ·cases h
 |rng2 a b=>
  simp only[chkI]at h;split at h
  ·simp only[Ak,AW]at h;obtain⟨⟨⟨⟨⟨rfl,h1⟩,h2⟩,h3⟩,h4⟩,h5⟩:=h;obtain⟨g1,g2,_,_⟩:=G7 v h1;exact Yh (S.e W T X _ a v h4).st (S.e W T X _ b v h5).st g1 g2 (by rw[DI h2,DI h3];rfl) (by rw[DI h3];rfl)
  ·cases h
 |zip a b=>
  simp only[chkI]at h;split at h
  ·simp only[Ak,AW]at h;obtain⟨⟨⟨⟨⟨⟨h0,rfl⟩,h1⟩,h2⟩,h3⟩,h4⟩,h5⟩:=h;obtain⟨g1,g2,_,_⟩:=G7 v h1;have hg:=ht h0;cases tg with
   |Tuple es m tpos=>exact aZ (S.e W T X _ a v h4).se (S.e W T X _ b v h5).se g1 g2 (by rw[DI h2,DI h3];rfl) (by rw[DI h3];rfl)
   |_=>cases hg
  ·cases h
 |zip3 a b c=>simp[chkI]at h
 |enm a=>
  simp only[chkI]at h;split at h
  ·simp only[Ak,AW]at h;obtain⟨⟨⟨⟨h0,rfl⟩,h1⟩,h2⟩,h3⟩:=h;obtain⟨g1,g2,_,_⟩:=G7 v h1;have hg:=ht h0;cases tg with
   |Tuple es m tpos=>exact Yi (S.e W T X _ a v h3).se g1 g2 (DI h2)
   |_=>cases hg
  ·cases h
theorem J5{c:Prop}[Dg c]{b:Ao}:(if c then R.ok (D.bl b) else .bad)=.bad\/∃ b',(if c then R.ok (D.bl b) else .bad)=.ok (.bl b'):=by
 by_cases h:c
 ·rw[Aw h];exact .inr ⟨_,rfl⟩
 ·rw[Az h];exact .inl rfl
theorem XI(op:D0)(d d':D):BR op d d'=.bad\/∃ b,BR op d d'=.ok (.bl b):=by
 cases op with
 |Eq=>exact J5
 |NotEq=>exact J5
 |In=>
  cases d' with
  |lst ys=>exact J5
  |tup ys=>exact J5
  |dic kvs=>
   show (match IT d with|some k=>R.ok (D.bl (kvs.any fun p=>p.1==k))|none=>.bad)=.bad\/∃ b,(match IT d with|some k=>R.ok (D.bl (kvs.any fun p=>p.1==k))|none=>.bad)=.ok (.bl b)
   cases IT d with
   |some k=>exact .inr ⟨_,rfl⟩
   |none=>exact .inl rfl
  |_=>cases d<;>exact .inl rfl
 |NotIn=>
  cases d' with
  |lst ys=>exact J5
  |tup ys=>exact J5
  |_=>cases d<;>exact .inl rfl
 |Is=>
  cases d' with
  |non=>cases d<;>first|exact .inr ⟨_,rfl⟩|exact .inl rfl
  |_=>cases d<;>first|exact .inl rfl|exact .inr ⟨_,rfl⟩
 |IsNot=>
  cases d' with
  |non=>cases d<;>first|exact .inr ⟨_,rfl⟩|exact .inl rfl
  |_=>cases d<;>first|exact .inl rfl|exact .inr ⟨_,rfl⟩
 |_=>
  cases d with
  |int i=>cases d'<;>first|exact .inr ⟨_,rfl⟩|exact .inl rfl
  |_=>exact .inl rfl
theorem Rk(op:D0)(d d':D):(BR op d d').bind BJ=.bad\/(BR op d d').bind BJ=(BR op d d').bind Dl:=by
 rcases XI op d d' with h|⟨b,h⟩
 ·rw[h];exact .inl rfl
 ·rw[h];exact .inr rfl
theorem Rw(e e':E)(es:Es):Rf (fun ρ=>(evN Γ ρ (.cons e (.cons e' es))).bind BJ) (fun ρ=>((top ρ e (evE Γ ρ e)).bind BJ).bind fun c=>if c=Ab then (evN Γ ρ (.cons e' es)).bind BJ else .ok Ac):=fun ρ=>by
 have e0:evN Γ ρ (.cons e (.cons e' es))=(evE Γ ρ e).bind fun x=>(Dl x).bind fun c=>if c=Ab then evN Γ ρ (.cons e' es) else .ok (.bl Ac):=rfl
 dsimp only;rw[e0];rcases NX Γ e ρ with z|z<;>dsimp only at z
 ·rw[z];exact .inl rfl
 ·rw[<-z];cases evE Γ ρ e with
  |bad=>exact .inl rfl
  |exn x=>exact .inr rfl
  |ok d=>
   cases d with
   |bl b=>cases b<;>exact .inr rfl
   |_=>exact .inl rfl
theorem Rv(e e':E)(es:Es):Rf (fun ρ=>(evO Γ ρ (.cons e (.cons e' es))).bind BJ) (fun ρ=>((top ρ e (evE Γ ρ e)).bind BJ).bind fun c=>if c=Ab then .ok Ab else (evO Γ ρ (.cons e' es)).bind BJ):=fun ρ=>by
 have e0:evO Γ ρ (.cons e (.cons e' es))=(evE Γ ρ e).bind fun x=>(Dl x).bind fun c=>if c=Ab then .ok (.bl Ab) else evO Γ ρ (.cons e' es):=rfl
 dsimp only;rw[e0];rcases NX Γ e ρ with z|z<;>dsimp only at z
 ·rw[z];exact .inl rfl
 ·rw[<-z];cases evE Γ ρ e with
  |bad=>exact .inl rfl
  |exn x=>exact .inr rfl
  |ok d=>
   cases d with
   |bl b=>cases b<;>exact .inr rfl
   |_=>exact .inl rfl
theorem Rf.tru(e:E):Rf (fun ρ=>(evE Γ ρ e).bind BJ) (fun ρ=>(top ρ e (evE Γ ρ e)).bind BJ):=fun ρ=>by
 rcases NX Γ e ρ with z|z<;>dsimp only at z ⊢
 ·rw[z];exact .inl rfl
 ·rw[<-z];exact .inr rfl
theorem aQ(S:Snd Γ CL k n)(W:XW)(T:Tc)(X:Cx)(xs:Ad Ap)(es:Es)(pos:AM)(v:VX Γ CL k W T X)(h:chkBs (n+1) T xs es=Ab)(hne:xs≠[]):SW X CL W (.BoolOp .And xs pos) (fun ρ=>(evN Γ ρ es).bind BJ)/\SW X CL W (.BoolOp .Or xs pos) (fun ρ=>(evO Γ ρ es).bind BJ):=by
 cases xs with
 |nil=>exact absurd rfl hne
 |cons x xs=>
  cases es with
  |nil=>simp[chkBs]at h
  |cons e es=>
   simp only[chkBs,Ak]at h;obtain⟨h1,h2⟩:=h;have he:=S.b W T X x e v h1;cases xs with
   |nil=>
    cases es with
    |nil=>exact⟨SW.ref (Q2 he) (Rf.tru e),SW.ref (R6 he) (Rf.tru e)⟩
    |cons=>
     cases n with
     |zero=>simp[chkBs]at h2
     |succ n=>simp[chkBs]at h2
   |cons y ys=>
    cases es with
    |nil=>
     cases n with
     |zero=>simp[chkBs]at h2
     |succ n=>simp[chkBs]at h2
    |cons e' es'=>
     obtain⟨b1,b2⟩:=S.bs W T X (y::ys) (.cons e' es') pos v h2 (by simp)
     exact⟨SW.ref (R7 he b1) (Rw e e' es'),SW.ref (So he b2) (Rv e e' es')⟩
theorem YD(S:Snd Γ CL k n){x:Ap}{ops:Ad D0}{b:BI}(v:VX Γ CL k W T X)(h:TH T (Bk n) x ops ys b as=Ab):SB X CL W (.Compare x ops ys pos) (fun ρ=>(top ρ (.bi b as) (evE Γ ρ (.bi b as))).bind BJ):=by
 exact absurd (show Ac=Ab from h) As
theorem iZ(S:Snd Γ CL k n)(W:XW)(T:Tc)(X:Cx)(x:Ap)(c:E)(v:VX Γ CL k W T X)(h:IR (n+1) T x c=Ab):SB X CL W x (fun ρ=>(top ρ c (evE Γ ρ c)).bind BJ):=by
 have plain:∀ e,JW e=Ab->Bk n T e c=Ab->SB X CL W e (fun ρ=>(top ρ c (evE Γ ρ c)).bind BJ):=fun e h1 h2=>RD (S.e W T X e c v h2).st (Q1 h1)
 simp only[IR]at h;split at h
 ·split at h
  ·rename_i a;refine SB.ref (RE (S.b W T X _ a v h)) fun ρ=>?_
   show ((top ρ a (evE Γ ρ a)).bind fun x=>(Dl x).bind fun b=>.ok (.bl (!b))).bind BJ=.bad\/((top ρ a (evE Γ ρ a)).bind fun x=>(Dl x).bind fun b=>.ok (.bl (!b))).bind BJ=_
   cases top ρ a (evE Γ ρ a) with
   |bad=>exact .inl rfl
   |exn x=>exact .inr rfl
   |ok d=>cases d<;>first|exact .inr rfl|exact .inl rfl
  ·cases h
 ·split at h
  ·simp only[Ak,Bp,Cz]at h;exact(S.bs W T X _ _ _ v h.1 h.2).1.sb
  ·cases h
 ·split at h
  ·simp only[Ak,Bp,Cz]at h;exact(S.bs W T X _ _ _ v h.1 h.2).2.sb
  ·cases h
 ·split at h
  ·split at h
   ·rename_i op a b _ _ op' y;simp only[Ak,Bp,AU]at h;obtain⟨⟨⟨rfl,h1⟩,h2⟩,h3⟩:=h;refine SB.ref (aK (JY v.room.units _) (S.e W T X _ a v h2).st (S.e W T X _ b v h3).st h1) fun ρ=>?_
    show ((top ρ a (evE Γ ρ a)).bind fun x=>(top ρ b (evE Γ ρ b)).bind fun y=>BR op' x y).bind BJ=.bad\/((top ρ a (evE Γ ρ a)).bind fun x=>(top ρ b (evE Γ ρ b)).bind fun y=>BR op' x y).bind BJ=_
    cases top ρ a (evE Γ ρ a) with
    |bad=>exact .inl rfl
    |exn x=>exact .inr rfl
    |ok d=>
     cases top ρ b (evE Γ ρ b) with
     |bad=>exact .inl rfl
     |exn x=>exact .inr rfl
     |ok d'=>
      dsimp only[R.bind];exact Rk _ d d'
   ·cases h
  ·split at h
   ·rename_i op1 op2 a b c _ _ o1 o2 y z;simp only[Ak,Bp,AU]at h;obtain⟨⟨⟨⟨⟨rfl,rfl⟩,h1⟩,h2⟩,h3⟩,h4⟩:=h;refine SB.ref (WZ v.room.units (S.e W T X _ a v h2).st (S.e W T X _ b v h3).st (S.e W T X _ c v h4).st h1) fun ρ=>?_
    show ((top ρ a (evE Γ ρ a)).bind fun x=>(top ρ b (evE Γ ρ b)).bind fun y=>(BR o1 x y).bind fun z=>(Dl z).bind fun k=>if k=Ab then (top ρ c (evE Γ ρ c)).bind fun u=>BR o2 y u else .ok (.bl Ac)).bind BJ=.bad\/((top ρ a (evE Γ ρ a)).bind fun x=>(top ρ b (evE Γ ρ b)).bind fun y=>(BR o1 x y).bind fun z=>(Dl z).bind fun k=>if k=Ab then (top ρ c (evE Γ ρ c)).bind fun u=>BR o2 y u else .ok (.bl Ac)).bind BJ=_
    cases top ρ a (evE Γ ρ a) with
    |bad=>exact .inl rfl
    |exn x=>exact .inr rfl
    |ok d=>
     cases top ρ b (evE Γ ρ b) with
     |bad=>exact .inl rfl
     |exn x=>exact .inr rfl
     |ok d'=>
      dsimp only[R.bind];cases BR o1 d d' with
      |bad=>exact .inl rfl
      |exn x=>exact .inr rfl
      |ok d3=>
       cases d3 with
       |bl k=>
        cases k with
        |false=>exact .inr rfl
        |true=>
         dsimp only[R.bind,Dl];rw[Aw rfl,Aw rfl];cases top ρ c (evE Γ ρ c) with
         |bad=>exact .inl rfl
         |exn x=>exact .inr rfl
         |ok d4=>exact Rk _ d' d4
       |_=>exact .inl rfl
   ·cases h
  ·exact YD S v h
  ·cases h
 ·simp only[Ak]at h;exact plain _ h.1 h.2
end
section
variable{Γ:Gam}{CL:ClA}{W:XW}{k n:Ag}{T:Tc}{X:Cx}
theorem kU{b:BI}{x:Ap}(v:VX Γ CL k W T X)(hb:Oo b=Aa g)(hg:isB T g=Ab)(hs:SAT X CL W (x::xs) (fun ρ=>evB Γ ρ as))(h0:EL x=Ab)(hpl:∀ pos,(B8 pos (AA xs X.env)).any (·.1)=Ac):OkE Γ CL W X (.Call (.Name g p) (x::xs) [] pos) (.bi b as):=by
 obtain⟨g1,g2,g3,g4⟩:=G7 v hg;cases b<;>simp only[Oo]at hb<;>cases hb
 ·exact Ev (Kb fD g1 g2 PySem.boot_len hs g3 g4 (DI h0) hpl) (fun _ _=>rfl) rfl rfl
 ·exact Ev (Kb (fC v.calm) g1 g2 PyProof.Rows.boot_max hs g3 g4 (DI h0) hpl) (fun _ _=>rfl) rfl rfl
 ·exact Ev (Kb (fB v.calm) g1 g2 PyProof.Rows.boot_min hs g3 g4 (DI h0) hpl) (fun _ _=>rfl) rfl rfl
 ·exact NP (aW Z1 g1 g2 UM hs g3 g4 (DI h0) hpl) (fun _ _=>rfl) rfl
 ·exact Ev (aJ XM g1 g2 UN hs g3 g4 (DI h0) hpl) (fun _ _=>rfl) rfl rfl
 ·exact Ev (Kb (fF v.calm) g1 g2 PyProof.Rows.boot_all hs g3 g4 (DI h0) hpl) (fun _ _=>rfl) rfl rfl
 ·exact Ev (Kb (fE v.calm) g1 g2 PyProof.Rows.boot_any hs g3 g4 (DI h0) hpl) (fun _ _=>rfl) rfl rfl
 ·exact Ev (Kb (fA v.calm) g1 g2 PyProof.Rows.boot_sum hs g3 g4 (DI h0) hpl) (fun _ _=>rfl) rfl rfl
theorem Ld{l:Ad (Ah×Ag)}(h:inX l g c=Ab):(g,c)∈l:=by
 unfold inX at h;simp only[Ep,Ak,AW]at h;obtain⟨p,hp,rfl,rfl⟩:=h;exact hp
theorem JU{x:Ap}{es:Es}(h:chkEs n T (x::xs) es=Ab):EL x=Ab/\∃ e es',es=.cons e es'/\∃ m,n=m+1/\chkEs m T xs es'=Ab:=by
 cases n with
 |zero=>simp[chkEs]at h
 |succ m=>
  cases es with
  |nil=>simp[chkEs]at h
  |cons e es=>
   simp only[chkEs,Ak]at h;exact⟨h.1.1,e,es,rfl,m,rfl,h.2⟩
theorem KP:∀(m:Ag)(xs:Ad Ap)(es:Es),chkEs m T xs es=Ab->∀ pos,(B8 pos (AA xs X.env)).any (·.1)=Ac:=by
 intro m
 induction m with
 |zero=>intro xs es h;simp[chkEs]at h
 |succ m ih=>
  intro xs es h pos;cases xs with
  |nil=>rfl
  |cons x xs=>
   obtain⟨h0,e,es',rfl,m',e1,h1⟩:=JU h;cases e1;exact OZ h0 (ih xs es' h1 pos)
theorem dH(S:Snd Γ CL k n){x:Ap}{b:BI}(v:VX Γ CL k W T X)(h:(match OO as with|some a=>(match Tl x with|some y=>decide (b=.rvs)&&Bk n T y a|none=>Ac)|none=>Ac)=Ab):OkE Γ CL W X x (.bi b as):=by
 simp[OO]at h
theorem aL(S:Snd Γ CL k n){x:Ap}{b:BI}(v:VX Γ CL k W T X)(h:(match Ot as with|some (a,c)=>(match TK x with|some (y,z,_)=>decide (b=.tlt) && !behindInMarks .Lt z&&Bk n T y a&&Bk n T z c|none=>Ac)|none=>Ac)=Ab):OkE Γ CL W X x (.bi b as):=by
 simp[Ot]at h
theorem eP{x:Ap}{b:BI}(v:VX Γ CL k W T X)(h:T4 T x b as=Ab):OkE Γ CL W X x (.bi b as):=by
 exact absurd h As
theorem aN(S:Snd Γ CL k n){x:Ap}{b:BI}(v:VX Γ CL k W T X)(h:(match Ou as with|some (a,k)=>(match Tj x with|some (y,j)=>decide (b=.stp)&&decide (j=k)&&decide (0<=k)&&Bk n T y a|none=>Ac)|none=>Ac)=Ab):OkE Γ CL W X x (.bi b as):=by
 simp[Ou]at h
theorem dE(S:Snd Γ CL k n){x:Ap}{b:BI}(v:VX Γ CL k W T X)(h:(match Oy as with|some (a,c)=>(match Tg x with|some (g,h,y,z)=>decide (b=.list)&&g==("list" : Ah)&&h==("range" : Ah)&&isB T g&&isB T h&&EL y&&EL z&&Bk n T y a&&Bk n T z c|none=>Ac)|none=>Ac)=Ab):OkE Γ CL W X x (.bi b as):=by
 simp[Oy]at h
theorem YZ(S:Snd Γ CL k n){x:Ap}{b:BI}(v:VX Γ CL k W T X)(h:(match Ow as with|some a=>(match Tf x with|some (g,h,y)=>decide (b=.lset)&&g==("len" : Ah)&&h==("set" : Ah)&&isB T g&&isB T h&&EL y&&Bk n T y a|none=>Ac)|none=>Ac)=Ab):OkE Γ CL W X x (.bi b as):=by
 simp[Ow]at h
theorem iY(S:Snd Γ CL k n)(W:XW)(T:Tc)(X:Cx)(x:Ap)(c:E)(v:VX Γ CL k W T X)(h:Bk (n+1) T x c=Ab):OkE Γ CL W X x c:=by
 cases c with
 |non=>
  unfold Bk at h;dsimp only at h;split at h
  ·exact Ev bD (fun _ _=>rfl) rfl rfl
  ·cases h
 |bl b=>
  unfold Bk at h;dsimp only at h;split at h
  ·have e:=eq_of_beq h;subst e;exact Ev Si (fun _ _=>rfl) rfl rfl
  ·cases h
 |int i=>
  unfold Bk at h;dsimp only at h;split at h
  ·have e:=Eb h;subst e;exact Ev aG (fun _ _=>rfl) rfl rfl
  ·cases h
 |str i=>
  unfold Bk at h;dsimp only at h;split at h
  ·have e:=Eb h;subst e;exact Ev Sc (fun _ _=>rfl) rfl rfl
  ·cases h
 |var i=>
  unfold Bk at h;dsimp only at h;split at h
  ·exact⟨Sb (Ma v h),Ka (Ma v h),fun z=>(nomatch z),fun z=>(nomatch z)⟩
  ·cases h
 |glob g=>exact absurd (show Ac=Ab from h) As
 |bin op a b=>
  unfold Bk at h;dsimp only at h;split at h
  ·simp only[Ak,AU]at h;obtain⟨⟨rfl,h1⟩,h2⟩:=h;have ha:=(S.e W T X _ a v h1).st;have hb:=(S.e W T X _ b v h2).st;refine⟨Se (QE _) ha hb,(Se (QE _) ha hb).st,fun z=>?_,fun z=>nomatch z⟩
   rename_i op' _ _;cases op'<;>first|exact aX ha hb|cases z
  ·cases h
 |un op a=>exact absurd (show Ac=Ab from h) As
 |no a=>
  unfold Bk at h;dsimp only at h;split at h
  ·exact Ev (Sd (S.e W T X _ a v h).st) (fun _ _=>rfl) rfl rfl
  ·cases h
 |and es=>
  unfold Bk at h;dsimp only at h;split at h
  ·simp only[Ak,Bp,Cz]at h;exact Ev ((S.es W T X _ es v h.1).2.2.2.1 _ h.2).1 (fun _ _=>rfl) rfl rfl
  ·cases h
 |or es=>
  unfold Bk at h;dsimp only at h;split at h
  ·simp only[Ak,Bp,Cz]at h;exact Ev ((S.es W T X _ es v h.1).2.2.2.1 _ h.2).2 (fun _ _=>rfl) rfl rfl
  ·cases h
 |cmp op a b=>
  unfold Bk at h;dsimp only at h;split at h
  ·simp only[Ak,Bp,AU]at h;obtain⟨⟨⟨rfl,h1⟩,h2⟩,h3⟩:=h;exact Ev (aI (JY v.room.units _) (S.e W T X _ a v h2).st (S.e W T X _ b v h3).st h1) (fun _ _=>rfl) rfl rfl
  ·cases h
 |cmp2 op1 op2 a b c=>
  unfold Bk at h;dsimp only at h;split at h
  ·simp only[Ak,Bp,AU]at h;obtain⟨⟨⟨⟨⟨rfl,rfl⟩,h1⟩,h2⟩,h3⟩,h4⟩:=h;exact Ev (XG v.room.units (S.e W T X _ a v h2).st (S.e W T X _ b v h3).st (S.e W T X _ c v h4).st h1) (fun _ _=>rfl) rfl rfl
  ·cases h
 |ite c a b=>exact absurd (show Ac=Ab from h) As
 |call f as=>
  unfold Bk at h;dsimp only at h;split at h
  ·rename_i g pp y ys qq;simp only[Ak,Ep,AW,AU]at h;obtain⟨⟨⟨⟨⟨p,hp,⟨rfl,rfl⟩,hl⟩,h900⟩,h1⟩,h2⟩,h3⟩:=h;obtain⟨fa,fd,ps,m1,m2,m3,m4,m5,_⟩:=v.fn p hp;have hlt:p.2.2<1000:=by omega
   rw[GZ hlt]at m4 m5;have m5:=m5 hlt;obtain⟨n2,n3,n4⟩:=G8 h2;obtain⟨a1,a2,a3,a4,a5⟩:=S.es W T X _ as v h3;obtain⟨s0,e,es',rfl,m,rfl,s1⟩:=JU h3;have q:SC X CL W (Γ.fr p.2.1) (.Call (.Name p.1 pp) (y::ys) [] qq) (fun ρ=>evE Γ ρ (.call p.2.1 (.cons e es'))):=Ym (sh:=fun ρ=>Hf ρ (.cons e es')) m5 v.room (by unfold glB at h1;show X.env.scope.names.lookup p.1=_;rw[v.sc];exact eq_of_beq h1) m1 m2 m3 v.px a1 a2 (fun ρ z=>Lf Γ ρ _ z) (fun ρ ds z=>by rw[K2 Γ ρ _ _ z,<-a3,hl];rfl) n2 (DI s0) (KP m ys es' s1)
   exact⟨q.se,q.se.st,fun z=>by
    have z':Γ.fr p.2.1=Ab:=z;rw[z']at q;exact q,fun z=>nomatch z⟩
  ·cases h
 |bi b as=>
  unfold Bk at h;dsimp only at h;simp only[Ce]at h;rcases h with (((((h|h)|h)|h)|h)|h)|h
  ·split at h
   ·simp only[Ak,AW]at h;obtain⟨⟨h1,h2⟩,h3⟩:=h;obtain⟨s0,e,es',rfl,m,rfl,s1⟩:=JU h3;exact kU v h1 h2 (S.es W T X _ _ v h3).2.1 s0 (KP m _ es' s1)
   ·cases h
  ·exact eP v h
  ·exact dE S v h
  ·exact aN S v h
  ·exact YZ S v h
  ·exact aL S v h
  ·exact dH S v h
 |isi a ks=>
  cases ks with
  |nil=>exact absurd (show Ac=Ab from h) As
  |cons k' ks=>
   cases ks with
   |cons=>exact absurd (show Ac=Ab from h) As
   |nil=>
    unfold Bk at h;dsimp only at h;split at h
    ·simp only[Ak,AW]at h;obtain⟨⟨⟨⟨⟨rfl,h1⟩,h2⟩,h3⟩,h4⟩,h5⟩:=h;obtain⟨g1,g2,_,_⟩:=G7 v h1;obtain⟨b1,b2,b3,b4⟩:=G7 v h3;obtain⟨ty,t1,t2⟩:=kT h2;exact Ev (aE t1 g1 g2 b1 b2 t2 b3 b4 (S.e W T X _ a v h5).st (DI h4)) (fun _ _=>rfl) rfl rfl
    ·cases h
 |idx a i=>
  unfold Bk at h;dsimp only at h;split at h
  ·simp only[Ak]at h;obtain⟨⟨h1,h2⟩,h3⟩:=h;exact Ev (aH (XE h1) (S.e W T X _ a v h2).st (S.e W T X _ i v h3).st) (fun _ _=>rfl) rfl rfl
  ·cases h
 |sl a lo hi=>
  unfold Bk at h;dsimp only at h;split at h
  ·simp only[Ak]at h;obtain⟨⟨h1,h2⟩,h3⟩:=h;refine NP (SC.congr (jA (S.e W T X _ a v h1).st (S.o W T X _ lo v h2) (S.o W T X _ hi v h3)) fun ρ=>?_) (fun _ _=>rfl) rfl
   show ((top ρ a (evE Γ ρ a)).bind fun x=>(top ρ lo (evE Γ ρ lo)).bind fun l=>(slE lo l).bind fun l'=>(top ρ hi (evE Γ ρ hi)).bind fun h=>(slE hi h).bind fun h'=>slD x l' h')=_
   simp only[R.bind_assoc]
  ·cases h
 |tup es=>
  unfold Bk at h;dsimp only at h;split at h
  ·simp only[Ak,AU]at h;have q:=S.es W T X _ es v h.1;exact Ev (bB q.1 fun ρ ds z=>by rw[LZ Γ ρ _ _ z,<-q.2.2.1];omega) (fun _ _=>rfl) rfl rfl
  ·cases h
 |lst es=>
  unfold Bk at h;dsimp only at h;split at h
  ·simp only[Ak,AU]at h;have q:=S.es W T X _ es v h.1;exact NP (aV q.1 fun ρ ds z=>by rw[LZ Γ ρ _ _ z,<-q.2.2.1];omega) (fun _ _=>rfl) rfl
  ·cases h
 |comp elt t it c=>
  unfold Bk at h;dsimp only at h;split at h
  ·simp only[Ak]at h;obtain⟨⟨⟨⟨⟨h1,h2⟩,h3⟩,h4⟩,h5⟩,h6⟩:=h;refine SD v.calm ⟨_,_,_,_,_,_,_,_,_,_,_,_,_,rfl,(N9 v h3).1,S.i W T X Ac _ _ it v rfl h1,YK t,fun cl C s H fp=>YE (v.blk h3) (fun z=>AW.mpr z) h4,fun cl C s H fp=>S.t _ _ _ c (v.blk h3) h5,fun cl C s H fp=>(S.e W0 _ _ _ elt (v.blk h3) h6).se,Mf h2,fun ρ=>rfl⟩ (fun _ _=>rfl)
  ·cases h
 |compT elt ts it c=>
  unfold Bk at h;dsimp only at h;split at h
  ·simp only[Ak]at h;obtain⟨⟨⟨⟨⟨⟨h0,h1⟩,h2⟩,h3⟩,h4⟩,h5⟩,h6⟩:=h;refine SD v.calm ⟨_,_,_,_,_,_,_,_,_,_,_,_,_,rfl,(N9 v h3).1,S.i W T X Ab _ _ it v rfl h1,fO ts,fun cl C s H fp=>YH (v.blk h3) h0 h4,fun cl C s H fp=>S.t _ _ _ c (v.blk h3) h5,fun cl C s H fp=>(S.e W0 _ _ _ elt (v.blk h3) h6).se,Mf h2,fun ρ=>rfl⟩ (fun _ _=>rfl)
  ·cases h
 |tupI it=>exact absurd (show Ac=Ab from h) As
 |dnew=>exact absurd (show Ac=Ab from h) As
 |fld o f=>exact absurd (show Ac=Ab from h) As
theorem snd:∀ n,Snd Γ CL k n
 |0=>XD
 |n+1=>⟨iY (snd n),iZ (snd n),aQ (snd n),aP (snd n),gN (snd n),gL (snd n),iX (snd n)⟩
end
section
variable{Γ:Gam}{CL:ClA}{W:XW}{k n:Ag}{T:Tc}{X:Cx}
theorem YG{t:Ag}(v:VX Γ CL k W T X)(hf:∀ x,X.fn x=Ab)(h:tgC T [t] [x]=Ab):PG X (.Name x pos) (EN t):=by
 unfold tgC at h;simp only[Ak,AW]at h;exact K8 (by rw[v.N];exact v.nd) (by rw[v.N];exact h.1.1) (by rw[v.sc];exact K9 h.1.2) (.inl (hf x))
theorem Q0(v:VX Γ CL k W T X)(hf:∀ x,X.fn x=Ab):∀(ys:Ad Ap)(ts:Ad Ag)(zs:Ad Ah),EM ys=Aa zs->tgC T ts zs=Ab->PGs X ys (ts.foldr (fun t u=>Ha (EN t) u) Hh)/\ts.length=ys.length:=by
 intro ys
 induction ys with
 |nil=>
  intro ts zs e h;cases e;cases ts with
  |nil=>exact⟨QS,rfl⟩
  |cons t ts=>cases h
 |cons y r ih=>
  intro ts zs e h;obtain⟨x,p,ws,rfl,e2,rfl⟩:=MN e;cases ts with
  |nil=>cases h
  |cons t ts=>
   have h':(T.N[t]? == Aa x&&IS T x&&tgC T ts ws)=Ab:=h;simp only[Ak,AW]at h';obtain⟨h1,h2⟩:=ih ts ws e2 h'.2;exact⟨Qt (K8 (by rw[v.N];exact v.nd) (by rw[v.N];exact h'.1.1) (by rw[v.sc];exact K9 h'.1.2) (.inl (hf x))) h1 (by rw[M3];rfl),congrArg (· + 1) h2⟩
theorem YF(v:VX Γ CL k W T X)(hf:∀ x,X.fn x=Ab)(hn:(EM ys).isSome=Ab)(h:tgC T ts (tgN ys)=Ab):PG X (.Tuple ys kk pos) (Ko X.K ts.length (ts.foldr (fun t u=>Ha (EN t) u) Hh)):=by
 cases e:EM ys with
 |none=>rw[e]at hn;cases hn
 |some zs=>
  have e2:tgN ys=zs:=by unfold tgN;rw[e];rfl
  rw[e2]at h;obtain⟨h1,h2⟩:=Q0 v hf ys ts zs e h;obtain⟨h3,h4,_⟩:=ML (env:=X.env) ys zs e;exact NN v.calm h1 (by rw[h3,h2]) h4
theorem aM(v:VX Γ CL k W T X)(hf:∀ x,X.fn x=Ab)(hn:(EM ys).isSome=Ab)(h:tgC T ts (tgN ys)=Ab):PG X (.Tuple ys kk pos) (gSq X.K ts.length (ts.foldr (fun t u=>Ha (EN t) u) Hh)):=by
 cases e:EM ys with
 |none=>rw[e]at hn;cases hn
 |some zs=>
  have e2:tgN ys=zs:=by unfold tgN;rw[e];rfl
  rw[e2]at h;obtain⟨h1,h2⟩:=Q0 v hf ys ts zs e h;obtain⟨h3,h4,_⟩:=ML (env:=X.env) ys zs e;exact kJ v.calm h1 (by rw[h3,h2]) h4
theorem bS{e:Ap}(h:(SG e||C7 4 ys.length)=Ab):FE [.Tuple ys kk pos] e env=pure Ae:=by
 cases e with
 |Tuple vs a b=>
  have h4:=Ee (show C7 4 ys.length=Ab from h)
  have e2:(ys.length==2)=Ac:=by rw[Do];omega
  have e3:(ys.length==3)=Ac:=by rw[Do];omega
  unfold FE;dsimp only;rw[e2,e3];rfl
 |_=>rfl
theorem Pw(ts:Ad Ag):∀ d ρ x,FO ts d ρ≠.exn x:=fun d ρ x h=>by
 unfold FO at h;cases d with
 |tup xs=>
  dsimp only at h;cases e:Eu ts xs ρ with
  |some r=>rw[e]at h;cases h
  |none=>rw[e]at h;cases h
 |_=>cases h
theorem Ws(ts:Ad Ag):∀ d ρ x,Hy ts d ρ≠.exn x:=fun d ρ x h=>by
 unfold Hy at h;split at h
 ·split at h<;>cases h
 ·exact Pw ts _ ρ x h
theorem XA{elt:Ap}{gs:Ad Comprehension}:∃ b,Di (.ListComp elt gs scope pos) (Aa (.Name x pos')) l env=pure b/\(b=Ab->env.scope.names.lookup x=Aa .local):=by
 refine⟨_,rfl,fun h=>?_⟩
 simp only[Ak,AW]at h;exact h.1.1.2
theorem NR{v0:Ap}{i:Ag}{e:E}(v:VX Γ CL k W T X)(hf:∀ x,X.fn x=Ab)(hi:T.N[i]?=Aa x)(hl:IS T x=Ab)(o:OkE Γ CL W X v0 e)(hfr:fr=Ab->DY Γ e=Ab):SAs X CL W fr i (.Assign [.Name x p] v0 pos) (fun ρ=>evE Γ ρ e):=by
 have hN:X.N.Nodup:=by rw[v.N];exact v.nd
 have hi':X.N[i]?=Aa x:=by rw[v.N];exact hi
 have hx:Loc X.env.scope x:=by rw[v.sc];exact K9 hl
 have sc:SC X CL W fr v0 (fun ρ=>evE Γ ρ e):=by
  cases fr with
  |false=>exact o.se.sc
  |true=>exact o.nw (hfr rfl)
 cases hc:Js v0 with
 |true=>exact SC.sas hN hi' hx sc (K3 hc) (.inl (hf x))
 |false=>
  obtain⟨tg,iter,elt,ifs,scope,pos2,N',ts,fi,fc,fe,as,g,rfl,B,h2,hGG,hg,ht,he,hs,ef⟩:=o.cp hc;obtain⟨b,hb,hb'⟩:=XA (elt:=elt) (gs:=[⟨tg,iter,ifs,0⟩]) (scope:=scope) (pos:=pos2) (pos':=p) (x:=x) (l:=pos.line) (env:=X.env);cases b with
  |false=>exact SC.sas hN hi' hx sc hb (.inl (hf x))
  |true=>
   have q:=W1 (pos2:=pos) v.calm B h2 hGG hg ht he hs hN hi' (hb' rfl) hb;have q':SAs X CL W Ab i (.Assign [.Name x p] (.ListComp elt [⟨tg,iter,ifs,0⟩] scope pos2) pos) (fun ρ=>evE Γ ρ e):=by
    have:(fun ρ=>evE Γ ρ e)=_:=funext ef
    rw[this];exact q
   cases fr with
   |true=>exact q'
   | false=>exact fun A=>PS.weak (q' A) fun D σ H ⟨hA,ρ,gd,z⟩=>⟨hA,ρ,gd,by
     dsimp only at z ⊢;cases e0:evE Γ ρ e with
     |ok d=>
      rw[e0]at z;exact fun v' H' s' r'=>z v' H' s' ⟨r'.1,fun _=>r'.2 rfl⟩
     |exn y=>rw[e0]at z;exact z
     | bad=>rw[e0]at z;exact z⟩
theorem QJ{e t:Ap}(h:∀ x p,t≠.Name x p):GB [t] e l env=pure Ac:=by
 show Di e (Aa t) l env=pure Ac;cases e<;>first|rfl|(cases t<;>first|rfl|exact absurd rfl (h _ _))
theorem PM(ρ:Rho)(e:E)(h:∀ i,e≠.var i):evS Γ ρ (.ret e)=O.of ρ (evE Γ ρ e) fun d=>.ret d (DY Γ e):=by
 cases e<;>first|exact absurd rfl (h _)|(simp only[evS,top,T9])
structure DefX (X:Cx):Prop where
 fn:∀ x,X.fn x=Ab
 ex:X.ex=[]
 st:X.stack=X.env::X.outer
 fm:X.env.frame=Aa X.env.locals
structure SndS (Γ:Gam) (CL:ClA) (k:Ag) (n:Ag):Prop where
 s:∀(W:XW)(T:Tc)(X:Cx)(x:A9)(c:S),VX Γ CL k W T X->DefX X->FU n T x c=Ab->SS X CL W x (fun ρ=>evS Γ ρ c)
 ss:∀(W:XW)(T:Tc)(X:Cx)(x:Ad A9)(c:Ss),VX Γ CL k W T X->DefX X->chkSs n T x c=Ab->SSs X CL W x (fun ρ=>evSs Γ ρ c)
theorem LQ(Γ:Gam)(ρ:Rho)(e:E)(h:Ms e=Ab)(y:Ex):top ρ e (evE Γ ρ e)≠.exn y:=by
 cases e with
 |var i=>
  intro z;have z':Em ρ i=.exn y:=z;unfold Em at z';split at z'<;>cases z'
 |int i=>intro z;cases z
 |bl i=>intro z;cases z
 |str i=>intro z;cases z
 |non=>intro z;cases z
 |_=>cases h
theorem Na(Γ:Gam)(ρ:Rho):∀(es:Es),Kl es=Ab->∀ y,evB Γ ρ es≠.exn y
 |.nil,_,y=>fun z=>by cases z
 |.cons e es,h,y=>fun z=>by
  unfold Kl at h;rw[Ak]at h;rw[Nm]at z;cases e1:top ρ e (evE Γ ρ e) with
  |bad=>rw[e1]at z;cases z
  |exn w=>exact LQ Γ ρ e h.1 w e1
  |ok d=>
   rw[e1,R.bind_ok]at z;cases e2:evB Γ ρ es with
   |bad=>rw[e2]at z;cases z
   |exn w=>exact Na Γ ρ es h.2 w e2
   |ok ds=>rw[e2]at z;cases z
theorem VX.pw(v:VX Γ CL k W T X)(own:E4 (model X.prog X.w) X.A X.env Xw):VX Γ CL k W0 T (Cx.pw X pI Xw):=⟨v.sc,v.kd,v.N,v.nd,v.calm,v.room,v.bl,v.fn,own,NO,OF,v.xt,v.gl⟩
theorem Pe(o:O):(o.seq fun ρ'=>O.next ρ')=o:=by cases o<;>rfl
theorem STB.congr{st:Ad A9}{f g:Rho->O}(h:STB X CL st f)(e:∀ ρ,g ρ=f ρ):STB X CL st g:=by
 have:g=f:=funext e;rw[this];exact h
theorem R4(Sn:Snd Γ CL k n)(v:VX Γ CL k W T X)(hf:DefX X){st:A9}{s:S}(h:Mc n T st s=Ab):STB X CL [st] (fun ρ=>evSs Γ ρ (.cons s .nil))/\∀ ρ y ρ',evSs Γ ρ (.cons s .nil)=.exn y ρ'->ρ'=ρ:=by
 have seq:∀ ρ,evSs Γ ρ (.cons s .nil)=evS Γ ρ s:=fun ρ=>Pe _
 have ofn:∀{r:R D}{f:D->Rho}{ρ ρ':Rho}{y:Ex},(O.of ρ r fun d=>O.next (f d))=.exn y ρ'->ρ'=ρ:=fun {r f ρ ρ' y} z=>by
  cases r with
  |ok d=>cases z
  |exn w=>cases z;rfl
  |bad=>cases z
 have call:∀{e:Ap}{f:Ag}{as:Es},Bk n T e (.call f as)=Ab->Kl as=Ab->∃ g pp y ys qq,e=.Call (.Name g pp) (y::ys) [] qq/\∃ p∈T.fns,g=p.1/\f=p.2.1/\p.2.2=ys.length+1/\ys.length<900/\glB T g=Ab/\Hj g=Ab/\∃ m,n=m+1/\chkEs m T (y::ys) as=Ab:=fun {e f as} h _=>by
  cases n with
  |zero=>exact absurd (show Ac=Ab from h) As
  |succ m=>
   unfold Bk at h;dsimp only at h;split at h
   ·rename_i g pp y ys qq;simp only[Ak,Ep,AW,AU]at h;obtain⟨⟨⟨⟨⟨p,hp,⟨e1,e2⟩,hl⟩,h900⟩,h1⟩,h2⟩,h3⟩:=h;exact⟨g,pp,y,ys,qq,rfl,p,hp,e1.symm,e2.symm,hl,h900,h1,h2,m,rfl,h3⟩
   ·cases h
 unfold Mc at h;split at h
 ·split at h
  ·rename_i f as v0 pos;rw[Ak]at h;obtain⟨g,pp,y,ys,qq,rfl,p,hp,rfl,rfl,hl,h900,h1,h2,m,rfl,h3⟩:=call h.1 h.2;obtain⟨fa,fd,ps,m1,m2,m3,m4,m5,_⟩:=v.fn p hp;have hlt:p.2.2<1000:=by omega
   rw[GZ hlt]at m4 m5;have m5:=m5 hlt;obtain⟨n2,n3,n4⟩:=G8 h2;obtain⟨s0,e,es',rfl,m',rfl,s1⟩:=JU h3;have hlen:ys.length+1=(Es.cons e es').len:=(snd (Γ:=Γ) (CL:=CL) (k:=k) (m'+1)).es W T X _ _ v h3 |>.2.2.1;refine⟨STB.congr (XB (X:=X) (fs:=fun ρ=>evA Γ ρ (.cons e es')) (sh:=fun ρ=>Hf ρ (.cons e es')) hf.ex m5 v.room (by unfold glB at h1;show X.env.scope.names.lookup p.1=_;rw[v.sc];exact eq_of_beq h1) m1 m2 m3 (fun ρ z=>Lf Γ ρ _ z) (fun ρ ds z=>by rw[K2 Γ ρ _ _ z,<-hlen,hl]) (fun ρ=>Na Γ ρ _ h.2) n2 (DI s0) (KP m' ys es' s1) (fun pI Xw own=>by
    obtain⟨a1,a2,_⟩:=(snd (Γ:=Γ) (CL:=CL) (k:=k) (m'+1)).es W0 T (Cx.pw X pI Xw) _ _ (v.pw own) h3;exact⟨a1,a2⟩) (K3 rfl)) fun ρ=>seq ρ,fun ρ y ρ' z=>?_⟩
   rw[seq]at z;exact ofn (f:=fun _=>ρ) z
  ·cases h
 ·split at h
  ·skip
   rename_i i f as st0 y0 p0 v0 pos;simp only[Ak,AW]at h;obtain⟨⟨⟨i1,i2⟩,hc⟩,hsim⟩:=h;obtain⟨g,pp,y,ys,qq,rfl,p,hp,rfl,rfl,hl,h900,h1,h2,m,rfl,h3⟩:=call hc hsim;obtain⟨fa,fd,ps,m1,m2,m3,m4,m5,_⟩:=v.fn p hp;have hlt:p.2.2<1000:=by omega
   rw[GZ hlt]at m4 m5;have m5:=m5 hlt;obtain⟨n2,n3,n4⟩:=G8 h2;obtain⟨s0,e,es',rfl,m',rfl,s1⟩:=JU h3;have hlen:ys.length+1=(Es.cons e es').len:=(snd (Γ:=Γ) (CL:=CL) (k:=k) (m'+1)).es W T X _ _ v h3 |>.2.2.1;refine⟨STB.congr (X4 (X:=X) (fs:=fun ρ=>evA Γ ρ (.cons e es')) (sh:=fun ρ=>Hf ρ (.cons e es')) (i:=i) hf.ex m5 v.room (by unfold glB at h1;show X.env.scope.names.lookup p.1=_;rw[v.sc];exact eq_of_beq h1) m1 m2 m3 (fun ρ z=>Lf Γ ρ _ z) (fun ρ ds z=>by rw[K2 Γ ρ _ _ z,<-hlen,hl]) (fun ρ=>Na Γ ρ _ hsim) n2 (DI s0) (KP m' ys es' s1) (fun pI Xw own=>by
    obtain⟨a1,a2,_⟩:=(snd (Γ:=Γ) (CL:=CL) (k:=k) (m'+1)).es W0 T (Cx.pw X pI Xw) _ _ (v.pw own) h3;exact⟨a1,a2⟩) (by rw[v.N];exact v.nd) (by rw[v.N];exact i1) (by rw[v.sc];exact K9 i2) (.inl (hf.fn _)) (K3 rfl)) fun ρ=>seq ρ,fun ρ y ρ' z=>?_⟩
   rw[seq]at z;exact ofn (f:=fun d=>ρ.set i (Aa (d,Ac))) z
  ·cases h
 ·cases h
theorem J3{c:Prop}[Dg c]{e:Ex}:(if c then R.ok d else .bad)≠.exn e:=by
 by_cases h:c
 ·rw[Aw h];intro z;cases z
 ·rw[Az h];intro z;cases z
theorem Z2(op:D0)(x y:D)(e:Ex):BR op x y≠.exn e:=by
 cases op with
 |Eq=>exact J3
 |NotEq=>exact J3
 |In=>
  cases y with
  |lst ys=>exact J3
  |tup ys=>exact J3
  |dic kvs=>
   intro z;have z':(match IT x with|some k=>R.ok (D.bl (kvs.any fun p=>p.1==k))|none=>.bad)=.exn e:=z
   cases h:IT x with
   |none=>rw[h]at z';cases z'
   |some k=>rw[h]at z';cases z'
  |_=>intro z;cases z
 |NotIn=>
  cases y with
  |lst ys=>exact J3
  |tup ys=>exact J3
  |_=>intro z;cases z
 |_=>cases x<;>first|(intro z;cases z;done)|(cases y<;>(intro z;cases z))
theorem YC(x:D)(e:Ex):BJ x≠.exn e:=by
 unfold BJ;split<;>first|(intro z;cases z;done)|(split<;>intro z<;>cases z)
theorem Qm(Γ:Gam)(ρ:Rho)(c:E)(h:OH c=Ab)(y:Ex):(top ρ c (evE Γ ρ c)).bind BJ≠.exn y:=by
 have key:∀ e,top ρ c (evE Γ ρ c)≠.exn e:=by
  cases c with
  |var i=>exact LQ Γ ρ (.var i) rfl
  |cmp op a b=>
   unfold OH at h;rw[Ak]at h;intro e z;have z':((top ρ a (evE Γ ρ a)).bind fun x=>(top ρ b (evE Γ ρ b)).bind fun y=>BR op x y)=.exn e:=by
    have e0:evE Γ ρ (.cmp op a b)=((top ρ a (evE Γ ρ a)).bind fun x=>(top ρ b (evE Γ ρ b)).bind fun y=>BR op x y):=ZR Γ ρ op a b
    rw[<-e0];exact z
   cases e1:top ρ a (evE Γ ρ a) with
   |bad=>rw[e1]at z';cases z'
   |exn w=>exact LQ Γ ρ a h.1 w e1
   |ok d=>
    rw[e1,R.bind_ok]at z';cases e2:top ρ b (evE Γ ρ b) with
    |bad=>rw[e2]at z';cases z'
    |exn w=>exact LQ Γ ρ b h.2 w e2
    |ok d2=>rw[e2,R.bind_ok]at z';exact Z2 _ _ _ _ z'
  |_=>cases h
 intro z;cases e1:top ρ c (evE Γ ρ c) with
 |bad=>rw[e1]at z;cases z
 |exn w=>exact key w e1
 |ok d=>rw[e1,R.bind_ok]at z;exact YC _ _ z
theorem Sj(Sn:Snd Γ CL k n)(v:VX Γ CL k W T X)(hf:DefX X):∀(m:Ag){st:A9}{s:S},Jy m n T st s=Ab->STB X CL [st] (fun ρ=>evSs Γ ρ (.cons s .nil))/\∀ ρ y ρ',evSs Γ ρ (.cons s .nil)=.exn y ρ'->ρ'=ρ:=by
 intro m
 induction m with
 |zero=>intro st s h;unfold Jy at h;exact R4 Sn v hf h
 |succ m ih=>
  intro st s h;unfold Jy at h;rw[Ce]at h;rcases h with h|h
  ·exact R4 Sn v hf h
  ·split at h
   ·split at h
    ·rename_i c a b st0 t xs ys pos;simp only[Ak]at h;obtain⟨⟨⟨h1,h2⟩,h3⟩,h4⟩:=h;obtain⟨a1,a2⟩:=ih h3;obtain⟨b1,b2⟩:=ih h4;have ev:∀ ρ,evSs Γ ρ (.cons (.ife c (.cons a .nil) (.cons b .nil)) .nil)=O.of ρ ((top ρ c (evE Γ ρ c)).bind BJ) fun k=>if k=Ab then evSs Γ ρ (.cons a .nil) else evSs Γ ρ (.cons b .nil):=fun ρ=>Pe _
     refine⟨STB.congr (X3 (fun pI Xw own=>(Sn.b W0 T (Cx.pw X pI Xw) _ _ (v.pw own) h1)) (fun ρ y=>Qm Γ ρ c h2 y) a1 b1) fun ρ=>ev ρ,fun ρ y ρ' z=>?_⟩
     rw[ev]at z;cases e1:(top ρ c (evE Γ ρ c)).bind BJ with
     |bad=>rw[e1]at z;cases z
     |exn w=>exact absurd e1 (Qm Γ ρ c h2 w)
     |ok k=>
      rw[e1,O.of_ok]at z;cases k with
      |true=>exact a2 ρ y ρ' z
      |false=>exact b2 ρ y ρ' z
    ·cases h
   ·cases h
theorem La{i:Ag}{e:Aj}(v:VX Γ CL k W T X)(h:isV T x i=Ab):PE (Cx.hot X e) (.Name x pos) (Go i):=by
 unfold isV at h;simp only[Ak,AW]at h;obtain⟨h2,h3,_⟩:=G8 h.2;exact Mk (by show X.N[i]?=_;rw[v.N];exact h.1.1) (by show Vis X.env.scope x;rw[v.sc];exact QX h.1.2) h2 h3
theorem RN{x:Ag}{t:Ap}{c:E}:∀{n:Ag},Dx n T x t c=Ab->∀ ρ r,top ρ c r=r:=fun {n} h=>by
 cases n with
 |zero=>simp[Dx]at h
 |succ n=>
  cases c with
  |var i=>simp[Dx]at h
  |_=>exact fun _ _=>rfl
theorem XJ(v:VX Γ CL k W T X)(e:Aj):∀(ts:Ad Ap)(ks:Ad Ki),IP T ts ks=Ab->∃ cs:Ad (Ag×Aj),ks=cs.map (fun q=>Ki.cls q.1)/\cs.length=ts.length/\PA (Cx.hot X e) ts (Ti (cs.map fun q:Ag×Aj=>q.2))/\∀ q∈cs,Lh X.K CL Γ.up q.1 q.2:=by
 intro ts
 induction ts with
 |nil=>
  intro ks h;cases ks with
  |nil=>exact⟨[],rfl,rfl,GC,fun q hq=>nomatch hq⟩
  |cons k ks=>simp[IP]at h
 |cons t ts ih=>
  intro ks h;cases t with
  |Name t p=>
   cases ks with
   |nil=>simp[IP]at h
   |cons kk ks=>
    cases kk with
    |cls c=>
     simp only[IP,Ak]at h;obtain⟨⟨⟨h1,h2⟩,h3⟩,h4⟩:=h;obtain⟨cs,e1,e2,e3,e4⟩:=ih ks h4;obtain⟨C,m1,m3,_⟩:=v.xt.ex _ (Ld h1);obtain⟨n2,_,_⟩:=G8 h3;refine⟨(c,C)::cs,by rw[e1];rfl,by rw[Bs,Bs,e2],?_,fun q hq=>?_⟩
     ·exact Et (QB (X:=Cx.hot X e) (v:=.ref C) (by unfold glB at h2;show X.env.scope.names.lookup t=_;rw[v.sc];exact eq_of_beq h2) m1 rfl n2) e3 rfl
     ·rcases AB.mp hq with rfl|hq
      ·exact m3
      ·exact e4 q hq
    |_=>simp[IP]at h
  |_=>simp[IP]at h
theorem Op(v:VX Γ CL k W T X)(e:Aj)(x:Ag):∀(n:Ag)(t:Ap)(c:E),Dx n T x t c=Ab->SE (Cx.hot X e) CL W0 t (fun ρ=>evE Γ ρ c):=by
 intro n
 induction n with
 |zero=>intro t c h;simp[Dx]at h
 |succ n ih=>
  intro t c h;cases c with
  |bl b=>
   unfold Dx at h;dsimp only at h;split at h
   ·have e0:=eq_of_beq h;subst e0;exact Si
   ·cases h
  |no a=>
   unfold Dx at h;dsimp only at h;split at h
   ·have q:=(ih _ _ h).st;refine SE.congr (Sd q) fun ρ=>?_
    show ((top ρ a (evE Γ ρ a)).bind fun x=>(Dl x).bind fun b=>R.ok (D.bl (!b)))=_
    rw[RN h]
   ·cases h
  |and es=>
   cases es with
   |nil=>exact absurd (show Ac=Ab from h) As
   |cons a as=>
    cases as with
    |nil=>
     unfold Dx at h;dsimp only at h;split at h
     ·exact SE.congr (NQ (ih _ _ h)) fun ρ=>rfl
     ·cases h
    |cons a' as=>
     unfold Dx at h;dsimp only at h;split at h
     ·rw[Ak]at h;exact SE.congr (RB (ih _ _ h.1) (ih _ _ h.2)) fun ρ=>rfl
     ·cases h
  |isi a ks=>
   cases a with
   |var i=>
    cases ks with
    |nil=>exact absurd (show Ac=Ab from h) As
    |cons kk ks=>
     cases q:xC2 t with
     |none=>
      cases ks with
      |nil=>cases kk<;>first|exact absurd (show Ac=Ab from h) As|(unfold Dx at h;dsimp only at h;rw[q]at h;cases h)
      |cons k2 ks=>cases kk<;>first|exact absurd (show Ac=Ab from h) As|(unfold Dx at h;dsimp only at h;rw[q]at h;cases h)
     |some t0=>
      obtain⟨g,w,u⟩:=t0;obtain⟨pp,pq,pr,rfl⟩:=bG q;cases ks with
      |nil=>
       cases kk with
       |verr=>
        unfold Dx at h;dsimp only at h;rw[q]at h;dsimp only at h;cases q2:Fd u with
        |none=>rw[q2]at h;simp at h
        |some t1=>
         have eu:=GE q2;subst eu;rw[q2]at h;simp only[Ak,AW]at h;obtain⟨⟨⟨⟨rfl,rfl⟩,h3⟩,h4⟩,h5,h6⟩:=h;obtain⟨g1,g2,_,_⟩:=G7 v h3;obtain⟨b1,b2,_,_⟩:=G7 v h6;rw[h5]at b1 b2 ⊢;exact aC (X:=Cx.hot X e) v.xt.xc g1 g2 b1 b2 (Ka (La v h4)) rfl
       |cls c=>
        unfold Dx at h;dsimp only at h;rw[q]at h;dsimp only at h;cases q2:Fd u with
        |none=>rw[q2]at h;simp at h
        |some t1=>
         have eu:=GE q2;subst eu;rw[q2]at h;simp only[Ak,AW]at h;obtain⟨⟨⟨⟨rfl,rfl⟩,h3⟩,h4⟩,⟨h5,h6⟩,h7⟩:=h;obtain⟨g1,g2,_,_⟩:=G7 v h3;obtain⟨C,m1,m3,_⟩:=v.xt.ex _ (Ld h5);obtain⟨n2,_,_⟩:=G8 h7;exact aF (X:=Cx.hot X e) v.xt.xc g1 g2 (by unfold glB at h6;show X.env.scope.names.lookup _=_;rw[v.sc];exact eq_of_beq h6) m1 m3 n2 (Ka (La v h4)) rfl
       |_=>exact absurd (show Ac=Ab from h) As
      |cons k2 ks=>
       cases kk with
       |cls c=>
        unfold Dx at h;dsimp only at h;rw[q]at h;dsimp only at h;cases q2:OB u with
        |none=>rw[q2]at h;simp at h
        |some ts=>
         obtain⟨z1,z2,rfl⟩:=Yv q2;rw[q2]at h;simp only[Ak,AW,AU]at h;obtain⟨⟨⟨⟨rfl,rfl⟩,h3⟩,h4⟩,h5,h6⟩:=h;obtain⟨g1,g2,_,_⟩:=G7 v h3;obtain⟨cs,e1,e2,e3,e4⟩:=XJ v e _ _ h5;have hne:cs≠[]:=by rintro rfl;cases e1
         rw[e1];exact aD (X:=Cx.hot X e) (W:=W0) (up:=Γ.up) v.xt.xc g1 g2 e3 hne (by rw[e2];exact h6) e4 (Ka (La v h4)) rfl
       |_=>exact absurd (show Ac=Ab from h) As
   |_=>exact absurd (show Ac=Ab from h) As
  |call f as=>
   cases as with
   |nil=>exact absurd (show Ac=Ab from h) As
   |cons a as=>
    cases a with
    |var i=>
     cases as with
     |cons=>exact absurd (show Ac=Ab from h) As
     |nil=>
      unfold Dx at h;dsimp only at h;cases q:xC1 t with
      |none=>rw[q]at h;cases h
      |some t0=>
       obtain⟨g,w0⟩:=t0;obtain⟨p0,p1,p2,rfl⟩:=bH q;rw[q]at h;rw[Ak]at h;obtain⟨h1,h4⟩:=h;unfold TY at h1;simp only[Ak,Ep,AW]at h1;obtain⟨⟨⟨p,hp,⟨rfl,rfl⟩,hl⟩,g1⟩,g2⟩:=h1;obtain⟨fa,fd,ps,m1,m2,m3,m4,_,m5⟩:=v.fn p hp;have m5:=m5 (by omega)
       obtain⟨n2,_,_⟩:=G8 g2;have hv:=La (e:=e) (pos:=p1) v h4;have a1:SA (Cx.hot X e) CL W0 [.Name w0 p1] (fun ρ=>evA Γ ρ (.cons (.var i) .nil)):=QP (Sb hv) RF rfl
       have a2:SAT (Cx.hot X e) CL W0 [.Name w0 p1] (fun ρ=>evB Γ ρ (.cons (.var i) .nil)):=Qn (Ka hv) QO rfl
       exact(XH (X:=X) (ev:=e) (sh:=fun ρ=>Hf ρ (.cons (.var i) .nil)) m5 v.room (by unfold glB at g1;show X.env.scope.names.lookup p.1=_;rw[v.sc];exact eq_of_beq g1) m1 m2 m3 a1 a2 (fun ρ z=>Lf Γ ρ _ z) (fun ρ ds z=>by rw[K2 Γ ρ _ _ z,hl];rfl) n2 rfl (fun _=>rfl)).se
    |_=>exact absurd (show Ac=Ab from h) As
  |str s=>
   unfold Dx at h;dsimp only at h;split at h
   ·have e0:=eq_of_beq h;subst e0;exact Sc
   ·cases h
  |fld o f=>
   cases o with
   |var i=>
    unfold Dx at h;dsimp only at h;split at h
    ·simp only[Ak,AW]at h;obtain⟨⟨⟨rfl,rfl⟩,h3⟩,h4⟩:=h;exact Yj (X:=Cx.hot X e) v.xt.xc (fun c C z=>v.xt.nf c C z _ h3) (Ka (La v h4)) rfl
    ·cases h
   |_=>exact absurd (show Ac=Ab from h) As
  |_=>exact absurd (show Ac=Ab from h) As
theorem Oi(v:VX Γ CL k W T X)(e:Aj)(x n:Ag)(y:Ap)(c:E)(h:Mp n T x y c=Ab):SB (Cx.hot X e) CL W0 y (fun ρ=>(top ρ c (evE Γ ρ c)).bind BJ):=by
 have one:∀{y:Ap}{c:E},(JW y&&Dx n T x y c)=Ab->SB (Cx.hot X e) CL W0 y (fun ρ=>(top ρ c (evE Γ ρ c)).bind BJ):=fun {y c} h=>by
  rw[Ak]at h;exact SB.congr (RD ((Op v e x n y c h.2).st) (Q1 h.1)) fun ρ=>by rw[RN h.2]
 unfold Mp at h;split at h
 ·split at h
  ·rename_i a;refine SB.ref (RE (one h)) fun ρ=>?_
   show (((top ρ a (evE Γ ρ a)).bind fun x=>(Dl x).bind fun b=>R.ok (D.bl (!b))).bind BJ)=.bad\/(((top ρ a (evE Γ ρ a)).bind fun x=>(Dl x).bind fun b=>R.ok (D.bl (!b))).bind BJ)=((top ρ a (evE Γ ρ a)).bind BJ).bind fun b=>.ok (!b)
   cases top ρ a (evE Γ ρ a) with
   |ok d=>cases d<;>first|exact .inl rfl|exact .inr rfl
   |exn y=>exact .inr rfl
   |bad=>exact .inl rfl
  ·cases h
 ·exact one h
theorem fL(v:VX Γ CL k W T X)(e:Aj)(x n:Ag)(pos:AM):∀(ys:Ad Ap)(es:Es),Gk n T x ys es=Ab->ys≠[]->SW (Cx.hot X e) CL W0 (.BoolOp .Or ys pos) (fun ρ=>(evO Γ ρ es).bind BJ):=by
 intro ys
 induction ys with
 |nil=>intro es _ h;exact absurd rfl h
 |cons y ys ih=>
  intro es h _;cases es with
  |nil=>simp[Gk]at h
  |cons c es=>
   simp only[Gk,Ak]at h;obtain⟨h1,h3⟩:=h;have he:=Oi v e x n y c h1;cases ys with
   |nil=>
    cases es with
    |nil=>exact SW.ref (R6 he) (Rf.tru c)
    |cons=>simp[Gk]at h3
   |cons z zs=>
    cases es with
    |nil=>simp[Gk]at h3
    |cons c' es'=>exact SW.ref (So he (ih (.cons c' es') h3 (by simp))) (Rv c c' es')
theorem fM(v:VX Γ CL k W T X)(e:Aj)(x n:Ag)(pos:AM):∀(ys:Ad Ap)(es:Es),Gk n T x ys es=Ab->ys≠[]->SW (Cx.hot X e) CL W0 (.BoolOp .And ys pos) (fun ρ=>(evN Γ ρ es).bind BJ):=by
 intro ys
 induction ys with
 |nil=>intro es _ h;exact absurd rfl h
 |cons y ys ih=>
  intro es h _;cases es with
  |nil=>simp[Gk]at h
  |cons c es=>
   simp only[Gk,Ak]at h;obtain⟨h1,h3⟩:=h;have he:=Oi v e x n y c h1;cases ys with
   |nil=>
    cases es with
    |nil=>exact SW.ref (Q2 he) (Rf.tru c)
    |cons=>simp[Gk]at h3
   |cons z zs=>
    cases es with
    |nil=>simp[Gk]at h3
    |cons c' es'=>exact SW.ref (R7 he (ih (.cons c' es') h3 (by simp))) (Rw c c' es')
theorem lG(v:VX Γ CL k W T X)(e:Aj)(x n:Ag)(t:Ap)(c:E)(h:Oq n T x t c=Ab):SB (Cx.hot X e) CL W0 t (fun ρ=>(top ρ c (evE Γ ρ c)).bind BJ):=by
 unfold Oq at h;split at h
 ·split at h
  ·simp only[Ak,Bp,Cz]at h;exact(fL v e x n _ _ _ h.1 h.2).sb
  ·cases h
 ·split at h
  ·simp only[Ak,Bp,Cz]at h;exact(fM v e x n _ _ _ h.1 h.2).sb
  ·cases h
 ·exact Oi v e x n _ c h
theorem Mn(v:VX Γ CL k W T X)(hf:DefX X)(e:Aj)(x:Ag):∀(n:Ag)(sts:Ad A9)(ss:Ss),Hb n T x sts ss=Ab->SSs (Cx.hot X e) CL W0 sts (fun ρ=>evSs Γ ρ ss):=by
 intro n
 induction n with
 |zero=>intro t c h;simp[Hb]at h
 |succ n ih=>
  intro sts ss h;unfold Hb at h;split at h
  ·rw[Ur]at h;subst h;exact Nz
  ·split at h
   ·simp only[Ak,AW]at h;obtain⟨⟨⟨⟨h1,h2⟩,h3⟩,h4⟩,h5⟩:=h;exact LP (aS (X:=Cx.hot X e) (by show X.N.Nodup;rw[v.N];exact v.nd) (by show X.N[_]?=_;rw[v.N];exact h1) (by show Loc X.env.scope _;rw[v.sc];exact K9 h2) (Op v e x n _ _ h4) (K3 h3) (.inl (hf.fn _))) (ih _ _ h5)
   ·cases h
  ·split at h
   ·simp only[Ak]at h;obtain⟨⟨h1,h2⟩,h3⟩:=h;exact LP (Sq (X:=Cx.hot X e) (lG v e x n _ _ h1) (ih _ _ h2) Nz) (ih _ _ h3)
   ·cases h
  ·split at h
   ·rename_i e0 ss0 st0 v0 pos r;simp only[Ak]at h;obtain⟨⟨h0,h1⟩,h2⟩:=h;have q:=LP (Q4 (X:=Cx.hot X e) (pos:=pos) (Op v e x n _ _ h1)) (ih _ _ h2);have ef:(fun ρ=>evSs Γ ρ (.cons (.ret e0) ss0))=fun ρ=>(O.of ρ (evE Γ ρ e0) fun d=>O.ret d Ac).seq fun ρ=>evSs Γ ρ ss0:=by
     funext ρ
     cases e0<;>first|rfl|(cases h0;done)
    rw[ef];exact q
   ·cases h
  ·cases h
theorem Oc(v:VX Γ CL k W T X)(h:hdB T g c=Ab):MA X CL Γ.up g c:=by
 unfold hdB at h;simp only[Ak]at h;obtain⟨⟨⟨i1,i0⟩,i2⟩,i3⟩:=h;obtain⟨C,m1,m3,m4⟩:=v.xt.ex _ (Ld i1);obtain⟨C0,r1,r2⟩:=v.xt.rz _ (Ld i0);obtain⟨n2,_,_⟩:=G8 i3;refine⟨C,by unfold glB at i2;show X.env.scope.names.lookup g=_;rw[v.sc];exact eq_of_beq i2,m1,n2,?_,fun c' D hD=>m4 c' D hD⟩
 have e0:=m1.symm.trans r2;cases e0;exact v.xt.xc _ _ r1
theorem gM(Z:SndS Γ CL k n)(W:XW)(T:Tc)(X:Cx)(st:A9)(c:S)(v:VX Γ CL k W T X)(hf:DefX X)(h:FU (n+1) T st c=Ab):SS X CL W st (fun ρ=>evS Γ ρ c):=by
  have E:=snd (Γ:=Γ) (CL:=CL) (k:=k) n;cases c with
  |pass=>exact absurd (show Ac=Ab from h) As
  |brk=>exact absurd (show Ac=Ab from h) As
  |cont=>exact absurd (show Ac=Ab from h) As
  |asg i fresh e=>
    unfold FU at h;dsimp only at h;split at h
    · simp only[Ak,AW]at h;obtain⟨⟨h1,h2⟩,h3⟩:=h;have o:=E.e W T X _ e v h3;cases fresh with
      |false=>exact Sa (NR (fr:=Ac) v hf.fn h1 h2 o (fun z=>nomatch z))
      |true=>
        cases hn:DY Γ e with
        |true=>
          refine SS.ref (Yc (NR (fr:=Ab) v hf.fn h1 h2 o (fun _=>hn))) fun ρ=>.inr ?_
          show O.of ρ (evE Γ ρ e) (fun d=>if Ab=Ab then (if DY Γ e=Ab then (match d with
            |.lst xs=>.next (ρ.set i (Aa (.lst xs,Ab)))
            |.dic xs=>.next (ρ.set i (Aa (.dic xs,Ab)))
            | _=>.bad) else .bad) else .next (ρ.set i (Aa (d,Ac))))=_
          rw[hn];rfl
        |false=>
          refine SS.ref (Sa (NR (fr:=Ac) v hf.fn h1 h2 o (fun z=>nomatch z))) fun ρ=>?_
          have e0:evS Γ ρ (.asg i Ab e)=O.of ρ (evE Γ ρ e) (fun d=>if Ab=Ab then (if DY Γ e=Ab then (match d with
            |.lst xs=>.next (ρ.set i (Aa (.lst xs,Ab)))
            |.dic xs=>.next (ρ.set i (Aa (.dic xs,Ab)))
            | _=>.bad) else .bad) else .next (ρ.set i (Aa (d,Ac)))):=rfl
          rw[e0,hn];cases evE Γ ρ e with
          |ok d=>exact .inl rfl
          |exn y=>exact .inr rfl
          |bad=>exact .inl rfl
    · cases h
  |asgT ts e=>
    unfold FU at h;dsimp only at h;split at h
    · simp only[Ak]at h;obtain⟨⟨⟨h1,h2⟩,h3⟩,h5⟩:=h;exact Yb (lH ts) (aM v hf.fn h1 h2) (E.e W T X _ e v h5).se (QJ (fun _ _ z=>by cases z)) (bS h3) rfl (Ws ts)
    · cases h
  |expr e=>
    unfold FU at h;dsimp only at h;split at h
    · simp only[Ak]at h;exact X9 (E.e W T X _ e v h.2).se (K3 h.1)
    · cases h
  |ret e=>
    unfold FU at h;dsimp only at h;split at h
    · have o:=E.e W T X _ e v h;cases hv:DY Γ e with
      |true=>
        refine SS.ref (X8 (o.nw hv)) fun ρ=>.inr ?_
        rw[PM ρ e (fun i z=>by subst z;cases hv),hv]
      |false=>
        cases e with
        |var i=>
          cases n with
          |zero=>exact absurd (show Ac=Ab from h) As
          |succ n=>
            unfold Bk at h;dsimp only at h;split at h
            · exact X7 (Ma v h)
            · cases h
        |_=>
          refine SS.ref (Q4 o.se) fun ρ=>.inr ?_
          rw[PM ρ _ (by intro i z;cases z),hv]
    · cases h
  |retN=>exact absurd (show Ac=Ab from h) As
  |ife c a b=>
    unfold FU at h;dsimp only at h;split at h
    · simp only[Ak]at h;exact Sq (E.b W T X _ c v h.1.1) (Z.ss W T X _ a v hf h.1.2) (Z.ss W T X _ b v hf h.2)
    · cases h
  |fors t it body=>
    unfold FU at h;dsimp only at h;split at h
    · simp only[Ak]at h;obtain⟨⟨⟨h1,h2⟩,h3⟩,h4⟩:=h;exact R9 v.own v.calm (YJ t) (YG v hf.fn h1) (E.i W T X Ac _ _ it v rfl h3) (Z.ss W T X _ body v hf h4) (Mf h2) (fun _ _ _ z=>nomatch z)
    · cases h
  |forT ts it body=>
    unfold FU at h;dsimp only at h;split at h
    · simp only[Ak]at h;obtain⟨⟨⟨⟨h0,h1⟩,h2⟩,h3⟩,h4⟩:=h;exact R9 v.own v.calm (RO ts) (YF v hf.fn h0 h1) (E.i W T X Ab _ _ it v rfl h3) (Z.ss W T X _ body v hf h4) (Mf h2) (Pw ts)
    · cases h
  |whl c body=>exact absurd (show Ac=Ab from h) As
  |rais c as=>
    unfold FU at h;dsimp only at h;cases hc:T.rzs.any (fun p=>p.2==c) with
    |false=>
      have hb:∀ ds,Γ.xn c ds=.bad:=v.xt.xb c fun p hp z=>by
        have:T.rzs.any (fun p=>p.2==c)=Ab:=List.any_eq_true.mpr ⟨p,hp,AW.mpr z⟩
        rw[hc]at this;cases this
      intro Fz B pI s σ H D I ⟨ρ,x,p⟩;have p':BS X.K CL Fz B W (O.of ρ (noX (evA Γ ρ as)) fun xs=>O.of ρ (Γ.xn c xs) fun x=>.exn x ρ) D:=p
      cases e1:evA Γ ρ as with
      |bad=>rw[e1]at p';exact p'.elim
      |exn y=>rw[e1]at p';exact p'.elim
      |ok ds=>
        rw[e1]at p';have p2:BS X.K CL Fz B W (O.of ρ (Γ.xn c ds) fun x=>.exn x ρ) D:=p'
        rw[hb ds]at p2;exact p2.elim
    |true=>
      rw[hc,Bool.not_true,Bool.false_or]at h;split at h
      · rename_i g np x xs cpos pos;simp only[Ak,AU]at h;obtain⟨⟨⟨⟨h1,h2⟩,h3⟩,h4⟩,h5⟩:=h;obtain⟨C,m1,m2⟩:=v.xt.rz _ (Ld h1);obtain⟨n2,_,_⟩:=G8 h3;obtain⟨s0,e,es',rfl,m,rfl,s1⟩:=JU h5;have q:=E.es W T X _ _ v h5;exact Wr v.calm hf.ex v.room v.rz (by unfold glB at h2;show X.env.scope.names.lookup g=_;rw[v.sc];exact eq_of_beq h2) m2 n2 m1 q.1 (fun ds=>v.xt.made c C ds m1) (DI s0) (KP m xs es' s1) (fun ρ ds z=>by rw[LZ Γ ρ _ _ z,<-q.2.2.1,Bs];omega)
      · cases h
  |app i e=>exact absurd (show Ac=Ab from h) As
  |ext i e=>exact absurd (show Ac=Ab from h) As
  |rev i=>exact absurd (show Ac=Ab from h) As
  |clr i=>exact absurd (show Ac=Ab from h) As
  |put i k e=>
    unfold FU at h;dsimp only at h;split at h
    · simp only[Ak]at h;obtain⟨⟨⟨h1,h2⟩,h4⟩,h5⟩:=h;rename_i x p y sp v0 pos;exact aU (Ma v h1) (E.e W T X _ k v h4).st (E.e W T X _ e v h5).se (fun w=>by cases y<;>first|rfl|cases h2) (QJ (fun _ _ z=>by cases z)) rfl rfl
    · cases h
  |tryx body c x hd=>
    cases body with
    |nil=>exact absurd (show Ac=Ab from h) As
    |cons b bs=>
      cases bs with
      |cons=>exact absurd (show Ac=Ab from h) As
      |nil=>
        unfold FU at h;dsimp only at h;cases q:Lo st with
        |none=>rw[q]at h;cases h
        |some t=>
          obtain⟨bt,hl,es⟩:=t;rw[q]at h;obtain⟨pos,rfl⟩:=QT q;cases hl with
          |nil=>exact absurd (show Ac=Ab from h) As
          |cons h1 hl=>
            cases hl with
            |cons=>exact absurd (show Ac=Ab from h) As
            |nil=>
              cases es with
              |cons=>exact absurd (show Ac=Ab from h) As
              |nil=>
                dsimp only at h;cases q1:xHd h1 with
                |none=>rw[q1]at h;cases h
                |some t1=>
                  obtain⟨g,m,h0,hs⟩:=t1;obtain⟨p1,hp,rfl⟩:=NW q1;rw[q1]at h;simp only[Ak,AW]at h;obtain⟨⟨⟨⟨i1,i4⟩,i5⟩,i6⟩,i7⟩:=h;obtain⟨t1,t2⟩:=Sj E v hf 6 i6;refine SS.ref (aR (up:=Γ.up) (c:=c) (i:=x) hf.ex hf.st hf.fm (by rw[v.N];exact v.nd) (by rw[v.N];exact i4) (by rw[v.sc];exact i5) (Oc v i1) t1 t2 (fun e=>Mn v hf e x n _ _ i7)) fun ρ=>.inr ?_
                  rw[WT];unfold TD;cases evSs Γ ρ (.cons b .nil)<;>rfl
  |try2 body c x hd c' hd' els=>
    cases body with
    |nil=>exact absurd (show Ac=Ab from h) As
    |cons b bs=>
      cases bs with
      |cons=>exact absurd (show Ac=Ab from h) As
      |nil=>
        unfold FU at h;dsimp only at h;cases q:Lo st with
        |none=>rw[q]at h;cases h
        |some t=>
          obtain⟨bt,hl,es⟩:=t;rw[q]at h;obtain⟨pos,rfl⟩:=QT q;dsimp only at h;cases q0:JA hl with
          |none=>rw[q0]at h;cases h
          |some t0=>
            obtain⟨h1,h2⟩:=t0;have e0:=K6 q0;subst e0;rw[q0]at h;dsimp only at h;cases q1:xHd h1 with
            |none=>rw[q1]at h;cases h
            |some t1=>
              cases q2:xHd h2 with
              |none=>rw[q1,q2]at h;cases h
              |some t2=>
                obtain⟨g,m,h0,hs⟩:=t1;obtain⟨g',m',h0',hs'⟩:=t2;obtain⟨p1,hp,rfl⟩:=NW q1;obtain⟨p1',hp',rfl⟩:=NW q2;rw[q1,q2]at h;simp only[Ak,AW]at h;obtain⟨⟨⟨⟨⟨⟨⟨⟨rfl,i1⟩,i2⟩,i4⟩,i5⟩,i6⟩,i7⟩,i8⟩,i9⟩:=h;obtain⟨t1,t2⟩:=Sj E v hf 6 i6;refine SS.ref (X6 (up:=Γ.up) (c:=c) (c':=c') (i:=x) hf.ex hf.st hf.fm (by rw[v.N];exact v.nd) (by rw[v.N];exact i4) (by rw[v.sc];exact i5) (Oc v i1) (Oc v i2) t1 t2 (fun e=>Mn v hf e x n _ _ i7) (fun e=>Mn v hf e x n _ _ i8) (Z.ss W T X _ _ v hf i9)) fun ρ=>.inr ?_
                rw[WU];unfold Sy;cases evSs Γ ρ (.cons b .nil)<;>rfl
  |swp i k l=>exact absurd (show Ac=Ab from h) As
  |apop j i e=>exact absurd (show Ac=Ab from h) As
  |ins=>exact absurd (show Ac=Ab from h) As
  |dput=>exact absurd (show Ac=Ab from h) As
  |dsd=>exact absurd (show Ac=Ab from h) As
  |rel=>exact absurd (show Ac=Ab from h) As
theorem aO(Z:SndS Γ CL k n)(W:XW)(T:Tc)(X:Cx)(xs:Ad A9)(c:Ss)(v:VX Γ CL k W T X)(hf:DefX X)(h:chkSs (n+1) T xs c=Ab):SSs X CL W xs (fun ρ=>evSs Γ ρ c):=by
 cases c with
 |nil=>
  simp only[chkSs,Ur]at h;subst h;exact Nz
 |cons s ss=>
  by_cases hr:∃ i,s=.rel i
  ·obtain⟨i,rfl⟩:=hr;simp only[chkSs]at h;exact X5 i (Z.ss W T X xs ss v hf h)
  ·cases xs with
   |nil=>cases s<;>first|(simp[chkSs]at h;done)|exact absurd ⟨_,rfl⟩ hr
   |cons st r=>
    have h':FU n T st s=Ab/\chkSs n T r ss=Ab:=by
     cases s<;>first|(simp only[chkSs,Ak]at h;exact h)|exact absurd ⟨_,rfl⟩ hr
    exact LP (Z.s W T X st s v hf h'.1) (Z.ss W T X r ss v hf h'.2)
theorem OG:∀ n,SndS Γ CL k n
 |0=>⟨fun _ _ _ _ _ _ _ h=>absurd (show Ac=Ab from h) As,fun _ _ _ _ _ _ _ h=>absurd (show Ac=Ab from h) As⟩
 |n+1=>⟨gM (OG n),aO (OG n)⟩
end
theorem KR{n:Ag}{ds:Ad D}{i:Ag}{o:Ao}(h:(BL n ds)[i]?=Aa (Aa (d,o))):o=Ac/\ds[i]?=Aa d:=by
 unfold BL at h;by_cases hi:i<ds.length
 ·rw[ES (by simpa using hi),Fl]at h
  cases e:ds[i]? with
  |none=>rw[e]at h;cases h
  |some x=>rw[e]at h;cases h;exact⟨rfl,rfl⟩
 ·rw[Um (by simpa using Nat.le_of_not_lt hi),Uq]at h
  split at h<;>cases h
theorem Wq{N:Ad Ah}{vs:Ad V}{i:Ag}{v:V}(h:vs[i]?=Aa v):(L2.start N vs)[i]?=Aa (Aa v):=by
 unfold L2.start;have hi:=(A7.mp h).1;rw[ES (by simpa using hi),Fl,h]
 rfl
theorem Qk{N:Ad Ah}{n:Ag}{vs:Ad V}{ds:Ad D}(hn:N.length=n)(hA:AOk H A)(r:Reps K CL H A vs ds):Sx K CL (fun b o=>H b=Aa o) A (BL n ds) (L2.start N vs) H:=by
 have own:∀ a,BN A (BL n ds) (L2.start N vs) a->A a:=fun a h=>by
  rcases h with h|⟨j,d,h,_⟩
  ·exact h
  ·exact absurd (KR h).1 (by decide)
 have hlen:(BL n ds).length=(L2.start N vs).length:=by
  unfold BL L2.start;simp only[Dt,Cf,Uv,r.length,hn]
 refine⟨⟨fun i d h=>?_,fun i d h=>absurd (KR h).1 (by decide),hlen⟩,fun a h=>hA a (own a h),fun j d a h _=>absurd (KR h).1 (by decide),fun i j d e a h _ _ _=>absurd (KR h).1 (by decide),fun b o h=>h,hlen⟩
 obtain⟨v,h1,h2⟩:=r.get (KR h).2;exact⟨v,Wq h1,Rep.sub own _ h2⟩
def Kt(K:Fg)(mg:Ah->An Ai)(fns:Ad (Ah×Ag×Ag))(bl:Ad Ah)(rzs exs gls:Ad (Ah×Ag))(Pg:Prg)(fuel:Ag)(p:Ah×Ag×Ag):Prop:=∃ f fd ps qual st N,mg p.1=Aa (.ref f)/\Fun K p.1 qual st f fd/\Fp K fd ps []/\ps.length=p.2.2%1000/\Hi fuel (C7 1000 p.2.2) fns bl rzs exs gls ps N st (Pg.defs p.2.1)=Ab
structure Tab (K:Fg) (mg:Ah->An Ai) (CL:ClA) (fns:Ad (Ah×Ag×Ag)) (bl:Ad Ah) (rzs exs gls:Ad (Ah×Ag)) (Pg:Prg) (fuel:Ag):Prop where
 xt:XT Pg.up Pg.xn CL rzs exs K mg
 bln:∀ x,x∈bl->mg x=Ae
 gl:∀ p∈gls,MB K mg CL p.1 (Pg.G p.2)
 fn:∀ p∈fns,Kt K mg fns bl rzs exs gls Pg fuel p
theorem RS(Pg:Prg)(n i:Ag):(gam Pg n).fr i=(Pg.defs i).fr:=by cases n<;>rfl
theorem RQ(Pg:Prg)(n:Ag):(gam Pg n).up=Pg.up:=by cases n<;>rfl
theorem S3(Pg:Prg)(n:Ag):(gam Pg n).G=Pg.G:=by cases n<;>rfl
theorem RP(Pg:Prg)(n:Ag):(gam Pg n).xn=Pg.xn:=by cases n<;>rfl
section
variable{P:AR}{w:AC}{K:Fg}{mg:Ah->An Ai}{base:AD}{CL:ClA}{fns:Ad (Ah×Ag×Ag)}{bl:Ad Ah}{rzs exs gls:Ad (Ah×Ag)}{Pg:Prg}{fuel:Ag}
def Lvl(P:AR)(w:AC)(K:Fg)(mg:Ah->An Ai)(base:AD)(CL:ClA)(Pg:Prg)(n:Ag)(p:Ah×Ag×Ag):Prop:=∃ f fd ps,mg p.1=Aa (.ref f)/\B0 K (.ref f)=Ab/\Fp K fd ps []/\ps.length=p.2.2%1000/\(p.2.2<1000->FnOk P w K mg base (CXR P w) n f fd ps (spD K CL (p.2.2%1000) ((gam Pg n).fr p.2.1) ((gam Pg n).F p.2.1)))/\(1000<=p.2.2->HotOk P w K mg base n f fd ps (spH K CL (p.2.2%1000) ((gam Pg n).fr p.2.1) ((gam Pg n).F p.2.1)))
theorem Rt(t:Tab K mg CL fns bl rzs exs gls Pg fuel){n:Ag}(hlv:∀ q∈fns,Lvl P w K mg base CL Pg n q){st:A9}{f:Aj}{ps N:Ad Ah}{m id:Ag}(h2:Fun K x qual st f fd)(h4:ps.length=m)(h5:Hi fuel Ac fns bl rzs exs gls ps N st (Pg.defs id)=Ab):FnOk P w K mg base (CXR P w) (n+1) f fd ps (spD K CL m ((gam Pg (n+1)).fr id) ((gam Pg (n+1)).F id)):=by
  unfold Hi at h5;simp only[Ak,AW,Bp,C4,Ce,GQ,KA]at h5;obtain⟨⟨⟨⟨⟨⟨⟨⟨c1,c2⟩,c3⟩,c4⟩,c5⟩,c6⟩,c7⟩,c8⟩,c9⟩:=h5;obtain⟨oc,od,kV,doc,pm,an,cdv,ct,osl,rfl,lk,hcd⟩:=h2.ex;refine S6 (N:=N) lk hcd ⟨c1,c2,c3,Jk c4,c5,c6,c7⟩ (fun vs H Q E ⟨ds,A,z,_⟩=>z.trans h4.symm) fun A outer s H vs Q E hr ⟨ds,B,hl,hA,hreps,hpost⟩=>?_
  have xt:XT (gam Pg n).up (gam Pg n).xn CL rzs exs K mg:=by rw[RQ,RP];exact t.xt
  have gl:∀ p∈gls,MB K mg CL p.1 ((gam Pg n).G p.2):=by rw[S3];exact t.gl
  have key:∀ W:XW,(∀ x cls dx H',W x H'->FR K CL H' cls dx x->E cls dx H')->BS K CL (fun b o=>H b=Aa o) B W (evSs (gam Pg n) (BL (Pg.defs id).n ds) (Pg.defs id).body) {nx:=fun _ H'=>Q .non H',rt:=Q} ->
      ∃ t,PSs (En (CXR P w) P w K mg base N qual (Cp st) f cdv A outer s H E) (Fn st) t/\t {nx:=fun _ H'=>Q .non H',rt:=Q} (start N vs) H:=fun W hW hp=>by
    have v:VX (gam Pg n) CL n W ⟨Cp st,N,fns,bl,rzs,exs,gls⟩ (En (CXR P w) P w K mg base N qual (Cp st) f cdv A outer s H E):=⟨rfl,c1,rfl,Jk c4,rfl,hr,t.bln,hlv,ownR,kQ hW,rzR hW,xt,gl⟩;exact⟨_,(OG fuel).ss W _ _ _ (Pg.defs id).body v ⟨fun _=>rfl,rfl,rfl,rfl⟩ c9 (fun b o=>H b=Aa o) B,_,Qk c8 hA hreps,hp⟩
  have no:∀ x cls dx H',W0 x H'->FR K CL H' cls dx x->E cls dx H':=fun _ _ _ _ z=>z.elim
  have e:(gam Pg (n+1)).F id ds=D8 Pg.xs ((evSs (gam Pg n) (BL (Pg.defs id).n ds) (Pg.defs id).body).ans (Pg.defs id).fr):=rfl;rw[e,RS]at hpost;have cutO:∀ r:R D,(∀ x,r≠.exn x)->D8 Pg.xs r=r:=fun r hr=>by
    cases Pg.xs<;>cases r<;>first|rfl|exact absurd rfl (hr _)
  cases eo:evSs (gam Pg n) (BL (Pg.defs id).n ds) (Pg.defs id).body with
  |next ρ'=>
    refine key W0 no ?_;rw[eo]at hpost ⊢;cases ef:(Pg.defs id).fr with
    |true=>rw[ef]at hpost;rw[cutO _ (by intro x z;cases z)]at hpost;exact hpost.elim
    |false=>
      rw[ef]at hpost;rw[cutO _ (by intro x z;cases z)]at hpost
      exact fun σ' H' x'=>hpost .non H' (fun b o z=>x'.same b o z) ⟨rfl,fun z=>nomatch z⟩
  |ret d b=>
    refine key W0 no ?_;rw[eo]at hpost ⊢;intro v H' sm rp fr;have hp2:(match D8 Pg.xs (if ((Pg.defs id).fr&&(!b&&isL d))=Ab then R.bad else R.ok d) with
      |.ok d=>∀ v H',AE H H'->Dq K CL (Pg.defs id).fr H B H' v d->Q v H'
      |.exn x=>∀ cls dx H',AE H H'->FR K CL H' cls dx x->E cls dx H'
      | .bad=>AS):=hpost
    cases ec:((Pg.defs id).fr&&(!b&&isL d)) with
    |true=>rw[ec,Aw rfl,cutO _ (by intro x z;cases z)]at hp2;exact hp2.elim
    |false=>
      rw[ec,Az (by decide),cutO _ (by intro x z;cases z)]at hp2
      refine hp2 v H' sm ⟨rp,fun efr es hd=>?_⟩
      subst hd;have eb:b=Ab:=by
        cases b with
        |true=>rfl
        |false=>rw[efr]at ec;cases ec
      obtain⟨a,xs,h1,h2,h3,h4⟩:=fr eb es rfl;refine⟨a,xs,h1,?_,h3,h4⟩;cases ha:H a with
      |none=>rfl
      |some o=>exact absurd ha (h2 o)
  |brk ρ'=>rw[eo]at hpost;have hp2:(match D8 Pg.xs (R.bad:R D) with | .ok _=>_ | .exn _=>_ | .bad=>AS):=hpost;rw[cutO _ (by intro x z;cases z)]at hp2;exact hp2.elim
  |cont ρ'=>rw[eo]at hpost;have hp2:(match D8 Pg.xs (R.bad:R D) with | .ok _=>_ | .exn _=>_ | .bad=>AS):=hpost;rw[cutO _ (by intro x z;cases z)]at hp2;exact hp2.elim
  |bad=>rw[eo]at hpost;have hp2:(match D8 Pg.xs (R.bad:R D) with | .ok _=>_ | .exn _=>_ | .bad=>AS):=hpost;rw[cutO _ (by intro x z;cases z)]at hp2;exact hp2.elim
  |exn x ρ'=>
    rw[eo]at hpost;have hp2:(match D8 Pg.xs (R.exn x:R D) with
      |.ok d=>∀ v H',AE H H'->Dq K CL (Pg.defs id).fr H B H' v d->Q v H'
      |.exn x=>∀ cls dx H',AE H H'->FR K CL H' cls dx x->E cls dx H'
      | .bad=>AS):=hpost
    cases ex:Pg.xs with
    |false=>rw[ex]at hp2;exact hp2.elim
    |true=>
      rw[ex]at hp2;have hp3:∀ cls dx H',AE H H'->FR K CL H' cls dx x->E cls dx H':=hp2;refine key (fun y H'=>y=x/\AE H H') (fun y cls dx H' ⟨e1,sm⟩ xr=>?_) ?_
      · subst e1;exact hp3 cls dx H' sm xr
      · rw[eo];exact fun H' sm=>⟨rfl,sm⟩
theorem fJ(t:Tab K mg CL fns bl rzs exs gls Pg fuel){n:Ag}(hlv:∀ q∈fns,Lvl P w K mg base CL Pg n q){st:A9}{f:Aj}{ps N:Ad Ah}{m id:Ag}(h2:Fun K x qual st f fd)(h4:ps.length=m)(h5:Hi fuel Ab fns bl rzs exs gls ps N st (Pg.defs id)=Ab):HotOk P w K mg base (n+1) f fd ps (spH K CL m ((gam Pg (n+1)).fr id) ((gam Pg (n+1)).F id)):=by
  unfold Hi at h5;simp only[Ak,AW,Bp,C4,Ce,GQ,KA]at h5;obtain⟨⟨⟨⟨⟨⟨⟨⟨c1,c2⟩,c3⟩,c4⟩,c5⟩,c6⟩,c7⟩,c8⟩,c9⟩:=h5;obtain⟨oc,od,kV,doc,pm,an,cdv,ct,osl,rfl,lk,hcd⟩:=h2.ex;refine fK (N:=N) lk hcd ⟨c1,c2,c3,Jk c4,c5,c6,c7⟩ (fun vs H Q E ⟨ds,A,z,_⟩=>z.trans h4.symm) fun A ev outer s H vs Q E hr ⟨ds,B,hl,hA,hreps,hpost⟩=>?_
  have xt:XT (gam Pg n).up (gam Pg n).xn CL rzs exs K mg:=by rw[RQ,RP];exact t.xt
  have gl:∀ p∈gls,MB K mg CL p.1 ((gam Pg n).G p.2):=by rw[S3];exact t.gl
  have key:BS K CL (fun b o=>H b=Aa o) B W0 (evSs (gam Pg n) (BL (Pg.defs id).n ds) (Pg.defs id).body) {nx:=fun _ H'=>Q .non H',rt:=Q} ->
      ∃ t,PSs (Cx.hot (En Ij P w K mg base N qual (Cp st) f cdv A outer s H E) ev) (Fn st) t/\t {nx:=fun _ H'=>Q .non H',rt:=Q} (start N vs) H:=fun hp=>by
    have v:VX (gam Pg n) CL n W0 ⟨Cp st,N,fns,bl,rzs,exs,gls⟩ (En Ij P w K mg base N qual (Cp st) f cdv A outer s H E):=⟨rfl,c1,rfl,Jk c4,rfl,hr,t.bln,hlv,Ve,NO,OF,xt,gl⟩;exact⟨_,Mn v ⟨fun _=>rfl,rfl,rfl,rfl⟩ ev 0 fuel _ (Pg.defs id).body c9 (fun b o=>H b=Aa o) B,_,Qk c8 hA hreps,hp⟩
  have e:(gam Pg (n+1)).F id ds=D8 Pg.xs ((evSs (gam Pg n) (BL (Pg.defs id).n ds) (Pg.defs id).body).ans (Pg.defs id).fr):=rfl;rw[e,RS]at hpost;have cutO:∀ r:R D,(∀ x,r≠.exn x)->D8 Pg.xs r=r:=fun r hr=>by
    cases Pg.xs<;>cases r<;>first|rfl|exact absurd rfl (hr _)
  refine key ?_;cases eo:evSs (gam Pg n) (BL (Pg.defs id).n ds) (Pg.defs id).body with
  |next ρ'=>
    rw[eo]at hpost;cases ef:(Pg.defs id).fr with
    |true=>rw[ef]at hpost;rw[cutO _ (by intro x z;cases z)]at hpost;exact hpost.elim
    |false=>
      rw[ef]at hpost;rw[cutO _ (by intro x z;cases z)]at hpost
      exact fun σ' H' x'=>hpost .non H' (fun b o z=>x'.same b o z) ⟨rfl,fun z=>nomatch z⟩
  |ret d b=>
    rw[eo]at hpost;intro v H' sm rp fr;have hp2:(match D8 Pg.xs (if ((Pg.defs id).fr&&(!b&&isL d))=Ab then R.bad else R.ok d) with
      |.ok d=>∀ v H',AE H H'->Dq K CL (Pg.defs id).fr H B H' v d->Q v H'
      |.exn x=>AS
      | .bad=>AS):=hpost
    cases ec:((Pg.defs id).fr&&(!b&&isL d)) with
    |true=>rw[ec,Aw rfl,cutO _ (by intro x z;cases z)]at hp2;exact hp2.elim
    |false=>
      rw[ec,Az (by decide),cutO _ (by intro x z;cases z)]at hp2
      refine hp2 v H' sm ⟨rp,fun efr es hd=>?_⟩
      subst hd;have eb:b=Ab:=by
        cases b with
        |true=>rfl
        |false=>rw[efr]at ec;cases ec
      obtain⟨a,xs,h1,h2,h3,h4⟩:=fr eb es rfl;refine⟨a,xs,h1,?_,h3,h4⟩;cases ha:H a with
      |none=>rfl
      |some o=>exact absurd ha (h2 o)
  |brk ρ'=>rw[eo]at hpost;have hp2:(match D8 Pg.xs (R.bad:R D) with | .ok _=>_ | .exn _=>_ | .bad=>AS):=hpost;rw[cutO _ (by intro x z;cases z)]at hp2;exact hp2.elim
  |cont ρ'=>rw[eo]at hpost;have hp2:(match D8 Pg.xs (R.bad:R D) with | .ok _=>_ | .exn _=>_ | .bad=>AS):=hpost;rw[cutO _ (by intro x z;cases z)]at hp2;exact hp2.elim
  |bad=>rw[eo]at hpost;have hp2:(match D8 Pg.xs (R.bad:R D) with | .ok _=>_ | .exn _=>_ | .bad=>AS):=hpost;rw[cutO _ (by intro x z;cases z)]at hp2;exact hp2.elim
  |exn x ρ'=>
    rw[eo]at hpost;have hp2:(match D8 Pg.xs (R.exn x:R D) with
      |.ok d=>∀ v H',AE H H'->Dq K CL (Pg.defs id).fr H B H' v d->Q v H'
      |.exn x=>AS
      | .bad=>AS):=hpost
    exfalso
    cases ex:Pg.xs with
    |false=>rw[ex]at hp2;exact hp2
    |true=>
      rw[ex]at hp2;exact hp2
theorem NY(t:Tab K mg CL fns bl rzs exs gls Pg fuel):∀ n,∀ p∈fns,Lvl P w K mg base CL Pg n p
 |0,p,hp=>by
  obtain⟨f,fd,ps,qual,st,N,h1,h2,h3,h4,h5⟩:=t.fn p hp;exact⟨f,fd,ps,h1,h2.kp,h3,h4,fun _=>⟨fun vs H Q E ⟨ds,A,_,_,_,z⟩=>z.elim,fun A outer s H args us vs Q E _ _ _ _ ⟨ds,A,_,_,_,z⟩=>z.elim⟩,fun _=>⟨fun vs H Q E ⟨ds,A,_,_,_,z⟩=>z.elim,fun A ev outer s H args us vs Q E _ _ _ _ ⟨ds,A,_,_,_,z⟩=>z.elim⟩⟩
 |n+1,p,hp=>by
  obtain⟨f,fd,ps,qual,st,N,h1,h2,h3,h4,h5⟩:=t.fn p hp;refine⟨f,fd,ps,h1,h2.kp,h3,h4,fun hlt=>?_,fun hge=>?_⟩
  ·have eb:C7 1000 p.2.2=Ac:=by
    cases e:C7 1000 p.2.2 with
    |false=>rfl
    |true=>exact absurd (Ee e) (by omega)
   rw[eb]at h5;exact Rt t (fun q hq=>NY t n q hq) h2 h4 h5
  ·rw[Nat.ble_eq_true_of_le hge]at h5;exact fJ t (fun q hq=>NY t n q hq) h2 h4 h5
theorem eN{s s':Ar}{e:Ai}(h:CXR P w [] H s (fun _ _ _=>AS) e s'):AS:=by
 obtain⟨_,_,_,_,_,_,_,_,_,_,_,_,_,_,_,z⟩:=h;exact z
noncomputable def Tz:A9->An (Ap×AM)
 |.Expr e p=>Aa (e,p)
 |_=>Ae
theorem Yy{e:A9}{t:Ap×AM}(h:Tz e=Aa t):e=.Expr t.1 t.2:=by
 cases e with
 |Expr x p=>cases h;rfl
 |_=>exact nomatch (show Ae=Aa t from h)
noncomputable def TC:A9->An (Ap×Ap×AM)
  | .Assign ts v p=>(match ts with
    |[t]=>Aa (t,v,p)
    | _=>Ae)
  |_=>Ae
theorem YA{e:A9}{t:Ap×Ap×AM}(h:TC e=Aa t):e=.Assign [t.1] t.2.1 t.2.2:=by
 cases e with
 |Assign ts v p=>
  cases ts with
  |nil=>exact nomatch (show Ae=Aa t from h)
  |cons a ts=>
   cases ts with
   |nil=>cases h;rfl
   |cons=>exact nomatch (show Ae=Aa t from h)
 |_=>exact nomatch (show Ae=Aa t from h)
noncomputable def OC:Ap->An (Ap×Ah×AM)
 |.Attribute e x p=>Aa (e,x,p)
 |_=>Ae
theorem QU{e:Ap}{t:Ap×Ah×AM}(h:OC e=Aa t):e=.Attribute t.1 t.2.1 t.2.2:=by
 cases e with
 |Attribute e x p=>cases h;rfl
 |_=>exact nomatch (show Ae=Aa t from h)
noncomputable def Tw:Ap->An (Ad Ap×AM)
 |.JoinedStr l p=>Aa (l,p)
 |_=>Ae
theorem Yw{e:Ap}{t:Ad Ap×AM}(h:Tw e=Aa t):e=.JoinedStr t.1 t.2:=by
 cases e with
 |JoinedStr l p=>cases h;rfl
 |_=>exact nomatch (show Ae=Aa t from h)
noncomputable def Tx:Ap->An (Ap×Af×AM)
  | .FormattedValue e n f p=>(match f with
    |none=>Aa (e,n,p)
    | _=>Ae)
  |_=>Ae
theorem Yx{e:Ap}{t:Ap×Af×AM}(h:Tx e=Aa t):e=.FormattedValue t.1 t.2.1 Ae t.2.2:=by
 cases e with
 |FormattedValue e n f p=>
  cases f with
  |none=>cases h;rfl
  |some=>exact nomatch (show Ae=Aa t from h)
 |_=>exact nomatch (show Ae=Aa t from h)
noncomputable def TB:Ap->An (Ah×Ag×AM)
  | .Constant c k p=>(match c with
    |.str z=>Aa (z,k,p)
    | _=>Ae)
  |_=>Ae
theorem Yz{e:Ap}{t:Ah×Ag×AM}(h:TB e=Aa t):e=.Constant (.str t.1) t.2.1 t.2.2:=by
 cases e with
 |Constant c k p=>
  cases c with
  |str z=>cases h;rfl
  |_=>exact nomatch (show Ae=Aa t from h)
 |_=>exact nomatch (show Ae=Aa t from h)
noncomputable def TV(g par f:Ah)(b:Ad A9):An FL:=(JA b).bind fun s=>(Tz s.1).bind fun c=>(Mw c.1).bind fun cl=>(OC cl.1).bind fun at1=>(Fd at1.1).bind fun g1=>(JA cl.2.1).bind fun ab=>(Fd ab.1).bind fun s1=>(Tw ab.2).bind fun j=>(JA j.1).bind fun fk=>(Tx fk.1).bind fun fm=>(Fd fm.1).bind fun q1=>(TB fk.2).bind fun z=>(TC s.2).bind fun t=>(OC t.1).bind fun at2=>(Fd at2.1).bind fun s2=>(Fd t.2.1).bind fun q2=>
 if (g1.1==g&&(at1.2.1==("__init__" : Ah)&&(s1.1==("self" : Ah)&&(q1.1==par&&(decide (fm.2.1=-1)&&(s2.1==("self" : Ah)&&(at2.2.1==f&&(q2.1==par&&(at1.2.2.endLine==cl.2.2.line&&C7 z.1.length 1000)))))))))=Ab then Aa () else Ae
noncomputable def TX(g par f:Ah)(b:Ad A9):Ao:=(TV g par f b).isSome
theorem Y6{g par f:Ah}{b:Ad A9}(h:TX g par f b=Ab):∃ z k np apos p1 p2 p3 p4 p5 cpos p6 p7 p8 p9 p10,b=OI g par f z k np apos p1 p2 p3 p4 p5 cpos p6 p7 p8 p9 p10/\(apos.endLine==cpos.line)=Ab/\z.length<=1000:=by
 obtain⟨_,h⟩:=DP.mp (show (TV g par f b).isSome=Ab from h)
 obtain⟨s,e1,h⟩:=AI.mp h;obtain⟨c,e2,h⟩:=AI.mp h;obtain⟨cl,e3,h⟩:=AI.mp h;obtain⟨at1,e4,h⟩:=AI.mp h;obtain⟨g1,e5,h⟩:=AI.mp h;obtain⟨ab,e6,h⟩:=AI.mp h;obtain⟨s1,e7,h⟩:=AI.mp h;obtain⟨j,e8,h⟩:=AI.mp h;obtain⟨fk,e9,h⟩:=AI.mp h;obtain⟨fm,f1,h⟩:=AI.mp h;obtain⟨q1,f2,h⟩:=AI.mp h;obtain⟨z,f3,h⟩:=AI.mp h;obtain⟨t,f4,h⟩:=AI.mp h;obtain⟨at2,f5,h⟩:=AI.mp h;obtain⟨s2,f6,h⟩:=AI.mp h;obtain⟨q2,f7,h⟩:=AI.mp h;split at h
 ·rename_i hc;simp only[Ak,AW,AU]at hc;obtain⟨c1,c2,c3,c4,c5,c6,c7,c8,h1,h2⟩:=hc;rw[K6 e1,Yy e2,Nx e3,QU e4,GE e5,K6 e6,GE e7,Yw e8,K6 e9,Yx f1,GE f2,Yz f3,YA f4,QU f5,GE f6,GE f7,c1,c2,c3,c4,c5,c6,c7,c8];exact⟨_,_,_,_,_,_,_,_,_,_,_,_,_,_,_,rfl,by rw[AW];exact h1,Ee h2⟩
 ·cases h
noncomputable def Mv(g par f:Ah)(st:A9):Ao:=
 (Cp st).kind==.function&&((Cp st).isCoroutine==Ac&&((Cp st).isGenerator==Ac&&(Kc ["self", par]&&((Cp st).names.lookup ("self" : Ah)==Aa .local&&((Cp st).names.lookup par==Aa .local&&(((Cp st).names.all fun y=>y.2 != .free) &&
  ((Cp st).names.lookup g==Aa .globalImplicit&&(g != ("__debug__" : Ah)&&(par != ("__debug__" : Ah)&&(par != ("__classdict__" : Ah)&&TX g par f (Fn st)))))))))))
noncomputable def Mm(s:A9):A9:=match s with
  |.ClassDef _ _ _ (b::_) _ _ _ _ _ _ _=>b
  |s=>s
def InI(K:Fg)(f:Aj)(qual:Ah)(st:A9):Prop:=∃ fd,Fun K "__init__" qual st f fd
theorem ini_mk{st:A9}{f:Aj}{kV doc pm cdv ct:Ai}(l:K.lookup f=Aa ⟨oc,od,.func (CC "__init__" qual (IJ st) (Fn st) (Cp st) .none kV doc pm an cdv ct),osl⟩)(c:Ek K cdv qual=Ab)(k:B0 K (.ref f)=Ab):InI K f qual st:=⟨_,RT l c k⟩
theorem RZ{fI:Aj}{g par f qual:Ah}{st:A9}(a:InI K fI qual st)(hk:Mv g par f st=Ab)(hb:∀(u0 u1 kV doc pm:Ai)(an:An Aj)(cdv ct:Ai),Jb (CC "__init__" qual (IJ st) (Fn st) (Cp st) .none kV doc pm an cdv ct) ⟨[u0,u1],[]⟩=pure ((["self", par]:Ad Ah).zip [u0,u1]))(xc:DJ K C (Aa (.ref fI))=Ab)(dc:Fb K C=Ab)(ty:Bw K (.ref fI)=Aa (.type "function"))(mo:mg g=Aa (.ref OV))(s1:Ea K (.ref OV) "__getattribute__" = Aa (Aa (.builtin "type.__getattribute__")))(s2:EW K OV (.type "type")=Ab)(s3:EV K (.ref OV) (.type "type") "__init__" = Aa (.val (.builtin "ValueError.__init__")))(hf:Av K (.ref C) f=Aa Ae)(hs:Av K (.ref C) "__setattr__" = Aa (Aa (.builtin "object.__setattr__"))):XIn K mg C f:=by
 obtain⟨fd,fn⟩:=a;unfold Mv at hk;simp only[Ak,AW,C4,GQ,KA]at hk;obtain⟨c1,c2,c3,c4,c5,c6,c7,c8,c9,c10,c11,c12⟩:=hk;obtain⟨z,k,np,apos,p1,p2,p3,p4,p5,cpos,p6,p7,p8,p9,p10,eb,hl,hz⟩:=Y6 c12;exact .mk xc dc fn ty ⟨c1,c2,c3,Jk c4,rfl,fun x hx=>by
  rcases AB.mp hx with rfl|hx
  ·exact .inl c5
  ·rw[BE.mp hx];exact .inl c6,c7⟩ c5 c6 (fn.binds fun kV doc pm an cdv ct us hu=>match us,hu with | [u0,u1],_=>hb u0 u1 kV doc pm an cdv ct) eb c8 mo (by simpa using c9) (by simpa using c10) (by simpa using c11) s1 s2 s3 hl hz hf hs
theorem Ml(h:∀ ds,xn c ds=.bad\/xn c ds=.ok ⟨c,[]⟩)(e:DJ K C Ae=Ab)(ds:Ad D):xn c ds=.bad\/(xn c ds=.ok ⟨c,[]⟩/\DJ K C Ae=Ab)\/∃ f,XIn K mg C f/\Mq xn c f ds:=(h ds).imp id fun z=>.inl ⟨z,e⟩
theorem SJ{f:Ah}(h:∀ ds,xn c ds=mkX c f ds)(x:XIn K mg C f)(ds:Ad D):xn c ds=.bad\/(xn c ds=.ok ⟨c,[]⟩/\DJ K C Ae=Ab)\/∃ f,XIn K mg C f/\Mq xn c f ds:=by
  have e:=h ds
  match ds,e with
  |[],e=>exact .inl e
  |_::_::_,e=>exact .inl e
  |[d],e=>
    have e':xn c [d]=if (xfD 1 d||xfD 2 d)=Ab then .ok ⟨c,[(f,d)]⟩ else .bad:=e
    by_cases z:(xfD 1 d||xfD 2 d)=Ab
    · rw[Aw z]at e';refine .inr (.inr ⟨f,x,d,?_⟩);rw[Ce]at z;rcases z with z|z
      · exact⟨0,rfl,z,by decide,e'⟩
      · exact⟨1,rfl,z,by decide,e'⟩
    · rw[Az z]at e';exact .inl e'
theorem Km(dc:Fb K C=Ab)(h1:Av K (.ref C) "triple" = Aa Ae)(h2:Av K (.ref C) "points" = Aa Ae)(f:Ah)(h:(f==("triple" : Ah)||f==("points" : Ah))=Ab):Fb K C=Ab/\Av K (.ref C) f=Aa Ae:=by
 rw[Ce]at h;rcases h with h|h
 ·rw[eq_of_beq h];exact⟨dc,h1⟩
 ·rw[eq_of_beq h];exact⟨dc,h2⟩
def Lj(K:Fg):Sp:=fun vs H Q _=>∃(a:Aj)(ns:Ad Af),vs=[.ref a]/\ns.length<=63/\SqL K H a (ns.map V.int)/\∀ v H',v=V.bl Ab->Q v H'
theorem law_fn{f:Aj}(G:FnOk P w K mg base CX k f fd ps (spD K CL 1 Ac F))(h:∀ ns:Ad Af,F [.lst (ns.map .int)]=.ok (.bl Ab)):FnOk P w K mg base CX k f fd ps (Lj K):=G.imp fun vs H Q E ⟨a,ns,e,hl,hS,q⟩=>by
 subst e;have rs:∀ l:Ad Af,Reps K CL H A0 (l.map V.int) (l.map D.int):=fun l=>by
  induction l with
  |nil=>trivial
  |cons x l ih=>exact⟨rfl,ih⟩
 refine⟨[.lst (ns.map .int)],A0,rfl,fun _ z=>z.elim,⟨⟨a,_,rfl,.inl (fun z=>z),hS,rs ns⟩,trivial⟩,?_⟩
 rw[h ns];exact fun v H' _ r=>q v H' r.1
theorem Y0{f:Aj}(G:FnOk P w K mg base CX k f fd ps (spD K CL 1 Ac F))(h:∀ ns:Ad Af,ns.length<=63->F [.lst (ns.map .int)]=.ok (.bl Ab)):FnOk P w K mg base CX k f fd ps (Lj K):=G.imp fun vs H Q E ⟨a,ns,e,hl,hS,q⟩=>by
 subst e;have rs:∀ l:Ad Af,Reps K CL H A0 (l.map V.int) (l.map D.int):=fun l=>by
  induction l with
  |nil=>trivial
  |cons x l ih=>exact⟨rfl,ih⟩
 refine⟨[.lst (ns.map .int)],A0,rfl,fun _ z=>z.elim,⟨⟨a,_,rfl,.inl (fun z=>z),hS,rs ns⟩,trivial⟩,?_⟩
 rw[h ns hl];exact fun v H' _ r=>q v H' r.1
theorem K5{Q:α->Prop}:∀ x∈([]:Ad α),Q x:=fun _ h=>nomatch h
theorem all_cons{Q:α->Prop}{a:α}{l:Ad α}(h1:Q a)(h2:∀ x∈l,Q x):∀ x∈a::l,Q x:=List.forall_mem_cons.2 ⟨h1,h2⟩
def FnI(K:Fg)(f:Aj)(n:Ah)(st:A9):Prop:=∃ fd,Fun K n n st f fd/\AX K AK n=Aa (Aa (.ref f))
theorem fni{st:A9}{f:Aj}{kV doc pm cdv ct:Ai}(a:AX K AK n=Aa (Aa (.ref f)))(l:K.lookup f=Aa ⟨oc,od,.func (CC n n (IJ st) (Fn st) (Cp st) .none kV doc pm an cdv ct),osl⟩)(c:Ek K cdv n=Ab)(k:B0 K (.ref f)=Ab):FnI K f n st:=⟨_,RT l c k,a⟩
def Bd(n:Ah)(st:A9)(ps:Ad Ah)(us:Ad Ai):Prop:=∀(kV doc pm:Ai)(an:An Aj)(cdv ct:Ai),Jb (CC n n (IJ st) (Fn st) (Cp st) .none kV doc pm an cdv ct) ⟨us,[]⟩=pure (ps.zip us)
theorem Mh{f:Aj}{st:A9}{ps N:Ad Ah}(m id:Ag)(X:K.In h)(G:h.Ns AK mg)(A:FnI K f n st)(hl:ps.length=m%1000)(hc:Hi fuel (C7 1000 m) fns bl rzs exs gls ps N st (Pg.defs id)=Ab)(hb:∀ us:Ad Ai,us.length=ps.length->Bd n st ps us):Kt K mg fns bl rzs exs gls Pg fuel (n,id,m):=by
 obtain⟨fd,F,a⟩:=A;exact⟨_,_,_,_,_,_,Ba X G a,F,F.binds fun kV doc pm an cdv ct us hu=>hb us hu kV doc pm an cdv ct,hl,hc⟩
theorem Lp{f:Aj}{st:A9}{N:Ad Ah}(m id:Ag)(X:K.In h)(G:h.Ns AK mg)(A:FnI K f n st)(hl:1=m%1000)(hc:Hi fuel (C7 1000 m) fns bl rzs exs gls [x0] N st (Pg.defs id)=Ab)(hb:∀ u0,Bd n st [x0] [u0]):Kt K mg fns bl rzs exs gls Pg fuel (n,id,m):=
 Mh (ps:=[x0]) m id X G A hl hc fun us hu=>match us,hu with | [u0],_=>hb u0
theorem EQ{f:Aj}{st:A9}{N:Ad Ah}(m id:Ag)(X:K.In h)(G:h.Ns AK mg)(A:FnI K f n st)(hl:2=m%1000)(hc:Hi fuel (C7 1000 m) fns bl rzs exs gls [x0,x1] N st (Pg.defs id)=Ab)(hb:∀ u0 u1,Bd n st [x0,x1] [u0,u1]):Kt K mg fns bl rzs exs gls Pg fuel (n,id,m):=
 Mh (ps:=[x0,x1]) m id X G A hl hc fun us hu=>match us,hu with | [u0,u1],_=>hb u0 u1
theorem Mt{f:Aj}{st:A9}{N:Ad Ah}{x2:Ah}(m id:Ag)(X:K.In h)(G:h.Ns AK mg)(A:FnI K f n st)(hl:3=m%1000)(hc:Hi fuel (C7 1000 m) fns bl rzs exs gls [x0,x1,x2] N st (Pg.defs id)=Ab)(hb:∀ u0 u1 u2,Bd n st [x0,x1,x2] [u0,u1,u2]):Kt K mg fns bl rzs exs gls Pg fuel (n,id,m):=
 Mh (ps:=[x0,x1,x2]) m id X G A hl hc fun us hu=>match us,hu with | [u0,u1,u2],_=>hb u0 u1 u2
theorem Tn{f:Aj}{st:A9}{N:Ad Ah}{x2 x3:Ah}(m id:Ag)(X:K.In h)(G:h.Ns AK mg)(A:FnI K f n st)(hl:4=m%1000)(hc:Hi fuel (C7 1000 m) fns bl rzs exs gls [x0,x1,x2,x3] N st (Pg.defs id)=Ab)(hb:∀ u0 u1 u2 u3,Bd n st [x0,x1,x2,x3] [u0,u1,u2,u3]):Kt K mg fns bl rzs exs gls Pg fuel (n,id,m):=
 Mh (ps:=[x0,x1,x2,x3]) m id X G A hl hc fun us hu=>match us,hu with | [u0,u1,u2,u3],_=>hb u0 u1 u2 u3
end
end Ov
namespace OvC
open PySem Ov
variable{p u k v:Af}{d PP q0 q1 q2 q3:D}{ns xs:Ad Af}{m n i j:Ag}{Γ:Gam}{α:Type}{s2 s3 s7:Sl}{ρ:Rho}{P0:Ad D}
noncomputable def M7:Df:=⟨4,Ac,(.cons (.ret (.call 1 (.cons (.var 0) (.cons (.bin .Add (.bin .Sub (.bin .Mult (.idx (.var 1) (.int 0)) (.bin .Sub (.bin .Mult (.idx (.var 2) (.int 1)) (.idx (.var 3) (.int 2))) (.bin .Mult (.idx (.var 2) (.int 2)) (.idx (.var 3) (.int 1))))) (.bin .Mult (.idx (.var 1) (.int 1)) (.bin .Sub (.bin .Mult (.idx (.var 2) (.int 0)) (.idx (.var 3) (.int 2))) (.bin .Mult (.idx (.var 2) (.int 2)) (.idx (.var 3) (.int 0)))))) (.bin .Mult (.idx (.var 1) (.int 2)) (.bin .Sub (.bin .Mult (.idx (.var 2) (.int 0)) (.idx (.var 3) (.int 1))) (.bin .Mult (.idx (.var 2) (.int 1)) (.idx (.var 3) (.int 0)))))) .nil)))) .nil)⟩
noncomputable abbrev tr(a b c:Af):D:=.tup [.int a,.int b,.int c]
noncomputable def det(a0 a1 a2 b0 b1 b2 c0 c1 c2:Af):Af:=a0*(b1*c2-b2*c1)-a1*(b0*c2-b2*c0)+a2*(b0*c1-b1*c0)
def Sm(x:Af):Prop:=0<=x/\x<11
theorem mo{x:Af}(h:Sm x)(y:Af):Ey x y=Ab:=Jo (by have:=h.1;omega) (by have:=h.2;omega)
theorem Sm.of(h:P4 p)(x:Af):Sm (x%p):=⟨Bm _ (by have:=h.pos;omega),by have:=Bo x h.pos;have:=h.hi;omega⟩
theorem Pt{body:D->Rho->O}(I:Rho->Prop)(g:Af->Ao):∀(L:Ad Af),(∀ t∈L,∀ ρ,I ρ->(g t=Ab/\body (.int t) ρ=.ret (.int t) Ac)\/(g t=Ac/\∃ ρ',body (.int t) ρ=.next ρ'/\I ρ'))->∀ ρ,I ρ->(∃ t∈L,g t=Ab/\Ch body (L.map D.int) ρ=.ret (.int t) Ac)\/((∀ t∈L,g t=Ac)/\∃ ρ',Ch body (L.map D.int) ρ=.next ρ'/\I ρ')
 |[],_,ρ,i=>.inr ⟨(fun _ h=>nomatch h),ρ,rfl,i⟩
 |m::L,h,ρ,i=>by
  rcases h m (AH ..) ρ i with ⟨e1,e2⟩|⟨e1,ρ',e2,i'⟩
  ·refine .inl ⟨m,AH ..,e1,?_⟩;show (body (.int m) ρ).turn _=_;rw[e2];rfl
  ·rcases Pt I g L (fun m' h'=>h m' (Ax _ h')) ρ' i' with ⟨t,ht,a,b⟩|⟨a,r,b,c⟩
   ·refine .inl ⟨t,Ax _ ht,a,?_⟩;show (body (.int m) ρ).turn _=_;rw[e2];exact b
   ·refine .inr ⟨fun t ht=>?_,r,?_,c⟩
    ·rcases AB.mp ht with rfl|ht
     ·exact e1
     ·exact a t ht
    ·show (body (.int m) ρ).turn _=_;rw[e2];exact b
noncomputable def JR:Ss:=(.cons (.ife (.cmp .Eq (.call 1 (.cons (.var 0) (.cons (.bin .Mult (.var 1) (.var 2)) .nil))) (.int 1)) (.cons (.ret (.var 2)) .nil) .nil) .nil)
noncomputable def Ly:Df:=⟨3,Ac,(.cons (.fors 2 (.rng2 (.int 1) (.var 0)) JR) (.cons (.rais 2 (.cons (.str (AV "a number with the rest 0 is not turned over")) .nil)) .nil))⟩
noncomputable def Ks(p:Af):Ad Af:=(Bz (p-1).toNat).map fun(k:Ag)=>1+(k:Af)
theorem Nh{t:Af}:t∈Ks p↔1<=t/\t<p:=by
 unfold Ks;rw[List.mem_map];constructor
 ·rintro⟨k,hk,rfl⟩;have:=BA.mp hk;omega
 ·rintro⟨h1,h2⟩;exact⟨(t-1).toNat,BA.mpr (by omega),by omega⟩
theorem W2(h:P4 p):Da 1 p=.ok ((Ks p).map D.int):=by
 rcases h with rfl|rfl|rfl|rfl<;>rfl
theorem Y3:∀ p:Fin 12,(p.val=3\/p.val=5\/p.val=7\/p.val=11)->∀ r:Fin 12,r.val<p.val->r.val≠0->∃ t:Fin 12,1<=t.val/\t.val<p.val/\r.val*t.val%p.val=1:=by decide +kernel
theorem Ke{n:Af}(h:P4 p)(hn:n%p≠0):∃ t,1<=t/\t<p/\n*t%p=1:=by
 have p0:0<p/\p<12:=by rcases h with rfl|rfl|rfl|rfl<;>decide
 obtain⟨q,rfl⟩:∃ q:Ag,p=q:=⟨p.toNat,by omega⟩
 have h0:=Bm n (b:=(q:Af)) (by omega)
 have h1:=Bo n p0.1;obtain⟨r,hr⟩:∃ r:Ag,n%(q:Af)=r:=⟨(n%(q:Af)).toNat,by omega⟩
 obtain⟨t,t1,t2,t3⟩:=Y3 ⟨q,by omega⟩ (by rcases h with e|e|e|e<;>simp<;>omega) ⟨r,by omega⟩ (by show r<q;omega) (by show r≠0;omega)
 refine⟨(t.val:Af),by omega,by show (t.val:Af)<q;exact Int.ofNat_lt.mpr t2,?_⟩
 have e:((r*t.val%q:Ag):Af)=1:=by rw[show r*t.val%q=1 from t3];rfl
 rw[<-e,Int.natCast_emod,Int.natCast_mul,<-hr];exact(BG n _ _).trans (by rw[BG (n%(q:Af)) (t.val:Af) (q:Af),Bt n (Cm _)])
theorem Ew{r:R D}(h:r=.ok d):D8 Ab r=.ok d:=by rw[h];rfl
def Ik(p n t:Af):Prop:=1<=t/\t<p/\n*t%p=1
theorem WM{n t:Af}(h1:Ik p n t)(h2:Ik p n u):t=u:=by
 have hp:1<p:=by have:=h1.1;have:=h1.2.1;omega
 have e:t%p=u%p:=by
  have a:t%p=t*(n*u)%p:=by rw[BG,h2.2.2,EH,Bt _ (Cm p)]
  have b:u%p=(n*t)*u%p:=by rw[BG (n*t) u p,h1.2.2,Dc,Bt _ (Cm p)]
  rw[a,b]
  congr 1
  rw[<-FA,BV t n]
 rw[A1 (by have:=h1.1;omega) h1.2.1,A1 (by have:=h2.1;omega) h2.2.1]at e
 exact e
theorem Gb{c x:Af}(hp:P4 p)(hc:c%p≠0)(hx:x%p≠0):c*x%p≠0:=fun z=>by
 obtain⟨t,_,_,e⟩:=Ke hp hc;refine hx ?_;have e1:x%p=(c*t)*x%p:=by rw[BG (c*t) x p,e,Dc,Bt _ (Cm p)]
 rw[e1,show c*t*x=t*(c*x) by rw[BV c t,FA],BG,z,Ed,BD]
noncomputable def lead(p:Af):Ad Af->An Af
 |[]=>Ae
 |x::xs=>if x%p=0 then lead p xs else Aa (x%p)
theorem Jl{p:Af}:∀{xs:Ad Af},lead p xs=Ae↔∀ x∈xs,x%p=0
 |[]=>by simp[lead]
 |x::xs=>by
  unfold lead;by_cases h:x%p=0
  ·rw[Aw h,Jl (xs:=xs)];simp[h]
  ·rw[Az h];simp[h]
theorem LO{p l:Af}(hp:0<p):∀{xs:Ad Af},lead p xs=Aa l->l%p≠0/\0<l/\l<p
 |[],h=>by cases h
 |x::xs,h=>by
  unfold lead at h;by_cases hx:x%p=0
  ·rw[Aw hx]at h;exact LO hp h
  ·rw[Az hx]at h;cases h;have h0:=Bm x (b:=p) (by omega)
   have h1:=Bo x hp;exact⟨by rw[Bt _ (Cm p)];exact hx,by omega,h1⟩
theorem KS{p c:Af}(hp:P4 p)(hc:c%p≠0){f:Af->Af}(hf:∀ x,f x%p=c*x%p):∀ xs:Ad Af,lead p (xs.map f)=(lead p xs).map fun l=>c*l%p
 |[]=>rfl
 |x::xs=>by
  rw[CH];unfold lead;rw[hf x];by_cases hx:x%p=0
  ·rw[Aw hx,Aw (by rw[BG,hx,Ed,BD]),KS hp hc hf xs]
  ·rw[Az hx,Az (Gb hp hc hx),ET]
   congr 1
   rw[BG c (x%p),Bt _ (Cm p),<-BG]
noncomputable def ds(xs:Ad Af):Ad D:=xs.map D.int
noncomputable def DT(b:Ao)(xs:Ad Af):D:=if b=Ab then .tup (ds xs) else .lst (ds xs)
theorem Px(b xs):Ck (DT b xs)=.ok (ds xs):=by unfold DT;cases b<;>rfl
theorem LF{g:D->R Ao}{f:D->R D}{φ:Af->Af}:∀(xs:Ad Af),(∀ x∈xs,g (.int x)=.ok Ab/\f (.int x)=.ok (.int (φ x)))->BF g f (ds xs)=.ok (ds (xs.map φ))
 |[],_=>rfl
 |x::xs,h=>by
  obtain⟨h1,h2⟩:=h x (AH ..);show (g (.int x)).bind _=_;rw[h1,R.bind_ok,Aw rfl,h2,R.bind_ok];show (BF g f (ds xs)).bind _=_;rw[LF xs fun y hy=>h y (Ax _ hy)]
  rfl
noncomputable def DE:E:=(.bl Ab)
noncomputable def MJ:E:=(.call 1 (.cons (.var 0) (.cons (.var 5) .nil)))
noncomputable def MI:E:=(.call 1 (.cons (.var 0) (.cons (.bin .Mult (.var 4) (.var 6)) .nil)))
noncomputable def G6:Ss:=(.cons (.ife (.cmp .NotEq (.var 3) (.int 0)) (.cons (.asg 4 Ac (.call 9 (.cons (.var 0) (.cons (.var 3) .nil)))) (.cons (.ret (.bi .tuple (.cons (.comp MI 6 (.e (.var 2)) DE) .nil))) .nil)) .nil) .nil)
noncomputable def LK:Df:=⟨7,Ac,(.cons (.asg 2 Ac (.comp MJ 5 (.e (.var 1)) DE)) (.cons (.fors 3 (.e (.var 2)) G6) (.cons (.rais 3 (.cons (.str (AV "all the numbers have the rest 0")) .nil)) .nil)))⟩
noncomputable def fmI(p t:Af)(xs:Ad Af):Ad Af:=xs.map fun x=>t*(x%p)%p
section
variable{Γ:Gam}{p:Af}{xs:Ad Af}{b:Ao}
end
theorem O6{g:D->R Ao}{f:D->R D}{q:Af->Ao}:∀(xs:Ad Af),(∀ x∈xs,g (.int x)=.ok (q x)/\f (.int x)=.ok (.int x))->BF g f (ds xs)=.ok (ds (xs.filter q))
 |[],_=>rfl
 |x::xs,h=>by
  obtain⟨h1,h2⟩:=h x (AH ..);have ih:=O6 xs fun y hy=>h y (Ax _ hy)
  show (g (.int x)).bind _=_;rw[h1,R.bind_ok];cases hq:q x with
  |true=>
   rw[Aw rfl,h2,R.bind_ok,FI,hq,Aw rfl];show (BF g f (ds xs)).bind _=_;rw[ih];rfl
  |false=>
   rw[Az (by decide),FI,hq,Az (by decide)]
   exact ih
theorem Pa{p:Af}(hp:0<p):∀(xs:Ad Af),((xs.map fun x=>x%p).filter fun r=>decide (0<r)).head?=lead p xs
 |[]=>rfl
 |x::xs=>by
  have h0:=Bm x (b:=p) (by omega)
  unfold lead;rw[CH,FI];by_cases h:x%p=0
  ·rw[Aw h,Az (by simp[h]),Pa hp xs]
  ·rw[Az h,Aw (by simp;omega)]
   rfl
noncomputable abbrev own(xs:Ad Af):Sl:=Aa (.lst (ds xs),Ab)
section
variable{Γ:Gam}{ns:Ad Af}{a1 a2 a4 a6 a7 a8 a9 b0 b1 b2 b3 b4:Sl}{p:Af}
end
section
variable{Γ:Gam}{ns:Ad Af}{a1 a4 a6 a7 a8 a9 b2 b3 b4:Sl}{p m:Af}{xs:Ad Af}
end
def Cg(p x y:Af):Prop:=x%p=y%p
section
variable{p a b c d:Af}
theorem Cg.rfl:Cg p a a:=Eq.refl _
theorem Cg.of(h:a=b):Cg p a b:=by unfold Cg;rw[h]
theorem Cg.trans{a b c:Af}(h:Cg p a b)(g:Cg p b c):Cg p a c:=Eq.trans h g
theorem Cg.symm(h:Cg p a b):Cg p b a:=Eq.symm h
theorem Cg.add(h:Cg p a b)(g:Cg p c d):Cg p (a+c) (b+d):=by unfold Cg at *;rw[Uc,h,g,<-Uc]
theorem Cg.sub(h:Cg p a b)(g:Cg p c d):Cg p (a-c) (b-d):=by unfold Cg at *;rw[Uf,h,g,<-Uf]
theorem Cg.mul(h:Cg p a b)(g:Cg p c d):Cg p (a*c) (b*d):=by unfold Cg at *;rw[BG,h,g,<-BG]
theorem Cg.md(h:a=b%p):Cg p a b:=by unfold Cg;rw[h,Bt _ (Cm p)]
end
theorem eK{p a0 a1 a2 b0 b1 b2 c0 c1 c2 x0 x1 x2 y0 y1 y2 z0 z1 z2:Af}(h0:Cg p a0 x0)(h1:Cg p a1 x1)(h2:Cg p a2 x2)(h3:Cg p b0 y0)(h4:Cg p b1 y1)(h5:Cg p b2 y2)(h6:Cg p c0 z0)(h7:Cg p c1 z1)(h8:Cg p c2 z2):Cg p (a0*(b1*c2-b2*c1)-a1*(b0*c2-b2*c0)+a2*(b0*c1-b1*c0)) (x0*(y1*z2-y2*z1)-x1*(y0*z2-y2*z0)+x2*(y0*z1-y1*z0)):=
 ((h0.mul ((h4.mul h8).sub (h5.mul h7))).sub (h1.mul ((h3.mul h8).sub (h5.mul h6)))).add (h2.mul ((h3.mul h7).sub (h4.mul h6)))
theorem P4.m1(h:P4 p):(-1:Af)%p≠0:=by rcases h with rfl|rfl|rfl|rfl<;>decide
theorem P4.o1(h:P4 p):(1:Af)%p≠0:=by rcases h with rfl|rfl|rfl|rfl<;>decide
abbrev R3:=Af×Af×Af
variable{a x y r g:R3}{pts:Ad R3}{t:R3×R3×R3×R3}
noncomputable def HA(a:R3):D:=.lst [.int a.1,.int a.2.1,.int a.2.2]
noncomputable def Aq(a b c:R3):Af:=det a.1 a.2.1 a.2.2 b.1 b.2.1 b.2.2 c.1 c.2.1 c.2.2
def In3(p:Af)(a:R3):Prop:=(0<=a.1/\a.1<p)/\(0<=a.2.1/\a.2.1<p)/\(0<=a.2.2/\a.2.2<p)
structure GoodR (p:Af) (a b c:R3):Prop where
 p4:P4 p
 ia:In3 p a
 ib:In3 p b
 ic:In3 p c
 nz:Aq a b c%p≠0
theorem GoodR.of{a b c a' b' c':R3}(h:GoodR p a b c)(hk:k%p≠0)(e:Cg p (Aq a' b' c') (k*Aq a b c))(hin:In3 p a'/\In3 p b'/\In3 p c'):GoodR p a' b' c':=⟨h.p4,hin.1,hin.2.1,hin.2.2,by rw[show Aq a' b' c'%p=_ from e];exact Gb h.p4 hk h.nz⟩
theorem YL(h0:0<=k)(h1:k<ns.length):Db (ns.map D.int) k=.ok (.int (ns.getD k.toNat 0)):=P9 h0 (by
 have:k.toNat<ns.length:=by omega
 simp[this])
noncomputable abbrev ownR(a b c:R3):Sl:=Aa (.lst [HA a,HA b,HA c],Ab)
section
variable{Γ:Gam}{ns:Ad Af}{at_ many s5 s0 s1 s2:Sl}{p t m:Af}{a b c:R3}
end
section
variable{Γ:Gam}{ns:Ad Af}{many s5 s6 s7 s8 s9 s0 s1 s2:Sl}{p:Af}{a b c:R3}
end
noncomputable def trR(a:R3):D:=.tup [.int a.1,.int a.2.1,.int a.2.2]
noncomputable def Ln(a b c:R3):D:=.tup [trR a,trR b,trR c]
noncomputable def fmR(p t:Af)(a:R3):R3:=(t*(a.1%p)%p,t*(a.2.1%p)%p,t*(a.2.2%p)%p)
def Bd(n:Ag)(x:Af):Prop:=x.natAbs<2 ^ n
theorem Bd.mul{x y:Af}(h:Bd m x)(g:Bd n y):Bd (m+n) (x*y):=by
 unfold Bd at *;rw[Int.natAbs_mul,Nat.pow_add];exact Nat.mul_lt_mul'' h g
theorem Bd.sub{x y:Af}(h:Bd n x)(g:Bd n y):Bd (n+1) (x-y):=by
 unfold Bd at *;rw[Nat.pow_succ];omega
theorem GD{x y:Af}(h:Bd m x)(g:Bd n y)(hm:m<=2000)(hn:n<=2000):EO x y=Ab:=by
 unfold EO Bd at *;rw[Ak,AU,AU];exact⟨AQ h (F2 (by decide) hm),AQ g (F2 (by decide) hn)⟩
def B3(a:R3):Prop:=Bd 300 a.1/\Bd 300 a.2.1/\Bd 300 a.2.2
noncomputable def At(q:Ao)(a:R3):D:=DT q [a.1,a.2.1,a.2.2]
theorem HY(q:Ao)(a:R3):CF (At q a) (.int 0)=.ok (.int a.1)/\CF (At q a) (.int 1)=.ok (.int a.2.1)/\CF (At q a) (.int 2)=.ok (.int a.2.2):=by cases q<;>exact⟨rfl,rfl,rfl⟩
def Nu(Γ:Gam):Prop:=∀(p:Af)(q:Ao)(a b c:R3),0<p->B3 a->B3 b->B3 c->Γ.F 61 [.int p,At q a,At q b,At q c]=.ok (.int (Aq a b c%p))
theorem XX(h:IM Γ)(p:Af)(q:Ao)(a b c:R3)(hp:0<p)(ha:B3 a)(hb:B3 b)(hc:B3 c):M7.run Γ [.int p,At q a,At q b,At q c]=.ok (.int (Aq a b c%p)):=by
 obtain⟨a0,a1,a2⟩:=HY q a;obtain⟨b0,b1,b2⟩:=HY q b;obtain⟨c0,c1,c2⟩:=HY q c;have k:∀ {x y},Bd 300 x->Bd 300 y->EO x y=Ab:=fun hx hy=>GD hx hy (by decide) (by decide)
 have k2:∀ {x y z u v},Bd 300 x->Bd 300 y->Bd 300 z->Bd 300 u->Bd 300 v->EO x (y*z-u*v)=Ab:=fun hx hy hz hu hv=>GD hx ((hy.mul hz).sub (hu.mul hv)) (by decide) (by decide)
 simp[M7,Df.run,BL,a0,a1,a2,b0,b1,b2,c0,c1,c2,k hb.2.1 hc.2.2,k hb.2.2 hc.2.1,k hb.1 hc.2.2,k hb.2.2 hc.1,k hb.1 hc.2.1,k hb.2.1 hc.1,k2 ha.1 hb.2.1 hc.2.2 hb.2.2 hc.2.1,k2 ha.2.1 hb.1 hc.2.2 hb.2.2 hc.1,k2 ha.2.2 hb.1 hc.2.1 hb.2.1 hc.1,h p _ hp];rfl
section
variable{Γ:Gam}{ns:Ad Af}{p t:Af}{a b c r:R3}{made s6 s7:Sl}
end
theorem MR{p:Af}:∀{xs ys:Ad Af},xs.map (fun x=>x%p)=ys.map (fun x=>x%p)->lead p xs=lead p ys
 |[],[],_=>rfl
 |x::xs,y::ys,h=>by
  rw[CH,CH,Ui]at h;unfold lead;rw[h.1,MR h.2]
 |[],_::_,h=>by simp at h
 |_::_,[],h=>by simp at h
theorem WR{t:Af}{ys:Ad Af}(h:xs.map (fun x=>x%p)=ys.map (fun x=>x%p)):fmI p t xs=fmI p t ys:=by
 have e:∀ zs:Ad Af,fmI p t zs=(zs.map fun x=>x%p).map fun r=>t*r%p:=fun zs=>by simp[fmI,Iq,GK]
 rw[e,e,h]
theorem lJ(hp:0<p)(t:Af)(a:R3):In3 p (fmR p t a):=⟨⟨Bm _ (by omega),Bo _ hp⟩,⟨Bm _ (by omega),Bo _ hp⟩,⟨Bm _ (by omega),Bo _ hp⟩⟩
section
variable{Γ:Gam}{ns:Ad Af}{p m:Af}{a b c:R3}{fa fb fc:R3}{q:Ao}{s9 s0 s1 s2:Sl}
end
def M9(Γ:Gam):Prop:=∀ p n:Af,P4 p->n%p≠0->∃ t,1<=t/\t<p/\n*t%p=1/\Γ.F 9 [.int p,.int n]=.ok (.int t)
def Nv(Γ:Gam):Prop:=∀(p:Af)(b:Ao)(xs:Ad Af)(l t:Af),P4 p->lead p xs=Aa l->Ik p l t->Γ.F 17 [.int p,DT b xs]=.ok (.tup (ds (fmI p t xs)))
theorem Wh(hr:IM Γ)(p n:Af)(hp:P4 p)(z:n%p≠0):∃ t,1<=t/\t<p/\n*t%p=1/\Ly.run Γ [.int p,.int n]=.ok (.int t):=by
 have p0:=hp.pos;have ph:=hp.hi;have body:∀ t∈Ks p,∀ ρ,(∃ s,ρ=[si p,si n,s])->(decide (n*t%p=1)=Ab/\BK Γ 2 JR (.int t) ρ=.ret (.int t) Ac)\/(decide (n*t%p=1)=Ac/\∃ ρ',BK Γ 2 JR (.int t) ρ=.next ρ'/\∃ s,ρ'=[si p,si n,s]):=by
  rintro t ht ρ ⟨s,rfl⟩;obtain⟨t1,t2⟩:=Nh.mp ht;have m:Ey n t=Ab:=NC (by omega) (by omega)
  by_cases e:n*t%p=1
  ·exact .inl ⟨by simp[e],by simp[BK,JR,hr p (n*t) p0,m,e,DY]⟩
  ·exact .inr ⟨by simp[e],_,by simp[BK,JR,hr p (n*t) p0,m,e];rfl,_,rfl⟩
 have run:∀ o,Ch (BK Γ 2 JR) ((Ks p).map D.int) [si p,si n,Ae]=o->Ly.run Γ [.int p,.int n]=(Gm Γ (.cons (.rais 2 (.cons (.str (AV "a number with the rest 0 is not turned over")) .nil)) .nil) o).ans Ac:=by
  rintro o rfl;simp[Ly,Df.run,BL,W2 hp]
 rcases Pt (fun ρ=>∃ s,ρ=[si p,si n,s]) (fun t=>decide (n*t%p=1)) (Ks p) body [si p,si n,Ae] ⟨_,rfl⟩ with ⟨t,ht,a,b⟩|⟨a,r,b,s,rfl⟩
 ·obtain⟨t1,t2⟩:=Nh.mp ht;have a':n*t%p=1:=by simpa using a
  exact⟨t,t1,t2,a',by rw[run _ b];rfl⟩
 ·obtain⟨t,t1,t2,e⟩:=Ke hp z;have:=a t (Nh.mpr ⟨t1,t2⟩);simp[e]at this
section
variable{Γ:Gam}{p:Af}{xs:Ad Af}{b:Ao}
theorem Qw(hr:IM Γ)(ht:M9 Γ)(hp:P4 p)(rs:Ad Af):∀(ys:Ad Af),(∀ y∈ys,0<=y/\y<p)->∀ s3,(lead p ys=Ae->∃ s3',Ch (BK Γ 3 G6) (ds ys) [si p,sh (DT b xs),sh (.lst (ds rs)),s3,Ae,Ae,Ae]=.next [si p,sh (DT b xs),sh (.lst (ds rs)),s3',Ae,Ae,Ae])/\(∀ l t,lead p ys=Aa l->Ik p l t->Ch (BK Γ 3 G6) (ds ys) [si p,sh (DT b xs),sh (.lst (ds rs)),s3,Ae,Ae,Ae]=.ret (.tup (ds (rs.map fun r=>t*r%p))) Ac)
 |[],_,s3=>⟨fun _=>⟨s3,rfl⟩,(fun l t h=>nomatch h)⟩
 |y::ys,hy,s3=>by
  obtain⟨y0,y1⟩:=hy y (AH ..);have ym:y%p=y:=A1 y0 y1;have ih:=Qw hr ht hp rs ys (fun z hz=>hy z (Ax _ hz)) (si y)
  have step:∀ o,BK Γ 3 G6 (.int y) [si p,sh (DT b xs),sh (.lst (ds rs)),s3,Ae,Ae,Ae]=o->Ch (BK Γ 3 G6) (ds (y::ys)) [si p,sh (DT b xs),sh (.lst (ds rs)),s3,Ae,Ae,Ae]=o.turn (Ch (BK Γ 3 G6) (ds ys)):=by
   rintro o rfl;rfl
  unfold lead;rw[ym];by_cases hz:y=0
  ·have e:BK Γ 3 G6 (.int y) [si p,sh (DT b xs),sh (.lst (ds rs)),s3,Ae,Ae,Ae]=.next [si p,sh (DT b xs),sh (.lst (ds rs)),si y,Ae,Ae,Ae]:=by
    simp[BK,G6,hz]
   rw[Aw hz,step _ e];exact ih
  ·rw[Az hz];refine⟨(fun z=>nomatch z),fun l t e it=>?_⟩
   cases e;obtain⟨u,u1,u2,u3,u4⟩:=ht p y hp (by rw[ym];exact hz)
   have:t=u:=WM it ⟨u1,u2,u3⟩;subst this;have p0:=hp.pos;have ph:=hp.hi;have cp:BF (cG Γ [si p,sh (DT b xs),sh (.lst (ds rs)),si y,si t,Ae,Ae] 6 DE) (cF Γ [si p,sh (DT b xs),sh (.lst (ds rs)),si y,si t,Ae,Ae] 6 MI) (ds rs)=.ok (ds (rs.map fun r=>t*r%p)):=by
    refine LF rs fun r _=>⟨rfl,?_⟩
    have m:Ey t r=Ab:=Jo (by omega) (by omega)
    simp[cF,MI,m,hr p (t*r) p0]
   have e:BK Γ 3 G6 (.int y) [si p,sh (DT b xs),sh (.lst (ds rs)),s3,Ae,Ae,Ae]=.ret (.tup (ds (rs.map fun r=>t*r%p))) Ac:=by
    simp[BK,G6,hz,u4,cp,DY]
   rw[step _ e];rfl
theorem Y9(hr:IM Γ)(ht:M9 Γ)(hp:P4 p){l t:Af}(e:lead p xs=Aa l)(it:Ik p l t):LK.run Γ [.int p,DT b xs]=.ok (.tup (ds (fmI p t xs))):=by
 have p0:=hp.pos;have cp:BF (cG Γ [si p,sh (DT b xs),Ae,Ae,Ae,Ae,Ae] 5 DE) (cF Γ [si p,sh (DT b xs),Ae,Ae,Ae,Ae,Ae] 5 MJ) (ds xs)=.ok (ds (xs.map fun x=>x%p)):=by
  refine LF xs fun x _=>⟨rfl,?_⟩
  simp[cF,MJ,hr p x p0]
 have run:∀ o,Ch (BK Γ 3 G6) (ds (xs.map fun x=>x%p)) [si p,sh (DT b xs),sh (.lst (ds (xs.map fun x=>x%p))),Ae,Ae,Ae,Ae]=o->LK.run Γ [.int p,DT b xs]=(Gm Γ (.cons (.rais 3 (.cons (.str (AV "all the numbers have the rest 0")) .nil)) .nil) o).ans Ac:=by
  rintro o rfl;simp[LK,Df.run,BL,Px,cp]
 have le:lead p (xs.map fun x=>x%p)=lead p xs:=by
  have:=KS (c:=1) hp (by rcases hp with rfl|rfl|rfl|rfl<;>decide) (f:=fun x=>x%p) (fun x=>by rw[Dc,Bt _ (Cm p)]) xs
  rw[this];cases e:lead p xs with
  |none=>rfl
  |some l=>
   obtain⟨_,l0,l1⟩:=LO p0 e;simp[A1 (Int.le_of_lt l0) l1]
 obtain⟨a,c⟩:=Qw (b:=b) (xs:=xs) hr ht hp (xs.map fun x=>x%p) (xs.map fun x=>x%p) (fun y hy=>by
  obtain⟨x,_,rfl⟩:=Cn.mp hy;exact⟨Bm _ (by omega),Bo _ p0⟩) Ae
 rw[le]at a c;rw[run _ (c l t e it)];simp[fmI,Iq,GK]
end
noncomputable def Ig(a b c:R3):R3:=(a.1,b.1,c.1)
noncomputable def Ie(a b c:R3):R3:=(a.2.1,b.2.1,c.2.1)
noncomputable def Ic(a b c:R3):R3:=(a.2.2,b.2.2,c.2.2)
noncomputable def Bq(a x:R3):Af:=a.1*x.1+a.2.1*x.2.1+a.2.2*x.2.2
noncomputable def crs(a b:R3):R3:=(a.2.1*b.2.2-a.2.2*b.2.1,a.2.2*b.1-a.1*b.2.2,a.1*b.2.1-a.2.1*b.1)
theorem Re:∀ xs ys:Ad Af,eqDs (ds xs) (ds ys)=decide (xs=ys)
 |[],[]=>rfl
 |[],_::_=>rfl
 |_::_,[]=>rfl
 |x::xs,y::ys=>by
  show ((x==y)&&eqDs (ds xs) (ds ys))=_;rw[Re xs ys,CQ];simp
theorem Kf(a b:R3):eqD (At Ab a) (At Ab b)=decide (a=b):=by
 show eqDs (ds [a.1,a.2.1,a.2.2]) (ds [b.1,b.2.1,b.2.2])=_;rw[Re,CQ];simp only[Ui,and_true,AU];exact⟨fun ⟨h1,h2,h3⟩=>by obtain⟨a1,a2,a3⟩:=a;obtain⟨b1,b2,b3⟩:=b;simp at h1 h2 h3;rw[h1,h2,h3],fun h=>by rw[h];exact⟨rfl,rfl,rfl⟩⟩
noncomputable def M8:Df:=⟨2,Ac,(.cons (.ife (.cmp .Eq (.var 0) (.var 1)) (.cons (.rais 7 (.cons (.var 0) .nil)) .nil) .nil) (.cons (.ret (.tup (.cons (.bin .Sub (.bin .Mult (.idx (.var 0) (.int 1)) (.idx (.var 1) (.int 2))) (.bin .Mult (.idx (.var 0) (.int 2)) (.idx (.var 1) (.int 1)))) (.cons (.bin .Sub (.bin .Mult (.idx (.var 0) (.int 2)) (.idx (.var 1) (.int 0))) (.bin .Mult (.idx (.var 0) (.int 0)) (.idx (.var 1) (.int 2)))) (.cons (.bin .Sub (.bin .Mult (.idx (.var 0) (.int 0)) (.idx (.var 1) (.int 1))) (.bin .Mult (.idx (.var 0) (.int 1)) (.idx (.var 1) (.int 0)))) .nil))))) .nil))⟩
def ZN(Γ:Gam):Prop:=∀ a b:R3,B3 a->B3 b->a≠b->Γ.F 23 [At Ab a,At Ab b]=.ok (At Ab (crs a b))
theorem Zb(Γ:Gam)(a b:R3)(ha:B3 a)(hb:B3 b)(ne:a≠b):M8.run Γ [At Ab a,At Ab b]=.ok (At Ab (crs a b)):=by
 obtain⟨x0,x1,x2⟩:=HY Ab a;obtain⟨y0,y1,y2⟩:=HY Ab b;have k:∀ {u v},Bd 300 u->Bd 300 v->EO u v=Ab:=fun hu hv=>GD hu hv (by decide) (by decide)
 have f:∀ r:R3,flD 5 (At Ab r)=Ab:=fun _=>rfl
 have e:eqD (At Ab a) (At Ab b)=Ac:=by rw[Kf];exact CU ne
 simp[M8,Df.run,BL,f,e,x0,x1,x2,y0,y1,y2,k ha.2.1 hb.2.2,k ha.2.2 hb.2.1,k ha.2.2 hb.1,k ha.1 hb.2.2,k ha.1 hb.2.1,k ha.2.1 hb.1];rfl
noncomputable def bk0(a b c:R3):R3:=Ig (crs b c) (crs c a) (crs a b)
noncomputable def bk1(a b c:R3):R3:=Ie (crs b c) (crs c a) (crs a b)
noncomputable def bk2(a b c:R3):R3:=Ic (crs b c) (crs c a) (crs a b)
theorem Lm{x:Af}(hp:P4 p)(h0:0<=x)(h1:x<p):Bd 10 x:=by
 unfold Bd;have:=hp.hi;omega
theorem Bd.mono{x:Af}(h:Bd m x)(hm:m<=n):Bd n x:=AQ h (F2 (by decide) hm)
def Bn(n:Ag)(a:R3):Prop:=Bd n a.1/\Bd n a.2.1/\Bd n a.2.2
theorem Bn.b3(h:Bn n a)(hn:n<=300):B3 a:=⟨h.1.mono hn,h.2.1.mono hn,h.2.2.mono hn⟩
theorem Fe(hp:P4 p)(h:In3 p a):Bn 10 a:=⟨Lm hp h.1.1 h.1.2,Lm hp h.2.1.1 h.2.1.2,Lm hp h.2.2.1 h.2.2.2⟩
theorem lE{a b:R3}(ha:Bn n a)(hb:Bn n b):Bn (n+n+1) (crs a b):=
 ⟨(ha.2.1.mul hb.2.2).sub (ha.2.2.mul hb.2.1),(ha.2.2.mul hb.1).sub (ha.1.mul hb.2.2),(ha.1.mul hb.2.1).sub (ha.2.1.mul hb.1)⟩
theorem NZ(a b c:R3):Aq (bk0 a b c) (bk1 a b c) (bk2 a b c)=Aq a b c*Aq a b c:=by
 unfold Aq det bk0 bk1 bk2 Ig Ie Ic crs;grind
noncomputable def Dj(k:Af)(a:R3):R3:=(k*a.1,k*a.2.1,k*a.2.2)
noncomputable def fk0(p:Af)(a b c d:R3):Af:=Aq d b c%p
noncomputable def fs0(p:Af)(a b c d:R3):R3:=Dj (fk0 p a b c d) a
def CgR(p:Af)(x y:R3):Prop:=Cg p x.1 y.1/\Cg p x.2.1 y.2.1/\Cg p x.2.2 y.2.2
section
variable{p:Af}{a b c a' b' c' x y z x':R3}{k l m k':Af}
theorem CgR.rfl:CgR p a a:=⟨Cg.rfl,Cg.rfl,Cg.rfl⟩
theorem CgR.of(h:a=b):CgR p a b:=by rw[h];exact CgR.rfl
theorem CgR.trans(h:CgR p a b)(g:CgR p b c):CgR p a c:=⟨h.1.trans g.1,h.2.1.trans g.2.1,h.2.2.trans g.2.2⟩
theorem CgR.symm(h:CgR p a b):CgR p b a:=⟨h.1.symm,h.2.1.symm,h.2.2.symm⟩
theorem CgR.sc(hk:Cg p k k')(h:CgR p a b):CgR p (Dj k a) (Dj k' b):=⟨hk.mul h.1,hk.mul h.2.1,hk.mul h.2.2⟩
theorem NL(ha:CgR p a a')(hb:CgR p b b')(hc:CgR p c c'):Cg p (Aq a b c) (Aq a' b' c'):=by
 unfold Aq det;exact eK ha.1 ha.2.1 ha.2.2 hb.1 hb.2.1 hb.2.2 hc.1 hc.2.1 hc.2.2
theorem Jp(ha:CgR p a a')(hb:CgR p b b'):Cg p (Bq a b) (Bq a' b'):=((ha.1.mul hb.1).add (ha.2.1.mul hb.2.1)).add (ha.2.2.mul hb.2.2)
theorem eO(ha:CgR p a a')(hb:CgR p b b')(hc:CgR p c c'):CgR p (Ig a b c) (Ig a' b' c')/\CgR p (Ie a b c) (Ie a' b' c')/\CgR p (Ic a b c) (Ic a' b' c'):=⟨⟨ha.1,hb.1,hc.1⟩,⟨ha.2.1,hb.2.1,hc.2.1⟩,⟨ha.2.2,hb.2.2,hc.2.2⟩⟩
theorem lK(p t:Af)(a:R3):CgR p (fmR p t a) (Dj t a):=by
 have key:∀ x:Af,Cg p (t*(x%p)%p) (t*x):=fun x=>(Cg.md _root_.rfl).trans (Cg.rfl.mul (Cg.md _root_.rfl))
 exact⟨key _,key _,key _⟩
noncomputable def ap(a b c x:R3):R3:=(Bq a x,Bq b x,Bq c x)
theorem eJ(k l m:Af)(x y z:R3):Aq (Dj k x) (Dj l y) (Dj m z)=k*l*m*Aq x y z:=by
 unfold Aq det Dj;grind
theorem Of(k l:Af)(x:R3):Dj k (Dj l x)=Dj (k*l) x:=by
 unfold Dj;simp only[FA]
theorem kX(a b c x:R3)(k:Af):ap a b c (Dj k x)=Dj k (ap a b c x):=by
 unfold ap Dj Bq;refine D5 ?_ (D5 ?_ ?_)<;>(simp only;grind)
end
theorem kS{x y:Af}(h:Cg p x y)(hy:y%p≠0):x%p≠0:=fun z=>hy ((show x%p=y%p from h).symm.trans z)
theorem nz3{x y z:Af}(hp:P4 p)(hx:x%p≠0)(hy:y%p≠0)(hz:z%p≠0):x*y*z%p≠0:=Gb hp (Gb hp hx hy) hz
section
variable{p:Af}{a b c f0 f1 f2 f3 g0 g1 g2 g3:R3}{d0 d1 d2 d3:Af}
end
section
variable{Γ:Gam}{ns:Ad Af}
end
section
variable{Γ:Gam}{ns:Ad Af}{many s5 s6 s7 s8 s9 s0 s1 s2:Sl}{p:Af}{a b c:R3}
end
noncomputable def MK:E:=(.call 1 (.cons (.var 0) (.cons (.var 3) .nil)))
noncomputable def MX:Df:=⟨4,Ac,(.cons (.asg 2 Ac (.comp MK 3 (.e (.var 1)) DE)) (.cons (.ife (.no (.bi .any (.cons (.var 2) .nil))) (.cons (.rais 5 (.cons (.str (AV "all six numbers have the rest 0")) .nil)) .nil) .nil) (.cons (.ret (.call 17 (.cons (.var 0) (.cons (.var 2) .nil)))) .nil)))⟩
theorem Qi:∀ xs:Ad Af,Fa (ds xs)=.ok (xs.any fun x=>x != 0)
 |[]=>rfl
 |x::xs=>by
  show (DX (.int x)).bind (fun b=>(Fa (ds xs)).bind fun c=>.ok (b||c))=_
  rw[Qi xs];rfl
theorem Qy{p:Af}(hp:0<p):∀ xs:Ad Af,((xs.map fun x=>x%p).any fun x=>x != 0)=(lead p xs).isSome
 |[]=>rfl
 |x::xs=>by
  unfold lead;rw[CH,FC];by_cases h:x%p=0
  ·rw[Aw h,h,Qy hp xs];rfl
  ·rw[Az h];simp[h]
theorem SH(xs:Ad Af):(xs.map fun x=>x%p).map (fun x=>x%p)=xs.map fun x=>x%p:=by
 rw[Iq];refine Uw fun x _=>?_
 show x%p%p=x%p;rw[Bt _ (Cm p)]
def InL(p:Af)(xs:Ad Af):Prop:=∀ x∈xs,0<=x/\x<p
theorem InL.set(h:InL p xs)(k:Ag)(h0:0<=v)(h1:v<p):InL p (xs.set k v):=fun x hx=>by
 rcases UA hx with z|rfl
 ·exact h x z
 ·exact⟨h0,h1⟩
section
variable{Γ:Gam}{ns:Ad Af}{p at_:Af}
end
section
variable{Γ:Gam}{ns:Ad Af}{p t:Af}
end
structure C6 where
 c0:Af
 c1:Af
 c2:Af
 c3:Af
 c4:Af
 c5:Af
variable{C:C6}
noncomputable def C6.l(C:C6):Ad Af:=[C.c0,C.c1,C.c2,C.c3,C.c4,C.c5]
noncomputable def BW(C:C6):D:=.tup (ds C.l)
noncomputable def vI(C:C6)(x:R3):Af:=C.c0*x.1*x.1+C.c1*x.2.1*x.2.1+C.c2*x.2.2*x.2.2+(C.c3*x.1*x.2.1+C.c4*x.1*x.2.2+C.c5*x.2.1*x.2.2)
noncomputable def tw0(C:C6):R3:=(2*C.c0,C.c3,C.c4)
noncomputable def tw1(C:C6):R3:=(C.c3,2*C.c1,C.c5)
noncomputable def tw2(C:C6):R3:=(C.c4,C.c5,2*C.c2)
noncomputable def bI(C:C6)(x y:R3):Af:=Bq (ap (tw0 C) (tw1 C) (tw2 C) x) y
noncomputable def scC(k:Af)(C:C6):C6:=⟨k*C.c0,k*C.c1,k*C.c2,k*C.c3,k*C.c4,k*C.c5⟩
def CgC(p:Af)(C D:C6):Prop:=Cg p C.c0 D.c0/\Cg p C.c1 D.c1/\Cg p C.c2 D.c2/\Cg p C.c3 D.c3/\Cg p C.c4 D.c4/\Cg p C.c5 D.c5
noncomputable def pb(C:C6)(a b c:R3):C6:=⟨vI C (Ig a b c),vI C (Ie a b c),vI C (Ic a b c),bI C (Ig a b c) (Ie a b c),bI C (Ig a b c) (Ic a b c),bI C (Ie a b c) (Ic a b c)⟩
section
variable{p:Af}{C D E:C6}{a b c a' b' c' x y x' y':R3}{k k':Af}
theorem C6.ext'(h0:C.c0=D.c0)(h1:C.c1=D.c1)(h2:C.c2=D.c2)(h3:C.c3=D.c3)(h4:C.c4=D.c4)(h5:C.c5=D.c5):C=D:=by
 cases C;cases D;simp_all
theorem CgC.rfl:CgC p C C:=⟨Cg.rfl,Cg.rfl,Cg.rfl,Cg.rfl,Cg.rfl,Cg.rfl⟩
theorem CgC.of(h:C=D):CgC p C D:=by rw[h];exact CgC.rfl
theorem CgC.symm(h:CgC p C D):CgC p D C:=⟨h.1.symm,h.2.1.symm,h.2.2.1.symm,h.2.2.2.1.symm,h.2.2.2.2.1.symm,h.2.2.2.2.2.symm⟩
theorem CgC.trans(h:CgC p C D)(g:CgC p D E):CgC p C E:=⟨h.1.trans g.1,h.2.1.trans g.2.1,h.2.2.1.trans g.2.2.1,h.2.2.2.1.trans g.2.2.2.1,h.2.2.2.2.1.trans g.2.2.2.2.1,h.2.2.2.2.2.trans g.2.2.2.2.2⟩
theorem CgC.sc(hk:Cg p k k')(h:CgC p C D):CgC p (scC k C) (scC k' D):=⟨hk.mul h.1,hk.mul h.2.1,hk.mul h.2.2.1,hk.mul h.2.2.2.1,hk.mul h.2.2.2.2.1,hk.mul h.2.2.2.2.2⟩
theorem Jw(h:CgC p C D)(hx:CgR p x x'):Cg p (vI C x) (vI D x'):=
 (((((h.1.mul hx.1).mul hx.1).add ((h.2.1.mul hx.2.1).mul hx.2.1)).add ((h.2.2.1.mul hx.2.2).mul hx.2.2))).add ((((h.2.2.2.1.mul hx.1).mul hx.2.1).add ((h.2.2.2.2.1.mul hx.1).mul hx.2.2)).add ((h.2.2.2.2.2.mul hx.2.1).mul hx.2.2))
theorem Oh(h:CgC p C D):CgR p (tw0 C) (tw0 D)/\CgR p (tw1 C) (tw1 D)/\CgR p (tw2 C) (tw2 D):=
 ⟨⟨Cg.rfl.mul h.1,h.2.2.2.1,h.2.2.2.2.1⟩,⟨h.2.2.2.1,Cg.rfl.mul h.2.1,h.2.2.2.2.2⟩,⟨h.2.2.2.2.1,h.2.2.2.2.2,Cg.rfl.mul h.2.2.1⟩⟩
theorem eG(ha:CgR p a a')(hb:CgR p b b')(hc:CgR p c c')(hx:CgR p x x'):CgR p (ap a b c x) (ap a' b' c' x'):=⟨Jp ha hx,Jp hb hx,Jp hc hx⟩
theorem Os(h:CgC p C D)(hx:CgR p x x')(hy:CgR p y y'):Cg p (bI C x y) (bI D x' y'):=
 let ⟨t0,t1,t2⟩:=Oh h
 Jp (eG t0 t1 t2 hx) hy
theorem kP(h:CgC p C D)(ha:CgR p a a')(hb:CgR p b b')(hc:CgR p c c'):CgC p (pb C a b c) (pb D a' b' c'):=
 let ⟨s0,s1,s2⟩:=eO ha hb hc
 ⟨Jw h s0,Jw h s1,Jw h s2,Os h s0 s1,Os h s0 s2,Os h s1 s2⟩
theorem RC(k l:Af)(C:C6):scC k (scC l C)=scC (k*l) C:=by
 unfold scC;simp only[FA]
theorem QN(C:C6):scC 1 C=C:=by unfold scC;simp only[Dc]
theorem kO(k:Af)(C:C6)(a b c:R3):pb (scC k C) a b c=scC k (pb C a b c):=by
 unfold pb scC vI bI ap tw0 tw1 tw2 Bq;refine C6.ext' ?_ ?_ ?_ ?_ ?_ ?_<;>(simp only;grind)
theorem Rh(k:Af)(C:C6):Aq (tw0 (scC k C)) (tw1 (scC k C)) (tw2 (scC k C))=k*k*k*Aq (tw0 C) (tw1 C) (tw2 C):=by
 rw[<-eJ];unfold tw0 tw1 tw2 scC Dj;simp only[<-FA,BV 2 k]
def PrC(p:Af)(C D:C6):Prop:=∃ d,d%p≠0/\CgC p C (scC d D)
theorem PrC.rfl(hp:P4 p):PrC p C C:=⟨1,hp.o1,CgC.of (QN C).symm⟩
theorem PrC.trans(hp:P4 p)(i:PrC p C D)(j:PrC p D E):PrC p C E:=by
 obtain⟨d,dz,e⟩:=i;obtain⟨d',dz',e'⟩:=j;exact⟨d*d',Gb hp dz dz',e.trans ((CgC.sc Cg.rfl e').trans (CgC.of (RC _ _ _)))⟩
theorem RM(hp:P4 p)(dz:k%p≠0):∃ u,u%p≠0/\Cg p (u*k) 1:=by
 obtain⟨u,u1,u2,u3⟩:=Ke hp dz;refine⟨u,by rw[A1 (by omega) u2];omega,?_⟩
 show u*k%p=1%p;rw[BV,u3,A1 (by decide) (by have:=hp.lo;omega)]
theorem PrC.symm(hp:P4 p)(i:PrC p C D):PrC p D C:=by
 obtain⟨d,dz,e⟩:=i;obtain⟨u,uz,o⟩:=RM hp dz;refine⟨u,uz,?_⟩;have q:=CgC.sc (k:=u) (k':=u) Cg.rfl e;rw[RC]at q;exact(q.trans ((CgC.sc o CgC.rfl).trans (CgC.of (QN D)))).symm
theorem PrC.pb(i:PrC p C D):PrC p (OvC.pb C a b c) (OvC.pb D a b c):=by
 obtain⟨d,dz,e⟩:=i;exact⟨d,dz,(kP e CgR.rfl CgR.rfl CgR.rfl).trans (CgC.of (kO d D a b c))⟩
def InC(p:Af)(C:C6):Prop:=∀ x∈C.l,0<=x/\x<p
end
noncomputable def NM:Df:=⟨5,Ac,(.cons (.asg 3 Ac (.bin .Add (.bin .Add (.bin .Mult (.bin .Mult (.idx (.var 1) (.int 0)) (.idx (.var 2) (.int 0))) (.idx (.var 2) (.int 0))) (.bin .Mult (.bin .Mult (.idx (.var 1) (.int 1)) (.idx (.var 2) (.int 1))) (.idx (.var 2) (.int 1)))) (.bin .Mult (.bin .Mult (.idx (.var 1) (.int 2)) (.idx (.var 2) (.int 2))) (.idx (.var 2) (.int 2))))) (.cons (.asg 4 Ac (.bin .Add (.bin .Add (.bin .Mult (.bin .Mult (.idx (.var 1) (.int 3)) (.idx (.var 2) (.int 0))) (.idx (.var 2) (.int 1))) (.bin .Mult (.bin .Mult (.idx (.var 1) (.int 4)) (.idx (.var 2) (.int 0))) (.idx (.var 2) (.int 2)))) (.bin .Mult (.bin .Mult (.idx (.var 1) (.int 5)) (.idx (.var 2) (.int 1))) (.idx (.var 2) (.int 2))))) (.cons (.ret (.call 1 (.cons (.var 0) (.cons (.bin .Add (.var 3) (.var 4)) .nil)))) .nil)))⟩
noncomputable def MH:Df:=⟨2,Ac,(.cons (.ret (.tup (.cons (.tup (.cons (.call 1 (.cons (.var 0) (.cons (.bin .Mult (.int 2) (.idx (.var 1) (.int 0))) .nil))) (.cons (.idx (.var 1) (.int 3)) (.cons (.idx (.var 1) (.int 4)) .nil)))) (.cons (.tup (.cons (.idx (.var 1) (.int 3)) (.cons (.call 1 (.cons (.var 0) (.cons (.bin .Mult (.int 2) (.idx (.var 1) (.int 1))) .nil))) (.cons (.idx (.var 1) (.int 5)) .nil)))) (.cons (.tup (.cons (.idx (.var 1) (.int 4)) (.cons (.idx (.var 1) (.int 5)) (.cons (.call 1 (.cons (.var 0) (.cons (.bin .Mult (.int 2) (.idx (.var 1) (.int 2))) .nil))) .nil)))) .nil))))) .nil)⟩
noncomputable def MW:Df:=⟨3,Ac,(.cons (.asg 2 Ac (.call 131 (.cons (.var 0) (.cons (.var 1) .nil)))) (.cons (.ret (.cmp .NotEq (.call 61 (.cons (.var 0) (.cons (.idx (.var 2) (.int 0)) (.cons (.idx (.var 2) (.int 1)) (.cons (.idx (.var 2) (.int 2)) .nil))))) (.int 0))) .nil))⟩
theorem ix6(C:C6):CF (BW C) (.int 0)=.ok (.int C.c0)/\CF (BW C) (.int 1)=.ok (.int C.c1)/\CF (BW C) (.int 2)=.ok (.int C.c2)/\CF (BW C) (.int 3)=.ok (.int C.c3)/\CF (BW C) (.int 4)=.ok (.int C.c4)/\CF (BW C) (.int 5)=.ok (.int C.c5):=⟨rfl,rfl,rfl,rfl,rfl,rfl⟩
structure BC (C:C6):Prop where
 b0:Bd 10 C.c0
 b1:Bd 10 C.c1
 b2:Bd 10 C.c2
 b3:Bd 10 C.c3
 b4:Bd 10 C.c4
 b5:Bd 10 C.c5
theorem InC.b(hp:P4 p)(h:InC p C):BC C:=by
 have k:∀ x∈C.l,Bd 10 x:=fun x hx=>Lm hp (h x hx).1 (h x hx).2
 exact⟨k _ (by simp[C6.l]),k _ (by simp[C6.l]),k _ (by simp[C6.l]),k _ (by simp[C6.l]),k _ (by simp[C6.l]),k _ (by simp[C6.l])⟩
noncomputable def t0(p:Af)(C:C6):R3:=(2*C.c0%p,C.c3,C.c4)
noncomputable def t1(p:Af)(C:C6):R3:=(C.c3,2*C.c1%p,C.c5)
noncomputable def t2(p:Af)(C:C6):R3:=(C.c4,C.c5,2*C.c2%p)
theorem lX(hp:P4 p)(h:InC p C):In3 p (t0 p C)/\In3 p (t1 p C)/\In3 p (t2 p C):=by
 have p0:=hp.pos;have k:∀ x∈C.l,0<=x/\x<p:=h;have m:∀ x:Af,0<=x%p/\x%p<p:=fun x=>⟨Bm _ (by omega),Bo _ p0⟩
 exact⟨⟨m _,k _ (by simp[C6.l,t0]),k _ (by simp[C6.l,t0])⟩,⟨k _ (by simp[C6.l,t1]),m _,k _ (by simp[C6.l,t1])⟩,⟨k _ (by simp[C6.l,t2]),k _ (by simp[C6.l,t2]),m _⟩⟩
theorem lY(p:Af)(C:C6):CgR p (t0 p C) (tw0 C)/\CgR p (t1 p C) (tw1 C)/\CgR p (t2 p C) (tw2 C):=⟨⟨Cg.md rfl,Cg.rfl,Cg.rfl⟩,⟨Cg.rfl,Cg.md rfl,Cg.rfl⟩,⟨Cg.rfl,Cg.rfl,Cg.md rfl⟩⟩
def Q9(Γ:Gam):Prop:=∀(p:Af)(C:C6),P4 p->Γ.F 131 [.int p,BW C]=.ok (Ln (t0 p C) (t1 p C) (t2 p C))
theorem XU(hr:IM Γ)(p:Af)(C:C6)(hp:P4 p):MH.run Γ [.int p,BW C]=.ok (Ln (t0 p C) (t1 p C) (t2 p C)):=by
 obtain⟨i0,i1,i2,i3,i4,i5⟩:=ix6 C;have m22:∀ y,Ey 2 y=Ab:=fun y=>Jo (by decide) (by decide)
 simp[MH,Df.run,BL,i0,i1,i2,i3,i4,i5,m22,hr p _ hp.pos];rfl
def Sh(Γ:Gam):Prop:=∀(p:Af)(b:Ao)(xs:Ad Af)(l t:Af),P4 p->lead p xs=Aa l->Ik p l t->Γ.F 122 [.int p,DT b xs]=.ok (.tup (ds (fmI p t xs)))
theorem dQ(hr:IM Γ)(hf:Nv Γ){b:Ao}{l t:Af}(hp:P4 p)(e:lead p xs=Aa l)(it:Ik p l t):MX.run Γ [.int p,DT b xs]=.ok (.tup (ds (fmI p t xs))):=by
 have p0:=hp.pos;have cp:BF (cG Γ [si p,sh (DT b xs),Ae,Ae] 3 DE) (cF Γ [si p,sh (DT b xs),Ae,Ae] 3 MK) (ds xs)=.ok (ds (xs.map fun x=>x%p)):=by
  refine LF xs fun x _=>⟨rfl,?_⟩
  simp[cF,MK,hr p x p0]
 have an:=Qi (xs.map fun x=>x%p)
 rw[Qy p0,e]at an;have le:lead p (xs.map fun x=>x%p)=Aa l:=by rw[MR (SH xs)];exact e
 have f:=hf p Ac (xs.map fun x=>x%p) l t hp le it
 rw[WR (SH xs)]at f;have f':Γ.F 17 [.int p,.lst (ds (xs.map fun x=>x%p))]=.ok (.tup (ds (fmI p t xs))):=f
 simp[MX,Df.run,BL,Px,cp,an,f']
theorem lI{E:C6}{l:Af}(hp:P4 p)(el:lead p E.l=Aa l):∃(t:Af)(D:C6),Ik p l t/\fmI p t E.l=D.l/\InC p D/\lead p D.l=Aa 1/\PrC p D E:=by
 have p0:=hp.pos;obtain⟨lz,_,_⟩:=LO p0 el;obtain⟨t,t1,t2,t3⟩:=Ke hp lz;have tz:t%p≠0:=by rw[A1 (by omega) t2];omega
 have ff:∀ x,(t*(x%p)%p)%p=t*x%p:=fun x=>by rw[Bt _ (Cm p),BG t (x%p) p,Bt _ (Cm p),<-BG]
 have lv:=KS hp tz (f:=fun x=>t*(x%p)%p) ff E.l
 rw[el,ET,BV,t3]at lv;have key:∀ x:Af,Cg p (t*(x%p)%p) (t*x):=fun x=>(Cg.md rfl).trans (Cg.rfl.mul (Cg.md rfl))
 refine⟨t,⟨t*(E.c0%p)%p,t*(E.c1%p)%p,t*(E.c2%p)%p,t*(E.c3%p)%p,t*(E.c4%p)%p,t*(E.c5%p)%p⟩,⟨t1,t2,t3⟩,rfl,fun x hx=>?_,lv,t,tz,key _,key _,key _,key _,key _,key _⟩
 obtain⟨y,_,rfl⟩:=Cn.mp (show x∈E.l.map fun x=>t*(x%p)%p from hx)
 exact⟨Bm _ (by omega),Bo _ p0⟩
section
variable{Γ:Gam}{ns:Ad Af}{p at_:Af}{φ:Af->Af}
end
def Pr(p:Af)(x y:R3):Prop:=∃ d,d%p≠0/\CgR p x (Dj d y)
section
variable{p:Af}{a b c x y z f g h:R3}{k:Af}
theorem Mg(x:R3):Dj 1 x=x:=by unfold Dj;simp only[Dc]
theorem Pr.rfl(hp:P4 p):Pr p x x:=⟨1,hp.o1,CgR.of (Mg x).symm⟩
theorem Pr.trans(hp:P4 p)(i:Pr p x y)(j:Pr p y z):Pr p x z:=by
 obtain⟨d,dz,e⟩:=i;obtain⟨d',dz',e'⟩:=j;exact⟨d*d',Gb hp dz dz',e.trans ((CgR.sc Cg.rfl e').trans (CgR.of (Of _ _ _)))⟩
theorem Pr.symm(hp:P4 p)(i:Pr p x y):Pr p y x:=by
 obtain⟨d,dz,e⟩:=i;obtain⟨u,u1,u2,u3⟩:=Ke hp dz;have uz:u%p≠0:=by rw[A1 (by omega) u2];omega
 have o:Cg p (u*d) 1:=by
  show u*d%p=1%p;rw[BV,u3,A1 (by decide) (by have:=hp.lo;omega)]
 refine⟨u,uz,?_⟩;have q:=CgR.sc (k:=u) (k':=u) Cg.rfl e;rw[Of]at q;exact(q.trans ((CgR.sc o CgR.rfl).trans (CgR.of (Mg y)))).symm
theorem SU{a' b' c' x':R3}(ha:CgR p a a')(hb:CgR p b b')(hc:CgR p c c')(hx:CgR p x x'):CgR p (ap a b c x) (ap a' b' c' x'):=⟨Jp ha hx,Jp hb hx,Jp hc hx⟩
theorem Pr.ap(i:Pr p x y):Pr p (OvC.ap a b c x) (OvC.ap a b c y):=by
 obtain⟨d,dz,e⟩:=i;exact⟨d,dz,(SU CgR.rfl CgR.rfl CgR.rfl e).trans (CgR.of (kX a b c y d))⟩
theorem SV(a b c v:R3):ap (bk0 a b c) (bk1 a b c) (bk2 a b c) (ap a b c v)=Dj (Aq a b c) v:=by
 unfold ap Dj Bq bk0 bk1 bk2 Ig Ie Ic crs Aq det;refine D5 ?_ (D5 ?_ ?_)<;>(simp only;grind)
end
noncomputable def tri(g:R3):Ad Af:=[g.1,g.2.1,g.2.2]
theorem QH(hp:P4 p)(ix:In3 p x)(iy:In3 p y)(lx:lead p (tri x)=Aa 1)(ly:lead p (tri y)=Aa 1)(h:Pr p x y):x=y:=by
 obtain⟨d,dz,e⟩:=h;have p1:1<p:=by have:=hp.lo;omega
 have rs:(tri x).map (fun x=>x%p)=((tri y).map fun x=>d*x).map (fun x=>x%p):=by
  simp only[tri,CH,Ux];rw[show x.1%p=d*y.1%p from e.1,show x.2.1%p=d*y.2.1%p from e.2.1,show x.2.2%p=d*y.2.2%p from e.2.2]
 have el:=KS hp dz (f:=fun x=>d*x) (fun _=>rfl) (tri y)
 rw[ly,<-MR rs,lx,ET,Cr,EH]at el;have o:Cg p d 1:=by
  show d%p=1%p;rw[<-el,A1 (by decide) p1]
 have q:=e.trans ((CgR.sc o CgR.rfl).trans (CgR.of (Mg y)));have same:∀{u v:Af},(0<=u/\u<p)->(0<=v/\v<p)->Cg p u v->u=v:=fun hu hv huv=>by
  have:=show _%p=_%p from huv
  rwa [A1 hu.1 hu.2,A1 hv.1 hv.2]at this
 exact D5 (same ix.1 iy.1 q.1) (D5 (same ix.2.1 iy.2.1 q.2.1) (same ix.2.2 iy.2.2 q.2.2))
section
variable{p:Af}{a b c a' b' c' f0 f1 f2 f3 g0 g1 g2 g3 h0 h1 h2 h3:R3}
end
section
variable{Γ:Gam}{ns:Ad Af}{p:Af}
end
noncomputable def L3(a b c:R3):Ad D:=[HA a,HA b,HA c]
def N2(Γ:Gam)(mid:Ag)(ns:Ad Af):Prop:=∀ k:Af,0<=k->∃ m,0<=m/\Γ.F mid [scr ns,.int k]=.ok (.int m)
section
variable{Γ:Gam}{ns:Ad Af}{mid:Ag}{p:Af}{a b c:R3}{s2 s4 s5 s6 s7 s8:Sl}
end
theorem Wd{lo hi:Af}(h1:-1000<=lo)(h2:lo<=1000)(h3:-1000<=hi)(h4:hi<=1000):Da lo hi=.ok (DK lo (hi-lo).toNat):=by
 unfold Da;rw[Aw (by refine⟨⟨by omega,by omega⟩,⟨by omega,by omega⟩,?_⟩;omega)]
noncomputable def HW:Df:=⟨3,Ac,(.cons (.asg 2 Ac (.bin .Mod (.var 1) (.bin .Add (.bin .Add (.bin .Mult (.var 0) (.var 0)) (.var 0)) (.int 1)))) (.cons (.ife (.cmp .Eq (.var 2) (.int 0)) (.cons (.ret (.tup (.cons (.int 0) (.cons (.int 0) (.cons (.int 1) .nil))))) .nil) .nil) (.cons (.ife (.cmp .LtE (.var 2) (.var 0)) (.cons (.ret (.tup (.cons (.int 0) (.cons (.int 1) (.cons (.bin .Sub (.var 2) (.int 1)) .nil))))) .nil) .nil) (.cons (.ret (.tup (.cons (.int 1) (.cons (.bin .FloorDiv (.bin .Sub (.bin .Sub (.var 2) (.var 0)) (.int 1)) (.var 0)) (.cons (.bin .Mod (.bin .Sub (.bin .Sub (.var 2) (.var 0)) (.int 1)) (.var 0)) .nil))))) .nil))))⟩
theorem bY(h:1<p):lead p [0,0,1]=Aa 1:=by
 simp[lead,A1 (by decide:(0:Af)<=1) h]
theorem jQ(h:1<p)(z:Af):lead p [0,1,z]=Aa 1:=by
 simp[lead,A1 (by decide:(0:Af)<=1) h]
theorem mS(h:1<p)(y z:Af):lead p [1,y,z]=Aa 1:=by
 simp[lead,A1 (by decide:(0:Af)<=1) h]
noncomputable def prd(a b:R3):C6:=⟨a.1*b.1,a.2.1*b.2.1,a.2.2*b.2.2,a.1*b.2.1+a.2.1*b.1,a.1*b.2.2+a.2.2*b.1,a.2.1*b.2.2+a.2.2*b.2.1⟩
theorem Xu{C E:C6}(hp:P4 p)(h:PrC p C E)(z:Aq (tw0 E) (tw1 E) (tw2 E)%p≠0):Aq (tw0 C) (tw1 C) (tw2 C)%p≠0:=by
 obtain⟨d,dz,cg⟩:=h;obtain⟨x0,x1,x2⟩:=Oh cg;exact kS ((NL x0 x1 x2).trans (Cg.of (Rh d E))) (Gb hp (nz3 hp dz dz dz) z)
theorem Qp{p l:Af}(hp:P4 p)(el:lead p (tri r)=Aa l):∃ u,Ik p l u/\In3 p (fmR p u r)/\lead p (tri (fmR p u r))=Aa 1/\Pr p (fmR p u r) r/\fmI p u (tri r)=tri (fmR p u r):=by
 have p0:=hp.pos;obtain⟨lz,_,_⟩:=LO p0 el;obtain⟨t,t1,t2,t3⟩:=Ke hp lz;have tz:t%p≠0:=by rw[A1 (by omega) t2];omega
 have ff:∀ x,(t*(x%p)%p)%p=t*x%p:=fun x=>by rw[Bt _ (Cm p),BG t (x%p) p,Bt _ (Cm p),<-BG]
 have lv:=KS hp tz (f:=fun x=>t*(x%p)%p) ff (tri r)
 rw[el,ET,BV,t3]at lv;exact⟨t,⟨t1,t2,t3⟩,lJ p0 t r,lv,⟨t,tz,lK p t r⟩,rfl⟩
theorem PD(h:lead p (tri g)=Ae):CgR p g (0,0,0):=by
 have hz:=Jl.mp h;have k:∀ x∈tri g,Cg p x 0:=fun x hx=>by show x%p=0%p;rw[hz x hx,BD]
 exact⟨k _ (by simp[tri]),k _ (by simp[tri]),k _ (by simp[tri])⟩
theorem Qo(h:CgR p g (0,0,0)):lead p (tri g)=Ae:=by
 refine Jl.mpr fun x hx=>?_
 have k:∀{x:Af},Cg p x 0->x%p=0:=fun {x} h=>by rw[show x%p=_ from h,BD]
 simp only[tri,AB,Bc,Cd]at hx;rcases hx with rfl|rfl|rfl
 ·exact k h.1
 ·exact k h.2.1
 ·exact k h.2.2
theorem ZL{p l:Af}{a b c f g:R3}(hp:P4 p)(z:Aq a b c%p≠0)(lf:lead p (tri f)=Aa l)(h:CgR p g (ap a b c f)):∃ l,lead p (tri g)=Aa l:=by
 cases el:lead p (tri g) with
 |some l=>exact⟨l,rfl⟩
 |none=>
  have q0:CgR p (ap a b c f) (0,0,0):=h.symm.trans (PD el);have q1:CgR p (Dj (Aq a b c) f) (0,0,0):=by
   have:=SU (CgR.rfl (a:=bk0 a b c)) (CgR.rfl (a:=bk1 a b c)) (CgR.rfl (a:=bk2 a b c)) q0;rw[SV]at this;refine this.trans (CgR.of ?_);unfold ap Bq;simp
  obtain⟨u,uz,o⟩:=RM hp z;have q2:CgR p f (0,0,0):=by
   have w:=CgR.sc (k:=u) (k':=u) Cg.rfl q1;rw[Of]at w;refine((CgR.of (Mg f).symm).trans (CgR.sc o.symm CgR.rfl)).trans (w.trans (CgR.of ?_));unfold Dj;simp
  rw[Qo q2]at lf;cases lf
theorem eI(a b c v:R3):ap a b c (ap (bk0 a b c) (bk1 a b c) (bk2 a b c) v)=Dj (Aq a b c) v:=by
 unfold ap Dj Bq bk0 bk1 bk2 Ig Ie Ic crs Aq det;refine D5 ?_ (D5 ?_ ?_)<;>(simp only;grind)
noncomputable def OK(mid:Ag):Df:=⟨1,Ac,(.cons (.ret (.idx (.lst (.cons (.int 3) (.cons (.int 5) (.cons (.int 7) (.cons (.int 11) .nil))))) (.bin .Mod (.bin .FloorDiv (.call mid (.cons (.var 0) (.cons (.int 0) .nil))) (.int 5)) (.int 4)))) .nil)⟩
theorem W3{mid:Ag}(h:N2 Γ mid ns):∃ p,P4 p/\(OK mid).run Γ [scr ns]=.ok (.int p):=by
 obtain⟨m,m0,e⟩:=h 0 (by decide)
 refine⟨_,dZ (m / 5),?_⟩;simp[OK,Df.run,BL,e,Xk]
noncomputable def M0:Df:=⟨8,Ac,(.cons (.asgT [2,3,4] (.var 0)) (.cons (.asgT [5,6,7] (.var 1)) (.cons (.ret (.lst (.cons (.bin .Sub (.bin .Mult (.var 3) (.var 7)) (.bin .Mult (.var 4) (.var 6))) (.cons (.bin .Sub (.bin .Mult (.var 4) (.var 5)) (.bin .Mult (.var 2) (.var 7))) (.cons (.bin .Sub (.bin .Mult (.var 2) (.var 6)) (.bin .Mult (.var 3) (.var 5))) .nil))))) .nil)))⟩
noncomputable def MC:E:=(.bin .Mult (.var 7) (.var 8))
noncomputable def MQ:Df:=⟨9,Ac,(.cons (.asgT [3,4,5] (.var 2)) (.cons (.asg 6 Ac (.lst (.cons (.bin .Mult (.var 3) (.var 3)) (.cons (.bin .Mult (.var 4) (.var 4)) (.cons (.bin .Mult (.var 5) (.var 5)) (.cons (.bin .Mult (.var 3) (.var 4)) (.cons (.bin .Mult (.var 3) (.var 5)) (.cons (.bin .Mult (.var 4) (.var 5)) .nil)))))))) (.cons (.ret (.bin .Mod (.bi .sum (.cons (.compT MC [7,8] (.zip (.var 1) (.var 6)) DE) .nil)) (.var 0))) .nil)))⟩
section
variable{Γ:Gam}{ns:Ad Af}{p:Af}{C:C6}{s3 s4 s5 s6 s7 s8:Sl}
end
noncomputable def KN:Ss:=(.cons (.asg 2 Ac (.bin .FloorDiv (.var 2) (.int 1000033))) .nil)
noncomputable def KM:Df:=⟨4,Ac,(.cons (.asg 2 Ac (.int 0)) (.cons (.ife (.cmp .Gt (.bi .len (.cons (.var 0) .nil)) (.int 0)) (.cons (.asg 2 Ac (.idx (.var 0) (.bin .Mod (.var 1) (.bi .len (.cons (.var 0) .nil))))) .nil) .nil) (.cons (.ife (.cmp .Eq (.bin .Mod (.bi .len (.cons (.var 0) .nil)) (.int 2)) (.int 0)) (.cons (.fors 3 (.rng (.bi .min (.cons (.int 60) (.cons (.bin .FloorDiv (.var 1) (.bi .max (.cons (.int 1) (.cons (.bi .len (.cons (.var 0) .nil)) .nil)))) .nil)))) KN) (.cons (.ret (.bin .Mod (.var 2) (.int 1000033))) .nil)) .nil) (.cons (.ret (.bin .Mod (.bin .Mult (.bin .Mod (.bin .Mult (.bin .Add (.bin .Add (.bin .Mod (.var 2) (.int 1000003)) (.bin .Mult (.int 7919) (.var 1))) (.int 11)) (.int 48271)) (.int 1000033)) (.int 69621)) (.int 1000033))) .nil))))⟩
section
variable{Γ:Gam}{ns:Ad Af}
theorem Xd(k x:Af)(n:Ag):∃ y s3,Ch (BK Γ 3 KN) (DK 0 n) [sh (scr ns),si k,si x,Ae]=.next [sh (scr ns),si k,si y,s3]:=by
 obtain⟨ρ',e,y,s3,rfl⟩:=Qb (body:=BK Γ 3 KN) (fun ρ=>∃ y s3,ρ=[sh (scr ns),si k,si y,s3]) (DK 0 n) [sh (scr ns),si k,si x,Ae] ⟨x,Ae,rfl⟩ (by
  rintro z hz ρ ⟨y,s3,rfl⟩;obtain⟨j,_,rfl⟩:=Qx hz;exact⟨[sh (scr ns),si k,si (y / 1000033),si (0+(j:Af))],by simp[BK,KN],_,_,rfl⟩)
 exact⟨y,s3,e⟩
theorem dM(Γ:Gam)(ns:Ad Af)(hl:ns.length<=63)(k:Af)(k0:0<=k):∃ m,0<=m/\KM.run Γ [scr ns,.int k]=.ok (.int m):=by
 have m1:Ey 7919 k=Ab:=Jo (by decide) (by decide)
 have m2:∀ x,Ey x 48271=Ab:=fun x=>NC (by decide) (by decide)
 have m3:∀ x,Ey x 69621=Ab:=fun x=>NC (by decide) (by decide)
 generalize hn:(ns.length:Af)=n;have n0:0<=n:=by omega
 have n1:n<=63:=by omega
 have len:biD .len [scr ns]=.ok (.int n):=by rw[<-hn];show R.ok (D.int ((ns.map D.int).length:Ag))=_;rw[Cf]
 have fin:∀ x hi:Af,0<=hi->hi<=60->∃ y s3,OQ Γ 3 KN [sh (scr ns),si k,si x,Ae] (Da 0 hi)=.next [sh (scr ns),si k,si y,s3]:=fun x hi h0 h1=>by
  rw[Wf h0 (by omega)]
  exact Xd (Γ:=Γ) (ns:=ns) k x hi.toNat
 have mx:0<(if 1<n then n else 1)/\(if 1<n then n else 1)<1073741824:=by split<;>omega
 generalize hM:(if 1<n then n else 1)=M at mx
 have hi:∀ q:Af,0<=q->0<=(if q<60 then q else 60)/\(if q<60 then q else 60)<=60:=fun q h=>by split<;>omega
 have q0:0<=k / M:=Ud k0 (by omega)
 obtain⟨u1,u2⟩:=hi _ q0;by_cases hp:0<n
 ·have r0:0<=k%n:=Bm _ (by omega)
  have r1:k%n<ns.length:=by rw[hn];exact Bo _ hp
  have g:=YL r0 r1;generalize ns.getD (k%n).toNat 0=x at g;by_cases h2:n%2=0
  ·obtain⟨y,s3,e⟩:=fin x _ u1 u2;refine⟨y%1000033,Bm _ (by decide),?_⟩
   have gx:CF (scr ns) (.int (k%n))=.ok (.int x):=g;simp[KM,Df.run,BL,len,hp,gx,h2,hM,mx.1,mx.2,e]
  ·refine⟨((x%1000003+7919*k+11)*48271%1000033)*69621%1000033,Bm _ (by decide),?_⟩
   have gx:CF (scr ns) (.int (k%n))=.ok (.int x):=g;simp[KM,Df.run,BL,len,hp,gx,h2,m1,m2,m3]
 ·have z:n=0:=by omega
  subst z;obtain⟨y,s3,e⟩:=fin 0 _ u1 u2;refine⟨y%1000033,Bm _ (by decide),?_⟩
  have hM':M=1:=by rw[<-hM];rfl
  subst hM';simp at e;simp[KM,Df.run,BL,len,e]
end
noncomputable def N7:Df:=⟨3,Ac,(.cons (.ret (.call 17 (.cons (.var 0) (.cons (.call 23 (.cons (.var 1) (.cons (.var 2) .nil))) .nil)))) .nil)⟩
theorem Qf{a b:R3}(hp:P4 p)(h:CgR p (crs a b) (0,0,0))(la:lead p (tri a)=Aa 1)(lb:lead p (tri b)=Aa 1):Pr p b a:=by
 obtain⟨h0,h1,h2⟩:=h;have p1:1<p:=by have:=hp.lo;omega
 have sw:∀{x y:Af},Cg p (x-y) 0->Cg p x y:=fun {x y} h=>by
  have:=h.add (Cg.rfl (a:=y))
  rwa [Int.sub_add_cancel,DM]at this
 have e0:Cg p (a.2.1*b.2.2) (a.2.2*b.2.1):=sw h0;have e1:Cg p (a.2.2*b.1) (a.1*b.2.2):=sw h1;have e2:Cg p (a.1*b.2.1) (a.2.1*b.1):=sw h2;have one:∀{x:Af},x%p=1->Cg p x 1:=fun {x} h=>by show x%p=1%p;rw[h,A1 (by decide) p1]
 have fin:∀ k,CgR p b (Dj k a)->Pr p b a:=fun k hk=>by
  refine⟨k,fun z=>?_,hk⟩
  have:CgR p b (0,0,0):=by
   have kz:Cg p k 0:=by show k%p=0%p;rw[z,BD]
   refine hk.trans ((CgR.sc kz CgR.rfl).trans (CgR.of ?_));unfold Dj;simp
  rw[Qo this]at lb;cases lb
 unfold tri lead at la;by_cases z0:a.1%p=0
 ·rw[Aw z0]at la;have c0:Cg p a.1 0:=by show a.1%p=0%p;rw[z0,BD]
  unfold lead at la;by_cases z1:a.2.1%p=0
  ·rw[Aw z1]at la;have c1:Cg p a.2.1 0:=by show a.2.1%p=0%p;rw[z1,BD]
   unfold lead at la;by_cases z2:a.2.2%p=0
   ·rw[Aw z2]at la;cases la
   ·rw[Az z2,Cr]at la;have c2:=one la;refine fin b.2.2 ⟨?_,?_,?_⟩
    ·have:=(c2.symm.mul (Cg.rfl (a:=b.1))).trans e1;rw[Dc]at this;exact this.trans (Cg.of (BV _ _))
    ·have:=(c2.symm.mul (Cg.rfl (a:=b.2.1))).trans e0.symm;rw[Dc]at this;exact this.trans (Cg.of (BV _ _))
    ·have:=(Cg.rfl (a:=b.2.2)).mul c2;rw[EH]at this;exact this.symm
  ·rw[Az z1,Cr]at la;have c1:=one la;refine fin b.2.1 ⟨?_,?_,?_⟩
   ·have:=(c1.symm.mul (Cg.rfl (a:=b.1))).trans e2.symm;rw[Dc]at this;exact this.trans (Cg.of (BV _ _))
   ·have:=(Cg.rfl (a:=b.2.1)).mul c1;rw[EH]at this;exact this.symm
   ·have:=(c1.symm.mul (Cg.rfl (a:=b.2.2))).trans e0;rw[Dc]at this;exact this.trans (Cg.of (BV _ _))
 ·rw[Az z0,Cr]at la;have c0:=one la;refine fin b.1 ⟨?_,?_,?_⟩
  ·have:=(Cg.rfl (a:=b.1)).mul c0;rw[EH]at this;exact this.symm
  ·have:=(c0.symm.mul (Cg.rfl (a:=b.2.1))).trans e2;rw[Dc]at this;exact this.trans (Cg.of (BV _ _))
  ·have:=(c0.symm.mul (Cg.rfl (a:=b.2.2))).trans e1.symm;rw[Dc]at this;exact this.trans (Cg.of (BV _ _))
def Sg(Γ:Gam):Prop:=∀(p:Af)(a b:R3),P4 p->In3 p a->In3 p b->lead p (tri a)=Aa 1->lead p (tri b)=Aa 1->a≠b->∃ y,In3 p y/\lead p (tri y)=Aa 1/\Pr p y (crs a b)/\Γ.F 57 [.int p,At Ab a,At Ab b]=.ok (At Ab y)
theorem dP(hc:ZN Γ)(hf:Nv Γ)(p:Af)(a b:R3)(hp:P4 p)(ia:In3 p a)(ib:In3 p b)(la:lead p (tri a)=Aa 1)(lb:lead p (tri b)=Aa 1)(ne:a≠b):∃ y,In3 p y/\lead p (tri y)=Aa 1/\Pr p y (crs a b)/\N7.run Γ [.int p,At Ab a,At Ab b]=.ok (At Ab y):=by
 have e1:=hc a b ((Fe hp ia).b3 (by decide)) ((Fe hp ib).b3 (by decide)) ne
 cases el:lead p (tri (crs a b)) with
 |none=>exact absurd (QH hp ib ia lb la (Qf hp (PD el) la lb)).symm ne
 |some l=>
  obtain⟨u,iu,j,l1,pr,ef⟩:=Qp hp el;have e2:=hf p Ab _ l u hp el iu;rw[ef]at e2;have e2':Γ.F 17 [.int p,At Ab (crs a b)]=.ok (At Ab (fmR p u (crs a b))):=e2;refine⟨_,j,l1,pr,?_⟩;generalize At Ab (fmR p u (crs a b))=Y at *;simp[N7,Df.run,BL,e1,e2']
noncomputable def MZ:E:=(.bin .Mult (.var 3) (.var 4))
noncomputable def Np:Df:=⟨5,Ac,(.cons (.ret (.cmp .Eq (.bin .Mod (.bi .sum (.cons (.compT MZ [3,4] (.zip (.var 2) (.var 1)) DE) .nil)) (.var 0)) (.int 0))) .nil)⟩
def fZ(Γ:Gam):Prop:=∀(p:Af)(C:C6)(x:R3),P4 p->InC p C->In3 p x->Γ.F 162 [.int p,BW C,At Ab x]=.ok (.int (vI C x%p))
theorem dN(Γ:Gam)(p:Af)(C:C6)(x:R3)(hp:P4 p)(iC:InC p C)(ix:In3 p x):MQ.run Γ [.int p,BW C,At Ab x]=.ok (.int (vI C x%p)):=by
 have p0:=hp.pos;have bC:=iC.b hp;have bx:=Fe hp ix;have k:∀ {u v},Bd 10 u->Bd 10 v->EO u v=Ab:=fun hu hv=>GD hu hv (by decide) (by decide)
 have k2:∀ {u v w},Bd 10 u->Bd 10 v->Bd 10 w->EO u (v*w)=Ab:=fun hu hv hw=>GD hu (hv.mul hw) (by decide) (by decide)
 obtain⟨c0,c1,c2,c3,c4,c5⟩:=C;obtain⟨x0,x1,x2⟩:=x;have q00:=k bx.1 bx.1;have q11:=k bx.2.1 bx.2.1;have q22:=k bx.2.2 bx.2.2;have q01:=k bx.1 bx.2.1;have q02:=k bx.1 bx.2.2;have q12:=k bx.2.1 bx.2.2;have m0:=k2 bC.b0 bx.1 bx.1;have m1:=k2 bC.b1 bx.2.1 bx.2.1;have m2:=k2 bC.b2 bx.2.2 bx.2.2;have m3:=k2 bC.b3 bx.1 bx.2.1;have m4:=k2 bC.b4 bx.1 bx.2.2;have m5:=k2 bC.b5 bx.2.1 bx.2.2;simp only at q00 q11 q22 q01 q02 q12 m0 m1 m2 m3 m4 m5;have sC:Ck (BW ⟨c0,c1,c2,c3,c4,c5⟩)=.ok [.int c0,.int c1,.int c2,.int c3,.int c4,.int c5]:=rfl;have as:∀ ρ:Rho,Hy [3,4,5] (At Ab (x0,x1,x2)) ρ=.ok (((ρ.set 3 (si x0)).set 4 (si x1)).set 5 (si x2)):=fun _=>rfl
 have ev:vI ⟨c0,c1,c2,c3,c4,c5⟩ (x0,x1,x2)=c0*(x0*x0)+c1*(x1*x1)+c2*(x2*x2)+c3*(x0*x1)+c4*(x0*x2)+c5*(x1*x2):=by
  unfold vI;simp only;grind
 rw[ev];generalize BW ⟨c0,c1,c2,c3,c4,c5⟩=cC at *;generalize At Ab (x0,x1,x2)=xx at *;generalize hz0:x0*x0=z0 at *;generalize hz1:x1*x1=z1 at *;generalize hz2:x2*x2=z2 at *;generalize hz3:x0*x1=z3 at *;generalize hz4:x0*x2=z4 at *;generalize hz5:x1*x2=z5 at *;have cp:BF (cGT Γ [si p,sh cC,sh xx,si x0,si x1,si x2,sh (.lst [.int z0,.int z1,.int z2,.int z3,.int z4,.int z5]),Ae,Ae] [7,8] DE) (cFT Γ [si p,sh cC,sh xx,si x0,si x1,si x2,sh (.lst [.int z0,.int z1,.int z2,.int z3,.int z4,.int z5]),Ae,Ae] [7,8] MC) (El [.int c0,.int c1,.int c2,.int c3,.int c4,.int c5] [.int z0,.int z1,.int z2,.int z3,.int z4,.int z5])=.ok [.int (c0*z0),.int (c1*z1),.int (c2*z2),.int (c3*z3),.int (c4*z4),.int (c5*z5)]:=by
  simp[BF,cGT,cFT,El,MC,DE,m0,m1,m2,m3,m4,m5]
 generalize hs:c0*z0+c1*z1+c2*z2+c3*z3+c4*z4+c5*z5=s;have sm:Gp 0 [.int (c0*z0),.int (c1*z1),.int (c2*z2),.int (c3*z3),.int (c4*z4),.int (c5*z5)]=.ok s:=by rw[<-hs];simp[Gp]
 simp[MQ,Df.run,BL,as,q00,q11,q22,q01,q02,q12,hz0,hz1,hz2,hz3,hz4,hz5,sC,cp,sm,p0]
theorem ZV(a b:R3):Bq (crs a b) a=0/\Bq (crs a b) b=0:=by
 unfold Bq crs;constructor<;>grind
theorem E7{x:Af}(hp:P4 p)(kz:k%p≠0):k*x%p=0↔x%p=0:=by
 constructor
 ·intro z;exact Ua fun n=>Gb hp kz n z
 ·intro z;rw[BG,z,Ed,BD]
section
variable{Γ:Gam}{ns:Ad Af}{p:Af}{C:C6}{s3 s4 s5 s6 s7 s8:Sl}
end
def NF(p:Af)(x:R3):Prop:=In3 p x/\lead p (tri x)=Aa 1
noncomputable def ptI(p n:Af):R3:=if n=0 then (0,0,1) else if n<=p then (0,1,n-1) else (1,(n-p-1) / p,(n-p-1)%p)
noncomputable def Fq(p:Af):Ad R3:=(Bz (p*p+p+1).toNat).map fun(n:Ag)=>ptI p n
theorem SN{n:Af}(hp:P4 p)(h0:0<=n)(h1:n<p*p+p+1):NF p (ptI p n):=by
 have p1:1<p:=by have:=hp.lo;omega
 have p0:=hp.pos;unfold ptI;by_cases z:n=0
 ·rw[Aw z];exact⟨⟨⟨by decide,p0⟩,⟨by decide,p0⟩,⟨by decide,p1⟩⟩,bY p1⟩
 ·rw[Az z];by_cases z1:n<=p
  ·rw[Aw z1];exact⟨⟨⟨IW 0,p0⟩,⟨(by decide:(0:Af)<=1),p1⟩,⟨by show 0<=n-1;omega,by show n-1<p;omega⟩⟩,jQ p1 _⟩
  ·rw[Az z1];have d0:0<=(n-p-1) / p:=Ud (by omega) (by omega)
   have d1:(n-p-1) / p<p:=by rw[Int.ediv_lt_iff_lt_mul p0];omega
   exact⟨⟨⟨(by decide:(0:Af)<=1),p1⟩,⟨d0,d1⟩,⟨Bm _ (by omega),Bo _ p0⟩⟩,mS p1 _ _⟩
theorem jN(hp:P4 p)(h:NF p x):∃ n:Af,0<=n/\n<p*p+p+1/\x=ptI p n:=by
 obtain⟨⟨i0,i1,i2⟩,l⟩:=h;have p1:1<p:=by have:=hp.lo;omega
 have p0:=hp.pos;have pp:=Hu p0 p0;obtain⟨x0,x1,x2⟩:=x;simp only at i0 i1 i2;unfold tri lead at l;simp only at l;rw[A1 i0.1 i0.2]at l;by_cases z0:x0=0
 ·rw[Aw z0]at l;unfold lead at l;rw[A1 i1.1 i1.2]at l;by_cases z1:x1=0
  ·rw[Aw z1]at l;unfold lead at l;rw[A1 i2.1 i2.2]at l;by_cases z2:x2=0
   ·rw[Aw z2]at l;cases l
   ·rw[Az z2,Cr]at l;exact⟨0,IW 0,by omega,by rw[z0,z1,l];rfl⟩
  ·rw[Az z1,Cr]at l;refine⟨x2+1,by omega,by omega,?_⟩
   unfold ptI;rw[Az (by omega),Aw (by omega),z0,l,Int.add_sub_cancel]
 ·rw[Az z0,Cr]at l;have m1:p*x1<=p*(p-1):=Int.mul_le_mul_of_nonneg_left (by omega) (by omega)
  have m0:0<=p*x1:=Ue (by omega) i1.1
  rw[Int.mul_sub,EH]at m1;refine⟨p+1+p*x1+x2,by omega,by omega,?_⟩
  unfold ptI;have e:p+1+p*x1+x2-p-1=x2+p*x1:=by omega
  rw[Az (by omega),Az (by omega),e,Int.add_mul_ediv_left _ _ (by omega),Int.ediv_eq_zero_of_lt i2.1 i2.2,Int.add_mul_emod_self_left,A1 i2.1 i2.2,DM,l]
theorem G9(hp:P4 p):x∈Fq p↔NF p x:=by
 have p0:=hp.pos;have pp:=Hu p0 p0;constructor
 ·intro h;obtain⟨n,hn,rfl⟩:=Cn.mp h;have:=BA.mp hn;exact SN hp (by omega) (by omega)
 ·intro h;obtain⟨n,n0,n1,rfl⟩:=jN hp h;refine Cn.mpr ⟨n.toNat,BA.mpr (by omega),?_⟩
  rw[Int.toNat_of_nonneg n0]
theorem WD(hp:P4 p):(Fq p).Nodup:=by
 rcases hp with rfl|rfl|rfl|rfl<;>decide +kernel
theorem NE{α:Type}[DecidableEq α]:∀{l1 l2:Ad α},l1.Nodup->(∀ x∈l1,x∈l2)->l1.length<=l2.length
 |[],_,_,_=>Fv _
 |x::l1,l2,nd,h=>by
  obtain⟨n1,n2⟩:=CS.mp nd;have hx:=h x AH;have:=NE (l1:=l1) (l2:=l2.erase x) n2 fun y hy=>by
   have hy2:=h y (Ax _ hy);have ne:y≠x:=fun e=>n1 (e ▸ hy)
   exact(List.mem_erase_of_ne ne).mpr hy2
  rw[List.length_erase_of_mem hx]at this;have l0:0<l2.length:=Uu hx;rw[Bs];omega
theorem Nc{α β:Type}{f:α->β}:∀{l:Ad α},l.Nodup->(∀ x∈l,∀ y∈l,f x=f y->x=y)->(l.map f).Nodup
 |[],_,_=>HF
 |x::l,nd,h=>by
  obtain⟨n1,n2⟩:=CS.mp nd;rw[CH,CS];refine⟨fun m=>?_,Nc n2 fun y hy z hz=>h y (Ax _ hy) z (Ax _ hz)⟩
  obtain⟨y,hy,e⟩:=Cn.mp m;have:=h y (Ax _ hy) x AH e;exact n1 (this ▸ hy)
theorem Z0[DecidableEq α]{l:Ad α}(nd:l.Nodup)(F G:α->α)(hF:∀ x∈l,F x∈l)(hG:∀ y∈l,G y∈l)(GF:∀ x∈l,G (F x)=x)(FG:∀ y∈l,F (G y)=y)(Q:α->Ao):(l.filter fun x=>Q (F x)).length=(l.filter Q).length:=by
 refine Nat.le_antisymm ?_ ?_
 ·have n:((l.filter fun x=>Q (F x)).map F).Nodup:=Nc (nd.filter _) fun x hx y hy e=>by
   have h1:=GF x (BU.mp hx).1;have h2:=GF y (BU.mp hy).1;rw[<-h1,<-h2,e]
  have:=NE (l2:=l.filter Q) n fun z hz=>by
   obtain⟨x,hx,rfl⟩:=Cn.mp hz;obtain⟨h1,h2⟩:=BU.mp hx;exact BU.mpr ⟨hF x h1,h2⟩
  rwa [Cf]at this
 ·have n:((l.filter Q).map G).Nodup:=Nc (nd.filter _) fun x hx y hy e=>by
   have h1:=FG x (BU.mp hx).1;have h2:=FG y (BU.mp hy).1;rw[<-h1,<-h2,e]
  have:=NE (l2:=l.filter fun x=>Q (F x)) n fun z hz=>by
   obtain⟨x,hx,rfl⟩:=Cn.mp hz;obtain⟨h1,h2⟩:=BU.mp hx;exact BU.mpr ⟨hG x h1,by rw[FG x h1];exact h2⟩
  rwa [Cf]at this
noncomputable def nrm(p:Af)(r:R3):R3:=open Classical in if h:∃ y,NF p y/\Pr p y r then Ub h else r
theorem Xc{p l:Af}(hp:P4 p)(el:lead p (tri r)=Aa l):NF p (nrm p r)/\Pr p (nrm p r) r:=by
 have h:∃ y,NF p y/\Pr p y r:=by
  obtain⟨u,iu,j,l1,pr,_⟩:=Qp hp el;exact⟨_,⟨j,l1⟩,pr⟩
 unfold nrm;rw[dif_pos h];exact Ec h
theorem Ji{a b c x:R3}(hp:P4 p)(z:Aq a b c%p≠0)(hx:NF p x):NF p (nrm p (ap a b c x))/\Pr p (nrm p (ap a b c x)) (ap a b c x):=by
 obtain⟨l,el⟩:=ZL hp z hx.2 CgR.rfl;exact Xc hp el
theorem Oa(hp:P4 p)(hx:NF p x)(hy:NF p y)(h:Pr p x y):x=y:=QH hp hx.1 hy.1 hx.2 hy.2 h
theorem WH{a b c x:R3}(hp:P4 p)(z:Aq a b c%p≠0)(hx:NF p x):nrm p (ap (bk0 a b c) (bk1 a b c) (bk2 a b c) (nrm p (ap a b c x)))=x:=by
 obtain⟨h1,h2⟩:=Ji hp z hx;have zB:Aq (bk0 a b c) (bk1 a b c) (bk2 a b c)%p≠0:=by rw[NZ];exact Gb hp z z
 obtain⟨h3,h4⟩:=Ji hp zB h1;refine Oa hp h3 hx (h4.trans hp ((Pr.ap h2).trans hp ?_));rw[SV];exact⟨_,z,CgR.rfl⟩
theorem WG{a b c x:R3}(hp:P4 p)(z:Aq a b c%p≠0)(hx:NF p x):nrm p (ap a b c (nrm p (ap (bk0 a b c) (bk1 a b c) (bk2 a b c) x)))=x:=by
 have zB:Aq (bk0 a b c) (bk1 a b c) (bk2 a b c)%p≠0:=by rw[NZ];exact Gb hp z z
 obtain⟨h1,h2⟩:=Ji hp zB hx;obtain⟨h3,h4⟩:=Ji hp z h1;refine Oa hp h3 hx (h4.trans hp ((Pr.ap h2).trans hp ?_));rw[eI];exact⟨_,z,CgR.rfl⟩
theorem Rj{a b c:R3}(hp:P4 p)(z:Aq a b c%p≠0)(Q:R3->Ao):((Fq p).filter fun x=>Q (nrm p (ap a b c x))).length=((Fq p).filter Q).length:=by
 have zB:Aq (bk0 a b c) (bk1 a b c) (bk2 a b c)%p≠0:=by rw[NZ];exact Gb hp z z
 exact Z0 (WD hp) (fun x=>nrm p (ap a b c x)) (fun x=>nrm p (ap (bk0 a b c) (bk1 a b c) (bk2 a b c) x)) (fun x hx=>(G9 hp).mpr (Ji hp z ((G9 hp).mp hx)).1) (fun x hx=>(G9 hp).mpr (Ji hp zB ((G9 hp).mp hx)).1) (fun x hx=>WH hp z ((G9 hp).mp hx)) (fun x hx=>WG hp z ((G9 hp).mp hx)) Q
noncomputable def q4(w:Ag)(k:Af)(y:R3):Af:=match w with
  |0=>y.1*y.2.2-y.2.1*y.2.1
  |1=>y.1*y.1
  |2=>y.1*y.2.1
  |_=>y.1*y.1-k*(y.2.1*y.2.1)
theorem J9(u v x:R3):vI (prd u v) x=Bq u x*Bq v x:=by
 unfold vI prd Bq;simp only;grind
theorem R0(k:Af)(A:C6)(x:R3):vI (scC k A) x=k*vI A x:=by
 unfold vI scC;simp only;grind
noncomputable def BM(pts:Ad R3):D:=.lst (pts.map (At Ab))
theorem PV{g:D->R Ao}{f:D->R D}{q:R3->Ao}:∀(xs:Ad R3),(∀ x∈xs,g (At Ab x)=.ok (q x)/\f (At Ab x)=.ok (At Ab x))->BF g f (xs.map (At Ab))=.ok ((xs.filter q).map (At Ab))
 |[],_=>rfl
 |x::xs,h=>by
  obtain⟨h1,h2⟩:=h x (AH ..);have ih:=PV xs fun y hy=>h y (Ax _ hy)
  show (g (At Ab x)).bind _=_;rw[h1,R.bind_ok,FI];cases hq:q x with
  |true=>
   rw[Aw rfl,Aw rfl,h2,R.bind_ok,show BF g f (List.map (At Ab) xs)=_ from ih]
   rfl
  |false=>
   rw[Az (by decide),Az (by decide)]
   exact ih
def S8(Γ:Gam):Prop:=∀(p n:Af),P4 p->0<=n->n<p*p+p+1->Γ.F 157 [.int p,.int n]=.ok (At Ab (ptI p n))
theorem jV(Γ:Gam)(p n:Af)(hp:P4 p)(h0:0<=n)(h1:n<p*p+p+1):HW.run Γ [.int p,.int n]=.ok (At Ab (ptI p n)):=by
 have pp:Ey p p=Ab:=Jo (by have:=hp.lo;omega) (by have:=hp.hi;omega)
 have p0:=hp.pos;have ph:=hp.hi;have N0:0<p*p+p+1:=by have:=Hu p0 p0;omega
 have hr:n%(p*p+p+1)=n:=A1 h0 h1;have pb:p<1073741824:=by omega
 unfold ptI;by_cases z0:n=0
 ·rw[Aw z0];simp[HW,Df.run,BL,pp,N0,hr,z0];rfl
 ·rw[Az z0];by_cases z1:n<=p
  ·rw[Aw z1];simp[HW,Df.run,BL,pp,N0,hr,z0,z1];rfl
  ·rw[Az z1];simp[HW,Df.run,BL,pp,N0,hr,z0,z1,p0,pb];rfl
noncomputable def KJ:E:=(.call 157 (.cons (.var 0) (.cons (.var 1) .nil)))
noncomputable def Lz:Df:=⟨2,Ac,(.cons (.ret (.comp KJ 1 (.rng (.bin .Add (.bin .Add (.bin .Mult (.var 0) (.var 0)) (.var 0)) (.int 1))) DE)) .nil)⟩
def Tb(Γ:Gam):Prop:=∀ p:Af,P4 p->Γ.F 164 [.int p]=.ok (BM (Fq p))
theorem kC(h:S8 Γ)(p:Af)(hp:P4 p):Lz.run Γ [.int p]=.ok (BM (Fq p)):=by
 have pp:Ey p p=Ab:=Jo (by have:=hp.lo;omega) (by have:=hp.hi;omega)
 have N1:0<=p*p+p+1/\p*p+p+1<=1000:=by rcases hp with rfl|rfl|rfl|rfl<;>decide
 have rg:Da 0 (p*p+p+1)=.ok (DK 0 (p*p+p+1-0).toNat):=Wd (by decide) (by decide) (by omega) (by omega)
 rw[GX]at rg;have cp:BF (cG Γ [si p,Ae] 1 DE) (cF Γ [si p,Ae] 1 KJ) (DK 0 (p*p+p+1).toNat)=.ok ((Fq p).map (At Ab)):=by
  have key:∀ L:Ad Ag,(∀ k∈L,(k:Af)<p*p+p+1)->BF (cG Γ [si p,Ae] 1 DE) (cF Γ [si p,Ae] 1 KJ) (L.map fun(k:Ag)=>D.int (0+(k:Af)))=.ok ((L.map fun(n:Ag)=>ptI p n).map (At Ab)):=fun L=>by
   induction L with
   |nil=>intro _;rfl
   |cons k L ih=>
    intro hL;have e:=h p k hp (by omega) (hL k AH)
    have f:cF Γ [si p,Ae] 1 KJ (.int (0+(k:Af)))=.ok (At Ab (ptI p k)):=by
     rw[DM];simp[cF,KJ,e]
    have ih':=ih fun m hm=>hL m (Ax _ hm)
    show (R.ok Ab).bind _=_;rw[R.bind_ok,Aw rfl,f,R.bind_ok,show BF _ _ (List.map _ L)=_ from ih']
    rfl
  exact key _ fun k hk=>by have:=BA.mp hk;omega
 generalize hN:p*p+p+1=N at *;generalize DK 0 N.toNat=RL at *;have e1:p*p+p+1=N:=hN;simp[Lz,Df.run,BL,pp,e1,rg,cp];rfl
noncomputable def lc2(a:Af)(A:C6)(b:Af)(B:C6):C6:=⟨a*A.c0+b*B.c0,a*A.c1+b*B.c1,a*A.c2+b*B.c2,a*A.c3+b*B.c3,a*A.c4+b*B.c4,a*A.c5+b*B.c5⟩
noncomputable def l3(a:Af)(A:C6)(b:Af)(B:C6)(c:Af)(G:C6):C6:=⟨a*A.c0+b*B.c0+c*G.c0,a*A.c1+b*B.c1+c*G.c1,a*A.c2+b*B.c2+c*G.c2,a*A.c3+b*B.c3+c*G.c3,a*A.c4+b*B.c4+c*G.c4,a*A.c5+b*B.c5+c*G.c5⟩
section
variable{p:Af}{x y z w:R3}{Q A B G L M:C6}
theorem Ru(hp:P4 p)(hx:NF p x)(hy:NF p y)(ne:x≠y):¬ CgR p (crs x y) (0,0,0):=fun h=>ne (Oa hp hx hy (Pr.symm hp (Qf hp h hx.2 hy.2)))
theorem z0{n:Af}(h:n%p=0):Cg p n 0:=by show n%p=0%p;rw[h,BD]
theorem z0'{n:Af}(h:Cg p n 0):n%p=0:=by
 have:n%p=0%p:=h;rw[this,BD]
section
variable{d u0 u1 u2 b0 b1 b2 q A B G l m:Af}
end
theorem OJ{a b c d:Af}(ha:Cg p a 0)(hb:Cg p b 0):Cg p (a*c-b*d) 0:=((ha.mul Cg.rfl).sub (hb.mul Cg.rfl)).trans (Cg.of (by rw[EZ,EZ];rfl))
theorem bP(a b:Af)(v:R3):vI (lc2 a L b M) v=a*vI L v+b*vI M v:=by
 unfold vI lc2;simp only;grind
theorem bZ{a a' b b':Af}{L' M':C6}(ha:Cg p a a')(hL:CgC p L L')(hb:Cg p b b')(hM:CgC p M M'):CgC p (lc2 a L b M) (lc2 a' L' b' M'):=
 ⟨(ha.mul hL.1).add (hb.mul hM.1),(ha.mul hL.2.1).add (hb.mul hM.2.1),(ha.mul hL.2.2.1).add (hb.mul hM.2.2.1),(ha.mul hL.2.2.2.1).add (hb.mul hM.2.2.2.1),(ha.mul hL.2.2.2.2.1).add (hb.mul hM.2.2.2.2.1),(ha.mul hL.2.2.2.2.2).add (hb.mul hM.2.2.2.2.2)⟩
theorem bX{l:Af}(hp:P4 p)(lQ:lead p Q.l=Aa l)(h:CgC p Q ⟨0,0,0,0,0,0⟩):AS:=by
 have:lead p Q.l=Ae:=Jl.mpr fun n hn=>by
  simp only[C6.l,AB,Bc,Cd]at hn;obtain⟨h0,h1,h2,h3,h4,h5⟩:=h;rcases hn with rfl|rfl|rfl|rfl|rfl|rfl
  ·exact z0' h0
  ·exact z0' h1
  ·exact z0' h2
  ·exact z0' h3
  ·exact z0' h4
  ·exact z0' h5
 rw[this]at lQ;cases lQ
theorem Yk(hp:P4 p){d:Af}(dz:d%p≠0)(h:CgC p (scC d Q) ⟨0,0,0,0,0,0⟩):CgC p Q ⟨0,0,0,0,0,0⟩:=⟨z0 ((E7 hp dz).mp (z0' h.1)),z0 ((E7 hp dz).mp (z0' h.2.1)),z0 ((E7 hp dz).mp (z0' h.2.2.1)),z0 ((E7 hp dz).mp (z0' h.2.2.2.1)),z0 ((E7 hp dz).mp (z0' h.2.2.2.2.1)),z0 ((E7 hp dz).mp (z0' h.2.2.2.2.2))⟩
end
noncomputable def FN:Ss:=(.cons (.ife (.cmp .In (.var 2) (.sl (.var 0) .non (.var 1))) (.cons (.rais 107 (.cons (.var 2) .nil)) .nil) .nil) .nil)
--
noncomputable def Jf:Df:=⟨3,Ac,(.cons (.forT [1,2] (.enm (.var 0)) FN) .nil)⟩
--
noncomputable def Jg:Ss:=(.cons (.asg 3 Ac (.bin .Add (.sl (.var 1) .non (.var 2)) (.sl (.var 1) (.bin .Add (.var 2) (.int 1)) .non))) (.cons (.ife (.and (.cons (.cmp .Eq (.call 61 (.cons (.var 0) (.cons (.idx (.var 3) (.int 0)) (.cons (.idx (.var 3) (.int 1)) (.cons (.idx (.var 3) (.int 2)) .nil))))) (.int 0)) (.cons (.cmp .Eq (.call 61 (.cons (.var 0) (.cons (.idx (.var 3) (.int 0)) (.cons (.idx (.var 3) (.int 1)) (.cons (.idx (.var 3) (.int 3)) .nil))))) (.int 0)) .nil))) (.cons (.ret (.bi .tuple (.cons (.var 3) .nil))) .nil) .nil) .nil))
--
noncomputable def JP:Df:=⟨4,Ac,(.cons (.fors 2 (.e (.tup (.cons (.int 4) (.cons (.int 3) (.cons (.int 2) (.cons (.int 1) (.cons (.int 0) .nil))))))) Jg) (.cons (.ret .non) .nil))⟩
--
noncomputable def MD:Df:=⟨2,Ac,(.cons (.ret (.tup (.cons (.bin .Mult (.idx (.var 0) (.int 0)) (.idx (.var 1) (.int 0))) (.cons (.bin .Mult (.idx (.var 0) (.int 1)) (.idx (.var 1) (.int 1))) (.cons (.bin .Mult (.idx (.var 0) (.int 2)) (.idx (.var 1) (.int 2))) (.cons (.bin .Add (.bin .Mult (.idx (.var 0) (.int 0)) (.idx (.var 1) (.int 1))) (.bin .Mult (.idx (.var 0) (.int 1)) (.idx (.var 1) (.int 0)))) (.cons (.bin .Add (.bin .Mult (.idx (.var 0) (.int 0)) (.idx (.var 1) (.int 2))) (.bin .Mult (.idx (.var 0) (.int 2)) (.idx (.var 1) (.int 0)))) (.cons (.bin .Add (.bin .Mult (.idx (.var 0) (.int 1)) (.idx (.var 1) (.int 2))) (.bin .Mult (.idx (.var 0) (.int 2)) (.idx (.var 1) (.int 1)))) .nil)))))))) .nil)⟩
noncomputable def MP:E:=(.bin .Sub (.bin .Mult (.var 4) (.var 6)) (.bin .Mult (.var 5) (.var 7)))
--
noncomputable def KI:Df:=⟨8,Ac,(.cons (.asg 2 Ac (.call 196 (.cons (.call 57 (.cons (.var 0) (.cons (.idx (.var 1) (.int 0)) (.cons (.idx (.var 1) (.int 1)) .nil)))) (.cons (.call 57 (.cons (.var 0) (.cons (.idx (.var 1) (.int 2)) (.cons (.idx (.var 1) (.int 3)) .nil)))) .nil)))) (.cons (.asg 3 Ac (.call 196 (.cons (.call 57 (.cons (.var 0) (.cons (.idx (.var 1) (.int 0)) (.cons (.idx (.var 1) (.int 2)) .nil)))) (.cons (.call 57 (.cons (.var 0) (.cons (.idx (.var 1) (.int 1)) (.cons (.idx (.var 1) (.int 3)) .nil)))) .nil)))) (.cons (.asg 4 Ac (.call 126 (.cons (.var 0) (.cons (.var 3) (.cons (.idx (.var 1) (.int 4)) .nil))))) (.cons (.asg 5 Ac (.call 126 (.cons (.var 0) (.cons (.var 2) (.cons (.idx (.var 1) (.int 4)) .nil))))) (.cons (.ret (.call 122 (.cons (.var 0) (.cons (.compT MP [6,7] (.zip (.var 2) (.var 3)) DE) .nil)))) .nil)))))⟩
--
noncomputable def IH:Df:=⟨3,Ac,(.cons (.ife (.cmp .NotEq (.bi .len (.cons (.var 1) .nil)) (.int 5)) (.cons (.rais 13 (.cons (.str (AV "a curve is told by five points")) .nil)) .nil) .nil) (.cons (.expr (.call 194 (.cons (.var 1) .nil))) (.cons (.asg 2 Ac (.call 195 (.cons (.var 0) (.cons (.var 1) .nil)))) (.cons (.ife (.cmp .IsNot (.var 2) .non) (.cons (.rais 118 (.cons (.var 2) .nil)) .nil) .nil) (.cons (.ret (.call 197 (.cons (.var 0) (.cons (.var 1) .nil)))) .nil)))))⟩
section
variable{Γ:Gam}{p:Af}{P0 P1 P2 P3 P4:D}
noncomputable def five(P0 P1 P2 P3 P4:D):D:=.lst [P0,P1,P2,P3,P4]
theorem dR(f0:flD 5 P0=Ab)(f1:flD 5 P1=Ab)(f2:flD 5 P2=Ab)(f3:flD 5 P3=Ab)(f4:flD 5 P4=Ab)(n01:eqD P0 P1=Ac)(n02:eqD P0 P2=Ac)(n03:eqD P0 P3=Ac)(n04:eqD P0 P4=Ac)(n12:eqD P1 P2=Ac)(n13:eqD P1 P3=Ac)(n14:eqD P1 P4=Ac)(n23:eqD P2 P3=Ac)(n24:eqD P2 P4=Ac)(n34:eqD P3 P4=Ac):Jf.run Γ [five P0 P1 P2 P3 P4]=.ok .non:=by
 simp[five,Jf,Df.run,BL,EB,Ch,FP,FN,JB,Hz,f0,f1,f2,f3,f4,n01,n02,n03,n04,n12,n13,n14,n23,n24,n34]
theorem K1{k a b:Af}{u v:Ad D}(c0:slD PP Ae (Aa k)=.ok (.lst u))(c1:slD PP (Aa (k+1)) Ae=.ok (.lst v))(ad:Dk .Add (.lst u) (.lst v)=.ok (.lst [q0,q1,q2,q3]))(e0:Γ.F 61 [.int p,q0,q1,q2]=.ok (.int a))(e1:Γ.F 61 [.int p,q0,q1,q3]=.ok (.int b))(h:¬ (a=0/\b=0)):BK Γ 2 Jg (.int k) [si p,sh PP,s2,s3]=.next [si p,sh PP,si k,sh (.lst [q0,q1,q2,q3])]:=by
 have i0:CF (.lst [q0,q1,q2,q3]) (.int 0)=.ok q0:=rfl;have i1:CF (.lst [q0,q1,q2,q3]) (.int 1)=.ok q1:=rfl;have i2:CF (.lst [q0,q1,q2,q3]) (.int 2)=.ok q2:=rfl;have i3:CF (.lst [q0,q1,q2,q3]) (.int 3)=.ok q3:=rfl;generalize D.lst [q0,q1,q2,q3]=FF at *;generalize D.lst u=U at *;generalize D.lst v=V at *;by_cases ha:a=0
 ·have hb:b≠0:=fun z=>h ⟨ha,z⟩
  simp[BK,Jg,c0,c1,ad,i0,i1,i2,i3,e0,e1,ha,hb]
 ·simp[BK,Jg,c0,c1,ad,i0,i1,i2,i3,e0,e1,ha]
end
structure Five (p:Af) (C:C6) (pts:Ad R3):Prop where
 len:pts.length=5
 nd:pts.Nodup
 nf:∀ x∈pts,NF p x
 on:∀ x∈pts,vI C x%p=0
 n4:∀ n:R3,¬ CgR p n (0,0,0)->(pts.filter fun x=>decide (Bq n x%p=0)).length<=3
theorem YN{l:Ad α}(h:l.length=5):∃ a b c d e,l=[a,b,c,d,e]:=by
  match l,h with
  |[a,b,c,d,e],_=>exact⟨a,b,c,d,e,rfl⟩
theorem LM(a b c d e:R3):BM [a,b,c,d,e]=five (At Ab a) (At Ab b) (At Ab c) (At Ab d) (At Ab e):=rfl
section
variable{Γ:Gam}{p:Af}{C:C6}
theorem EC(x y z:R3):Bq (crs x y) z=Aq x y z:=by
 unfold Bq crs Aq det;grind
def Sf(Γ:Gam):Prop:=∀(p:Af)(a b:R3),P4 p->In3 p a->In3 p b->Γ.F 196 [At Ab a,At Ab b]=.ok (BW (prd a b))
theorem dO(Γ:Gam)(p:Af)(a b:R3)(hp:P4 p)(ia:In3 p a)(ib:In3 p b):MD.run Γ [At Ab a,At Ab b]=.ok (BW (prd a b)):=by
 have ba:=Fe hp ia;have bb:=Fe hp ib;have k:∀ {u v},Bd 10 u->Bd 10 v->EO u v=Ab:=fun hu hv=>GD hu hv (by decide) (by decide)
 obtain⟨x0,x1,x2⟩:=HY Ab a;obtain⟨y0,y1,y2⟩:=HY Ab b;simp[MD,Df.run,BL,x0,x1,x2,y0,y1,y2,k ba.1 bb.1,k ba.2.1 bb.2.1,k ba.2.2 bb.2.2,k ba.1 bb.2.1,k ba.2.1 bb.1,k ba.1 bb.2.2,k ba.2.2 bb.1,k ba.2.1 bb.2.2,k ba.2.2 bb.2.1];rfl
theorem Mj{a b:R3}(hp:P4 p)(ia:In3 p a)(ib:In3 p b):BC (prd a b):=by
 have hh:=hp.hi;have k:∀{x y:Af},0<=x/\x<p->0<=y/\y<p->0<=x*y/\x*y<=100:=fun {x y} hx hy=>by
  refine⟨Ue hx.1 hy.1,?_⟩;exact Io (Int.mul_le_mul (show x<=10 by omega) (show y<=10 by omega) hy.1 (by decide)) (by decide)
 have b1:∀{n:Af},0<=n/\n<=100->Bd 10 n:=fun h=>by unfold Bd;omega
 have b2:∀{m n:Af},0<=m/\m<=100->0<=n/\n<=100->Bd 10 (m+n):=fun h g=>by unfold Bd;omega
 obtain⟨a0,a1,a2⟩:=ia;obtain⟨b0,b1',b2'⟩:=ib;exact⟨b1 (k a0 b0),b1 (k a1 b1'),b1 (k a2 b2'),b2 (k a0 b1') (k a1 b0),b2 (k a0 b2') (k a2 b0),b2 (k a1 b2') (k a2 b1')⟩
def RA(Γ:Gam):Prop:=∀(p:Af)(C:C6)(x:R3),P4 p->BC C->In3 p x->Γ.F 126 [.int p,BW C,At Ab x]=.ok (.int (vI C x%p))
theorem dJ(hr:IM Γ)(p:Af)(C:C6)(x:R3)(hp:P4 p)(bC:BC C)(ix:In3 p x):NM.run Γ [.int p,BW C,At Ab x]=.ok (.int (vI C x%p)):=by
 obtain⟨i0,i1,i2,i3,i4,i5⟩:=ix6 C;obtain⟨x0,x1,x2⟩:=HY Ab x;have bx:=Fe hp ix;have k:∀ {u v},Bd 10 u->Bd 10 v->EO u v=Ab:=fun hu hv=>GD hu hv (by decide) (by decide)
 have k2:∀ {u v w},Bd 10 u->Bd 10 v->Bd 10 w->EO (u*v) w=Ab:=fun hu hv hw=>GD (hu.mul hv) hw (by decide) (by decide)
 simp[NM,Df.run,BL,i0,i1,i2,i3,i4,i5,x0,x1,x2,k bC.b0 bx.1,k bC.b1 bx.2.1,k bC.b2 bx.2.2,k bC.b3 bx.1,k bC.b4 bx.1,k bC.b5 bx.2.1,k2 bC.b0 bx.1 bx.1,k2 bC.b1 bx.2.1 bx.2.1,k2 bC.b2 bx.2.2 bx.2.2,k2 bC.b3 bx.1 bx.2.1,k2 bC.b4 bx.1 bx.2.2,k2 bC.b5 bx.2.1 bx.2.2,hr p _ hp.pos];rfl
theorem fP{P0 P1 P2 P3 P4 A B A' B' R:D}{L M:C6}{l m:Af}(bL:BC L)(bM:BC M)(bl:Bd 10 l)(bm:Bd 10 m)(e01:Γ.F 57 [.int p,P0,P1]=.ok A)(e23:Γ.F 57 [.int p,P2,P3]=.ok B)(eL:Γ.F 196 [A,B]=.ok (BW L))(e02:Γ.F 57 [.int p,P0,P2]=.ok A')(e13:Γ.F 57 [.int p,P1,P3]=.ok B')(eM:Γ.F 196 [A',B']=.ok (BW M))(vM:Γ.F 126 [.int p,BW M,P4]=.ok (.int m))(vL:Γ.F 126 [.int p,BW L,P4]=.ok (.int l))(ec:Γ.F 122 [.int p,.lst (ds (lc2 m L (-l) M).l)]=.ok R):KI.run Γ [.int p,five P0 P1 P2 P3 P4]=.ok R:=by
 have i0:CF (five P0 P1 P2 P3 P4) (.int 0)=.ok P0:=rfl;have i1:CF (five P0 P1 P2 P3 P4) (.int 1)=.ok P1:=rfl;have i2:CF (five P0 P1 P2 P3 P4) (.int 2)=.ok P2:=rfl;have i3:CF (five P0 P1 P2 P3 P4) (.int 3)=.ok P3:=rfl;have i4:CF (five P0 P1 P2 P3 P4) (.int 4)=.ok P4:=rfl;have sL:Ck (BW L)=.ok (ds L.l):=rfl;have sM:Ck (BW M)=.ok (ds M.l):=rfl;have k:∀ {u v},Bd 10 u->Bd 10 v->EO u v=Ab:=fun hu hv=>GD hu hv (by decide) (by decide)
 have cp:∀(PP cL cM:D),BF (cGT Γ [si p,sh PP,sh cL,sh cM,si m,si l,Ae,Ae] [6,7] DE) (cFT Γ [si p,sh PP,sh cL,sh cM,si m,si l,Ae,Ae] [6,7] MP) (El (ds L.l) (ds M.l))=.ok (ds (lc2 m L (-l) M).l):=fun PP cL cM=>by
  obtain⟨l0,l1,l2,l3,l4,l5⟩:=L;obtain⟨m0,m1,m2,m3,m4,m5⟩:=M;have n:∀ a b:Af,m*a + -l*b=m*a-l*b:=fun a b=>by rw[Int.neg_mul,Int.sub_eq_add_neg]
  simp[BF,cGT,cFT,El,ds,C6.l,lc2,MP,DE,n,k bm bL.b0,k bm bL.b1,k bm bL.b2,k bm bL.b3,k bm bL.b4,k bm bL.b5,k bl bM.b0,k bl bM.b1,k bl bM.b2,k bl bM.b3,k bl bM.b4,k bl bM.b5]
 generalize five P0 P1 P2 P3 P4=PP at *;generalize ds (lc2 m L (-l) M).l=FF at *;generalize ds L.l=LL at *;generalize ds M.l=MM at *;generalize BW L=cL at *;generalize BW M=cM at *;simp[KI,Df.run,BL,i0,i1,i2,i3,i4,e01,e23,eL,e02,e13,eM,vM,vL,sL,sM,cp,ec]
theorem dY{a a' b b':R3}(ha:CgR p a a')(hb:CgR p b b'):CgC p (prd a b) (prd a' b'):=
 ⟨ha.1.mul hb.1,ha.2.1.mul hb.2.1,ha.2.2.mul hb.2.2,(ha.1.mul hb.2.1).add (ha.2.1.mul hb.1),(ha.1.mul hb.2.2).add (ha.2.2.mul hb.1),(ha.2.1.mul hb.2.2).add (ha.2.2.mul hb.2.1)⟩
theorem QR(hp:P4 p){a a' b b':R3}(ha:Pr p a a')(hb:Pr p b b'):PrC p (prd a b) (prd a' b'):=by
 obtain⟨d,dz,e⟩:=ha;obtain⟨d',dz',e'⟩:=hb;refine⟨d*d',Gb hp dz dz',(dY e e').trans (CgC.of ?_)⟩;unfold prd scC Dj
 congr 1<;>grind
theorem fQ(hp:P4 p){L M L' M':C6}(hL:PrC p L' L)(hM:PrC p M' M)(v:R3):PrC p (lc2 (vI M' v%p) L' (-(vI L' v%p)) M') (lc2 (vI M v) L (-vI L v) M):=by
 obtain⟨d,dz,e⟩:=hL;obtain⟨d',dz',e'⟩:=hM;refine⟨d*d',Gb hp dz dz',?_⟩;have r:CgR p v v:=⟨Cg.rfl,Cg.rfl,Cg.rfl⟩;have q:=Jw e r;have q':=Jw e' r;rw[R0]at q q';have neg:∀{a b:Af},Cg p a b->Cg p (-a) (-b):=fun {a b} h=>by
  have:=(Cg.rfl (p:=p) (a:=0)).sub h
  rwa [Ug,Ug]at this
 refine(bZ ((Cg.md rfl).trans q') e (neg ((Cg.md rfl).trans q)) e').trans (CgC.of ?_);generalize vI M v=m;generalize vI L v=l;unfold lc2 scC
 congr 1<;>grind
theorem Xe(hp:P4 p){l:Af}{E:C6}(lC:lead p C.l=Aa l)(h:PrC p E C):∃ l',lead p E.l=Aa l':=by
 cases e:lead p E.l with
 |some l'=>exact⟨l',rfl⟩
 |none=>
  exfalso
  obtain⟨d,dz,q⟩:=h;have z:=Jl.mp e;have k:∀{n:Af},n∈E.l->Cg p n 0:=fun hn=>z0 (z _ hn)
  have q2:CgC p E ⟨0,0,0,0,0,0⟩:=⟨k (by simp[C6.l]),k (by simp[C6.l]),k (by simp[C6.l]),k (by simp[C6.l]),k (by simp[C6.l]),k (by simp[C6.l])⟩
  exact bX hp lC (Yk hp dz (q.symm.trans q2))
noncomputable def Fc(a b c d e:R3):C6:=lc2 (vI (prd (crs a c) (crs b d)) e) (prd (crs a b) (crs c d)) (-vI (prd (crs a b) (crs c d)) e) (prd (crs a c) (crs b d))
end
section
variable{p:Af}{r n a b c x y z u:R3}
theorem ZZ(x y n:R3):crs (crs x y) n=(Bq n x*y.1-Bq n y*x.1,Bq n x*y.2.1-Bq n y*x.2.1,Bq n x*y.2.2-Bq n y*x.2.2):=by
 unfold crs Bq;refine D5 ?_ (D5 ?_ ?_)<;>simp only<;>grind
theorem par(hp:P4 p)(h1:CgR p (crs r n) (0,0,0))(h2:CgR p (crs r a) (0,0,0))(rz:¬ CgR p r (0,0,0))(nz:¬ CgR p n (0,0,0))(e:Bq n z%p=0):Bq a z%p=0:=by
 obtain⟨f0,f1,f2⟩:=h1;obtain⟨g0,g1,g2⟩:=h2;simp only[crs]at f0 f1 f2 g0 g1 g2;have sw:∀{x y:Af},Cg p (x-y) 0->Cg p x y:=fun {x y} h=>(Cg.of (by omega)).trans ((h.add (Cg.rfl (a:=y))).trans (Cg.of (by omega)))
 have d1:=sw f0;have d2:=sw f1;have d3:=sw f2;have c1:=sw g0;have c2:=sw g1;have c3:=sw g2
 -- r i n j=r j n i
 have key:∀ ri ni ai:Af,Cg p (ri*n.1) (r.1*ni)->Cg p (ri*n.2.1) (r.2.1*ni)->Cg p (ri*n.2.2) (r.2.2*ni)->Cg p (ri*a.1) (r.1*ai)->Cg p (ri*a.2.1) (r.2.1*ai)->Cg p (ri*a.2.2) (r.2.2*ai)->ni%p≠0->Bq a z%p=0:=fun ri ni ai k0 k1 k2 l0 l1 l2 hz=>by
  have rn:ri%p≠0:=fun q=>rz ⟨?_,?_,?_⟩
  ·have s1:Cg p (ni*Bq r z) 0:=by
    have t:=(((k0.mul (Cg.rfl (a:=z.1))).add (k1.mul (Cg.rfl (a:=z.2.1)))).add (k2.mul (Cg.rfl (a:=z.2.2)))).symm;refine(Cg.of ?_).trans (t.trans ((Cg.of ?_).trans (((Cg.rfl (a:=ri)).mul (z0 e)).trans (Cg.of (Ed _)))))
    ·unfold Bq;clear e k0 k1 k2 l0 l1 l2 t c1 c2 c3 d1 d2 d3 f0 f1 f2 g0 g1 g2 sw;grind
    ·unfold Bq;clear e k0 k1 k2 l0 l1 l2 t c1 c2 c3 d1 d2 d3 f0 f1 f2 g0 g1 g2 sw;grind
   have s2:=z0 ((E7 hp hz).mp (z0' s1));have s3:Cg p (ri*Bq a z) 0:=by
    have t:=(((l0.mul (Cg.rfl (a:=z.1))).add (l1.mul (Cg.rfl (a:=z.2.1)))).add (l2.mul (Cg.rfl (a:=z.2.2))));refine(Cg.of ?_).trans (t.trans ((Cg.of ?_).trans (((Cg.rfl (a:=ai)).mul s2).trans (Cg.of (Ed _)))))
    ·unfold Bq;clear e k0 k1 k2 l0 l1 l2 t c1 c2 c3 d1 d2 d3 f0 f1 f2 g0 g1 g2 sw s1 s2;grind
    ·unfold Bq;clear e k0 k1 k2 l0 l1 l2 t c1 c2 c3 d1 d2 d3 f0 f1 f2 g0 g1 g2 sw s1 s2;grind
   exact(E7 hp rn).mp (z0' s3)
  all_goals
   refine z0 ((E7 hp hz).mp (z0' ?_))
  ·exact(Cg.of (BV _ _)).trans (k0.symm.trans (((z0 q).mul Cg.rfl).trans (Cg.of (EZ _))))
  ·exact(Cg.of (BV _ _)).trans (k1.symm.trans (((z0 q).mul Cg.rfl).trans (Cg.of (EZ _))))
  ·exact(Cg.of (BV _ _)).trans (k2.symm.trans (((z0 q).mul Cg.rfl).trans (Cg.of (EZ _))))
 by_cases n0:n.1%p=0
 ·by_cases n1:n.2.1%p=0
  ·have n2:n.2.2%p≠0:=fun q=>nz ⟨z0 n0,z0 n1,z0 q⟩
   exact key r.2.2 n.2.2 a.2.2 d2 d1.symm Cg.rfl c2 c1.symm Cg.rfl n2
  ·exact key r.2.1 n.2.1 a.2.1 d3.symm Cg.rfl d1 c3.symm Cg.rfl c1 n1
 ·exact key r.1 n.1 a.1 Cg.rfl d3 d2.symm Cg.rfl c3 c2.symm n0
theorem TZ(h1:Bq n x%p=0)(h2:Bq n y%p=0):CgR p (crs (crs x y) n) (0,0,0):=by
 rw[ZZ];exact⟨OJ (z0 h1) (z0 h2),OJ (z0 h1) (z0 h2),OJ (z0 h1) (z0 h2)⟩
theorem bQ(hp:P4 p)(hx:NF p x)(hy:NF p y)(ne:x≠y)(nz:¬ CgR p n (0,0,0))(n1:Bq n x%p=0)(n2:Bq n y%p=0)(a1:Bq a x%p=0)(a2:Bq a y%p=0)(e:Bq n z%p=0):Bq a z%p=0:=
 par hp (TZ n1 n2) (TZ a1 a2) (Ru hp hx hy ne) nz e
theorem Qj(hp:P4 p)(hx:NF p x)(hy:NF p y)(ne:x≠y)(nz:¬ CgR p n (0,0,0))(n1:Bq n x%p=0)(n2:Bq n y%p=0)(e:Bq n u%p=0):Aq x y u%p=0:=by
 rw[<-EC];obtain⟨h1,h2⟩:=ZV x y;exact bQ hp hx hy ne nz n1 n2 (by rw[h1];exact BD p) (by rw[h2];exact BD p) e
end
noncomputable def ow(l:Ad R3):Sl:=Aa (BM l,Ab)
theorem Xz{q:R3->Ao}{l:Ad R3}(nd:l.Nodup)(h:3<=(l.filter q).length):∃ x y u,x∈l/\y∈l/\u∈l/\x≠y/\x≠u/\y≠u/\q x=Ab/\q y=Ab/\q u=Ab:=by
  have nf:(l.filter q).Nodup:=nd.filter (p:=q);have hm:∀ x∈l.filter q,x∈l/\q x=Ab:=fun x hx=>BU.mp hx
  generalize l.filter q=F at *
  match F,h,nf,hm with
  |x::y::u::r,_,nf,hm=>
    simp only[CS,AB,D4]at nf;have a:=hm x (by simp)
    have b:=hm y (by simp)
    have c:=hm u (by simp)
    exact⟨x,y,u,a.1,b.1,c.1,nf.1.1,nf.1.2.1,nf.2.1.1,a.2,b.2,c.2⟩
section
variable{Γ:Gam}{ns:Ad Af}
noncomputable def lnA(p:Af)(a b:R3):Ad R3:=(Fq p).filter fun x=>decide (Bq a x%p=0) && !decide (Bq b x%p=0)
noncomputable def qa(p:Af)(y:R3):Ao:=decide (y.1%p=0) && !decide (y.2.1%p=0)
noncomputable def qb(p:Af)(y:R3):Ao:=decide (y.2.1%p=0) && !decide (y.1%p=0)
theorem kR(hp:P4 p):((Fq p).filter (qa p)).length=p.toNat/\((Fq p).filter (qb p)).length=p.toNat:=by
 rcases hp with rfl|rfl|rfl|rfl<;>decide +kernel
theorem bV{a b c:R3}(hp:P4 p)(z:Aq a b c%p≠0):(lnA p a b).length=p.toNat/\(lnA p b a).length=p.toNat:=by
 have k:∀ x∈Fq p,(decide (Bq a x%p=0)=decide ((nrm p (ap a b c x)).1%p=0))/\(decide (Bq b x%p=0)=decide ((nrm p (ap a b c x)).2.1%p=0)):=fun x hx=>by
  obtain⟨_,d,dz,e⟩:=Ji hp z ((G9 hp).mp hx);have h1:(nrm p (ap a b c x)).1%p=d*Bq a x%p:=e.1;have h2:(nrm p (ap a b c x)).2.1%p=d*Bq b x%p:=e.2.1;rw[h1,h2];exact⟨nK.mpr (E7 hp dz).symm,nK.mpr (E7 hp dz).symm⟩
 obtain⟨h1,h2⟩:=kR hp;constructor
 ·rw[<-h1,<-Rj hp z (qa p)];unfold lnA;rw[GM fun x hx=>by rw[(k x hx).1,(k x hx).2]]
  rfl
 ·rw[<-h2,<-Rj hp z (qb p)];unfold lnA;rw[GM fun x hx=>by rw[(k x hx).1,(k x hx).2]]
  rfl
theorem dF{a b x:R3}(hp:P4 p)(h:x∈lnA p a b):NF p x/\Bq a x%p=0/\Bq b x%p≠0:=by
 unfold lnA at h;rw[List.mem_filter]at h;obtain⟨h1,h2⟩:=h;simp only[Ak,AU,Bp,nL]at h2;exact⟨(G9 hp).mp h1,h2.1,h2.2⟩
theorem bN{C E:C6}(hp:P4 p)(h:PrC p C E)(x:R3):vI C x%p=0↔vI E x%p=0:=by
 obtain⟨d,dz,e⟩:=h;have q:=Jw (x:=x) (x':=x) e ⟨Cg.rfl,Cg.rfl,Cg.rfl⟩;rw[R0]at q;rw[show vI C x%p=_ from q]
 exact E7 hp dz
def S9(Γ:Gam):Prop:=∀(p:Af)(q:Ao)(x y:R3),P4 p->In3 p x->In3 p y->Γ.F 173 [.int p,At Ab x,At q y]=.ok (.bl (decide (Bq y x%p=0)))
theorem jW(Γ:Gam)(p:Af)(q:Ao)(x y:R3)(hp:P4 p)(ix:In3 p x)(iy:In3 p y):Np.run Γ [.int p,At Ab x,At q y]=.ok (.bl (decide (Bq y x%p=0))):=by
 have p0:=hp.pos;have bx:=Fe hp ix;have by_:=Fe hp iy;have k:∀ {u v},Bd 10 u->Bd 10 v->EO u v=Ab:=fun hu hv=>GD hu hv (by decide) (by decide)
 have k0:=k by_.1 bx.1;have k1:=k by_.2.1 bx.2.1;have k2:=k by_.2.2 bx.2.2;have sx:Ck (At Ab x)=.ok [.int x.1,.int x.2.1,.int x.2.2]:=rfl;have sy:Ck (At q y)=.ok [.int y.1,.int y.2.1,.int y.2.2]:=by cases q<;>rfl
 unfold Bq;generalize x.1=x0 at *;generalize x.2.1=x1 at *;generalize x.2.2=x2 at *;generalize y.1=y0 at *;generalize y.2.1=y1 at *;generalize y.2.2=y2 at *;generalize At Ab x=xx at *;generalize At q y=yy at *;have cp:BF (cGT Γ [si p,sh xx,sh yy,Ae,Ae] [3,4] DE) (cFT Γ [si p,sh xx,sh yy,Ae,Ae] [3,4] MZ) (El [.int y0,.int y1,.int y2] [.int x0,.int x1,.int x2])=.ok [.int (y0*x0),.int (y1*x1),.int (y2*x2)]:=by
  simp[BF,cGT,cFT,El,MZ,DE,k0,k1,k2]
 generalize hs:y0*x0+y1*x1+y2*x2=s;have sm:Gp 0 [.int (y0*x0),.int (y1*x1),.int (y2*x2)]=.ok s:=by rw[<-hs];simp[Gp]
 simp[Np,Df.run,BL,sx,sy,cp,sm,p0];rw[CQ];simp
section
variable{p m wy:Af}{S RR cC AL o cc ra rb R:D}{as fa fb x y:Ad D}
end
end
section
variable{p:Af}{C:C6}
structure N3 (p:Af) (pts:Ad R3):Prop where
 nd:pts.Nodup
 nf:∀ x∈pts,NF p x
 n3:∀ x y u,x∈pts->y∈pts->u∈pts->x≠y->x≠u->y≠u->Aq x y u%p≠0
theorem N3.five(hp:P4 p)(h:N3 p pts)(len:pts.length=5)(on:∀ x∈pts,vI C x%p=0):Five p C pts:=by
 refine⟨len,h.nd,h.nf,on,fun n hn=>?_⟩
 apply Ua
 intro hc;obtain⟨x,y,u,hx,hy,hu,n1,n2,n3,q1,q2,q3⟩:=Xz (q:=fun x=>decide (Bq n x%p=0)) h.nd (by omega)
 exact h.n3 x y u hx hy hu n1 n2 n3 (Qj hp (h.nf x hx) (h.nf y hy) n1 hn (Eb q1) (Eb q2) (Eb q3))
end
section
variable{Γ:Gam}{p:Af}
end
section
variable{Γ:Gam}{p:Af}{a b c d e f x y:R3}{C:C6}
structure Six (p:Af) (a b c d e f:R3):Prop where
 n3:N3 p [a,b,c,d,e,f]
 m0:Aq a d e%p≠0/\Aq a d b%p≠0
 m1:Aq b e f%p≠0/\Aq b e c%p≠0
 m2:Aq c f a%p≠0/\Aq c f d%p≠0
 ab:a≠b
 bc:b≠c
 cd:c≠d
 de:d≠e
 ef:e≠f
 fa:f≠a
 mj:Aq b d e%p≠0/\Aq b e f%p≠0/\Aq a b c%p≠0
theorem Six.of(h:N3 p [a,b,c,d,e,f]):Six p a b c d e f:=by
 have nd:=h.nd;simp only[CS,AB,Bc,Cd,D4,not_false_eq_true,HF,and_true]at nd;obtain⟨⟨n01,n02,n03,n04,n05⟩,⟨n12,n13,n14,n15⟩,⟨n23,n24,n25⟩,⟨n34,n35⟩,n45⟩:=nd;have k:∀{x y u:R3},x∈[a,b,c,d,e,f]->y∈[a,b,c,d,e,f]->u∈[a,b,c,d,e,f]->x≠y->x≠u->y≠u->Aq x y u%p≠0:=fun hx hy hu=>h.n3 _ _ _ hx hy hu
 exact⟨h,⟨k (by simp) (by simp) (by simp) n03 n04 n34,k (by simp) (by simp) (by simp) n03 n01 (CJ n13)⟩,⟨k (by simp) (by simp) (by simp) n14 n15 n45,k (by simp) (by simp) (by simp) n14 n12 (CJ n24)⟩,⟨k (by simp) (by simp) (by simp) n25 (CJ n02) (CJ n05),k (by simp) (by simp) (by simp) n25 n23 (CJ n35)⟩,n01,n12,n23,n34,n45,CJ n05,k (by simp) (by simp) (by simp) n13 n14 n34,k (by simp) (by simp) (by simp) n14 n15 n45,k (by simp) (by simp) (by simp) n01 n02 n12⟩
end
def Ta(Γ:Gam):Prop:=∀(p:Af)(a b:R3),P4 p->In3 p a->In3 p b->Γ.F 161 [At Ab a,At Ab b]=.ok (HA (crs a b))
theorem jY(Γ:Gam)(p:Af)(a b:R3)(hp:P4 p)(ia:In3 p a)(ib:In3 p b):M0.run Γ [At Ab a,At Ab b]=.ok (HA (crs a b)):=by
 have ba:=Fe hp ia;have bb:=Fe hp ib;have k:∀ {u v},Bd 10 u->Bd 10 v->EO u v=Ab:=fun hu hv=>GD hu hv (by decide) (by decide)
 obtain⟨a0,a1,a2⟩:=a;obtain⟨b0,b1,b2⟩:=b;have ea:∀(x y z:Af)(i j k:Ag)(ρ:Rho),Hy [i,j,k] (At Ab (x,y,z)) ρ=.ok (((ρ.set i (si x)).set j (si y)).set k (si z)):=fun _ _ _ _ _ _ _=>rfl
 simp[M0,Df.run,BL,ea,k ba.2.1 bb.2.2,k ba.2.2 bb.2.1,k ba.2.2 bb.1,k ba.1 bb.2.2,k ba.1 bb.2.1,k ba.2.1 bb.1];rfl
noncomputable def MO:Df:=⟨7,Ac,(.cons (.asgT [4,5,6] (.call 161 (.cons (.var 1) (.cons (.var 2) .nil)))) (.cons (.ret (.bin .Mod (.bin .Add (.bin .Add (.bin .Mult (.var 4) (.idx (.var 3) (.int 0))) (.bin .Mult (.var 5) (.idx (.var 3) (.int 1)))) (.bin .Mult (.var 6) (.idx (.var 3) (.int 2)))) (.var 0))) .nil))⟩
def Kj(Γ:Gam):Prop:=∀(p:Af)(a b c:R3),P4 p->In3 p a->In3 p b->In3 p c->Γ.F 165 [.int p,At Ab a,At Ab b,At Ab c]=.ok (.int (Aq a b c%p))
theorem ZY(a b c:R3):Bq (crs a b) c=Aq a b c:=by
 unfold Bq crs Aq det;grind
theorem jX(h:Ta Γ)(p:Af)(a b c:R3)(hp:P4 p)(ia:In3 p a)(ib:In3 p b)(ic:In3 p c):MO.run Γ [.int p,At Ab a,At Ab b,At Ab c]=.ok (.int (Aq a b c%p)):=by
 have e1:=h p a b hp ia ib;have bc:=Fe hp ic;have bx:=lE (Fe hp ia) (Fe hp ib);have k:∀ {u v},Bd 21 u->Bd 10 v->EO u v=Ab:=fun hu hv=>GD hu hv (by decide) (by decide)
 have k0:=k bx.1 bc.1;have k1:=k bx.2.1 bc.2.1;have k2:=k bx.2.2 bc.2.2;have p0:=hp.pos;obtain⟨x0,x1,x2⟩:=HY Ab c;rw[<-ZY];unfold Bq;generalize crs a b=w at *;obtain⟨w0,w1,w2⟩:=w;have ea:∀ ρ:Rho,Hy [4,5,6] (HA (w0,w1,w2)) ρ=.ok (((ρ.set 4 (si w0)).set 5 (si w1)).set 6 (si w2)):=fun _=>rfl
 generalize HA (w0,w1,w2)=ww at *;simp[MO,Df.run,BL,e1,ea,x0,x1,x2,k0,k1,k2,p0]
section
variable{Γ:Gam}{p i j k d N:Af}{PP x y u:D}{RL:Ad D}{s t s' t' v:Sl}
end
section
variable{Γ:Gam}{p:Af}{pts:Ad R3}
end
section
variable{Γ:Gam}{p:Af}{a b c d e f x y:R3}{C:C6}
theorem Bn.mono{m n:Ag}{a:R3}(h:Bn m a)(g:m<=n):Bn n a:=⟨h.1.mono g,h.2.1.mono g,h.2.2.mono g⟩
section
variable{cC PP A B C' D' E F L0 L1 L2 L3 L4 L5 U V W X Y Z J Q:D}
end
end
section
variable{Γ:Gam}{p:Af}{C:C6}
end
theorem LJ{body:D->Rho->O}(I:Rho->Prop)(f:Ag->D)(g:Ag->An D):∀(L:Ad Ag),(∀ m∈L,∀ ρ,I ρ->(∃ d,g m=Aa d/\body (f m) ρ=.ret d Ac)\/(g m=Ae/\∃ ρ',body (f m) ρ=.next ρ'/\I ρ'))->∀ ρ,I ρ->(∃ d,L.findSome? g=Aa d/\Ch body (L.map f) ρ=.ret d Ac)\/(L.findSome? g=Ae/\∃ ρ',Ch body (L.map f) ρ=.next ρ'/\I ρ')
 |[],_,ρ,i=>.inr ⟨rfl,ρ,rfl,i⟩
 |m::L,h,ρ,i=>by
  rcases h m (AH ..) ρ i with ⟨d,e1,e2⟩|⟨e1,ρ',e2,i'⟩
  ·refine .inl ⟨d,by rw[Ge,e1],?_⟩
   show (body (f m) ρ).turn _=_;rw[e2];rfl
  ·rcases LJ I f g L (fun m' h'=>h m' (Ax _ h')) ρ' i' with ⟨d,a,b⟩|⟨a,r,b,c⟩
   ·refine .inl ⟨d,by rw[Ge,e1];exact a,?_⟩
    show (body (f m) ρ).turn _=_;rw[e2];exact b
   ·refine .inr ⟨by rw[Ge,e1];exact a,r,?_,c⟩
    show (body (f m) ρ).turn _=_;rw[e2];exact b
noncomputable def at6(pts:Ad R3)(i:Ag):R3:=pts.getD i (0,0,0)
theorem in6(hg:∀ t∈pts,In3 p t)(h:i<pts.length):In3 p (at6 pts i):=by
 have e:at6 pts i=pts[i]:=by simp[at6,h]
 rw[e];exact hg _ (DO h)
theorem Rb(h:i<pts.length):Db (pts.map (At Ab)) (i:Af)=.ok (At Ab (at6 pts i)):=by
 have h':i<(pts.map (At Ab)).length:=by simpa using h
 rw[WP _ i h'];simp[at6,h]
theorem Jx(h:i<pts.length):CF (BM pts) (.int (i:Af))=.ok (At Ab (at6 pts i)):=Rb h
theorem Rc{t:Ag}{it:I}{body:Ss}{xs:Ad D}(h:FT Γ ρ it=.ok xs):evSs Γ ρ (.cons (.fors t it body) .nil)=Ch (BK Γ t body) xs ρ:=by rw[M1,fN,Nl,h,NJ]
section
variable{Γ:Gam}{p:Af}{pts:Ad R3}
end
section
variable{Γ:Gam}{p:Af}{pts:Ad R3}
theorem nB(x y u:R3):Aq y x u=-Aq x y u:=by
 unfold Aq det;grind
theorem OP(x y u:R3):Aq x u y=-Aq x y u:=by
 unfold Aq det;grind
theorem dxx(x u:R3):Aq x x u=0/\Aq x u x=0/\Aq u x x=0:=by
 unfold Aq det;refine⟨?_,?_,?_⟩<;>grind
noncomputable def onl(d:D):Ex:=⟨118,[(AV "points", d)]⟩
end
noncomputable def dtw(C:C6):Af:=Aq (tw0 C) (tw1 C) (tw2 C)
theorem fS(u v:Af)(l m r s:R3):dtw (lc2 u (prd l m) v (prd r s))=u*v*(u*(-2*Aq l m r*Aq l m s)+v*(-2*Aq r s l*Aq r s m)):=by
 obtain⟨l0,l1,l2⟩:=l;obtain⟨m0,m1,m2⟩:=m;obtain⟨r0,r1,r2⟩:=r;obtain⟨s0,s1,s2⟩:=s;simp only[dtw,Aq,det,tw0,tw1,tw2,lc2,prd];grind
theorem dc1(a b c d:R3):Aq (crs a b) (crs c d) (crs a c)=-(Aq a b c*Aq a c d):=by
 simp only[Aq,det,crs];grind
theorem dc2(a b c d:R3):Aq (crs a b) (crs c d) (crs b d)=-(Aq a b d*Aq b c d):=by
 simp only[Aq,det,crs];grind
theorem dc3(a b c d:R3):Aq (crs a c) (crs b d) (crs a b)=Aq a b c*Aq a b d:=by
 simp only[Aq,det,crs];grind
theorem dc4(a b c d:R3):Aq (crs a c) (crs b d) (crs c d)=Aq a c d*Aq b c d:=by
 simp only[Aq,det,crs];grind
theorem kI(a b c d e:R3):Aq a c e*Aq b d e-Aq a b e*Aq c d e=Aq a d e*Aq b c e:=by
 simp only[Aq,det];grind
theorem fT(a b c d e:R3):dtw (Fc a b c d e)=2*(Aq a b c*Aq a b d*Aq a c d*Aq b c d*(Aq a b e*Aq a c e*Aq a d e*(Aq b c e*Aq b d e*Aq c d e))):=by
 unfold Fc;rw[fS,dc1,dc2,dc3,dc4,J9,J9,EC,EC,EC,EC];have h:=kI a b c d e;generalize Aq a b c=A at *;generalize Aq a b d=B at *;generalize Aq a c d=C at *;generalize Aq b c d=D at *;generalize Aq a b e=E at *;generalize Aq a c e=F at *;generalize Aq a d e=G at *;generalize Aq b c e=H at *;generalize Aq b d e=I at *;generalize Aq c d e=J at *;have e1:A*B*C*D*(E*F*G*(H*I*J))=A*B*C*D*(E*F*(I*J))*(G*H):=by grind
 rw[e1,<-h];grind
structure P5 (p:Af) (a b c d e:R3):Prop where
 na:NF p a
 nb:NF p b
 nc:NF p c
 nd:NF p d
 ne:NF p e
 ab:a≠b
 ac:a≠c
 ad:a≠d
 ae:a≠e
 bc:b≠c
 bd:b≠d
 be:b≠e
 cd:c≠d
 ce:c≠e
 de:d≠e
 h4:¬ (Aq a b c%p=0/\Aq a b d%p=0)
 h3:¬ (Aq a b c%p=0/\Aq a b e%p=0)
 h2:¬ (Aq a b d%p=0/\Aq a b e%p=0)
 h1:¬ (Aq a c d%p=0/\Aq a c e%p=0)
 h0:¬ (Aq b c d%p=0/\Aq b c e%p=0)
section
variable{p:Af}{a b c d e:R3}
theorem zn{x:Af}(h:x%p=0):(-x)%p=0:=Int.emod_eq_zero_of_dvd (Int.dvd_neg.mpr (Int.dvd_of_emod_eq_zero h))
theorem on3(hp:P4 p){s t:R3}(hx:NF p x)(hy:NF p y)(xy:x≠y)(hr:NF p r)(hs:NF p s)(rs:r≠s)(er:Aq x y r%p=0)(es:Aq x y s%p=0)(et:Aq x y t%p=0):Aq r s t%p=0:=
 Qj hp hr hs rs (Ru hp hx hy xy) (by rw[EC];exact er) (by rw[EC];exact es) (by rw[EC];exact et)
theorem zz1(x y:R3):Aq x y x%p=0:=by rw[(dxx x y).2.1,BD]
theorem zz2(x y:R3):Aq x y y%p=0:=by rw[(dxx y x).2.2,BD]
theorem Ia{z:R3}(h:Aq x y z%p=0):Aq x z y%p=0:=by rw[OP];exact zn h
theorem lR{z:R3}(h:Aq x y z%p=0):Aq y x z%p=0:=by rw[nB];exact zn h
theorem GJ{z:R3}(h:Aq x y z%p=0):Aq y z x%p=0:=Ia (lR h)
theorem P5.t13(h:P5 p a b c d e)(hp:P4 p)(x:Aq a b c%p=0)(y:Aq a c d%p=0):AS:=h.h4 ⟨x,on3 hp h.na h.nc h.ac h.na h.nb h.ab (zz1 _ _) (Ia x) y⟩
theorem P5.t14(h:P5 p a b c d e)(hp:P4 p)(x:Aq a b c%p=0)(y:Aq b c d%p=0):AS:=h.h4 ⟨x,on3 hp h.nb h.nc h.bc h.na h.nb h.ab (GJ x) (zz1 _ _) y⟩
theorem P5.t23(h:P5 p a b c d e)(hp:P4 p)(x:Aq a b d%p=0)(y:Aq a c d%p=0):AS:=h.h4 ⟨on3 hp h.na h.nd h.ad h.na h.nb h.ab (zz1 _ _) (Ia x) (Ia y),x⟩
theorem P5.t24(h:P5 p a b c d e)(hp:P4 p)(x:Aq a b d%p=0)(y:Aq b c d%p=0):AS:=h.h4 ⟨on3 hp h.nb h.nd h.bd h.na h.nb h.ab (GJ x) (zz1 _ _) (Ia y),x⟩
theorem P5.t34(h:P5 p a b c d e)(hp:P4 p)(x:Aq a c d%p=0)(y:Aq b c d%p=0):AS:=h.h4 ⟨on3 hp h.nc h.nd h.cd h.na h.nb h.ab (GJ x) (GJ y) (zz1 _ _),on3 hp h.nc h.nd h.cd h.na h.nb h.ab (GJ x) (GJ y) (zz2 _ _)⟩
theorem spl(hp:P4 p)(hz:u*v%p=0):u%p=0\/v%p=0:=by
 by_cases hu:u%p=0
 ·exact .inl hu
 ·exact .inr ((E7 hp hu).mp hz)
theorem P5.not2(h:P5 p a b c d e)(hp:P4 p)(x:Aq a b e*Aq c d e%p=0)(y:Aq a c e*Aq b d e%p=0):AS:=by
 rcases spl hp x with x|x<;>rcases spl hp y with y|y
 ·exact h.h3 ⟨on3 hp h.na h.ne h.ae h.na h.nb h.ab (zz1 _ _) (Ia x) (Ia y),x⟩
 ·exact h.h2 ⟨on3 hp h.nb h.ne h.be h.na h.nb h.ab (GJ x) (zz1 _ _) (Ia y),x⟩
 ·exact h.h1 ⟨on3 hp h.nc h.ne h.ce h.na h.nc h.ac (GJ y) (zz1 _ _) (Ia x),y⟩
 ·exact h.h0 ⟨on3 hp h.nd h.ne h.de h.nb h.nc h.bc (GJ y) (GJ x) (zz1 _ _),on3 hp h.nd h.ne h.de h.nb h.nc h.bc (GJ y) (GJ x) (zz2 _ _)⟩
noncomputable def pls(x y:R3):R3:=(x.1+y.1,x.2.1+y.2.1,x.2.2+y.2.2)
theorem ZW(n x y:R3):Bq n (pls x y)=Bq n x+Bq n y:=by
 unfold Bq pls;grind
theorem Td(a b c d e x:R3):vI (Fc a b c d e) x=Aq a c e*Aq b d e*(Aq a b x*Aq c d x)-Aq a b e*Aq c d e*(Aq a c x*Aq b d x):=by
 unfold Fc;rw[bP,J9,J9,J9,J9,EC,EC,EC,EC,EC,EC,EC,EC];grind
theorem L7(x y u v:R3):Aq x y (pls u v)=Aq x y u+Aq x y v:=by
 rw[<-EC,<-EC,<-EC,ZW]
theorem lO(a b c d e:R3):vI (Fc a b c d e) a=0/\vI (Fc a b c d e) b=0/\vI (Fc a b c d e) c=0/\vI (Fc a b c d e) d=0/\vI (Fc a b c d e) e=0:=by
 refine⟨?_,?_,?_,?_,?_⟩<;>rw[Td]
 ·rw[(dxx a b).2.1,(dxx a c).2.1];grind
 ·rw[(dxx b a).2.2,(dxx b d).2.1];grind
 ·rw[(dxx c d).2.1,(dxx c a).2.2];grind
 ·rw[(dxx d c).2.2,(dxx d b).2.2];grind
 ·grind
theorem P5.lead(h:P5 p a b c d e)(hp:P4 p):∃ l,lead p (Fc a b c d e).l=Aa l:=by
 cases el:OvC.lead p (Fc a b c d e).l with
 |some l=>exact⟨l,rfl⟩
 |none=>
  exfalso
  have z:=Jl.mp el;have k:∀{n:Af},n∈(Fc a b c d e).l->Cg p n 0:=fun hn=>z0 (z _ hn)
  have q2:CgC p (Fc a b c d e) ⟨0,0,0,0,0,0⟩:=⟨k (by simp[C6.l]),k (by simp[C6.l]),k (by simp[C6.l]),k (by simp[C6.l]),k (by simp[C6.l]),k (by simp[C6.l])⟩
  have v0:∀ x,vI (Fc a b c d e) x%p=0:=fun x=>by
   have:=Jw q2 (CgR.rfl (a:=x));rw[show vI (Fc a b c d e) x%p=vI ⟨0,0,0,0,0,0⟩ x%p from this]
   simp[vI]
  have w1:=v0 (pls a b);have w2:=v0 (pls c d);have w3:=v0 (pls a c);have w4:=v0 (pls b d);rw[Td,L7,L7,L7,L7]at w1 w2 w3 w4;rw[(dxx a b).2.1,(dxx b a).2.2,(dxx a c).2.1,(dxx b d).2.1,OP a b c,show Aq b d a=Aq a b d by unfold Aq det;grind]at w1
  rw[(dxx c d).2.1,(dxx d c).2.2,(dxx c a).2.2,(dxx d b).2.2,OP b c d]at w2;rw[(dxx a c).2.1,(dxx c a).2.2,(dxx a b).2.1,(dxx c d).2.1,show Aq c d a=Aq a c d by unfold Aq det;grind]at w3
  rw[(dxx b d).2.1,(dxx d b).2.2,(dxx b a).2.2,(dxx d c).2.2,show Aq c d b=Aq b c d by unfold Aq det;grind]at w4
  by_cases lz:Aq a b e*Aq c d e%p=0
  ·by_cases mz:Aq a c e*Aq b d e%p=0
   ·exact h.not2 hp lz mz
   ·have u3:Aq a b c*Aq a c d%p=0:=(E7 hp mz).mp (by rw[<-w3];congr 1;grind)
    have u4:Aq a b d*Aq b c d%p=0:=(E7 hp mz).mp (by rw[<-w4];congr 1;grind)
    rcases spl hp u3 with x|x<;>rcases spl hp u4 with y|y
    ·exact h.h4 ⟨x,y⟩
    ·exact h.t14 hp x y
    ·exact h.t23 hp y x
    ·exact h.t34 hp x y
  ·have u1:Aq a b c*Aq a b d%p=0:=(E7 hp lz).mp (by rw[<-w1];congr 1;grind)
   have u2:Aq a c d*Aq b c d%p=0:=(E7 hp lz).mp (by rw[<-w2];congr 1;grind)
   rcases spl hp u1 with x|x<;>rcases spl hp u2 with y|y
   ·exact h.t13 hp x y
   ·exact h.t14 hp x y
   ·exact h.t23 hp x y
   ·exact h.t24 hp x y
end
section
variable{Γ:Gam}{ns:Ad Af}{p:Af}{C:C6}
def S7(Γ:Gam):Prop:=∀(p n:Af),P4 p->∃ x,NF p x/\Γ.F 157 [.int p,.int n]=.ok (At Ab x)
theorem jU(Γ:Gam)(p n:Af)(hp:P4 p):∃ x,NF p x/\HW.run Γ [.int p,.int n]=.ok (At Ab x):=by
 have pp:Ey p p=Ab:=Jo (by have:=hp.lo;omega) (by have:=hp.hi;omega)
 have p0:=hp.pos;have ph:=hp.hi;have N0:0<p*p+p+1:=by have:=Hu p0 p0;omega
 have h0:=Bm n (Int.ne_of_gt N0);have h1:=Bo n N0;have pb:p<1073741824:=by omega
 refine⟨ptI p (n%(p*p+p+1)),SN hp h0 h1,?_⟩;generalize hr:n%(p*p+p+1)=r at *;unfold ptI;by_cases z0:r=0
 ·rw[Aw z0];simp[HW,Df.run,BL,pp,N0,hr,z0];rfl
 ·rw[Az z0];by_cases z1:r<=p
  ·rw[Aw z1];simp[HW,Df.run,BL,pp,N0,hr,z0,z1];rfl
  ·rw[Az z1];simp[HW,Df.run,BL,pp,N0,hr,z0,z1,p0,pb];rfl
theorem PR{g:D->R Ao}{f:D->R D}:∀ L:Ad D,(∀ x∈L,g x=.ok Ab/\∃ y,NF p y/\f x=.ok (At Ab y))->∃ ys:Ad R3,ys.length=L.length/\(∀ y∈ys,NF p y)/\BF g f L=.ok (ys.map (At Ab))
 |[],_=>⟨[],rfl,(fun _ z=>(nomatch z)),rfl⟩
 |x::L,h=>by
  obtain⟨h1,y,ny,h2⟩:=h x AH;obtain⟨ys,a,b,c⟩:=PR L fun z hz=>h z (Ax _ hz)
  refine⟨y::ys,by simp[a],fun z hz=>?_,?_⟩
  ·rcases AB.mp hz with rfl|hz
   ·exact ny
   ·exact b z hz
  ·show (g x).bind _=_;rw[h1,R.bind_ok,Aw rfl,h2,R.bind_ok,c];rfl
section
variable{S RR cC AL X0:D}{as lm P0 L6:Ad D}{OL OL' s7:Sl}{m:Af}{j:Ag}
end
theorem S0{x:D}{l:Ad D}:Db (x::l) 0=.ok x:=by
 have h:plD (x::l).length 0=Aa 0:=by
  unfold plD;rw[Aw (by decide),Aw (by rw[Bs];omega)]
  rfl
 unfold Db;rw[h];rfl
end
section
variable{Γ:Gam}{p:Af}{a b c d e:R3}
theorem kA(hj:Sg Γ)(hl:Sf Γ)(hv:RA Γ)(hc:Sh Γ)(hp:P4 p)(h:P5 p a b c d e):∃ C,InC p C/\lead p C.l=Aa 1/\PrC p C (Fc a b c d e)/\KI.run Γ [.int p,BM [a,b,c,d,e]]=.ok (BW C):=by
 obtain⟨l0,lF⟩:=h.lead hp;obtain⟨y01,i01,_,p01,e01⟩:=hj p a b hp h.na.1 h.nb.1 h.na.2 h.nb.2 h.ab;obtain⟨y23,i23,_,p23,e23⟩:=hj p c d hp h.nc.1 h.nd.1 h.nc.2 h.nd.2 h.cd;obtain⟨y02,i02,_,p02,e02⟩:=hj p a c hp h.na.1 h.nc.1 h.na.2 h.nc.2 h.ac;obtain⟨y13,i13,_,p13,e13⟩:=hj p b d hp h.nb.1 h.nd.1 h.nb.2 h.nd.2 h.bd;have pr:PrC p _ (Fc a b c d e):=fQ hp (QR hp p01 p23) (QR hp p02 p13) e;obtain⟨l,el⟩:=Xe hp lF pr;obtain⟨t,D,it,eD,iD,lD,pD⟩:=lI hp el;have ec:=hc p Ac _ l t hp el it;rw[eD]at ec;have bd:∀ n:Af,Bd 10 (n%p):=fun n=>Lm hp (Bm _ (by have:=hp.pos;omega)) (Bo _ hp.pos)
 refine⟨D,iD,lD,pD.trans hp pr,?_⟩;rw[LM];exact fP (Mj hp i01 i23) (Mj hp i02 i13) (bd _) (bd _) e01 e23 (hl p _ _ hp i01 i23) e02 e13 (hl p _ _ hp i02 i13) (hv p _ _ hp (Mj hp i02 i13) h.ne.1) (hv p _ _ hp (Mj hp i01 i23) h.ne.1) ec
def ten(p:Af)(a b c d e:R3):Prop:=Aq a b c%p≠0/\Aq a b d%p≠0/\Aq a b e%p≠0/\Aq a c d%p≠0/\Aq a c e%p≠0/\Aq a d e%p≠0/\Aq b c d%p≠0/\Aq b c e%p≠0/\Aq b d e%p≠0/\Aq c d e%p≠0
theorem bJ(hp:P4 p)(h:PrC p C (Fc a b c d e)):Aq (tw0 C) (tw1 C) (tw2 C)%p≠0↔ten p a b c d e:=by
 have e1:dtw C%p≠0↔dtw (Fc a b c d e)%p≠0:=⟨fun z=>by
  obtain⟨k,kz,q⟩:=h;obtain⟨t0,t1,t2⟩:=Oh q;intro w;refine z ?_;have:=NL t0 t1 t2;rw[show dtw C%p=_ from this,Rh,BG,show Aq (tw0 (Fc a b c d e)) (tw1 (Fc a b c d e)) (tw2 (Fc a b c d e))%p=0 from w,Ed,BD],fun z=>Xu hp h z⟩
 have m:∀{u v:Af},u*v%p≠0↔u%p≠0/\v%p≠0:=fun {u v}=>⟨fun z=>⟨fun w=>z (by rw[BG,w,EZ,BD]),fun w=>z (by rw[BG,w,Ed,BD])⟩,fun ⟨x,y⟩=>Gb hp x y⟩
 have t2:(2:Af)%p≠0:=by rcases hp with rfl|rfl|rfl|rfl<;>decide
 show dtw C%p≠0↔_;rw[e1,fT,m,m,m,m,m,m,m,m,m,m];unfold ten;constructor
 ·rintro⟨_,⟨⟨⟨h1,h2⟩,h3⟩,h4⟩,⟨⟨h5,h6⟩,h7⟩,⟨h8,h9⟩,h0⟩;exact⟨h1,h2,h5,h3,h6,h7,h4,h8,h9,h0⟩
 ·rintro⟨h1,h2,h5,h3,h6,h7,h4,h8,h9,h0⟩;exact⟨t2,⟨⟨⟨h1,h2⟩,h3⟩,h4⟩,⟨⟨h5,h6⟩,h7⟩,⟨h8,h9⟩,h0⟩
def z3(p:Af)(x y z:R3):Prop:=Aq x y z%p=0
noncomputable def ff5(p:Af)(a b c d e:R3):An (R3×R3×R3×R3):=
 if Aq a b c%p=0/\Aq a b d%p=0 then Aa (a,b,c,d)
 else if Aq a b c%p=0/\Aq a b e%p=0 then Aa (a,b,c,e)
 else if Aq a b d%p=0/\Aq a b e%p=0 then Aa (a,b,d,e)
 else if Aq a c d%p=0/\Aq a c e%p=0 then Aa (a,c,d,e)
 else if Aq b c d%p=0/\Aq b c e%p=0 then Aa (b,c,d,e)
 else Ae
noncomputable def CP(t:R3×R3×R3×R3):D:=.tup [At Ab t.1,At Ab t.2.1,At Ab t.2.2.1,At Ab t.2.2.2]
noncomputable def ffD(p:Af)(a b c d e:R3):D:=match ff5 p a b c d e with
  |some t=>CP t
  |none=>.non
theorem Le{x y:Ad D}(c0:slD PP Ae (Aa k)=.ok (.lst x))(c1:slD PP (Aa (k+1)) Ae=.ok (.lst y))(ad:Dk .Add (.lst x) (.lst y)=.ok (.lst [q0,q1,q2,q3]))(e0:Γ.F 61 [.int p,q0,q1,q2]=.ok (.int u))(e1:Γ.F 61 [.int p,q0,q1,q3]=.ok (.int v))(h:u=0/\v=0):BK Γ 2 Jg (.int k) [si p,sh PP,s2,s3]=.ret (.tup [q0,q1,q2,q3]) Ac:=by
 obtain⟨rfl,rfl⟩:=h;have i0:CF (.lst [q0,q1,q2,q3]) (.int 0)=.ok q0:=rfl;have i1:CF (.lst [q0,q1,q2,q3]) (.int 1)=.ok q1:=rfl;have i2:CF (.lst [q0,q1,q2,q3]) (.int 2)=.ok q2:=rfl;have i3:CF (.lst [q0,q1,q2,q3]) (.int 3)=.ok q3:=rfl;have tp:biD .tuple [.lst [q0,q1,q2,q3]]=.ok (.tup [q0,q1,q2,q3]):=rfl;generalize D.lst [q0,q1,q2,q3]=FF at *;generalize D.tup [q0,q1,q2,q3]=TT at *;generalize D.lst x=U at *;generalize D.lst y=V at *;simp[BK,Jg,c0,c1,ad,i0,i1,i2,i3,e0,e1,tp,DY]
theorem SL{body:D->Rho->O}{x0 x1 x2 x3 x4:D}{c0 c1 c2 c3 c4:Prop}[Dg c0][Dg c1][Dg c2][Dg c3][Dg c4]{r0 r1 r2 r3 r4:D}{I:Rho->Prop}(hI:I ρ) (h0:∀ ρ,I ρ->(c0->body x0 ρ=.ret r0 Ac)/\(¬ c0->∃ ρ',I ρ'/\body x0 ρ=.next ρ')) (h1:∀ ρ,I ρ->(c1->body x1 ρ=.ret r1 Ac)/\(¬ c1->∃ ρ',I ρ'/\body x1 ρ=.next ρ')) (h2:∀ ρ,I ρ->(c2->body x2 ρ=.ret r2 Ac)/\(¬ c2->∃ ρ',I ρ'/\body x2 ρ=.next ρ')) (h3:∀ ρ,I ρ->(c3->body x3 ρ=.ret r3 Ac)/\(¬ c3->∃ ρ',I ρ'/\body x3 ρ=.next ρ')) (h4:∀ ρ,I ρ->(c4->body x4 ρ=.ret r4 Ac)/\(¬ c4->∃ ρ',I ρ'/\body x4 ρ=.next ρ')):(∃ t,(if c0 then Aa r0 else if c1 then Aa r1 else if c2 then Aa r2 else if c3 then Aa r3 else if c4 then Aa r4 else Ae)=Aa t/\Ch body [x0,x1,x2,x3,x4] ρ=.ret t Ac)\/((if c0 then Aa r0 else if c1 then Aa r1 else if c2 then Aa r2 else if c3 then Aa r3 else if c4 then Aa r4 else Ae)=Ae/\∃ ρ',I ρ'/\Ch body [x0,x1,x2,x3,x4] ρ=.next ρ'):=by
 have st:∀(x:D)(xs:Ad D)(ρ ρ':Rho),body x ρ=.next ρ'->Ch body (x::xs) ρ=Ch body xs ρ':=fun x xs ρ ρ' h=>by
  show (body x ρ).turn (Ch body xs)=_;rw[h];rfl
 have sr:∀(x:D)(xs:Ad D)(ρ:Rho)(t:D),body x ρ=.ret t Ac->Ch body (x::xs) ρ=.ret t Ac:=fun x xs ρ t h=>by
  show (body x ρ).turn (Ch body xs)=_;rw[h];rfl
 by_cases k0:c0
 ·rw[Aw k0];exact .inl ⟨r0,rfl,sr _ _ _ _ ((h0 ρ hI).1 k0)⟩
 rw[Az k0];obtain⟨ρ1,I1,e1⟩:=(h0 ρ hI).2 k0;rw[st _ _ _ _ e1];by_cases k1:c1
 ·rw[Aw k1];exact .inl ⟨r1,rfl,sr _ _ _ _ ((h1 ρ1 I1).1 k1)⟩
 rw[Az k1];obtain⟨ρ2,I2,e2⟩:=(h1 ρ1 I1).2 k1;rw[st _ _ _ _ e2];by_cases k2:c2
 ·rw[Aw k2];exact .inl ⟨r2,rfl,sr _ _ _ _ ((h2 ρ2 I2).1 k2)⟩
 rw[Az k2];obtain⟨ρ3,I3,e3⟩:=(h2 ρ2 I2).2 k2;rw[st _ _ _ _ e3];by_cases k3:c3
 ·rw[Aw k3];exact .inl ⟨r3,rfl,sr _ _ _ _ ((h3 ρ3 I3).1 k3)⟩
 rw[Az k3];obtain⟨ρ4,I4,e4⟩:=(h3 ρ3 I3).2 k3;rw[st _ _ _ _ e4];by_cases k4:c4
 ·rw[Aw k4];exact .inl ⟨r4,rfl,sr _ _ _ _ ((h4 ρ4 I4).1 k4)⟩
 rw[Az k4];obtain⟨ρ5,I5,e5⟩:=(h4 ρ4 I4).2 k4;rw[st _ _ _ _ e5];exact .inr ⟨rfl,ρ5,I5,rfl⟩
theorem RV(p:Af)(a b c d e:R3):ffD p a b c d e=(if Aq a b c%p=0/\Aq a b d%p=0 then Aa (CP (a,b,c,d)) else if Aq a b c%p=0/\Aq a b e%p=0 then Aa (CP (a,b,c,e)) else if Aq a b d%p=0/\Aq a b e%p=0 then Aa (CP (a,b,d,e)) else if Aq a c d%p=0/\Aq a c e%p=0 then Aa (CP (a,c,d,e)) else if Aq b c d%p=0/\Aq b c e%p=0 then Aa (CP (b,c,d,e)) else Ae).getD .non:=by
 unfold ffD ff5;by_cases k0:Aq a b c%p=0/\Aq a b d%p=0
 ·rw[Aw k0,Aw k0];rfl
 rw[Az k0,Az k0];by_cases k1:Aq a b c%p=0/\Aq a b e%p=0
 ·rw[Aw k1,Aw k1];rfl
 rw[Az k1,Az k1];by_cases k2:Aq a b d%p=0/\Aq a b e%p=0
 ·rw[Aw k2,Aw k2];rfl
 rw[Az k2,Az k2];by_cases k3:Aq a c d%p=0/\Aq a c e%p=0
 ·rw[Aw k3,Aw k3];rfl
 rw[Az k3,Az k3];by_cases k4:Aq b c d%p=0/\Aq b c e%p=0
 ·rw[Aw k4,Aw k4];rfl
 rw[Az k4,Az k4];rfl
theorem jZ(hm:Nu Γ)(hp:P4 p)(ia:In3 p a)(ib:In3 p b)(ic:In3 p c)(id:In3 p d)(ie:In3 p e):JP.run Γ [.int p,BM [a,b,c,d,e]]=.ok (ffD p a b c d e):=by
 have B:∀{x:R3},In3 p x->B3 x:=fun h=>(Fe hp h).b3 (by decide)
 have M:∀{x y z:R3},In3 p x->In3 p y->In3 p z->Γ.F 61 [.int p,At Ab x,At Ab y,At Ab z]=.ok (.int (Aq x y z%p)):=fun hx hy hz=>hm p Ab _ _ _ hp.pos (B hx) (B hy) (B hz)
 rw[LM];have key:=SL (body:=BK Γ 2 Jg) (x0:=.int 4) (x1:=.int 3) (x2:=.int 2) (x3:=.int 1) (x4:=.int 0) (ρ:=[si p,sh (five (At Ab a) (At Ab b) (At Ab c) (At Ab d) (At Ab e)),Ae,Ae]) (I:=fun ρ=>∃ s t,ρ=[si p,sh (five (At Ab a) (At Ab b) (At Ab c) (At Ab d) (At Ab e)),s,t]) ⟨_,_,rfl⟩
  (fun ρ ⟨s,t,e⟩=>by subst e;exact⟨fun h=>Le rfl rfl rfl (M ia ib ic) (M ia ib id) h,fun h=>⟨_,⟨_,_,rfl⟩,K1 rfl rfl rfl (M ia ib ic) (M ia ib id) h⟩⟩)
  (fun ρ ⟨s,t,e⟩=>by subst e;exact⟨fun h=>Le rfl rfl rfl (M ia ib ic) (M ia ib ie) h,fun h=>⟨_,⟨_,_,rfl⟩,K1 rfl rfl rfl (M ia ib ic) (M ia ib ie) h⟩⟩)
  (fun ρ ⟨s,t,e⟩=>by subst e;exact⟨fun h=>Le rfl rfl rfl (M ia ib id) (M ia ib ie) h,fun h=>⟨_,⟨_,_,rfl⟩,K1 rfl rfl rfl (M ia ib id) (M ia ib ie) h⟩⟩)
  (fun ρ ⟨s,t,e⟩=>by subst e;exact⟨fun h=>Le rfl rfl rfl (M ia ic id) (M ia ic ie) h,fun h=>⟨_,⟨_,_,rfl⟩,K1 rfl rfl rfl (M ia ic id) (M ia ic ie) h⟩⟩)
  (fun ρ ⟨s,t,e⟩=>by subst e;exact⟨fun h=>Le rfl rfl rfl (M ib ic id) (M ib ic ie) h,fun h=>⟨_,⟨_,_,rfl⟩,K1 rfl rfl rfl (M ib ic id) (M ib ic ie) h⟩⟩)
 rw[RV];show (evSs Γ [si p,sh (five (At Ab a) (At Ab b) (At Ab c) (At Ab d) (At Ab e)),Ae,Ae] JP.body).ans Ac=_;generalize five (At Ab a) (At Ab b) (At Ab c) (At Ab d) (At Ab e)=PP at *;rcases key with ⟨t,e1,e2⟩|⟨e1,ρ',_,e2⟩
 ·rw[show (if Aq a b c%p=0/\Aq a b d%p=0 then Aa (CP (a,b,c,d)) else if Aq a b c%p=0/\Aq a b e%p=0 then Aa (CP (a,b,c,e)) else if Aq a b d%p=0/\Aq a b e%p=0 then Aa (CP (a,b,d,e)) else if Aq a c d%p=0/\Aq a c e%p=0 then Aa (CP (a,c,d,e)) else if Aq b c d%p=0/\Aq b c e%p=0 then Aa (CP (b,c,d,e)) else Ae)=Aa t from e1]
  simp[JP,e2]
 ·rw[show (if Aq a b c%p=0/\Aq a b d%p=0 then Aa (CP (a,b,c,d)) else if Aq a b c%p=0/\Aq a b e%p=0 then Aa (CP (a,b,c,e)) else if Aq a b d%p=0/\Aq a b e%p=0 then Aa (CP (a,b,d,e)) else if Aq a c d%p=0/\Aq a c e%p=0 then Aa (CP (a,c,d,e)) else if Aq b c d%p=0/\Aq b c e%p=0 then Aa (CP (b,c,d,e)) else Ae)=Ae from e1]
  simp[JP,e2]
end
section
variable{Γ:Gam}{p:Af}{a b c d e:R3}{A B C D' E':D}
noncomputable def HC(a b c d e:R3):An R3:=if a=b then Aa b else if a=c\/b=c then Aa c else if a=d\/b=d\/c=d then Aa d else if a=e\/b=e\/c=e\/d=e then Aa e else Ae
noncomputable def alk(x:R3):Ex:=⟨107,[(AV "triple", At Ab x)]⟩
theorem fr5(x:R3):flD 5 (At Ab x)=Ab:=rfl
theorem ZS{X:D}{l:Ad D}{s1:Sl}(sl:slD PP Ae (Aa k)=.ok (.lst l))(fX:flD 5 X=Ab)(fl:l.all (flD 5)=Ab):((l.any fun y=>eqD y X)=Ac->FP Γ [1,2] FN (.tup [.int k,X]) [sh PP,s1,s2]=.next [sh PP,si k,sh X])/\(∀ e,(l.any fun y=>eqD y X)=Ab->Γ.xn 107 [X]=.ok e->FP Γ [1,2] FN (.tup [.int k,X]) [sh PP,s1,s2]=.exn e [sh PP,si k,sh X]):=by
 have cm:BR .In X (.lst l)=.ok (.bl (l.any fun y=>eqD y X)):=by
  show (if (flD 5 X&&l.all (flD 5))=Ab then R.ok (D.bl (l.any fun y=>eqD y X)) else .bad)=_
  rw[fX,fl];rfl
 generalize (l.any fun y=>eqD y X)=t at *
 generalize D.lst l=LL at *;exact⟨fun h=>by subst h;simp[FP,FN,FO,sl,cm],fun e h hx=>by subst h;simp[FP,FN,FO,sl,cm,hx]⟩
theorem kB(hx:∀ y:R3,y=x->Γ.xn 107 [At Ab y]=.ok (alk y))(h:HC a b c d e=Aa x):Jf.run Γ [BM [a,b,c,d,e]]=.exn (alk x):=by
 have al:∀ l:Ad R3,(l.map (At Ab)).all (flD 5)=Ab:=fun l=>by
  rw[C4];intro y hy;obtain⟨z,_,rfl⟩:=Cn.mp hy;rfl
 have T:∀(k:Af)(y:R3)(l:Ad R3)(s1 s2:Sl),slD (BM [a,b,c,d,e]) Ae (Aa k)=.ok (BM l)->_:=fun k y l s1 s2 h=>ZS (Γ:=Γ) (s1:=s1) (s2:=s2) (X:=At Ab y) h (fr5 y) (al l)
 have an:∀(l:Ad R3)(y:R3),((l.map (At Ab)).any fun z=>eqD z (At Ab y))=l.any fun z=>decide (z=y):=fun l y=>by
  rw[Ip]
  congr 1
  funext z
  exact Kf z y
 have nx:∀{t:D}{L:Ad D}{ρ ρ':Rho},FP Γ [1,2] FN t ρ=.next ρ'->Ch (FP Γ [1,2] FN) (t::L) ρ=Ch (FP Γ [1,2] FN) L ρ':=fun {t L ρ ρ'} h=>by
  show (FP Γ [1,2] FN t ρ).turn _=_;rw[h];rfl
 have ex:∀{t:D}{L:Ad D}{ρ ρ':Rho}{y:Ex},FP Γ [1,2] FN t ρ=.exn y ρ'->Ch (FP Γ [1,2] FN) (t::L) ρ=.exn y ρ':=fun {t L ρ ρ' y} h=>by
  show (FP Γ [1,2] FN t ρ).turn _=_;rw[h];rfl
 have t0:=fun s1 s2=>T 0 a [] s1 s2 rfl
 have t1:=fun s1 s2=>T 1 b [a] s1 s2 rfl
 have t2:=fun s1 s2=>T 2 c [a,b] s1 s2 rfl
 have t3:=fun s1 s2=>T 3 d [a,b,c] s1 s2 rfl
 have t4:=fun s1 s2=>T 4 e [a,b,c,d] s1 s2 rfl
 simp only[an]at t0 t1 t2 t3 t4;have fin:(∃ ρ':Rho,Ch (FP Γ [1,2] FN) [.tup [.int 0,At Ab a],.tup [.int 1,At Ab b],.tup [.int 2,At Ab c],.tup [.int 3,At Ab d],.tup [.int 4,At Ab e]] [sh (BM [a,b,c,d,e]),Ae,Ae]=.exn (alk x) ρ')->Jf.run Γ [BM [a,b,c,d,e]]=.exn (alk x):=fun ⟨ρ',h⟩=>by
  show ((Ol Γ [1,2] FN [sh (BM [a,b,c,d,e]),Ae,Ae] (.ok [.tup [.int 0,At Ab a],.tup [.int 1,At Ab b],.tup [.int 2,At Ab c],.tup [.int 3,At Ab d],.tup [.int 4,At Ab e]])).seq fun ρ=>O.next ρ).ans Ac=_
  rw[WQ,h];rfl
 unfold HC at h;refine fin ?_;rw[nx ((t0 _ _).1 rfl)];by_cases k1:a=b
 ·rw[Aw k1]at h;have hb:=Bf h;rw[<-hb];exact⟨_,ex ((t1 _ _).2 _ (by simp[k1]) (hx b hb))⟩
 rw[Az k1]at h;rw[nx ((t1 _ _).1 (by simp[k1]))]
 by_cases k2:a=c\/b=c
 ·rw[Aw k2]at h;have hb:=Bf h;rw[<-hb];exact⟨_,ex ((t2 _ _).2 _ (by simpa using k2) (hx c hb))⟩
 rw[Az k2]at h;rw[nx ((t2 _ _).1 (by simpa using k2))]
 by_cases k3:a=d\/b=d\/c=d
 ·rw[Aw k3]at h;have hb:=Bf h;rw[<-hb];exact⟨_,ex ((t3 _ _).2 _ (by simpa using k3) (hx d hb))⟩
 rw[Az k3]at h;rw[nx ((t3 _ _).1 (by simpa using k3))]
 by_cases k4:a=e\/b=e\/c=e\/d=e
 ·rw[Aw k4]at h;have hb:=Bf h;rw[<-hb];exact⟨_,ex ((t4 _ _).2 _ (by simpa using k4) (hx e hb))⟩
 rw[Az k4]at h;cases h
theorem No(h:HC a b c d e=Ae):a≠b/\a≠c/\a≠d/\a≠e/\b≠c/\b≠d/\b≠e/\c≠d/\c≠e/\d≠e:=by
 unfold HC at h;by_cases k1:a=b
 ·rw[Aw k1]at h;cases h
 rw[Az k1]at h;by_cases k2:a=c\/b=c
 ·rw[Aw k2]at h;cases h
 rw[Az k2]at h;by_cases k3:a=d\/b=d\/c=d
 ·rw[Aw k3]at h;cases h
 rw[Az k3]at h;by_cases k4:a=e\/b=e\/c=e\/d=e
 ·rw[Aw k4]at h;cases h
 simp only[D4]at k2 k3 k4;exact⟨k1,k2.1,k3.1,k4.1,k2.2,k3.2.1,k4.2.1,k3.2.2,k4.2.2.1,k4.2.2.2⟩
theorem XV(h:HC a b c d e=Ae):Jf.run Γ [BM [a,b,c,d,e]]=.ok .non:=by
 obtain⟨h1,h2,h3,h4,h5,h6,h7,h8,h9,h0⟩:=No h;have f:∀{x y:R3},x≠y->eqD (At Ab x) (At Ab y)=Ac:=fun n=>by rw[Kf,CU n]
 rw[LM];exact dR (fr5 a) (fr5 b) (fr5 c) (fr5 d) (fr5 e) (f h1) (f h2) (f h3) (f h4) (f h5) (f h6) (f h7) (f h8) (f h9) (f h0)
theorem nC{x:Ex}(ln:biD .len [PP]=.ok (.int 5))(e1:Γ.F 194 [PP]=.exn x):IH.run Γ [.int p,PP]=.exn x:=by
 simp[IH,Df.run,BL,ln,e1]
theorem nF{ds:Ad D}{x:Ex}(ln:biD .len [PP]=.ok (.int 5))(e1:Γ.F 194 [PP]=.ok .non)(e2:Γ.F 195 [.int p,PP]=.ok (.tup ds))(hx:Γ.xn 118 [.tup ds]=.ok x):IH.run Γ [.int p,PP]=.exn x:=by
 simp[IH,Df.run,BL,ln,e1,e2,hx]
theorem nE{PP R:D}(ln:biD .len [PP]=.ok (.int 5))(e1:Γ.F 194 [PP]=.ok .non)(e2:Γ.F 195 [.int p,PP]=.ok .non)(e3:Γ.F 197 [.int p,PP]=.ok R):IH.run Γ [.int p,PP]=.ok R:=by
 simp[IH,Df.run,BL,ln,e1,e2,e3]
noncomputable def Lv:E:=(.cmp .NotEq (.var 5) (.var 2))
noncomputable def Lw:E:=(.var 6)
noncomputable def HX:Ss:=(.cons (.asg 3 Ac (.compT Lw [5,6] (.enm (.var 1)) Lv)) (.cons (.asg 4 Ac (.lst (.cons (.idx (.var 3) (.int 0)) (.cons (.idx (.var 3) (.int 1)) (.cons (.idx (.var 3) (.int 2)) .nil))))) (.cons (.ife (.and (.cons (.cmp .Eq (.call 165 (.cons (.var 0) (.cons (.idx (.var 4) (.int 0)) (.cons (.idx (.var 4) (.int 1)) (.cons (.idx (.var 4) (.int 2)) .nil))))) (.int 0)) (.cons (.cmp .Eq (.call 165 (.cons (.var 0) (.cons (.idx (.var 3) (.int 0)) (.cons (.idx (.var 3) (.int 1)) (.cons (.idx (.var 3) (.int 3)) .nil))))) (.int 0)) .nil))) (.cons (.ret (.bi .tuple (.cons (.var 3) .nil))) .nil) .nil) .nil)))
noncomputable def J8:Df:=⟨7,Ac,(.cons (.fors 2 (.e (.lst (.cons (.int 4) (.cons (.int 3) (.cons (.int 2) (.cons (.int 1) (.cons (.int 0) .nil))))))) HX) (.cons (.ret .non) .nil))⟩
noncomputable def Lx:Df:=⟨1,Ac,(.cons (.ife (.isi (.var 0) [.cls 1,.cls 2,.cls 3,.cls 4,.cls 5,.cls 14,.cls 15]) (.cons (.ret (.bl Ab)) .nil) .nil) (.cons (.ret (.isi (.var 0) [.cls 16,.cls 12,.cls 17,.cls 106,.cls 108])) .nil))⟩
noncomputable def IK:Df:=⟨5,Ac,(.cons (.asg 2 Ac (.str (AV "told"))) (.cons (.asg 3 Ac .non) (.cons (.try2 (.cons (.asg 3 Ac (.call 198 (.cons (.var 0) (.cons (.var 1) .nil)))) .nil) 107 4 (.cons (.asg 2 Ac (.str (AV "alike"))) (.cons (.asg 3 Ac (.fld (.var 4) (AV "triple"))) (.cons (.ife (.or (.cons (.no (.isi (.var 4) [.cls 0])) (.cons (.isi (.var 4) [.cls 118,.cls 13]) (.cons (.call 204 (.cons (.var 4) .nil)) .nil)))) (.cons (.asg 2 Ac (.str (AV "odd"))) .nil) .nil) .nil))) 118 (.cons (.asg 2 Ac (.str (AV "line"))) (.cons (.asg 3 Ac (.fld (.var 4) (AV "points"))) (.cons (.ife (.or (.cons (.no (.isi (.var 4) [.verr])) (.cons (.isi (.var 4) [.cls 107,.cls 13]) (.cons (.call 204 (.cons (.var 4) .nil)) .nil)))) (.cons (.asg 2 Ac (.str (AV "odd"))) .nil) .nil) .nil))) .nil) (.cons (.ret (.tup (.cons (.var 2) (.cons (.var 3) .nil)))) .nil))))⟩
noncomputable def Jn:Ss:=(.cons (.ife (.cmp .Eq (.call 165 (.cons (.var 0) (.cons (.idx (.var 1) (.var 4)) (.cons (.idx (.var 1) (.var 3)) (.cons (.idx (.var 1) (.var 2)) .nil))))) (.int 0)) (.cons (.ret (.bl Ac)) .nil) .nil) .nil)
noncomputable def JT:Ss:=(.cons (.fors 4 (.rng (.var 3)) Jn) .nil)
noncomputable def Jm:Ss:=(.cons (.fors 3 (.rng (.var 2)) JT) .nil)
noncomputable def N8:Df:=⟨5,Ac,(.cons (.fors 2 (.rng (.int 5)) Jm) (.cons (.ret (.bl Ab)) .nil))⟩
theorem SX{g:D->R Ao}{f:D->R D}{x0 x1 x2 x3 x4 y0 y1 y2 y3 y4:D}{b0 b1 b2 b3 b4:Ao}(g0:g x0=.ok b0)(g1:g x1=.ok b1)(g2:g x2=.ok b2)(g3:g x3=.ok b3)(g4:g x4=.ok b4)(f0:f x0=.ok y0)(f1:f x1=.ok y1)(f2:f x2=.ok y2)(f3:f x3=.ok y3)(f4:f x4=.ok y4):BF g f [x0,x1,x2,x3,x4]=.ok ((if b0=Ab then [y0] else [])++((if b1=Ab then [y1] else [])++((if b2=Ab then [y2] else [])++((if b3=Ab then [y3] else [])++((if b4=Ab then [y4] else [])++[]))))):=by
 have st:∀{x y:D}{b:Ao}{L ys:Ad D},g x=.ok b->f x=.ok y->BF g f L=.ok ys->BF g f (x::L)=.ok ((if b=Ab then [y] else [])++ys):=fun {x y b L ys} hg hf h=>by
  show (g x).bind _=_;rw[hg];cases b with
  |true=>rw[R.bind_ok,Aw rfl,hf,R.bind_ok,h];rfl
  |false=>rw[R.bind_ok,Az As];exact h
 exact st g0 f0 (st g1 f1 (st g2 f2 (st g3 f3 (st g4 f4 rfl))))
theorem jP(s0 s3 s4:Sl)(k:Af):BF (cGT Γ [s0,sh (five A B C D' E'),si k,s3,s4,Ae,Ae] [5,6] Lv) (cFT Γ [s0,sh (five A B C D' E'),si k,s3,s4,Ae,Ae] [5,6] Lw) (EB 0 [A,B,C,D',E'])=.ok ((if (!((0:Af)==k))=Ab then [A] else [])++((if (!((1:Af)==k))=Ab then [B] else [])++((if (!((2:Af)==k))=Ab then [C] else [])++((if (!((3:Af)==k))=Ab then [D'] else [])++((if (!((4:Af)==k))=Ab then [E'] else [])++[]))))):=by
 have g:∀(i:Af)(X:D),cGT Γ [s0,sh (five A B C D' E'),si k,s3,s4,Ae,Ae] [5,6] Lv (.tup [.int i,X])=.ok (!(i==k)):=fun i X=>rfl
 have f:∀(i:Af)(X:D),cFT Γ [s0,sh (five A B C D' E'),si k,s3,s4,Ae,Ae] [5,6] Lw (.tup [.int i,X])=.ok X:=fun i X=>rfl
 exact SX (g 0 A) (g 1 B) (g 2 C) (g 3 D') (g 4 E') (f 0 A) (f 1 B) (f 2 C) (f 3 D') (f 4 E')
theorem bW{L:Ad D}{s4:Sl}(sq:Ck PP=.ok L)(cp:BF (cGT Γ [si p,sh PP,si k,s3,s4,Ae,Ae] [5,6] Lv) (cFT Γ [si p,sh PP,si k,s3,s4,Ae,Ae] [5,6] Lw) (EB 0 L)=.ok [q0,q1,q2,q3])(e0:Γ.F 165 [.int p,q0,q1,q2]=.ok (.int u))(e1:Γ.F 165 [.int p,q0,q1,q3]=.ok (.int v)):(u=0/\v=0->BK Γ 2 HX (.int k) [si p,sh PP,s2,s3,s4,Ae,Ae]=.ret (.tup [q0,q1,q2,q3]) Ac)/\(¬ (u=0/\v=0)->∃ t3 t4,BK Γ 2 HX (.int k) [si p,sh PP,s2,s3,s4,Ae,Ae]=.next [si p,sh PP,si k,t3,t4,Ae,Ae]):=by
 have i0:Db [q0,q1,q2,q3] 0=.ok q0:=rfl;have i1:Db [q0,q1,q2,q3] 1=.ok q1:=rfl;have i2:Db [q0,q1,q2,q3] 2=.ok q2:=rfl;have i3:Db [q0,q1,q2,q3] 3=.ok q3:=rfl;have j0:Db [q0,q1,q2] 0=.ok q0:=rfl;have j1:Db [q0,q1,q2] 1=.ok q1:=rfl;have j2:Db [q0,q1,q2] 2=.ok q2:=rfl;refine⟨fun ⟨hu,hv⟩=>?_,fun h=>?_⟩
 ·subst hu hv;simp[BK,HX,sq,cp,i0,i1,i2,i3,j0,j1,j2,e0,e1,DY]
 ·by_cases hu:u=0
  ·have hv:v≠0:=fun z=>h ⟨hu,z⟩
   exact⟨_,_,by simp[BK,HX,sq,cp,i0,i1,i2,i3,j0,j1,j2,e0,e1,hu,hv];exact⟨rfl,rfl⟩⟩
  ·exact⟨_,_,by simp[BK,HX,sq,cp,i0,i1,i2,i3,j0,j1,j2,e0,e1,hu];exact⟨rfl,rfl⟩⟩
theorem XY(hm:Kj Γ)(hp:P4 p)(ia:In3 p a)(ib:In3 p b)(ic:In3 p c)(id:In3 p d)(ie:In3 p e):J8.run Γ [.int p,BM [a,b,c,d,e]]=.ok (ffD p a b c d e):=by
 have M:∀{x y z:R3},In3 p x->In3 p y->In3 p z->Γ.F 165 [.int p,At Ab x,At Ab y,At Ab z]=.ok (.int (Aq x y z%p)):=fun hx hy hz=>hm p _ _ _ hp hx hy hz
 rw[LM];have sq:Ck (five (At Ab a) (At Ab b) (At Ab c) (At Ab d) (At Ab e))=.ok [At Ab a,At Ab b,At Ab c,At Ab d,At Ab e]:=rfl;have cp:=fun(s3 s4:Sl)(k:Af)=>jP (Γ:=Γ) (A:=At Ab a) (B:=At Ab b) (C:=At Ab c) (D':=At Ab d) (E':=At Ab e) (si p) s3 s4 k
 have go:∀{k u v:Af}{q0 q1 q2 q3:D}{s2 s3 s4:Sl},((if (!((0:Af)==k))=Ab then [At Ab a] else [])++((if (!((1:Af)==k))=Ab then [At Ab b] else [])++((if (!((2:Af)==k))=Ab then [At Ab c] else [])++((if (!((3:Af)==k))=Ab then [At Ab d] else [])++((if (!((4:Af)==k))=Ab then [At Ab e] else [])++[])))))=[q0,q1,q2,q3]->Γ.F 165 [.int p,q0,q1,q2]=.ok (.int u)->Γ.F 165 [.int p,q0,q1,q3]=.ok (.int v) ->
   ∀ ρ,(∃ s t w,ρ=[si p,sh (five (At Ab a) (At Ab b) (At Ab c) (At Ab d) (At Ab e)),s,t,w,Ae,Ae])->(u=0/\v=0->BK Γ 2 HX (.int k) ρ=.ret (.tup [q0,q1,q2,q3]) Ac)/\(¬ (u=0/\v=0)->∃ ρ',(∃ s t w,ρ'=[si p,sh (five (At Ab a) (At Ab b) (At Ab c) (At Ab d) (At Ab e)),s,t,w,Ae,Ae])/\BK Γ 2 HX (.int k) ρ=.next ρ'):=fun {k u v q0 q1 q2 q3 s2 s3 s4} hq e0 e1 ρ ⟨s,t,w,er⟩=>by
  subst er;have c1:=cp t w k;rw[hq]at c1;obtain⟨h1,h2⟩:=bW (s2:=s) sq c1 e0 e1;exact⟨h1,fun h=>let ⟨t3,t4,z⟩:=h2 h;⟨_,⟨_,_,_,rfl⟩,z⟩⟩
 have key:=SL (body:=BK Γ 2 HX) (x0:=.int 4) (x1:=.int 3) (x2:=.int 2) (x3:=.int 1) (x4:=.int 0) (ρ:=[si p,sh (five (At Ab a) (At Ab b) (At Ab c) (At Ab d) (At Ab e)),Ae,Ae,Ae,Ae,Ae]) (I:=fun ρ=>∃ s t w,ρ=[si p,sh (five (At Ab a) (At Ab b) (At Ab c) (At Ab d) (At Ab e)),s,t,w,Ae,Ae]) ⟨_,_,_,rfl⟩
  (go (s2:=Ae) (s3:=Ae) (s4:=Ae) rfl (M ia ib ic) (M ia ib id)) (go (s2:=Ae) (s3:=Ae) (s4:=Ae) rfl (M ia ib ic) (M ia ib ie)) (go (s2:=Ae) (s3:=Ae) (s4:=Ae) rfl (M ia ib id) (M ia ib ie)) (go (s2:=Ae) (s3:=Ae) (s4:=Ae) rfl (M ia ic id) (M ia ic ie)) (go (s2:=Ae) (s3:=Ae) (s4:=Ae) rfl (M ib ic id) (M ib ic ie))
 rw[RV];show (evSs Γ [si p,sh (five (At Ab a) (At Ab b) (At Ab c) (At Ab d) (At Ab e)),Ae,Ae,Ae,Ae,Ae] J8.body).ans Ac=_;generalize five (At Ab a) (At Ab b) (At Ab c) (At Ab d) (At Ab e)=PP at *;rcases key with ⟨t,e1,e2⟩|⟨e1,ρ',_,e2⟩
 ·rw[show (if Aq a b c%p=0/\Aq a b d%p=0 then Aa (CP (a,b,c,d)) else if Aq a b c%p=0/\Aq a b e%p=0 then Aa (CP (a,b,c,e)) else if Aq a b d%p=0/\Aq a b e%p=0 then Aa (CP (a,b,d,e)) else if Aq a c d%p=0/\Aq a c e%p=0 then Aa (CP (a,c,d,e)) else if Aq b c d%p=0/\Aq b c e%p=0 then Aa (CP (b,c,d,e)) else Ae)=Aa t from e1]
  simp[J8,e2]
 ·rw[show (if Aq a b c%p=0/\Aq a b d%p=0 then Aa (CP (a,b,c,d)) else if Aq a b c%p=0/\Aq a b e%p=0 then Aa (CP (a,b,c,e)) else if Aq a b d%p=0/\Aq a b e%p=0 then Aa (CP (a,b,d,e)) else if Aq a c d%p=0/\Aq a c e%p=0 then Aa (CP (a,c,d,e)) else if Aq b c d%p=0/\Aq b c e%p=0 then Aa (CP (b,c,d,e)) else Ae)=Ae from e1]
  simp[J8,e2]
theorem Zc{k:Ag}{fs:Ad (Ah×D)}(hu:Γ.up k=[k,0])(h:k=107\/k=118):Lx.run Γ [.exc k fs]=.ok (.bl Ac):=by
 rcases h with rfl|rfl<;>simp[Lx,Df.run,BL,hu,kiD,Dy]
theorem YW{PP R:D}(e:Γ.F 198 [.int p,PP]=.ok R):IK.run Γ [.int p,PP]=.ok (.tup [.str (AV "told"),R]):=by
 simp[IK,Df.run,BL,e]
theorem YY{PP d:D}(e:Γ.F 198 [.int p,PP]=.exn ⟨107,[(AV "triple", d)]⟩)(hu:Γ.up 107=[107,0])(ha:Γ.F 204 [.exc 107 [(AV "triple", d)]]=.ok (.bl Ac)):IK.run Γ [.int p,PP]=.ok (.tup [.str (AV "alike"),d]):=by
 simp[IK,Df.run,BL,e,hu,hdO,kiD,Dy,Kq,ha]
theorem YX{PP d:D}(e:Γ.F 198 [.int p,PP]=.exn ⟨118,[(AV "points", d)]⟩)(hu:Γ.up 118=[118,0])(ha:Γ.F 204 [.exc 118 [(AV "points", d)]]=.ok (.bl Ac)):IK.run Γ [.int p,PP]=.ok (.tup [.str (AV "line"),d]):=by
 simp[IK,Df.run,BL,e,hu,hdO,kiD,Dy,Kq,ha]
end
section
variable{Γ:Gam}{p:Af}{pts:Ad R3}{ns:Ad Af}
noncomputable def w3(p:Af)(pts:Ad R3)(i j k:Ag):An D:=if Aq (at6 pts i) (at6 pts j) (at6 pts k)%p=0 then Aa (.bl Ac) else Ae
noncomputable def w2(p:Af)(pts:Ad R3)(j k:Ag):An D:=(Bz j).findSome? fun i=>w3 p pts i j k
noncomputable def w1(p:Af)(pts:Ad R3)(k:Ag):An D:=(Bz k).findSome? fun j=>w2 p pts j k
noncomputable def w0(p:Af)(pts:Ad R3):An D:=(Bz 5).findSome? (w1 p pts)
theorem To(hn:n<100):Da 0 (n:Af)=.ok ((Bz n).map fun(i:Ag)=>D.int (0+(i:Af))):=by
 unfold Da;rw[Aw ⟨⟨by omega,by omega⟩,⟨by omega,by omega⟩,by omega⟩,GX,GL]
 rfl
theorem ZP{j:Af}(h:Em ρ i=.ok (.int j)):FT Γ ρ (.rng (.var i))=Da 0 j:=by
 rw[WW,ZQ,show top ρ (.var i) (evE Γ ρ (.var i))=Em ρ i from rfl,h]
 simp only[R.bind_ok,P8]
theorem RX(hn:n<100)(h:Em ρ i=.ok (.int (n:Af))):FT Γ ρ (.rng (.var i))=.ok ((Bz n).map fun(i:Ag)=>D.int (0+(i:Af))):=(ZP h).trans (To hn)
theorem lV(h:Kj Γ)(hp:P4 p)(hg:∀ t∈pts,In3 p t){k:Ag}(hi:i<pts.length)(hj:j<pts.length)(hk:k<pts.length)(ρ:Rho)(I:∃ s,ρ=[si p,sh (BM pts),si k,si j,s]):(∃ d,w3 p pts i j k=Aa d/\BK Γ 4 Jn (.int (0+(i:Af))) ρ=.ret d Ac)\/(w3 p pts i j k=Ae/\∃ ρ',BK Γ 4 Jn (.int (0+(i:Af))) ρ=.next ρ'/\∃ s,ρ'=[si p,sh (BM pts),si k,si j,s]):=by
 obtain⟨s,rfl⟩:=I;rw[DM];have e:=h p _ _ _ hp (in6 hg hi) (in6 hg hj) (in6 hg hk);by_cases z:Aq (at6 pts i) (at6 pts j) (at6 pts k)%p=0
 ·rw[z]at e;exact .inl ⟨_,Aw z,by simp[BK,Jn,Jx hi,Jx hj,Jx hk,e,DY]⟩
 ·exact .inr ⟨Az z,[si p,sh (BM pts),si k,si j,si i],by simp[BK,Jn,Jx hi,Jx hj,Jx hk,e,z],_,rfl⟩
theorem lU(h:Kj Γ)(hp:P4 p)(hg:∀ t∈pts,In3 p t)(hn:pts.length=5){k:Ag}(hj:j<pts.length)(hk:k<pts.length)(ρ:Rho)(I:∃ s t,ρ=[si p,sh (BM pts),si k,s,t]):(∃ d,w2 p pts j k=Aa d/\BK Γ 3 JT (.int (0+(j:Af))) ρ=.ret d Ac)\/(w2 p pts j k=Ae/\∃ ρ',BK Γ 3 JT (.int (0+(j:Af))) ρ=.next ρ'/\∃ s t,ρ'=[si p,sh (BM pts),si k,s,t]):=by
 obtain⟨s,t,rfl⟩:=I;rw[DM];have e:BK Γ 3 JT (.int (j:Af)) [si p,sh (BM pts),si k,s,t]=Ch (BK Γ 4 Jn) ((Bz j).map fun(i:Ag)=>D.int (0+(i:Af))) [si p,sh (BM pts),si k,si j,t]:=Rc (RX (by omega) rfl)
 rw[e];rcases LJ (body:=BK Γ 4 Jn) (fun ρ=>∃ s,ρ=[si p,sh (BM pts),si k,si j,s]) (fun(i:Ag)=>D.int (0+(i:Af))) (fun i=>w3 p pts i j k) (Bz j) (fun m hm ρ I=>lV h hp hg (by have:=BA.mp hm;omega) hj hk ρ I) [si p,sh (BM pts),si k,si j,t] ⟨t,rfl⟩ with ⟨d,a,b⟩|⟨a,r,b,u,c⟩
 ·exact .inl ⟨d,a,b⟩
 ·exact .inr ⟨a,r,b,_,u,c⟩
theorem lT(h:Kj Γ)(hp:P4 p)(hg:∀ t∈pts,In3 p t)(hn:pts.length=5){k:Ag}(hk:k<pts.length)(ρ:Rho)(I:∃ r s t,ρ=[si p,sh (BM pts),r,s,t]):(∃ d,w1 p pts k=Aa d/\BK Γ 2 Jm (.int (0+(k:Af))) ρ=.ret d Ac)\/(w1 p pts k=Ae/\∃ ρ',BK Γ 2 Jm (.int (0+(k:Af))) ρ=.next ρ'/\∃ r s t,ρ'=[si p,sh (BM pts),r,s,t]):=by
 obtain⟨r,s,t,rfl⟩:=I;rw[DM];have e:BK Γ 2 Jm (.int (k:Af)) [si p,sh (BM pts),r,s,t]=Ch (BK Γ 3 JT) ((Bz k).map fun(i:Ag)=>D.int (0+(i:Af))) [si p,sh (BM pts),si k,s,t]:=Rc (RX (by omega) rfl)
 rw[e];rcases LJ (body:=BK Γ 3 JT) (fun ρ=>∃ s t,ρ=[si p,sh (BM pts),si k,s,t]) (fun(i:Ag)=>D.int (0+(i:Af))) (fun j=>w2 p pts j k) (Bz k) (fun m hm ρ I=>lU h hp hg hn (by have:=BA.mp hm;omega) hk ρ I) [si p,sh (BM pts),si k,s,t] ⟨s,t,rfl⟩ with ⟨d,a,b⟩|⟨a,r,b,u,v,c⟩
 ·exact .inl ⟨d,a,b⟩
 ·exact .inr ⟨a,r,b,_,u,v,c⟩
theorem Xv(h:w0 p pts=Aa d):d=.bl Ac:=by
 obtain⟨k,_,h1⟩:=DN h;obtain⟨j,_,h2⟩:=DN h1;obtain⟨i,_,h3⟩:=DN h2;unfold w3 at h3;split at h3
 ·cases h3;rfl
 ·cases h3
theorem bU:∀ k j i:Fin 5,i<j->j<k->((i.1,j.1,k.1):Ag×Ag×Ag)∈([(0,1,2),(0,1,3),(0,1,4),(0,2,3),(0,2,4),(0,3,4),(1,2,3),(1,2,4),(1,3,4),(2,3,4)]:Ad (Ag×Ag×Ag)):=by decide
theorem gP(k:Ag)(hk:k<5)(j:Ag)(hj:j<k)(i:Ag)(hi:i<j):((i,j,k):Ag×Ag×Ag)∈([(0,1,2),(0,1,3),(0,1,4),(0,2,3),(0,2,4),(0,3,4),(1,2,3),(1,2,4),(1,3,4),(2,3,4)]:Ad (Ag×Ag×Ag)):=
 bU ⟨k,hk⟩ ⟨j,by omega⟩ ⟨i,by omega⟩ hi hj
theorem bK(a b c d e:R3):w0 p [a,b,c,d,e]=Ae↔ten p a b c d e:=by
 have a0:at6 [a,b,c,d,e] 0=a:=rfl;have a1:at6 [a,b,c,d,e] 1=b:=rfl;have a2:at6 [a,b,c,d,e] 2=c:=rfl;have a3:at6 [a,b,c,d,e] 3=d:=rfl;have a4:at6 [a,b,c,d,e] 4=e:=rfl;have w:∀ i j k,w3 p [a,b,c,d,e] i j k=Ae↔Aq (at6 [a,b,c,d,e] i) (at6 [a,b,c,d,e] j) (at6 [a,b,c,d,e] k)%p≠0:=fun i j k=>by
  unfold w3;split
  ·rename_i h;simp[h]
  ·rename_i h;simp[h]
 unfold ten w0;rw[CZ];constructor
 ·intro h;have g:∀ i j k,i<j->j<k->k<5->Aq (at6 [a,b,c,d,e] i) (at6 [a,b,c,d,e] j) (at6 [a,b,c,d,e] k)%p≠0:=fun i j k h1 h2 h3=>(w i j k).mp (CZ.mp (CZ.mp (h k (BA.mpr h3)) j (BA.mpr h2)) i (BA.mpr h1))
  have g012:=g 0 1 2 (by decide) (by decide) (by decide)
  have g013:=g 0 1 3 (by decide) (by decide) (by decide)
  have g014:=g 0 1 4 (by decide) (by decide) (by decide)
  have g023:=g 0 2 3 (by decide) (by decide) (by decide)
  have g024:=g 0 2 4 (by decide) (by decide) (by decide)
  have g034:=g 0 3 4 (by decide) (by decide) (by decide)
  have g123:=g 1 2 3 (by decide) (by decide) (by decide)
  have g124:=g 1 2 4 (by decide) (by decide) (by decide)
  have g134:=g 1 3 4 (by decide) (by decide) (by decide)
  have g234:=g 2 3 4 (by decide) (by decide) (by decide)
  exact⟨g012,g013,g014,g023,g024,g034,g123,g124,g134,g234⟩
 ·rintro⟨h1,h2,h3,h4,h5,h6,h7,h8,h9,h0⟩ k hk;have hk:=BA.mp hk;unfold w1;rw[CZ];intro j hj;have hj:=BA.mp hj;unfold w2;rw[CZ];intro i hi;have hi:=BA.mp hi;rw[w];have tr:=gP k hk j hj i hi;simp only[AB,Prod.mk.injEq,Bc,Cd]at tr;rcases tr with ⟨rfl,rfl,rfl⟩|⟨rfl,rfl,rfl⟩|⟨rfl,rfl,rfl⟩|⟨rfl,rfl,rfl⟩|⟨rfl,rfl,rfl⟩|⟨rfl,rfl,rfl⟩|⟨rfl,rfl,rfl⟩|⟨rfl,rfl,rfl⟩|⟨rfl,rfl,rfl⟩|⟨rfl,rfl,rfl⟩
  ·exact h1
  ·exact h2
  ·exact h3
  ·exact h4
  ·exact h5
  ·exact h6
  ·exact h7
  ·exact h8
  ·exact h9
  ·exact h0
theorem lS(h:Kj Γ)(hp:P4 p)(hg:∀ t∈pts,In3 p t)(hn:pts.length=5):N8.run Γ [.int p,BM pts]=.ok (.bl (w0 p pts).isNone):=by
 have r5:Da 0 5=.ok ((Bz 5).map fun(i:Ag)=>D.int (0+(i:Af))):=rfl
 rcases LJ (body:=BK Γ 2 Jm) (fun ρ=>∃ r s t,ρ=[si p,sh (BM pts),r,s,t]) (fun(m:Ag)=>D.int (0+(m:Af))) (w1 p pts) (Bz 5) (fun m hm ρ I=>lT h hp hg hn (by rw[hn];exact BA.mp hm) ρ I) [si p,sh (BM pts),Ae,Ae,Ae] ⟨_,_,_,rfl⟩ with ⟨d,a,b⟩|⟨a,r,b,u1,u2,u3,c⟩
 ·have e:w0 p pts=Aa d:=a;have e':=Xv e;subst e';show (evSs Γ [si p,sh (BM pts),Ae,Ae,Ae] (.cons (.fors 2 (.rng (.int 5)) Jm) (.cons (.ret (.bl Ab)) .nil))).ans Ac=_;rw[M1,Nl,show FT Γ [si p,sh (BM pts),Ae,Ae,Ae] (.rng (.int 5))=_ from r5,NJ,b,e]
  rfl
 ·have e:w0 p pts=Ae:=a;show (evSs Γ [si p,sh (BM pts),Ae,Ae,Ae] (.cons (.fors 2 (.rng (.int 5)) Jm) (.cons (.ret (.bl Ab)) .nil))).ans Ac=_;rw[M1,Nl,show FT Γ [si p,sh (BM pts),Ae,Ae,Ae] (.rng (.int 5))=_ from r5,NJ,b,e]
  rfl
noncomputable def LB:E:=(.bl Ab)
noncomputable def KQ:E:=(.call 157 (.cons (.var 0) (.cons (.bin .FloorDiv (.call 38 (.cons (.var 1) (.cons (.bin .Add (.int 1) (.var 8)) .nil))) (.int 5)) .nil)))
noncomputable def LA:E:=(.call 173 (.cons (.var 0) (.cons (.var 9) (.cons (.var 4) .nil))))
noncomputable def LC:E:=(.var 9)
noncomputable def JQ:Ss:=(.cons (.put 2 (.bin .Mod (.bin .Add (.var 7) (.bin .FloorDiv (.var 3) (.int 8))) (.int 5)) (.idx (.var 5) (.bin .Mod (.bin .Add (.var 6) (.var 7)) (.bi .len (.cons (.var 5) .nil))))) .nil)
noncomputable def G5:Df:=⟨10,Ac,(.cons (.asg 2 Ab (.comp KQ 8 (.rng (.int 5)) LB)) (.cons (.asg 3 Ac (.bin .FloorDiv (.call 38 (.cons (.var 1) (.cons (.int 6) .nil))) (.int 3))) (.cons (.ife (.cmp .Eq (.bin .Mod (.var 3) (.int 4)) (.int 1)) (.cons (.asg 4 Ac (.call 157 (.cons (.var 0) (.cons (.bin .FloorDiv (.call 38 (.cons (.var 1) (.cons (.int 7) .nil))) (.int 5)) .nil)))) (.cons (.asg 5 Ac (.comp LC 9 (.e (.call 164 (.cons (.var 0) .nil))) LA)) (.cons (.asg 6 Ac (.bin .FloorDiv (.call 38 (.cons (.var 1) (.cons (.int 8) .nil))) (.int 3))) (.cons (.fors 7 (.rng (.bin .Add (.int 3) (.bin .Mod (.bin .FloorDiv (.var 3) (.int 4)) (.int 2)))) JQ) .nil)))) .nil) (.cons (.ife (.cmp .Eq (.bin .Mod (.bin .FloorDiv (.var 3) (.int 64)) (.int 8)) (.int 1)) (.cons (.put 2 (.bin .Mod (.bin .FloorDiv (.var 3) (.int 512)) (.int 5)) (.idx (.var 2) (.bin .Mod (.bin .FloorDiv (.var 3) (.int 2560)) (.int 5)))) .nil) .nil) (.cons (.ret (.var 2)) .nil)))))⟩
theorem QL{l:Ad R3}(n:Ag)(x:R3):(l.map (At Ab)).set n (At Ab x)=(l.set n x).map (At Ab):=by
 rw[Uy]
theorem pl5{l:Ad R3}{j:Af}(hl:l.length=5):plD (l.map (At Ab)).length (j%5)=Aa (j%5).toNat:=by
 have h0:0<=j%5:=Bm _ (by decide)
 have h1:j%5<5:=Bo _ (by decide)
 rw[Cf,hl];unfold plD;rw[Aw h0,Aw (show j%5<((5:Ag):Af) from h1)]
theorem RJ{l:Ad R3}(h:∀ t∈l,NF p t)(hx:NF p x):∀ t∈l.set n x,NF p t:=fun t ht=>by
 rcases UA ht with h1|h1
 ·exact h t h1
 ·rw[h1];exact hx
theorem ZU{S LN:D}{row l:Ad R3}{pk st:Af}(hl:l.length=5)(nl:∀ t∈l,NF p t)(nr:∀ t∈row,NF p t)(h0:0<row.length):∃ l',l'.length=5/\(∀ t∈l',NF p t)/\BK Γ 7 JQ (.int k) [si p,sh S,ow l,si pk,sh LN,sh (BM row),si st,s7,Ae,Ae]=.next [si p,sh S,ow l',si pk,sh LN,sh (BM row),si st,si k,Ae,Ae]:=by
 have q0:0<=(st+k)%(row.length:Af):=Bm _ (by omega)
 have q1:(st+k)%(row.length:Af)<row.length:=Bo _ (by omega)
 have hq:((st+k)%(row.length:Af)).toNat<row.length:=by omega
 have ix:=Jx (pts:=row) hq;rw[show ((((st+k)%(row.length:Af)).toNat:Ag):Af)=(st+k)%(row.length:Af) by omega]at ix
 have nx:NF p (at6 row ((st+k)%(row.length:Af)).toNat):=by
  have e:at6 row ((st+k)%(row.length:Af)).toNat=row[((st+k)%(row.length:Af)).toNat]:=by simp[at6,hq]
  rw[e];exact nr _ (DO hq)
 generalize at6 row ((st+k)%(row.length:Af)).toNat=x at *;refine⟨l.set ((k+pk / 8)%5).toNat x,by rw[A2];exact hl,RJ nl nx,?_⟩
 have ln:biD .len [BM row]=.ok (.int (row.length:Af)):=by
  show R.ok (D.int (((row.map (At Ab)).length:Ag):Af))=_;rw[Cf]
 have pl:=pl5 (j:=k+pk / 8) hl;have sm:=QL (l:=l) ((k+pk / 8)%5).toNat x;have o2:∀(b c d e f g h i j:Sl),DU [b,c,ow l,d,e,f,g,h,i,j] 2=.ok (l.map (At Ab)):=fun _ _ _ _ _ _ _ _ _=>rfl
 have po:(0:Af)<row.length:=by omega
 have ow':∀ l:Ad R3,ow l=Aa (.lst (l.map (At Ab)),Ab):=fun _=>rfl
 have oR:(Aa (.lst ((l.set ((k+pk / 8)%5).toNat x).map (At Ab)),Ab):Sl)=ow (l.set ((k+pk / 8)%5).toNat x):=rfl;generalize ow (l.set ((k+pk / 8)%5).toNat x)=O2 at *;generalize ow l=O1 at *;generalize BM row=RR at *;generalize At Ab x=X at *;generalize l.map (At Ab)=LL at *;generalize (row.length:Af)=n at *;simp[BK,JQ,NK,ln,po,ix,o2,pl,sm];rw[<-Uy];exact oR
theorem Rg{S LN:D}{row:Ad R3}{pk st:Af}(nr:∀ t∈row,NF p t)(h0:0<row.length):∀(L:Ad D)(l:Ad R3)(s7:Sl),(∀ x∈L,∃ k:Af,x=.int k)->l.length=5->(∀ t∈l,NF p t)->∃ l' s7',l'.length=5/\(∀ t∈l',NF p t)/\Ch (BK Γ 7 JQ) L [si p,sh S,ow l,si pk,sh LN,sh (BM row),si st,s7,Ae,Ae]=.next [si p,sh S,ow l',si pk,sh LN,sh (BM row),si st,s7',Ae,Ae]
 |[],l,s7,_,hl,nl=>⟨l,s7,hl,nl,rfl⟩
 |x::L,l,s7,hL,hl,nl=>by
  obtain⟨k,rfl⟩:=hL x AH;obtain⟨l1,a1,a2,a3⟩:=ZU (Γ:=Γ) (S:=S) (LN:=LN) (pk:=pk) (st:=st) (k:=k) (s7:=s7) hl nl nr h0;obtain⟨l2,s2,b1,b2,b3⟩:=Rg nr h0 L l1 (si k) (fun y hy=>hL y (Ax _ hy)) a1 a2
  refine⟨l2,s2,b1,b2,?_⟩;show (BK Γ 7 JQ (.int k) _).turn _=_;rw[a3];exact b3
theorem XO{S X:D}{m:Af}(cp0:BF (cG Γ [si p,sh S,Ae,Ae,Ae,Ae,Ae,Ae,Ae,Ae] 8 LB) (cF Γ [si p,sh S,Ae,Ae,Ae,Ae,Ae,Ae,Ae,Ae] 8 KQ) (DK 0 5)=.ok P0)(em:Γ.F 38 [S,.int 6]=.ok (.int m))(c:¬ m / 3%4=1)(x0:Db P0 (m / 3 / 2560%5)=.ok X)(pl:plD P0.length (m / 3 / 512%5)=Aa j):G5.run Γ [.int p,S]=.ok (.lst (if m /3 /64%8=1 then P0.set j X else P0)):=by
 have rg:Da 0 5=.ok (DK 0 5):=by rfl
 generalize DK 0 5=RL at *;have o2:∀(a b d e f g h i k:Sl),DU [a,b,Aa (.lst P0,Ab),d,e,f,g,h,i,k] 2=.ok P0:=fun _ _ _ _ _ _ _ _ _=>rfl
 by_cases c3:m / 3 / 64%8=1
 ·rw[Aw c3];simp[G5,Df.run,BL,rg,cp0,em,c,c3,x0,pl,NK,o2,DY]
 ·rw[Az c3];simp[G5,Df.run,BL,rg,cp0,em,c,c3,DY]
theorem XN{S X LN AL:D}{as row P1 L2:Ad D}{m m7 m8:Af}(cp0:BF (cG Γ [si p,sh S,Ae,Ae,Ae,Ae,Ae,Ae,Ae,Ae] 8 LB) (cF Γ [si p,sh S,Ae,Ae,Ae,Ae,Ae,Ae,Ae,Ae] 8 KQ) (DK 0 5)=.ok P0)(em:Γ.F 38 [S,.int 6]=.ok (.int m))(c:m / 3%4=1)(e7:Γ.F 38 [S,.int 7]=.ok (.int m7))(el:Γ.F 157 [.int p,.int (m7 / 5)]=.ok LN)(al:Γ.F 164 [.int p]=.ok AL)(sq:Ck AL=.ok as)(cp:BF (cG Γ [si p,sh S,Aa (.lst P0,Ab),si (m / 3),sh LN,Ae,Ae,Ae,Ae,Ae] 9 LA) (cF Γ [si p,sh S,Aa (.lst P0,Ab),si (m / 3),sh LN,Ae,Ae,Ae,Ae,Ae] 9 LC) as=.ok row)(e8:Γ.F 38 [S,.int 8]=.ok (.int m8))(rg2:Da 0 (3+m / 3 / 4%2)=.ok L2)(lp:Ch (BK Γ 7 JQ) L2 [si p,sh S,Aa (.lst P0,Ab),si (m / 3),sh LN,sh (.lst row),si (m8 / 3),Ae,Ae,Ae]=.next [si p,sh S,Aa (.lst P1,Ab),si (m / 3),sh LN,sh (.lst row),si (m8 / 3),s7,Ae,Ae])(x0:Db P1 (m / 3 / 2560%5)=.ok X)(pl:plD P1.length (m / 3 / 512%5)=Aa j):G5.run Γ [.int p,S]=.ok (.lst (if m /3 /64%8=1 then P1.set j X else P1)):=by
 have rg:Da 0 5=.ok (DK 0 5):=by rfl
 generalize DK 0 5=RL at *;have o2:∀(a b d e f g h i k:Sl),DU [a,b,Aa (.lst P1,Ab),d,e,f,g,h,i,k] 2=.ok P1:=fun _ _ _ _ _ _ _ _ _=>rfl
 by_cases c3:m / 3 / 64%8=1
 ·rw[Aw c3];simp[G5,Df.run,BL,rg,cp0,em,c,c3,e7,el,al,sq,cp,e8,rg2,lp,x0,pl,NK,o2,DY]
 ·rw[Az c3];simp[G5,Df.run,BL,rg,cp0,em,c,c3,e7,el,al,sq,cp,e8,rg2,lp,DY]
theorem at5{l:Ad R3}{j:Af}(hl:l.length=5):Db (l.map (At Ab)) (j%5)=.ok (At Ab (at6 l (j%5).toNat))/\at6 l (j%5).toNat∈l:=by
 have h0:0<=j%5:=Bm _ (by decide)
 have h1:j%5<5:=Bo _ (by decide)
 have hq:(j%5).toNat<l.length:=by omega
 have e:=Rb (pts:=l) hq;rw[show (((j%5).toNat:Ag):Af)=j%5 by omega]at e
 refine⟨e,?_⟩;have e:at6 l (j%5).toNat=l[(j%5).toNat]:=by simp[at6,hq]
 rw[e];exact DO hq
theorem YT(hp:P4 p)(h:NF p a):∃ b c,Aq a b c%p≠0:=by
 by_cases h0:a.1%p=0
 ·by_cases h1:a.2.1%p=0
  ·refine⟨(1,0,0),(0,1,0),?_⟩;rw[show Aq a (1,0,0) (0,1,0)=a.2.2 by unfold Aq det;grind]
   intro h2;have:lead p (tri a)=Ae:=Jl.mpr fun x hx=>by
    simp only[tri,AB,Bc,Cd]at hx;rcases hx with rfl|rfl|rfl
    ·exact h0
    ·exact h1
    ·exact h2
   have h3:=h.2;rw[this]at h3;cases h3
  ·exact⟨(0,0,1),(1,0,0),by rw[show Aq a (0,0,1) (1,0,0)=a.2.1 by unfold Aq det;grind];exact h1⟩
 ·exact⟨(0,1,0),(0,0,1),by rw[show Aq a (0,1,0) (0,0,1)=a.1 by unfold Aq det;grind];exact h0⟩
theorem XS(hp:P4 p)(h:NF p y):0<((Fq p).filter fun x=>decide (Bq y x%p=0)).length:=by
 obtain⟨b,c,z⟩:=YT hp h;have hl:=(bV hp z).1;have p0:=hp.pos;have:0<(lnA p y b).length:=by rw[hl];omega
 obtain⟨x,hx⟩:=List.exists_mem_of_length_pos this;obtain⟨h1,h2,_⟩:=dF hp hx;exact Uu (BU.mpr ⟨(G9 hp).mpr h1,Gq h2⟩)
theorem Za(mi:N2 Γ 38 ns)(pt:S7 Γ)(al:Tb Γ)(on:S9 Γ)(p:Af)(hp:P4 p):∃ pts:Ad R3,pts.length=5/\(∀ x∈pts,NF p x)/\G5.run Γ [.int p,scr ns]=.ok (BM pts):=by
 obtain⟨P0,l0,n0,cp0⟩:=PR (p:=p) (g:=cG Γ [si p,sh (scr ns),Ae,Ae,Ae,Ae,Ae,Ae,Ae,Ae] 8 LB) (f:=cF Γ [si p,sh (scr ns),Ae,Ae,Ae,Ae,Ae,Ae,Ae,Ae] 8 KQ) (DK 0 5) fun x hx=>by
  obtain⟨k,_,rfl⟩:=Qx hx;refine⟨rfl,?_⟩;obtain⟨m,m0,e⟩:=mi (1+(0+(k:Af))) (by omega)
  obtain⟨y,ny,ey⟩:=pt p (m / 5) hp;refine⟨y,ny,?_⟩;generalize 0+(k:Af)=K at *;generalize At Ab y=Y at *;generalize scr ns=S at *;simp[cF,KQ,e,ey]
 have l5:P0.length=5:=l0;obtain⟨m,m0,em⟩:=mi 6 (by decide)
 have fin:∀(l:Ad R3),l.length=5->(∀ t∈l,NF p t)->G5.run Γ [.int p,scr ns]=.ok (.lst (if m / 3 / 64%8=1 then (l.map (At Ab)).set (m / 3 / 512%5).toNat (At Ab (at6 l (m / 3 / 2560%5).toNat)) else l.map (At Ab)))->∃ pts:Ad R3,pts.length=5/\(∀ x∈pts,NF p x)/\G5.run Γ [.int p,scr ns]=.ok (BM pts):=fun l hl nl e=>by
  by_cases c3:m / 3 / 64%8=1
  ·rw[Aw c3,QL]at e;exact⟨_,by rw[A2];exact hl,RJ nl (nl _ (at5 hl).2),e⟩
  ·rw[Az c3]at e;exact⟨l,hl,nl,e⟩
 by_cases c:m / 3%4=1
 ·obtain⟨m7,_,e7⟩:=mi 7 (by decide)
  obtain⟨m8,_,e8⟩:=mi 8 (by decide)
  obtain⟨y,ny,ey⟩:=pt p (m7 / 5) hp;have cp:BF (cG Γ [si p,sh (scr ns),Aa (.lst (P0.map (At Ab)),Ab),si (m / 3),sh (At Ab y),Ae,Ae,Ae,Ae,Ae] 9 LA) (cF Γ [si p,sh (scr ns),Aa (.lst (P0.map (At Ab)),Ab),si (m / 3),sh (At Ab y),Ae,Ae,Ae,Ae,Ae] 9 LC) ((Fq p).map (At Ab))=.ok (((Fq p).filter fun x=>decide (Bq y x%p=0)).map (At Ab)):=PV _ fun x hx=>by
   have e:=on p Ab x y hp ((G9 hp).mp hx).1 ny.1;generalize At Ab x=X at *;generalize At Ab y=Y at *;generalize scr ns=S at *;generalize P0.map (At Ab)=PP at *;exact⟨by simp[cG,LA,e],by simp[cF,LC]⟩
  have nr:∀ t∈(Fq p).filter (fun x=>decide (Bq y x%p=0)),NF p t:=fun t ht=>(G9 hp).mp (BU.mp ht).1
  have rp:=XS hp ny;generalize (Fq p).filter (fun x=>decide (Bq y x%p=0))=row at *
  have r2:∃ L2,Da 0 (3+m / 3 / 4%2)=.ok L2/\∀ x∈L2,∃ k:Af,x=.int k:=by
   have h0:0<=m / 3 / 4%2:=Bm _ (by decide)
   have h1:m / 3 / 4%2<2:=Bo _ (by decide)
   have e:(3+m / 3 / 4%2:Af)=((3+m / 3 / 4%2).toNat:Af):=by omega
   rw[e];refine⟨_,To (by omega),fun x hx=>?_⟩
   obtain⟨i,_,rfl⟩:=Cn.mp hx;exact⟨_,rfl⟩
  obtain⟨L2,rg2,hL2⟩:=r2;obtain⟨l1,s7,a1,a2,lp⟩:=Rg (Γ:=Γ) (p:=p) (S:=scr ns) (LN:=At Ab y) (pk:=m / 3) (st:=m8 / 3) nr rp L2 P0 Ae hL2 l5 n0;exact fin l1 a1 a2 (XN cp0 em c e7 ey (al p hp) rfl cp e8 rg2 lp (at5 a1).1 (pl5 a1))
 ·exact fin P0 l5 n0 (XO cp0 em c (at5 l5).1 (pl5 l5))
end
section
variable{p:Af}{C D O W Z:C6}{a b c x y z:R3}
end
def Wu(Γ:Gam):Prop:=∀(p:Af)(C:C6),P4 p->InC p C->Γ.F 136 [.int p,BW C]=.ok (.bl (decide (Aq (tw0 C) (tw1 C) (tw2 C)%p≠0)))
theorem gQ(p:Af)(C:C6):Aq (t0 p C) (t1 p C) (t2 p C)%p=Aq (tw0 C) (tw1 C) (tw2 C)%p:=let ⟨h0,h1,h2⟩:=lY p C;NL h0 h1 h2
theorem Wg(ht:Q9 Γ)(hm:Nu Γ)(p:Af)(C:C6)(hp:P4 p)(iC:InC p C):MW.run Γ [.int p,BW C]=.ok (.bl (decide (Aq (tw0 C) (tw1 C) (tw2 C)%p≠0))):=by
 obtain⟨h0,h1,h2⟩:=lX hp iC;have e1:=ht p C hp;have e2:=hm p Ab (t0 p C) (t1 p C) (t2 p C) hp.pos ((Fe hp h0).b3 (by decide)) ((Fe hp h1).b3 (by decide)) ((Fe hp h2).b3 (by decide))
 rw[gQ]at e2;have k0:CF (Ln (t0 p C) (t1 p C) (t2 p C)) (.int 0)=.ok (At Ab (t0 p C)):=rfl;have k1:CF (Ln (t0 p C) (t1 p C) (t2 p C)) (.int 1)=.ok (At Ab (t1 p C)):=rfl;have k2:CF (Ln (t0 p C) (t1 p C) (t2 p C)) (.int 2)=.ok (At Ab (t2 p C)):=rfl;generalize Aq (tw0 C) (tw1 C) (tw2 C)%p=d at *;simp[MW,Df.run,BL,e1,e2,k0,k1,k2];rw[CQ];simp
section
variable{Γ:Gam}{ns:Ad Af}{p:Af}{C:C6}{s4 s5 s6 s7 s8 s9 s10 s8' s9' s10':Sl}
end
noncomputable def Je:E:=(.cmp .In (.var 9) (.sl (.var 2) .non (.var 8)))
noncomputable def JO:E:=(.var 9)
noncomputable def ME:E:=(.cmp .NotEq (.var 10) (.int 0))
noncomputable def MG:E:=(.var 10)
noncomputable def JN:E:=(.and (.cons (.isi (.var 11) [.int]) (.cons (.cmp2 .LtE .Lt (.int 0) (.var 11) (.var 1)) .nil)))
noncomputable def MF:E:=(.cmp .NotEq (.call 162 (.cons (.var 1) (.cons (.var 5) (.cons (.var 12) .nil)))) (.int 0))
noncomputable def IG:Df:=⟨13,Ac,(.cons (.asg 1 Ac (.call 169 (.cons (.var 0) .nil))) (.cons (.asg 2 Ac (.call 205 (.cons (.var 1) (.cons (.var 0) .nil)))) (.cons (.asg 3 Ac (.compT JO [8,9] (.enm (.var 2)) Je)) (.cons (.asgT [4,5] (.call 206 (.cons (.var 1) (.cons (.bi .list (.cons (.var 2) .nil)) .nil)))) (.cons (.ife (.cmp .Gt (.bi .len (.cons (.var 3) .nil)) (.int 0)) (.cons (.ret (.and (.cons (.cmp .Eq (.var 4) (.str (AV "alike"))) (.cons (.cmp .Eq (.var 5) (.idx (.var 3) (.int 0))) .nil)))) .nil) .nil) (.cons (.asg 6 Ac (.call 203 (.cons (.var 1) (.cons (.var 2) .nil)))) (.cons (.ife (.cmp .IsNot (.var 6) .non) (.cons (.ret (.and (.cons (.cmp .Eq (.var 4) (.str (AV "line"))) (.cons (.isi (.var 5) [.tuple]) (.cons (.cmp .Eq (.var 5) (.var 6)) .nil))))) .nil) .nil) (.cons (.ife (.or (.cons (.cmp .NotEq (.var 4) (.str (AV "told"))) (.cons (.no (.isi (.var 5) [.tuple])) (.cons (.cmp .NotEq (.bi .len (.cons (.var 5) .nil)) (.int 6)) .nil)))) (.cons (.ret (.bl Ac)) .nil) .nil) (.cons (.asg 7 Ac (.comp MG 10 (.e (.var 5)) ME)) (.cons (.ife (.or (.cons (.no (.bi .all (.cons (.comp JN 11 (.e (.var 5)) DE) .nil))) (.cons (.cmp .Eq (.bi .len (.cons (.var 7) .nil)) (.int 0)) (.cons (.cmp .NotEq (.idx (.var 7) (.int 0)) (.int 1)) .nil)))) (.cons (.ret (.bl Ac)) .nil) .nil) (.cons (.ife (.bi .any (.cons (.comp MF 12 (.e (.var 2)) DE) .nil)) (.cons (.ret (.bl Ac)) .nil) .nil) (.cons (.ret (.cmp .Eq (.call 136 (.cons (.var 1) (.cons (.var 5) .nil))) (.call 207 (.cons (.var 1) (.cons (.var 2) .nil))))) .nil))))))))))))⟩
section
variable{Γ:Gam}{p:Af}{a b c d e:R3}{S PP T0 TT:D}{TW L:Ad D}{n:Af}
theorem bR(p:Af)(a b c d e:R3)(S:D):∃ TW,BF (cGT Γ [sh S,si p,sh (BM [a,b,c,d,e]),Ae,Ae,Ae,Ae,Ae,Ae,Ae,Ae,Ae,Ae] [8,9] Je) (cFT Γ [sh S,si p,sh (BM [a,b,c,d,e]),Ae,Ae,Ae,Ae,Ae,Ae,Ae,Ae,Ae,Ae] [8,9] JO) (EB 0 [At Ab a,At Ab b,At Ab c,At Ab d,At Ab e])=.ok TW/\(∀ x,HC a b c d e=Aa x->∃ TR,TW=At Ab x::TR)/\(HC a b c d e=Ae->TW=[]):=by
 have en:EB 0 [At Ab a,At Ab b,At Ab c,At Ab d,At Ab e]=[.tup [.int 0,At Ab a],.tup [.int 1,At Ab b],.tup [.int 2,At Ab c],.tup [.int 3,At Ab d],.tup [.int 4,At Ab e]]:=rfl;have q:=Kf;have fa:=fr5 a;have fb:=fr5 b;have fc:=fr5 c;have fd:=fr5 d;have fe:=fr5 e;have ff:∀(k:Af)(X:D),cFT Γ [sh S,si p,sh (BM [a,b,c,d,e]),Ae,Ae,Ae,Ae,Ae,Ae,Ae,Ae,Ae,Ae] [8,9] JO (.tup [.int k,X])=.ok X:=fun _ _=>rfl
 have gg:∀(k:Af)(X:D)(l:Ad D),slD (BM [a,b,c,d,e]) Ae (Aa k)=.ok (.lst l)->flD 5 X=Ab->l.all (flD 5)=Ab->cGT Γ [sh S,si p,sh (BM [a,b,c,d,e]),Ae,Ae,Ae,Ae,Ae,Ae,Ae,Ae,Ae,Ae] [8,9] Je (.tup [.int k,X])=.ok (l.any fun y=>eqD y X):=fun k X l h1 h2 h3=>by
  generalize BM [a,b,c,d,e]=PP at *;simp[cGT,Je,h1,h2,h3]
 have al:∀ l:Ad R3,(l.map (At Ab)).all (flD 5)=Ab:=fun l=>by
  rw[C4];intro x hx;obtain⟨y,_,rfl⟩:=Cn.mp hx;rfl
 rw[en];refine⟨_,SX (gg 0 _ [] rfl fa rfl) (gg 1 _ [At Ab a] rfl fb (al [a])) (gg 2 _ [At Ab a,At Ab b] rfl fc (al [a,b])) (gg 3 _ [At Ab a,At Ab b,At Ab c] rfl fd (al [a,b,c])) (gg 4 _ [At Ab a,At Ab b,At Ab c,At Ab d] rfl fe (al [a,b,c,d])) (ff _ _) (ff _ _) (ff _ _) (ff _ _) (ff _ _),fun x hx=>?_,fun hx=>?_⟩
 ·unfold HC at hx;simp only[FC,List.any_nil,T9,Ce,q,AU,Gs,Hl,FZ,B1];by_cases k1:a=b
  ·rw[Aw k1]at hx;cases hx;rw[Aw k1];exact⟨_,rfl⟩
  rw[Az k1]at hx;rw[Az k1,FZ];by_cases k2:a=c\/b=c
  ·rw[Aw k2]at hx;cases hx;rw[Aw k2];exact⟨_,rfl⟩
  rw[Az k2]at hx;rw[Az k2,FZ];by_cases k3:a=d\/b=d\/c=d
  ·rw[Aw k3]at hx;cases hx;rw[Aw k3];exact⟨_,rfl⟩
  rw[Az k3]at hx;rw[Az k3,FZ];by_cases k4:a=e\/b=e\/c=e\/d=e
  ·rw[Aw k4]at hx;cases hx;rw[Aw k4];exact⟨_,rfl⟩
  rw[Az k4]at hx;cases hx
 ·obtain⟨h1,h2,h3,h4,h5,h6,h7,h8,h9,h0⟩:=No hx;simp[q,h1,h2,h3,h4,h5,h6,h7,h8,h9,h0]
theorem lB(e1:Γ.F 169 [S]=.ok (.int p))(e2:Γ.F 205 [.int p,S]=.ok PP)(sq:Ck PP=.ok L)(cp:BF (cGT Γ [sh S,si p,sh PP,Ae,Ae,Ae,Ae,Ae,Ae,Ae,Ae,Ae,Ae] [8,9] Je) (cFT Γ [sh S,si p,sh PP,Ae,Ae,Ae,Ae,Ae,Ae,Ae,Ae,Ae,Ae] [8,9] JO) (EB 0 L)=.ok TW)(hT:D.lst TW=TT)(li:biD .list [PP]=.ok PP)(em:Γ.F 206 [.int p,PP]=.ok (.tup [.str (AV "alike"),T0]))(ln:biD .len [TT]=.ok (.int n))(n0:0<n)(i0:CF TT (.int 0)=.ok T0)(f:flD 5 T0=Ab)(q:eqD T0 T0=Ab):IG.run Γ [S]=.ok (.bl Ab):=by
 simp[IG,Df.run,BL,e1,e2,sq,cp,hT,li,em,ln,n0,i0,f,q]
theorem lA{ds:Ad D}(e1:Γ.F 169 [S]=.ok (.int p))(e2:Γ.F 205 [.int p,S]=.ok PP)(sq:Ck PP=.ok L)(cp:BF (cGT Γ [sh S,si p,sh PP,Ae,Ae,Ae,Ae,Ae,Ae,Ae,Ae,Ae,Ae] [8,9] Je) (cFT Γ [sh S,si p,sh PP,Ae,Ae,Ae,Ae,Ae,Ae,Ae,Ae,Ae,Ae] [8,9] JO) (EB 0 L)=.ok [])(li:biD .list [PP]=.ok PP)(em:Γ.F 206 [.int p,PP]=.ok (.tup [.str (AV "line"),.tup ds]))(e4:Γ.F 203 [.int p,PP]=.ok (.tup ds))(f:flD 5 (.tup ds)=Ab)(q:eqD (.tup ds) (.tup ds)=Ab):IG.run Γ [S]=.ok (.bl Ab):=by
 simp[IG,Df.run,BL,e1,e2,sq,cp,li,em,e4,f,q,kiD,Dy]
theorem kZ{H:Ad Af}{w:Ao}(e1:Γ.F 169 [S]=.ok (.int p))(e2:Γ.F 205 [.int p,S]=.ok PP)(sq:Ck PP=.ok L)(cp:BF (cGT Γ [sh S,si p,sh PP,Ae,Ae,Ae,Ae,Ae,Ae,Ae,Ae,Ae,Ae] [8,9] Je) (cFT Γ [sh S,si p,sh PP,Ae,Ae,Ae,Ae,Ae,Ae,Ae,Ae,Ae,Ae] [8,9] JO) (EB 0 L)=.ok [])(li:biD .list [PP]=.ok PP)(em:Γ.F 206 [.int p,PP]=.ok (.tup [.str (AV "told"),BW C]))(e4:Γ.F 203 [.int p,PP]=.ok .non)(kt:DV Γ.up [.tuple] (BW C)=.ok (.bl Ab))(l6:biD .len [BW C]=.ok (.int 6))(sC:Ck (BW C)=.ok (ds C.l))(ch:∀ s:Sl,BF (cG Γ [sh S,si p,sh PP,s,sh (.str (AV "told")),sh (BW C),sh .non,Ae,Ae,Ae,Ae,Ae,Ae] 10 ME) (cF Γ [sh S,si p,sh PP,s,sh (.str (AV "told")),sh (BW C),sh .non,Ae,Ae,Ae,Ae,Ae,Ae] 10 MG) (ds C.l)=.ok (ds (1::H)))(ca:∀ s s':Sl,BF (cG Γ [sh S,si p,sh PP,s,sh (.str (AV "told")),sh (BW C),sh .non,s',Ae,Ae,Ae,Ae,Ae] 11 DE) (cF Γ [sh S,si p,sh PP,s,sh (.str (AV "told")),sh (BW C),sh .non,s',Ae,Ae,Ae,Ae,Ae] 11 JN) (ds C.l)=.ok [.bl Ab,.bl Ab,.bl Ab,.bl Ab,.bl Ab,.bl Ab])(cv:∀ s s':Sl,BF (cG Γ [sh S,si p,sh PP,s,sh (.str (AV "told")),sh (BW C),sh .non,s',Ae,Ae,Ae,Ae,Ae] 12 DE) (cF Γ [sh S,si p,sh PP,s,sh (.str (AV "told")),sh (BW C),sh .non,s',Ae,Ae,Ae,Ae,Ae] 12 MF) L=.ok [.bl Ac,.bl Ac,.bl Ac,.bl Ac,.bl Ac])(e5:Γ.F 136 [.int p,BW C]=.ok (.bl w))(e6:Γ.F 207 [.int p,PP]=.ok (.bl w)):IG.run Γ [S]=.ok (.bl Ab):=by
 have i0:CF (.lst (ds (1::H))) (.int 0)=.ok (.int 1):=S0;have ln:biD .len [.lst (ds (1::H))]=.ok (.int ((H.length:Af)+1)):=by
  show R.ok (D.int (((ds (1::H)).length:Ag):Af))=_;simp[ds]
 have h1:¬ ((H.length:Af)+1=0):=by omega
 generalize ds (1::H)=HH at *;generalize (H.length:Af)+1=n at *;generalize hHT:D.lst HH=HT at *;have ta:GH [.bl Ab,.bl Ab,.bl Ab,.bl Ab,.bl Ab,.bl Ab]=.ok Ab:=rfl;have ty:Fa [.bl Ac,.bl Ac,.bl Ac,.bl Ac,.bl Ac]=.ok Ac:=rfl;generalize BW C=cC at *;generalize ds C.l=dC at *;generalize [D.bl Ab,.bl Ab,.bl Ab,.bl Ab,.bl Ab,.bl Ab]=AT at *;generalize [D.bl Ac,.bl Ac,.bl Ac,.bl Ac,.bl Ac]=AF at *;simp[IG,Df.run,BL,e1,e2,sq,cp,li,em,e4,kt,l6,sC,ch,ca,cv,ta,ty,hHT,ln,i0,h1,e5,e6]
end
noncomputable def lW:Ag->Ad Ag
 |2=>[2,0]
 |3=>[3,0]
 |107=>[107,0]
 |5=>[5,0]
 |13=>[13,0]
 |118=>[118,0]
 |_=>[]
noncomputable def Hg:Ag->Ad D->R Ex
 |2,_=>.ok ⟨2,[]⟩
 |3,_=>.ok ⟨3,[]⟩
 |107,ds=>mkX 107 "triple" ds
 |5,_=>.ok ⟨5,[]⟩
 |13,_=>.ok ⟨13,[]⟩
 |118,ds=>mkX 118 "points" ds
 |_,_=>.bad
noncomputable def Q62:Prg:=⟨Ab,fun
 |1=>N6
 |9=>Ly
 |17=>LK
 |23=>M8
 |57=>N7
 |61=>M7
 |194=>Jf
 |122=>MX
 |126=>NM
 |131=>MH
 |136=>MW
 |195=>JP
 |196=>MD
 |197=>KI
 |198=>IH
 |38=>KM
 |169=>OK 38
 |157=>HW
 |161=>M0
 |162=>MQ
 |164=>Lz
 |165=>MO
 |173=>Np
 |203=>J8
 |204=>Lx
 |205=>G5
 |206=>IK
 |207=>N8
 |208=>IG
 | _=>⟨0,Ac,.nil⟩,fun _=>.non,lW,Hg⟩
theorem WI(hp:P4 p)(iC:InC p C):lead p C.l=(C.l.filter fun v=>decide (v≠0)).head?:=by
 have h:=Pa hp.pos C.l;have e:C.l.map (fun x=>x%p)=C.l:=by
  conv=>rhs;rw[<-List.map_id C.l]
  exact Uw fun x hx=>A1 (iC x hx).1 (iC x hx).2
 rw[<-h,e]
 congr 1
 refine GM fun x hx=>?_
 have:=(iC x hx).1;rw[CQ,AU,AU];omega
theorem nG{S PP W:D}{s s':Sl}(iC:InC p C):BF (cG Γ [sh S,si p,sh PP,s,sh W,sh (BW C),sh .non,s',Ae,Ae,Ae,Ae,Ae] 11 DE) (cF Γ [sh S,si p,sh PP,s,sh W,sh (BW C),sh .non,s',Ae,Ae,Ae,Ae,Ae] 11 JN) (ds C.l)=.ok [.bl Ab,.bl Ab,.bl Ab,.bl Ab,.bl Ab,.bl Ab]:=by
 have key:∀ x:Af,0<=x/\x<p->cF Γ [sh S,si p,sh PP,s,sh W,sh (BW C),sh .non,s',Ae,Ae,Ae,Ae,Ae] 11 JN (.int x)=.ok (.bl Ab):=fun x ⟨h0,h1⟩=>by
  generalize BW C=cC at *;simp[cF,JN,h0,h1,kiD,Dy]
 have gg:∀ x,cG Γ [sh S,si p,sh PP,s,sh W,sh (BW C),sh .non,s',Ae,Ae,Ae,Ae,Ae] 11 DE x=.ok Ab:=fun _=>rfl
 have m:∀{x:Af},x∈C.l->cF Γ [sh S,si p,sh PP,s,sh W,sh (BW C),sh .non,s',Ae,Ae,Ae,Ae,Ae] 11 JN (.int x)=.ok (.bl Ab):=fun {x} hx=>key x (iC x hx)
 have m0:=m (x:=C.c0) (by simp[C6.l])
 have m1:=m (x:=C.c1) (by simp[C6.l])
 have m2:=m (x:=C.c2) (by simp[C6.l])
 have m3:=m (x:=C.c3) (by simp[C6.l])
 have m4:=m (x:=C.c4) (by simp[C6.l])
 have m5:=m (x:=C.c5) (by simp[C6.l])
 have el:ds C.l=[.int C.c0,.int C.c1,.int C.c2,.int C.c3,.int C.c4,.int C.c5]:=rfl;rw[el];simp[BF,gg,m0,m1,m2,m3,m4,m5]
theorem Lb(hp:P4 p)(h:In3 p x):xfD 1 (At Ab x)=Ab:=by
 have ph:=hp.hi;obtain⟨⟨x0,x1⟩,⟨y0,y1⟩,z0,z1⟩:=h;show (C7 3 8&&([D.int x.1,.int x.2.1,.int x.2.2].all (xfD 0)))=Ab;simp[xfD];omega
theorem dD(hp:P4 p)(h:In3 p x):mkX 107 "triple" [At Ab x]=.ok (alk x):=by
 show (if (xfD 1 (At Ab x)||xfD 2 (At Ab x))=Ab then R.ok (alk x) else .bad)=_
 rw[Lb hp h,Bool.true_or];rfl
theorem dB(hp:P4 p)(h0:In3 p t.1)(h1:In3 p t.2.1)(h2:In3 p t.2.2.1)(h3:In3 p t.2.2.2):mkX 118 "points" [CP t]=.ok (onl (CP t)):=by
 have e2:xfD 2 (CP t)=Ab:=by
  show (C7 4 8&&([At Ab t.1,At Ab t.2.1,At Ab t.2.2.1,At Ab t.2.2.2].all (xfD 1)))=Ab;simp[Lb hp h0,Lb hp h1,Lb hp h2,Lb hp h3]
 show (if (xfD 1 (CP t)||xfD 2 (CP t))=Ab then R.ok (onl (CP t)) else .bad)=_
 rw[e2,GW];rfl
theorem lL{a b c d e:R3}{P:R3->Prop}(ha:P a)(hb:P b)(hc:P c)(hd:P d)(he:P e)(h:ff5 p a b c d e=Aa t):P t.1/\P t.2.1/\P t.2.2.1/\P t.2.2.2:=by
 unfold ff5 at h
 repeat' split at h
 all_goals cases h
 ·exact⟨ha,hb,hc,hd⟩
 ·exact⟨ha,hb,hc,he⟩
 ·exact⟨ha,hb,hd,he⟩
 ·exact⟨ha,hc,hd,he⟩
 ·exact⟨hb,hc,hd,he⟩
theorem YO{a b c d e:R3}(h:ff5 p a b c d e=Ae):¬ (Aq a b c%p=0/\Aq a b d%p=0)/\¬ (Aq a b c%p=0/\Aq a b e%p=0)/\¬ (Aq a b d%p=0/\Aq a b e%p=0)/\¬ (Aq a c d%p=0/\Aq a c e%p=0)/\¬ (Aq b c d%p=0/\Aq b c e%p=0):=by
 unfold ff5 at h
 repeat' split at h
 all_goals first|(cases h;done)|skip
 exact⟨by assumption,by assumption,by assumption,by assumption,by assumption⟩
theorem jR(ns:Ad Af)(hl:ns.length<=63):(gam Q62 8).F 208 [scr ns]=.ok (.bl Ab):=by
 have gF:∀(n i:Ag)(ds:Ad D),(gam Q62 (n+1)).F i ds=((Q62.defs i).run (gam Q62 n) ds):=fun _ _ _=>rfl
 have rs:∀ n,IM (gam Q62 (n+1)):=fun n p m hp=>Ew (dL _ p m hp)
 have mi:∀ n,N2 (gam Q62 (n+1)) 38 ns:=fun n k hk=>let ⟨m,m0,e⟩:=dM _ ns hl k hk;⟨m,m0,Ew e⟩
 have tu:∀ n,M9 (gam Q62 (n+2)):=fun n p m hp z=>let ⟨t,t1,t2,t3,e⟩:=Wh (rs n) p m hp z;⟨t,t1,t2,t3,Ew e⟩
 have fo:∀ n,Nv (gam Q62 (n+3)):=fun n p b xs l t hp e it=>Ew (Y9 (rs (n+1)) (tu n) hp e it)
 have me:∀ n,Nu (gam Q62 (n+2)):=fun n p q a b c hp ha hb hc=>Ew (XX (rs n) p q a b c hp ha hb hc)
 have jo:∀ n,Sg (gam Q62 (n+4)):=fun n p a b hp ia ib la lb ne=>let ⟨y,h1,h2,h3,e⟩:=dP (fun a b ha hb ne=>Ew (Zb _ a b ha hb ne)) (fo n) p a b hp ia ib la lb ne;⟨y,h1,h2,h3,Ew e⟩
 have vb:∀ n,RA (gam Q62 (n+2)):=fun n p C x hp bC ix=>Ew (dJ (rs n) p C x hp bC ix)
 have cf:∀ n,Sh (gam Q62 (n+4)):=fun n p b xs l t hp e it=>Ew (dQ (rs (n+2)) (fo n) hp e it)
 have lm:∀ n,Sf (gam Q62 (n+1)):=fun n p a b hp ia ib=>Ew (dO _ p a b hp ia ib)
 have lc:∀ n,Ta (gam Q62 (n+1)):=fun n p a b hp ia ib=>Ew (jY _ p a b hp ia ib)
 have l4:∀ n,Kj (gam Q62 (n+2)):=fun n p a b c hp ia ib ic=>Ew (jX (lc n) p a b c hp ia ib ic)
 have px:∀ n,S8 (gam Q62 (n+1)):=fun n p k hp h0 h1=>Ew (jV _ p k hp h0 h1)
 have py:∀ n,S7 (gam Q62 (n+1)):=fun n p k hp=>let ⟨x,nx,e⟩:=jU _ p k hp;⟨x,nx,Ew e⟩
 have al:∀ n,Tb (gam Q62 (n+2)):=fun n p hp=>by
  have e:=kC (px n) p hp;show D8 Ab (Lz.run (gam Q62 (n+1)) [.int p])=_;rw[e];rfl
 have on:∀ n,S9 (gam Q62 (n+1)):=fun n p q x y hp ix iy=>Ew (jW _ p q x y hp ix iy)
 have tw:∀ n,Q9 (gam Q62 (n+2)):=fun n p C hp=>Ew (XU (rs n) p C hp)
 have wh:∀ n,Wu (gam Q62 (n+3)):=fun n p C hp iC=>Ew (Wg (tw n) (me n) p C hp iC)
 have lv:∀ n,fZ (gam Q62 (n+1)):=fun n p C x hp iC ix=>Ew (dN _ p C x hp iC ix)
 have d198:Q62.defs 198=IH:=rfl;have d194:Q62.defs 194=Jf:=rfl;have d195:Q62.defs 195=JP:=rfl;have d197:Q62.defs 197=KI:=rfl;have d203:Q62.defs 203=J8:=rfl;have d204:Q62.defs 204=Lx:=rfl;have d205:Q62.defs 205=G5:=rfl;have d206:Q62.defs 206=IK:=rfl;have d207:Q62.defs 207=N8:=rfl;have d208:Q62.defs 208=IG:=rfl;obtain⟨p,hp,e1⟩:∃ p,P4 p/\(gam Q62 7).F 169 [scr ns]=.ok (.int p):=let ⟨p,hp,e⟩:=W3 (mi 5);⟨p,hp,Ew e⟩
 obtain⟨pts,l5,nf,e2⟩:=Za (mi 5) (py 5) (al 4) (on 5) p hp;rw[<-d205,<-gF]at e2;obtain⟨a,b,c,d,e,rfl⟩:=YN l5;have na:=nf a (by simp)
 have nb:=nf b (by simp)
 have nc:=nf c (by simp)
 have nd:=nf d (by simp)
 have ne:=nf e (by simp)
 have ln:biD .len [BM [a,b,c,d,e]]=.ok (.int 5):=rfl;have li:biD .list [BM [a,b,c,d,e]]=.ok (BM [a,b,c,d,e]):=rfl;have sq:Ck (BM [a,b,c,d,e])=.ok [At Ab a,At Ab b,At Ab c,At Ab d,At Ab e]:=rfl;obtain⟨TW,cp,h1,h2⟩:=bR (Γ:=gam Q62 7) p a b c d e (scr ns);have an:∀(k:Ag)(fs:Ad (Ah×D)),Q62.up k=[k,0]->k=107\/k=118->(gam Q62 6).F 204 [.exc k fs]=.ok (.bl Ac):=fun k fs hu h=>by
  rw[gF,d204];exact Zc hu h
 rw[gF,d208];cases hd:HC a b c d e with
 |some x=>
  obtain⟨TR,rfl⟩:=h1 x hd;have ix:In3 p x:=by
   unfold HC at hd
   repeat' split at hd
   all_goals cases hd
   ·exact nb.1
   ·exact nc.1
   ·exact nd.1
   ·exact ne.1
  have f1:=kB (Γ:=gam Q62 4) (fun y hy=>by subst hy;exact dD hp ix) hd
  rw[<-d194,<-gF]at f1;have f2:=nC (p:=p) ln f1;rw[<-d198,<-gF]at f2;have f3:=YY f2 rfl (an 107 _ rfl (.inl rfl));rw[<-d206,<-gF]at f3;have lt:biD .len [.lst (At Ab x::TR)]=.ok (.int ((TR.length:Af)+1)):=rfl;exact lB e1 e2 sq cp rfl li f3 lt (by omega) S0 (fr5 x) (by rw[Kf,Gq rfl])
 |none=>
  have hT:=h2 hd;subst hT;have f1:=XV (Γ:=gam Q62 4) hd;rw[<-d194,<-gF]at f1;have f4:=jZ (Γ:=gam Q62 4) (me 2) hp na.1 nb.1 nc.1 nd.1 ne.1;rw[<-d195,<-gF]at f4;have f5:=XY (Γ:=gam Q62 6) (l4 4) hp na.1 nb.1 nc.1 nd.1 ne.1;rw[<-d203,<-gF]at f5;cases hf:ff5 p a b c d e with
  |some t=>
   have eD:ffD p a b c d e=CP t:=by unfold ffD;rw[hf]
   obtain⟨i0,i1,i2,i3⟩:=lL (P:=In3 p) na.1 nb.1 nc.1 nd.1 ne.1 hf;rw[eD]at f4 f5;have f2:=nF (p:=p) ln f1 f4 (dB hp i0 i1 i2 i3);rw[<-d198,<-gF]at f2;have f3:=YX f2 rfl (an 118 _ rfl (.inr rfl));rw[<-d206,<-gF]at f3;refine lA e1 e2 sq cp li f3 f5 rfl ?_;simp[eqD,eqDs,Kf]
  |none=>
   have eD:ffD p a b c d e=.non:=by unfold ffD;rw[hf]
   obtain⟨k1,k2,k3,k4,k5⟩:=YO hf;obtain⟨g1,g2,g3,g4,g5,g6,g7,g8,g9,g0⟩:=No hd;have P:P5 p a b c d e:=⟨na,nb,nc,nd,ne,g1,g2,g3,g4,g5,g6,g7,g8,g9,g0,k1,k2,k3,k4,k5⟩;rw[eD]at f4 f5;obtain⟨C,iC,lC,pC,f6⟩:=kA (jo 0) (lm 3) (vb 2) (cf 0) hp P;rw[<-d197,<-gF]at f6;have f2:=nE (p:=p) ln f1 f4 f6;rw[<-d198,<-gF]at f2;have f3:=YW f2;rw[<-d206,<-gF]at f3;have f7:=wh 4 p C hp iC;have f8:=lS (Γ:=gam Q62 6) (l4 4) hp (pts:=[a,b,c,d,e]) (fun t ht=>(nf t ht).1) rfl
   rw[<-d207,<-gF]at f8;have ew:(w0 p [a,b,c,d,e]).isNone=decide (Aq (tw0 C) (tw1 C) (tw2 C)%p≠0):=by
    rw[CQ,AU,bJ hp pC,<-bK,Option.isNone_iff_eq_none]
   rw[ew]at f8;have hd':∃ H,C.l.filter (fun v=>decide (v≠0))=1::H:=by
    have q:=WI hp iC;rw[lC]at q;cases hF:C.l.filter (fun v=>decide (v≠0)) with
    |nil=>rw[hF]at q;cases q
    |cons y H=>rw[hF]at q;cases q;exact⟨H,rfl⟩
   obtain⟨H,hH⟩:=hd';have vz:∀{x:R3},NF p x->vI (Fc a b c d e) x=0->(gam Q62 7).F 162 [.int p,BW C,At Ab x]=.ok (.int 0):=fun {x} nx hx=>by
    have:=lv 6 p C x hp iC nx.1;rw[(bN hp pC x).mpr (by rw[hx,BD])]at this
    exact this
   obtain⟨o1,o2,o3,o4,o5⟩:=lO a b c d e;have v1:=vz na o1;have v2:=vz nb o2;have v3:=vz nc o3;have v4:=vz nd o4;have v5:=vz ne o5;refine kZ (H:=H) e1 e2 sq cp li f3 f5 rfl rfl rfl (fun s=>?_) (fun s s'=>?_) (fun s s'=>?_) f7 f8
   ·rw[<-hH];exact O6 C.l fun x _=>⟨by simp[cG,ME];rw[CQ,AW,AU],by simp[cF,MG]⟩
   ·exact nG iC
   ·generalize BW C=cC at *;simp[BF,cG,cF,DE,MF,v1,v2,v3,v4,v5]
end OvC
namespace OvC
open PySem PySem.Spec PyProof.Rows Ov L2
variable{l:Fw}
noncomputable def S5:Ad (Ah×Ag×Ag):=([("rest", 1,2),("turned_over", 9,2),("one_form", 17,2),("crossed", 23,2),("join", 57,3),("measure", 61,4),("ask_unlike", 194,1),("curve_of", 122,2),("value", 126,3),("twice_table", 131,2),("is_whole", 136,2),("first_four", 195,2),("lines_multiplied", 196,2),("five_curve", 197,2),("curve_through", 198,2),("_law_mixed", 38,2),("_law_prime", 169,1),("_law_point", 157,2),("_law_cross", 161,2),("_law_value", 162,3),("_law_all", 164,1),("_law_measure", 165,4),("_law_on", 173,3),("_law_four", 203,2),("_law_another", 204,1001),("_law_drawn", 205,2),("_law_met", 206,2),("_law_no_three", 207,2),("law", 208,1)]:Ad (Ah×Ag×Ag))
noncomputable def T6:Ad Ah:=["ValueError", "all", "any", "enumerate", "int", "isinstance", "len", "list", "max", "min", "range", "sum", "tuple", "zip"]
noncomputable def Og:Ad (Ah×Ag):=[("NoOver", 2),("NoTriple", 3),("Alike", 107),("NoCurve", 5),("NoCount", 13),("OnLine", 118)]
noncomputable def OA:Ad (Ah×Ag):=[("NoPrime", 1),("NoOver", 2),("NoTriple", 3),("NoTable", 4),("NoCurve", 5),("NotWhole", 14),("TooMany", 15),("NoPicture", 16),("NoRow", 12),("NothingDone", 17),("BadRow", 106),("NotOn", 108),("Alike", 107),("OnLine", 118),("NoCount", 13),("OvalError", 0)]
noncomputable def SZ:Ad (Ah×Ag):=[]
noncomputable abbrev C62(h:Ao)(ps N:Ad Ah)(i d:Ag):Ao:=Hi 80 h S5 T6 Og OA SZ ps N (tp62 i) (Q62.defs d)
theorem eZ:C62 Ac ["p", "n"] ["p", "n"] 18 1=Ab:=by decide +kernel
theorem eY:C62 Ac ["p", "n"] ["p", "n", "turned"] 19 9=Ab:=by decide +kernel
theorem eX:C62 Ac ["p", "numbers"] ["p", "numbers", "rests", "first", "factor", "#5", "#6"] 21 17=Ab:=by decide +kernel
theorem eW:C62 Ac ["one", "other"] ["one", "other"] 22 23=Ab:=by decide +kernel
theorem eV:C62 Ac ["p", "one", "other"] ["p", "one", "other"] 24 57=Ab:=by decide +kernel
theorem eU:C62 Ac ["p", "one", "other", "third"] ["p", "one", "other", "third"] 25 61=Ab:=by decide +kernel
theorem eT:C62 Ac ["points"] ["points", "place", "point"] 26 194=Ab:=by decide +kernel
theorem eS:C62 Ac ["p", "numbers"] ["p", "numbers", "rests", "#3"] 28 122=Ab:=by decide +kernel
theorem eR:C62 Ac ["p", "curve", "point"] ["p", "curve", "point", "squares", "products"] 29 126=Ab:=by decide +kernel
theorem eQ:C62 Ac ["p", "curve"] ["p", "curve"] 30 131=Ab:=by decide +kernel
theorem ZJ:C62 Ac ["p", "curve"] ["p", "curve", "rows"] 31 136=Ab:=by decide +kernel
theorem ZI:C62 Ac ["p", "points"] ["p", "points", "place", "four"] 33 195=Ab:=by decide +kernel
theorem ZH:C62 Ac ["one", "other"] ["one", "other"] 34 196=Ab:=by decide +kernel
theorem ZG:C62 Ac ["p", "points"] ["p", "points", "one", "other", "by_one", "by_other", "#6", "#7"] 35 197=Ab:=by decide +kernel
theorem ZF:C62 Ac ["p", "points"] ["p", "points", "four"] 36 198=Ab:=by decide +kernel
theorem ZE:C62 Ac ["_law_script", "_law_k"] ["_law_script", "_law_k", "_law_cell", "_law_step"] 38 38=Ab:=by decide +kernel
theorem ZD:C62 Ac ["_law_script"] ["_law_script"] 39 169=Ab:=by decide +kernel
theorem ZC:C62 Ac ["_law_p", "_law_number"] ["_law_p", "_law_number", "_law_n"] 40 157=Ab:=by decide +kernel
theorem ZB:C62 Ac ["_law_one", "_law_other"] ["_law_one", "_law_other", "_law_a", "_law_b", "_law_c", "_law_d", "_law_e", "_law_f"] 41 161=Ab:=by decide +kernel
theorem ZA:C62 Ac ["_law_p", "_law_curve", "_law_point_here"] ["_law_p", "_law_curve", "_law_point_here", "_law_x", "_law_y", "_law_z", "_law_some", "#7", "#8"] 42 162=Ab:=by decide +kernel
theorem Zz:C62 Ac ["_law_p"] ["_law_p", "#1"] 43 164=Ab:=by decide +kernel
theorem aA:C62 Ac ["_law_p", "_law_one", "_law_other", "_law_third"] ["_law_p", "_law_one", "_law_other", "_law_third", "_law_a", "_law_b", "_law_c"] 44 165=Ab:=by decide +kernel
theorem Z9:C62 Ac ["_law_p", "_law_point_here", "_law_line"] ["_law_p", "_law_point_here", "_law_line", "#3", "#4"] 45 173=Ab:=by decide +kernel
theorem Z8:C62 Ac ["_law_p", "_law_points"] ["_law_p", "_law_points", "_law_left", "_law_four_here", "_law_one", "#5", "#6"] 46 203=Ab:=by decide +kernel
theorem Z7:C62 Ab ["_law_error"] ["_law_error"] 47 204=Ab:=by decide +kernel
theorem Z6:C62 Ac ["_law_p", "_law_script"] ["_law_p", "_law_script", "_law_points", "_law_pick", "_law_line", "_law_row", "_law_start", "_law_k", "#8", "#9"] 48 205=Ab:=by decide +kernel
theorem Z5:C62 Ac ["_law_p", "_law_points"] ["_law_p", "_law_points", "_law_word", "_law_found", "_law_error"] 49 206=Ab:=by decide +kernel
theorem Z4:C62 Ac ["_law_p", "_law_points"] ["_law_p", "_law_points", "_law_k", "_law_j", "_law_i"] 50 207=Ab:=by decide +kernel
theorem Rm:C62 Ac ["_law_script"] ["_law_script", "_law_p", "_law_points", "_law_twice", "_law_word", "_law_found", "_law_four_here", "_law_heads", "#8", "#9", "#10", "#11", "#12"] 51 208=Ab:=by decide +kernel
theorem Y8:Mv "OvalError" "triple" "triple" (Mm (tp62 14))=Ab:=by decide +kernel
theorem Y7:Mv "OvalError" "points" "points" (Mm (tp62 16))=Ab:=by decide +kernel
noncomputable def Cw(x0 x1 x2 x3 x4 x5:Aj):ClA
 |2=>Aa x0
 |3=>Aa x1
 |107=>Aa x2
 |5=>Aa x3
 |13=>Aa x4
 |118=>Aa x5
 |_=>Ae
set_option maxHeartbeats 0 in
theorem all62{w:AC}{K:Fg}{h:AD}{mg:Ah->An Ai}{fa f0 f1 f2 f3 f4 f5 f6 f7 f8 f9 f10 f11 f12 f13 f14 f15 f16 f17 f18 f19 f20 f21 f22 f23 f24 f25 f26 f27 f28 x0 x1 x2 x3 x4 x5 x6 x7 x8 x9 x10 x11 x12 x13 x14 x15 ix2 ix5:Aj}(X:K.In h)(G:h.Ns AK mg)(hfa:mg "law" = Aa (.ref fa))(a0:FnI K f0 "rest" (tp62 18))(a1:FnI K f1 "turned_over" (tp62 19))(a2:FnI K f2 "one_form" (tp62 21))(a3:FnI K f3 "crossed" (tp62 22))(a4:FnI K f4 "join" (tp62 24))(a5:FnI K f5 "measure" (tp62 25))(a6:FnI K f6 "ask_unlike" (tp62 26))(a7:FnI K f7 "curve_of" (tp62 28))(a8:FnI K f8 "value" (tp62 29))(a9:FnI K f9 "twice_table" (tp62 30))(a10:FnI K f10 "is_whole" (tp62 31))(a11:FnI K f11 "first_four" (tp62 33))(a12:FnI K f12 "lines_multiplied" (tp62 34))(a13:FnI K f13 "five_curve" (tp62 35))(a14:FnI K f14 "curve_through" (tp62 36))(a15:FnI K f15 "_law_mixed" (tp62 38))(a16:FnI K f16 "_law_prime" (tp62 39))(a17:FnI K f17 "_law_point" (tp62 40))(a18:FnI K f18 "_law_cross" (tp62 41))(a19:FnI K f19 "_law_value" (tp62 42))(a20:FnI K f20 "_law_all" (tp62 43))(a21:FnI K f21 "_law_measure" (tp62 44))(a22:FnI K f22 "_law_on" (tp62 45))(a23:FnI K f23 "_law_four" (tp62 46))(a24:FnI K f24 "_law_another" (tp62 47))(a25:FnI K f25 "_law_drawn" (tp62 48))(a26:FnI K f26 "_law_met" (tp62 49))(a27:FnI K f27 "_law_no_three" (tp62 50))(a28:FnI K f28 "law" (tp62 51))(nx0:AX K AK "NoOver" = Aa (Aa (.ref x0)))(dcx0:Fb K x0=Ab)(ftx0:Av K (.ref x0) "triple" = Aa Ae)(fpx0:Av K (.ref x0) "points" = Aa Ae)(ex0:EF K x0 [.type "ValueError", .type "Exception", .type "BaseException", .type "object"] "ValueError.__new__" = Ab)(gax0:Av K (.ref x0) "__getattribute__" = Aa (Aa (.builtin "BaseException.__getattribute__")))(gtx0:Av K (.ref x0) "__getattr__" = Aa Ae)(clx0:Av K (.ref x0) "__class__" = Aa (Aa (.builtin "object.__class__")))(obx0:Bj K x0 (.type "object")=Aa Ab)(bex0:Al K (.ref x0) (.type "BaseException")=Aa Ab)(svx0:Al K (.ref x0) (.type "ValueError")=Aa Ab)(nx1:AX K AK "NoTriple" = Aa (Aa (.ref x1)))(dcx1:Fb K x1=Ab)(ftx1:Av K (.ref x1) "triple" = Aa Ae)(fpx1:Av K (.ref x1) "points" = Aa Ae)(ex1:EF K x1 [.type "ValueError", .type "Exception", .type "BaseException", .type "object"] "ValueError.__new__" = Ab)(gax1:Av K (.ref x1) "__getattribute__" = Aa (Aa (.builtin "BaseException.__getattribute__")))(gtx1:Av K (.ref x1) "__getattr__" = Aa Ae)(clx1:Av K (.ref x1) "__class__" = Aa (Aa (.builtin "object.__class__")))(obx1:Bj K x1 (.type "object")=Aa Ab)(bex1:Al K (.ref x1) (.type "BaseException")=Aa Ab)(svx1:Al K (.ref x1) (.type "ValueError")=Aa Ab)(nx2:AX K AK "Alike" = Aa (Aa (.ref x2)))(dcx2:Fb K x2=Ab)(ftx2:Av K (.ref x2) "triple" = Aa Ae)(fpx2:Av K (.ref x2) "points" = Aa Ae)(fix2:Av K (.ref x2) "__init__" = Aa (Aa (.ref ix2)))(iix2:InI K ix2 "Alike.__init__" (Mm (tp62 14)))(tix2:Bw K (.ref ix2)=Aa (.type "function"))(ex2:DJ K x2 (Aa (.ref ix2))=Ab)(snx2:Av K (.ref x2) "__setattr__" = Aa (Aa (.builtin "object.__setattr__")))(gax2:Av K (.ref x2) "__getattribute__" = Aa (Aa (.builtin "BaseException.__getattribute__")))(gtx2:Av K (.ref x2) "__getattr__" = Aa Ae)(clx2:Av K (.ref x2) "__class__" = Aa (Aa (.builtin "object.__class__")))(obx2:Bj K x2 (.type "object")=Aa Ab)(bex2:Al K (.ref x2) (.type "BaseException")=Aa Ab)(svx2:Al K (.ref x2) (.type "ValueError")=Aa Ab)(nx3:AX K AK "NoCurve" = Aa (Aa (.ref x3)))(dcx3:Fb K x3=Ab)(ftx3:Av K (.ref x3) "triple" = Aa Ae)(fpx3:Av K (.ref x3) "points" = Aa Ae)(ex3:EF K x3 [.type "ValueError", .type "Exception", .type "BaseException", .type "object"] "ValueError.__new__" = Ab)(gax3:Av K (.ref x3) "__getattribute__" = Aa (Aa (.builtin "BaseException.__getattribute__")))(gtx3:Av K (.ref x3) "__getattr__" = Aa Ae)(clx3:Av K (.ref x3) "__class__" = Aa (Aa (.builtin "object.__class__")))(obx3:Bj K x3 (.type "object")=Aa Ab)(bex3:Al K (.ref x3) (.type "BaseException")=Aa Ab)(svx3:Al K (.ref x3) (.type "ValueError")=Aa Ab)(nx4:AX K AK "NoCount" = Aa (Aa (.ref x4)))(dcx4:Fb K x4=Ab)(ftx4:Av K (.ref x4) "triple" = Aa Ae)(fpx4:Av K (.ref x4) "points" = Aa Ae)(ex4:EF K x4 [.type "ValueError", .type "Exception", .type "BaseException", .type "object"] "ValueError.__new__" = Ab)(gax4:Av K (.ref x4) "__getattribute__" = Aa (Aa (.builtin "BaseException.__getattribute__")))(gtx4:Av K (.ref x4) "__getattr__" = Aa Ae)(clx4:Av K (.ref x4) "__class__" = Aa (Aa (.builtin "object.__class__")))(obx4:Bj K x4 (.type "object")=Aa Ab)(bex4:Al K (.ref x4) (.type "BaseException")=Aa Ab)(svx4:Al K (.ref x4) (.type "ValueError")=Aa Ab)(nx5:AX K AK "OnLine" = Aa (Aa (.ref x5)))(dcx5:Fb K x5=Ab)(ftx5:Av K (.ref x5) "triple" = Aa Ae)(fpx5:Av K (.ref x5) "points" = Aa Ae)(fix5:Av K (.ref x5) "__init__" = Aa (Aa (.ref ix5)))(iix5:InI K ix5 "OnLine.__init__" (Mm (tp62 16)))(tix5:Bw K (.ref ix5)=Aa (.type "function"))(ex5:DJ K x5 (Aa (.ref ix5))=Ab)(snx5:Av K (.ref x5) "__setattr__" = Aa (Aa (.builtin "object.__setattr__")))(gax5:Av K (.ref x5) "__getattribute__" = Aa (Aa (.builtin "BaseException.__getattribute__")))(gtx5:Av K (.ref x5) "__getattr__" = Aa Ae)(clx5:Av K (.ref x5) "__class__" = Aa (Aa (.builtin "object.__class__")))(obx5:Bj K x5 (.type "object")=Aa Ab)(bex5:Al K (.ref x5) (.type "BaseException")=Aa Ab)(svx5:Al K (.ref x5) (.type "ValueError")=Aa Ab)(nx6:AX K AK "NoPrime" = Aa (Aa (.ref x6)))(csx6:Bj K x6 (.type "object")=Aa Ab)(tyx6:Bw K (.ref x6)=Aa (.type "type"))(nx7:AX K AK "NoTable" = Aa (Aa (.ref x7)))(csx7:Bj K x7 (.type "object")=Aa Ab)(tyx7:Bw K (.ref x7)=Aa (.type "type"))(nx8:AX K AK "NotWhole" = Aa (Aa (.ref x8)))(csx8:Bj K x8 (.type "object")=Aa Ab)(tyx8:Bw K (.ref x8)=Aa (.type "type"))(nx9:AX K AK "TooMany" = Aa (Aa (.ref x9)))(csx9:Bj K x9 (.type "object")=Aa Ab)(tyx9:Bw K (.ref x9)=Aa (.type "type"))(nx10:AX K AK "NoPicture" = Aa (Aa (.ref x10)))(csx10:Bj K x10 (.type "object")=Aa Ab)(tyx10:Bw K (.ref x10)=Aa (.type "type"))(nx11:AX K AK "NoRow" = Aa (Aa (.ref x11)))(csx11:Bj K x11 (.type "object")=Aa Ab)(tyx11:Bw K (.ref x11)=Aa (.type "type"))(nx12:AX K AK "NothingDone" = Aa (Aa (.ref x12)))(csx12:Bj K x12 (.type "object")=Aa Ab)(tyx12:Bw K (.ref x12)=Aa (.type "type"))(nx13:AX K AK "BadRow" = Aa (Aa (.ref x13)))(csx13:Bj K x13 (.type "object")=Aa Ab)(tyx13:Bw K (.ref x13)=Aa (.type "type"))(nx14:AX K AK "NotOn" = Aa (Aa (.ref x14)))(csx14:Bj K x14 (.type "object")=Aa Ab)(tyx14:Bw K (.ref x14)=Aa (.type "type"))(nx15:AX K AK "OvalError" = Aa (Aa (.ref x15)))(sax15:Ea K (.ref x15) "__getattribute__" = Aa (Aa (.builtin "type.__getattribute__")))(sbx15:EW K x15 (.type "type")=Ab)(scx15:EV K (.ref x15) (.type "type") "__init__" = Aa (.val (.builtin "ValueError.__init__")))(csx15:Bj K x15 (.type "object")=Aa Ab)(tyx15:Bw K (.ref x15)=Aa (.type "type"))(sux0x6:Al K (.ref x0) (.ref x6)=Aa Ac)(sux0x0:Al K (.ref x0) (.ref x0)=Aa Ab)(sux0x1:Al K (.ref x0) (.ref x1)=Aa Ac)(sux0x7:Al K (.ref x0) (.ref x7)=Aa Ac)(sux0x3:Al K (.ref x0) (.ref x3)=Aa Ac)(sux0x8:Al K (.ref x0) (.ref x8)=Aa Ac)(sux0x9:Al K (.ref x0) (.ref x9)=Aa Ac)(sux0x10:Al K (.ref x0) (.ref x10)=Aa Ac)(sux0x11:Al K (.ref x0) (.ref x11)=Aa Ac)(sux0x12:Al K (.ref x0) (.ref x12)=Aa Ac)(sux0x13:Al K (.ref x0) (.ref x13)=Aa Ac)(sux0x14:Al K (.ref x0) (.ref x14)=Aa Ac)(sux0x2:Al K (.ref x0) (.ref x2)=Aa Ac)(sux0x5:Al K (.ref x0) (.ref x5)=Aa Ac)(sux0x4:Al K (.ref x0) (.ref x4)=Aa Ac)(sux0x15:Al K (.ref x0) (.ref x15)=Aa Ab)(sux1x6:Al K (.ref x1) (.ref x6)=Aa Ac)(sux1x0:Al K (.ref x1) (.ref x0)=Aa Ac)(sux1x1:Al K (.ref x1) (.ref x1)=Aa Ab)(sux1x7:Al K (.ref x1) (.ref x7)=Aa Ac)(sux1x3:Al K (.ref x1) (.ref x3)=Aa Ac)(sux1x8:Al K (.ref x1) (.ref x8)=Aa Ac)(sux1x9:Al K (.ref x1) (.ref x9)=Aa Ac)(sux1x10:Al K (.ref x1) (.ref x10)=Aa Ac)(sux1x11:Al K (.ref x1) (.ref x11)=Aa Ac)(sux1x12:Al K (.ref x1) (.ref x12)=Aa Ac)(sux1x13:Al K (.ref x1) (.ref x13)=Aa Ac)(sux1x14:Al K (.ref x1) (.ref x14)=Aa Ac)(sux1x2:Al K (.ref x1) (.ref x2)=Aa Ac)(sux1x5:Al K (.ref x1) (.ref x5)=Aa Ac)(sux1x4:Al K (.ref x1) (.ref x4)=Aa Ac)(sux1x15:Al K (.ref x1) (.ref x15)=Aa Ab)(sux2x6:Al K (.ref x2) (.ref x6)=Aa Ac)(sux2x0:Al K (.ref x2) (.ref x0)=Aa Ac)(sux2x1:Al K (.ref x2) (.ref x1)=Aa Ac)(sux2x7:Al K (.ref x2) (.ref x7)=Aa Ac)(sux2x3:Al K (.ref x2) (.ref x3)=Aa Ac)(sux2x8:Al K (.ref x2) (.ref x8)=Aa Ac)(sux2x9:Al K (.ref x2) (.ref x9)=Aa Ac)(sux2x10:Al K (.ref x2) (.ref x10)=Aa Ac)(sux2x11:Al K (.ref x2) (.ref x11)=Aa Ac)(sux2x12:Al K (.ref x2) (.ref x12)=Aa Ac)(sux2x13:Al K (.ref x2) (.ref x13)=Aa Ac)(sux2x14:Al K (.ref x2) (.ref x14)=Aa Ac)(sux2x2:Al K (.ref x2) (.ref x2)=Aa Ab)(sux2x5:Al K (.ref x2) (.ref x5)=Aa Ac)(sux2x4:Al K (.ref x2) (.ref x4)=Aa Ac)(sux2x15:Al K (.ref x2) (.ref x15)=Aa Ab)(sux3x6:Al K (.ref x3) (.ref x6)=Aa Ac)(sux3x0:Al K (.ref x3) (.ref x0)=Aa Ac)(sux3x1:Al K (.ref x3) (.ref x1)=Aa Ac)(sux3x7:Al K (.ref x3) (.ref x7)=Aa Ac)(sux3x3:Al K (.ref x3) (.ref x3)=Aa Ab)(sux3x8:Al K (.ref x3) (.ref x8)=Aa Ac)(sux3x9:Al K (.ref x3) (.ref x9)=Aa Ac)(sux3x10:Al K (.ref x3) (.ref x10)=Aa Ac)(sux3x11:Al K (.ref x3) (.ref x11)=Aa Ac)(sux3x12:Al K (.ref x3) (.ref x12)=Aa Ac)(sux3x13:Al K (.ref x3) (.ref x13)=Aa Ac)(sux3x14:Al K (.ref x3) (.ref x14)=Aa Ac)(sux3x2:Al K (.ref x3) (.ref x2)=Aa Ac)(sux3x5:Al K (.ref x3) (.ref x5)=Aa Ac)(sux3x4:Al K (.ref x3) (.ref x4)=Aa Ac)(sux3x15:Al K (.ref x3) (.ref x15)=Aa Ab)(sux4x6:Al K (.ref x4) (.ref x6)=Aa Ac)(sux4x0:Al K (.ref x4) (.ref x0)=Aa Ac)(sux4x1:Al K (.ref x4) (.ref x1)=Aa Ac)(sux4x7:Al K (.ref x4) (.ref x7)=Aa Ac)(sux4x3:Al K (.ref x4) (.ref x3)=Aa Ac)(sux4x8:Al K (.ref x4) (.ref x8)=Aa Ac)(sux4x9:Al K (.ref x4) (.ref x9)=Aa Ac)(sux4x10:Al K (.ref x4) (.ref x10)=Aa Ac)(sux4x11:Al K (.ref x4) (.ref x11)=Aa Ac)(sux4x12:Al K (.ref x4) (.ref x12)=Aa Ac)(sux4x13:Al K (.ref x4) (.ref x13)=Aa Ac)(sux4x14:Al K (.ref x4) (.ref x14)=Aa Ac)(sux4x2:Al K (.ref x4) (.ref x2)=Aa Ac)(sux4x5:Al K (.ref x4) (.ref x5)=Aa Ac)(sux4x4:Al K (.ref x4) (.ref x4)=Aa Ab)(sux4x15:Al K (.ref x4) (.ref x15)=Aa Ab)(sux5x6:Al K (.ref x5) (.ref x6)=Aa Ac)(sux5x0:Al K (.ref x5) (.ref x0)=Aa Ac)(sux5x1:Al K (.ref x5) (.ref x1)=Aa Ac)(sux5x7:Al K (.ref x5) (.ref x7)=Aa Ac)(sux5x3:Al K (.ref x5) (.ref x3)=Aa Ac)(sux5x8:Al K (.ref x5) (.ref x8)=Aa Ac)(sux5x9:Al K (.ref x5) (.ref x9)=Aa Ac)(sux5x10:Al K (.ref x5) (.ref x10)=Aa Ac)(sux5x11:Al K (.ref x5) (.ref x11)=Aa Ac)(sux5x12:Al K (.ref x5) (.ref x12)=Aa Ac)(sux5x13:Al K (.ref x5) (.ref x13)=Aa Ac)(sux5x14:Al K (.ref x5) (.ref x14)=Aa Ac)(sux5x2:Al K (.ref x5) (.ref x2)=Aa Ac)(sux5x5:Al K (.ref x5) (.ref x5)=Aa Ab)(sux5x4:Al K (.ref x5) (.ref x4)=Aa Ac)(sux5x15:Al K (.ref x5) (.ref x15)=Aa Ab)(z0:AX K AK "ValueError" = Aa Ae)(z1:AX K AK "all" = Aa Ae)(z2:AX K AK "any" = Aa Ae)(z3:AX K AK "enumerate" = Aa Ae)(z4:AX K AK "int" = Aa Ae)(z5:AX K AK "isinstance" = Aa Ae)(z6:AX K AK "len" = Aa Ae)(z7:AX K AK "list" = Aa Ae)(z8:AX K AK "max" = Aa Ae)(z9:AX K AK "min" = Aa Ae)(z10:AX K AK "range" = Aa Ae)(z11:AX K AK "sum" = Aa Ae)(z12:AX K AK "tuple" = Aa Ae)(z13:AX K AK "zip" = Aa Ae):
    ∃ fd:BP,(∀(s:Ar)(v:Ai),FV s fd ⟨[v],[]⟩ [("_law_script", v)])/\∀ base:AD,K.In base->base.Ns AK mg->FnOk l.prog w K mg base (CXR l.prog w) 8 fa fd ["_law_script"] (Lj K):=by
  obtain⟨_,F,e⟩:=a28;obtain⟨_,_,_,_,_,_,_,_,_,rfl,_,_⟩:=F.ex;cases hfa.symm.trans (Ba X G e);have yx0:=L8 ex0;have Xx0:XcOk K x0:=Kk yx0 gax0 gtx0 clx0 obx0 bex0 svx0;have yx1:=L8 ex1;have Xx1:XcOk K x1:=Kk yx1 gax1 gtx1 clx1 obx1 bex1 svx1;have yx2:=ex2;have Xx2:XcOk K x2:=Kk yx2 gax2 gtx2 clx2 obx2 bex2 svx2;have Ix2:XIn K mg x2 "triple" := RZ iix2 Y8 (fun _ _ _ _ _ _ _ _=>rfl) yx2 dcx2 tix2 (Ba X G nx15) sax15 sbx15 scx15 ftx2 snx2
  have yx3:=L8 ex3;have Xx3:XcOk K x3:=Kk yx3 gax3 gtx3 clx3 obx3 bex3 svx3;have yx4:=L8 ex4;have Xx4:XcOk K x4:=Kk yx4 gax4 gtx4 clx4 obx4 bex4 svx4;have yx5:=ex5;have Xx5:XcOk K x5:=Kk yx5 gax5 gtx5 clx5 obx5 bex5 svx5;have Ix5:XIn K mg x5 "points" := RZ iix5 Y7 (fun _ _ _ _ _ _ _ _=>rfl) yx5 dcx5 tix5 (Ba X G nx15) sax15 sbx15 scx15 fpx5 snx5
  have XT62:XT Q62.up Q62.xn (Cw x0 x1 x2 x3 x4 x5) Og OA K mg:=by
    refine⟨?_,all_cons ⟨_,rfl,Ba X G nx0⟩ (all_cons ⟨_,rfl,Ba X G nx1⟩ (all_cons ⟨_,rfl,Ba X G nx2⟩ (all_cons ⟨_,rfl,Ba X G nx3⟩ (all_cons ⟨_,rfl,Ba X G nx4⟩ (all_cons ⟨_,rfl,Ba X G nx5⟩ (K5)))))),all_cons ⟨_,Ba X G nx6,?kx6,?sx6⟩ (all_cons ⟨_,Ba X G nx0,?kx0,?sx0⟩ (all_cons ⟨_,Ba X G nx1,?kx1,?sx1⟩ (all_cons ⟨_,Ba X G nx7,?kx7,?sx7⟩ (all_cons ⟨_,Ba X G nx3,?kx3,?sx3⟩ (all_cons ⟨_,Ba X G nx8,?kx8,?sx8⟩ (all_cons ⟨_,Ba X G nx9,?kx9,?sx9⟩ (all_cons ⟨_,Ba X G nx10,?kx10,?sx10⟩ (all_cons ⟨_,Ba X G nx11,?kx11,?sx11⟩ (all_cons ⟨_,Ba X G nx12,?kx12,?sx12⟩ (all_cons ⟨_,Ba X G nx13,?kx13,?sx13⟩ (all_cons ⟨_,Ba X G nx14,?kx14,?sx14⟩ (all_cons ⟨_,Ba X G nx2,?kx2,?sx2⟩ (all_cons ⟨_,Ba X G nx5,?kx5,?sx5⟩ (all_cons ⟨_,Ba X G nx4,?kx4,?sx4⟩ (all_cons ⟨_,Ba X G nx15,?kx15,?sx15⟩ (K5)))))))))))))))),?_,?_,?_⟩
    case refine_1=>
      intro c C q;unfold Cw at q;split at q
      · cases q;exact Xx0
      · cases q;exact Xx1
      · cases q;exact Xx2
      · cases q;exact Xx3
      · cases q;exact Xx4
      · cases q;exact Xx5
      · cases q
    case refine_2=>
      intro c C ds q;unfold Cw at q;split at q
      · cases q;exact Ml (fun ds=>by show Hg 2 ds=.bad\/Hg 2 ds=.ok ⟨2,[]⟩;first|exact .inr rfl|exact .inl rfl) yx0 ds
      · cases q;exact Ml (fun ds=>by show Hg 3 ds=.bad\/Hg 3 ds=.ok ⟨3,[]⟩;first|exact .inr rfl|exact .inl rfl) yx1 ds
      · cases q;exact SJ (fun _=>rfl) Ix2 ds
      · cases q;exact Ml (fun ds=>by show Hg 5 ds=.bad\/Hg 5 ds=.ok ⟨5,[]⟩;first|exact .inr rfl|exact .inl rfl) yx3 ds
      · cases q;exact Ml (fun ds=>by show Hg 13 ds=.bad\/Hg 13 ds=.ok ⟨13,[]⟩;first|exact .inr rfl|exact .inl rfl) yx4 ds
      · cases q;exact SJ (fun _=>rfl) Ix5 ds
      · cases q
    case refine_3=>
      intro c C q;unfold Cw at q;split at q
      · cases q;exact Km dcx0 ftx0 fpx0
      · cases q;exact Km dcx1 ftx1 fpx1
      · cases q;exact Km dcx2 ftx2 fpx2
      · cases q;exact Km dcx3 ftx3 fpx3
      · cases q;exact Km dcx4 ftx4 fpx4
      · cases q;exact Km dcx5 ftx5 fpx5
      · cases q
    case refine_4=>
      intro c q ds;show Hg c ds=.bad;unfold Hg;split<;>first|rfl|exact absurd rfl (q ("NoOver", 2) (by decide))|exact absurd rfl (q ("NoTriple", 3) (by decide))|exact absurd rfl (q ("Alike", 107) (by decide))|exact absurd rfl (q ("NoCurve", 5) (by decide))|exact absurd rfl (q ("NoCount", 13) (by decide))|exact absurd rfl (q ("OnLine", 118) (by decide))
    case kx6=>
      intro c C q;unfold Cw at q;split at q
      · cases q;exact Bx yx0 csx6 tyx6 sux0x6
      · cases q;exact Bx yx1 csx6 tyx6 sux1x6
      · cases q;exact Bx yx2 csx6 tyx6 sux2x6
      · cases q;exact Bx yx3 csx6 tyx6 sux3x6
      · cases q;exact Bx yx4 csx6 tyx6 sux4x6
      · cases q;exact Bx yx5 csx6 tyx6 sux5x6
      · cases q
    case sx6=>
      intro c C q;unfold Cw at q;split at q
      · cases q;exact sux0x6
      · cases q;exact sux1x6
      · cases q;exact sux2x6
      · cases q;exact sux3x6
      · cases q;exact sux4x6
      · cases q;exact sux5x6
      · cases q
    case kx0=>
      intro c C q;unfold Cw at q;split at q
      · cases q;exact CA yx0 yx0 sux0x0
      · cases q;exact CA yx1 yx0 sux1x0
      · cases q;exact CA yx2 yx0 sux2x0
      · cases q;exact CA yx3 yx0 sux3x0
      · cases q;exact CA yx4 yx0 sux4x0
      · cases q;exact CA yx5 yx0 sux5x0
      · cases q
    case sx0=>
      intro c C q;unfold Cw at q;split at q
      · cases q;exact sux0x0
      · cases q;exact sux1x0
      · cases q;exact sux2x0
      · cases q;exact sux3x0
      · cases q;exact sux4x0
      · cases q;exact sux5x0
      · cases q
    case kx1=>
      intro c C q;unfold Cw at q;split at q
      · cases q;exact CA yx0 yx1 sux0x1
      · cases q;exact CA yx1 yx1 sux1x1
      · cases q;exact CA yx2 yx1 sux2x1
      · cases q;exact CA yx3 yx1 sux3x1
      · cases q;exact CA yx4 yx1 sux4x1
      · cases q;exact CA yx5 yx1 sux5x1
      · cases q
    case sx1=>
      intro c C q;unfold Cw at q;split at q
      · cases q;exact sux0x1
      · cases q;exact sux1x1
      · cases q;exact sux2x1
      · cases q;exact sux3x1
      · cases q;exact sux4x1
      · cases q;exact sux5x1
      · cases q
    case kx7=>
      intro c C q;unfold Cw at q;split at q
      · cases q;exact Bx yx0 csx7 tyx7 sux0x7
      · cases q;exact Bx yx1 csx7 tyx7 sux1x7
      · cases q;exact Bx yx2 csx7 tyx7 sux2x7
      · cases q;exact Bx yx3 csx7 tyx7 sux3x7
      · cases q;exact Bx yx4 csx7 tyx7 sux4x7
      · cases q;exact Bx yx5 csx7 tyx7 sux5x7
      · cases q
    case sx7=>
      intro c C q;unfold Cw at q;split at q
      · cases q;exact sux0x7
      · cases q;exact sux1x7
      · cases q;exact sux2x7
      · cases q;exact sux3x7
      · cases q;exact sux4x7
      · cases q;exact sux5x7
      · cases q
    case kx3=>
      intro c C q;unfold Cw at q;split at q
      · cases q;exact CA yx0 yx3 sux0x3
      · cases q;exact CA yx1 yx3 sux1x3
      · cases q;exact CA yx2 yx3 sux2x3
      · cases q;exact CA yx3 yx3 sux3x3
      · cases q;exact CA yx4 yx3 sux4x3
      · cases q;exact CA yx5 yx3 sux5x3
      · cases q
    case sx3=>
      intro c C q;unfold Cw at q;split at q
      · cases q;exact sux0x3
      · cases q;exact sux1x3
      · cases q;exact sux2x3
      · cases q;exact sux3x3
      · cases q;exact sux4x3
      · cases q;exact sux5x3
      · cases q
    case kx8=>
      intro c C q;unfold Cw at q;split at q
      · cases q;exact Bx yx0 csx8 tyx8 sux0x8
      · cases q;exact Bx yx1 csx8 tyx8 sux1x8
      · cases q;exact Bx yx2 csx8 tyx8 sux2x8
      · cases q;exact Bx yx3 csx8 tyx8 sux3x8
      · cases q;exact Bx yx4 csx8 tyx8 sux4x8
      · cases q;exact Bx yx5 csx8 tyx8 sux5x8
      · cases q
    case sx8=>
      intro c C q;unfold Cw at q;split at q
      · cases q;exact sux0x8
      · cases q;exact sux1x8
      · cases q;exact sux2x8
      · cases q;exact sux3x8
      · cases q;exact sux4x8
      · cases q;exact sux5x8
      · cases q
    case kx9=>
      intro c C q;unfold Cw at q;split at q
      · cases q;exact Bx yx0 csx9 tyx9 sux0x9
      · cases q;exact Bx yx1 csx9 tyx9 sux1x9
      · cases q;exact Bx yx2 csx9 tyx9 sux2x9
      · cases q;exact Bx yx3 csx9 tyx9 sux3x9
      · cases q;exact Bx yx4 csx9 tyx9 sux4x9
      · cases q;exact Bx yx5 csx9 tyx9 sux5x9
      · cases q
    case sx9=>
      intro c C q;unfold Cw at q;split at q
      · cases q;exact sux0x9
      · cases q;exact sux1x9
      · cases q;exact sux2x9
      · cases q;exact sux3x9
      · cases q;exact sux4x9
      · cases q;exact sux5x9
      · cases q
    case kx10=>
      intro c C q;unfold Cw at q;split at q
      · cases q;exact Bx yx0 csx10 tyx10 sux0x10
      · cases q;exact Bx yx1 csx10 tyx10 sux1x10
      · cases q;exact Bx yx2 csx10 tyx10 sux2x10
      · cases q;exact Bx yx3 csx10 tyx10 sux3x10
      · cases q;exact Bx yx4 csx10 tyx10 sux4x10
      · cases q;exact Bx yx5 csx10 tyx10 sux5x10
      · cases q
    case sx10=>
      intro c C q;unfold Cw at q;split at q
      · cases q;exact sux0x10
      · cases q;exact sux1x10
      · cases q;exact sux2x10
      · cases q;exact sux3x10
      · cases q;exact sux4x10
      · cases q;exact sux5x10
      · cases q
    case kx11=>
      intro c C q;unfold Cw at q;split at q
      · cases q;exact Bx yx0 csx11 tyx11 sux0x11
      · cases q;exact Bx yx1 csx11 tyx11 sux1x11
      · cases q;exact Bx yx2 csx11 tyx11 sux2x11
      · cases q;exact Bx yx3 csx11 tyx11 sux3x11
      · cases q;exact Bx yx4 csx11 tyx11 sux4x11
      · cases q;exact Bx yx5 csx11 tyx11 sux5x11
      · cases q
    case sx11=>
      intro c C q;unfold Cw at q;split at q
      · cases q;exact sux0x11
      · cases q;exact sux1x11
      · cases q;exact sux2x11
      · cases q;exact sux3x11
      · cases q;exact sux4x11
      · cases q;exact sux5x11
      · cases q
    case kx12=>
      intro c C q;unfold Cw at q;split at q
      · cases q;exact Bx yx0 csx12 tyx12 sux0x12
      · cases q;exact Bx yx1 csx12 tyx12 sux1x12
      · cases q;exact Bx yx2 csx12 tyx12 sux2x12
      · cases q;exact Bx yx3 csx12 tyx12 sux3x12
      · cases q;exact Bx yx4 csx12 tyx12 sux4x12
      · cases q;exact Bx yx5 csx12 tyx12 sux5x12
      · cases q
    case sx12=>
      intro c C q;unfold Cw at q;split at q
      · cases q;exact sux0x12
      · cases q;exact sux1x12
      · cases q;exact sux2x12
      · cases q;exact sux3x12
      · cases q;exact sux4x12
      · cases q;exact sux5x12
      · cases q
    case kx13=>
      intro c C q;unfold Cw at q;split at q
      · cases q;exact Bx yx0 csx13 tyx13 sux0x13
      · cases q;exact Bx yx1 csx13 tyx13 sux1x13
      · cases q;exact Bx yx2 csx13 tyx13 sux2x13
      · cases q;exact Bx yx3 csx13 tyx13 sux3x13
      · cases q;exact Bx yx4 csx13 tyx13 sux4x13
      · cases q;exact Bx yx5 csx13 tyx13 sux5x13
      · cases q
    case sx13=>
      intro c C q;unfold Cw at q;split at q
      · cases q;exact sux0x13
      · cases q;exact sux1x13
      · cases q;exact sux2x13
      · cases q;exact sux3x13
      · cases q;exact sux4x13
      · cases q;exact sux5x13
      · cases q
    case kx14=>
      intro c C q;unfold Cw at q;split at q
      · cases q;exact Bx yx0 csx14 tyx14 sux0x14
      · cases q;exact Bx yx1 csx14 tyx14 sux1x14
      · cases q;exact Bx yx2 csx14 tyx14 sux2x14
      · cases q;exact Bx yx3 csx14 tyx14 sux3x14
      · cases q;exact Bx yx4 csx14 tyx14 sux4x14
      · cases q;exact Bx yx5 csx14 tyx14 sux5x14
      · cases q
    case sx14=>
      intro c C q;unfold Cw at q;split at q
      · cases q;exact sux0x14
      · cases q;exact sux1x14
      · cases q;exact sux2x14
      · cases q;exact sux3x14
      · cases q;exact sux4x14
      · cases q;exact sux5x14
      · cases q
    case kx2=>
      intro c C q;unfold Cw at q;split at q
      · cases q;exact CA yx0 yx2 sux0x2
      · cases q;exact CA yx1 yx2 sux1x2
      · cases q;exact CA yx2 yx2 sux2x2
      · cases q;exact CA yx3 yx2 sux3x2
      · cases q;exact CA yx4 yx2 sux4x2
      · cases q;exact CA yx5 yx2 sux5x2
      · cases q
    case sx2=>
      intro c C q;unfold Cw at q;split at q
      · cases q;exact sux0x2
      · cases q;exact sux1x2
      · cases q;exact sux2x2
      · cases q;exact sux3x2
      · cases q;exact sux4x2
      · cases q;exact sux5x2
      · cases q
    case kx5=>
      intro c C q;unfold Cw at q;split at q
      · cases q;exact CA yx0 yx5 sux0x5
      · cases q;exact CA yx1 yx5 sux1x5
      · cases q;exact CA yx2 yx5 sux2x5
      · cases q;exact CA yx3 yx5 sux3x5
      · cases q;exact CA yx4 yx5 sux4x5
      · cases q;exact CA yx5 yx5 sux5x5
      · cases q
    case sx5=>
      intro c C q;unfold Cw at q;split at q
      · cases q;exact sux0x5
      · cases q;exact sux1x5
      · cases q;exact sux2x5
      · cases q;exact sux3x5
      · cases q;exact sux4x5
      · cases q;exact sux5x5
      · cases q
    case kx4=>
      intro c C q;unfold Cw at q;split at q
      · cases q;exact CA yx0 yx4 sux0x4
      · cases q;exact CA yx1 yx4 sux1x4
      · cases q;exact CA yx2 yx4 sux2x4
      · cases q;exact CA yx3 yx4 sux3x4
      · cases q;exact CA yx4 yx4 sux4x4
      · cases q;exact CA yx5 yx4 sux5x4
      · cases q
    case sx4=>
      intro c C q;unfold Cw at q;split at q
      · cases q;exact sux0x4
      · cases q;exact sux1x4
      · cases q;exact sux2x4
      · cases q;exact sux3x4
      · cases q;exact sux4x4
      · cases q;exact sux5x4
      · cases q
    case kx15=>
      intro c C q;unfold Cw at q;split at q
      · cases q;exact Bx yx0 csx15 tyx15 sux0x15
      · cases q;exact Bx yx1 csx15 tyx15 sux1x15
      · cases q;exact Bx yx2 csx15 tyx15 sux2x15
      · cases q;exact Bx yx3 csx15 tyx15 sux3x15
      · cases q;exact Bx yx4 csx15 tyx15 sux4x15
      · cases q;exact Bx yx5 csx15 tyx15 sux5x15
      · cases q
    case sx15=>
      intro c C q;unfold Cw at q;split at q
      · cases q;exact sux0x15
      · cases q;exact sux1x15
      · cases q;exact sux2x15
      · cases q;exact sux3x15
      · cases q;exact sux4x15
      · cases q;exact sux5x15
      · cases q
  have T:Tab K mg (Cw x0 x1 x2 x3 x4 x5) S5 T6 Og OA SZ Q62 80:=⟨XT62,all_cons (Bv X G z0) (all_cons (Bv X G z1) (all_cons (Bv X G z2) (all_cons (Bv X G z3) (all_cons (Bv X G z4) (all_cons (Bv X G z5) (all_cons (Bv X G z6) (all_cons (Bv X G z7) (all_cons (Bv X G z8) (all_cons (Bv X G z9) (all_cons (Bv X G z10) (all_cons (Bv X G z11) (all_cons (Bv X G z12) (all_cons (Bv X G z13) (K5)))))))))))))),K5,all_cons (EQ 2 1 X G a0 rfl eZ fun _ _ _ _ _ _ _ _=>rfl) (all_cons (EQ 2 9 X G a1 rfl eY fun _ _ _ _ _ _ _ _=>rfl) (all_cons (EQ 2 17 X G a2 rfl eX fun _ _ _ _ _ _ _ _=>rfl) (all_cons (EQ 2 23 X G a3 rfl eW fun _ _ _ _ _ _ _ _=>rfl) (all_cons (Mt 3 57 X G a4 rfl eV fun _ _ _ _ _ _ _ _ _=>rfl) (all_cons (Tn 4 61 X G a5 rfl eU fun _ _ _ _ _ _ _ _ _ _=>rfl) (all_cons (Lp 1 194 X G a6 rfl eT fun _ _ _ _ _ _ _=>rfl) (all_cons (EQ 2 122 X G a7 rfl eS fun _ _ _ _ _ _ _ _=>rfl) (all_cons (Mt 3 126 X G a8 rfl eR fun _ _ _ _ _ _ _ _ _=>rfl) (all_cons (EQ 2 131 X G a9 rfl eQ fun _ _ _ _ _ _ _ _=>rfl) (all_cons (EQ 2 136 X G a10 rfl ZJ fun _ _ _ _ _ _ _ _=>rfl) (all_cons (EQ 2 195 X G a11 rfl ZI fun _ _ _ _ _ _ _ _=>rfl) (all_cons (EQ 2 196 X G a12 rfl ZH fun _ _ _ _ _ _ _ _=>rfl) (all_cons (EQ 2 197 X G a13 rfl ZG fun _ _ _ _ _ _ _ _=>rfl) (all_cons (EQ 2 198 X G a14 rfl ZF fun _ _ _ _ _ _ _ _=>rfl) (all_cons (EQ 2 38 X G a15 rfl ZE fun _ _ _ _ _ _ _ _=>rfl) (all_cons (Lp 1 169 X G a16 rfl ZD fun _ _ _ _ _ _ _=>rfl) (all_cons (EQ 2 157 X G a17 rfl ZC fun _ _ _ _ _ _ _ _=>rfl) (all_cons (EQ 2 161 X G a18 rfl ZB fun _ _ _ _ _ _ _ _=>rfl) (all_cons (Mt 3 162 X G a19 rfl ZA fun _ _ _ _ _ _ _ _ _=>rfl) (all_cons (Lp 1 164 X G a20 rfl Zz fun _ _ _ _ _ _ _=>rfl) (all_cons (Tn 4 165 X G a21 rfl aA fun _ _ _ _ _ _ _ _ _ _=>rfl) (all_cons (Mt 3 173 X G a22 rfl Z9 fun _ _ _ _ _ _ _ _ _=>rfl) (all_cons (EQ 2 203 X G a23 rfl Z8 fun _ _ _ _ _ _ _ _=>rfl) (all_cons (Lp 1001 204 X G a24 rfl Z7 fun _ _ _ _ _ _ _=>rfl) (all_cons (EQ 2 205 X G a25 rfl Z6 fun _ _ _ _ _ _ _ _=>rfl) (all_cons (EQ 2 206 X G a26 rfl Z5 fun _ _ _ _ _ _ _ _=>rfl) (all_cons (EQ 2 207 X G a27 rfl Z4 fun _ _ _ _ _ _ _ _=>rfl) (all_cons (Lp 1 208 X G ⟨_,F,e⟩ rfl Rm fun _ _ _ _ _ _ _=>rfl) (K5)))))))))))))))))))))))))))))⟩
  exact⟨_,fun s v=>.of_eq rfl,fun base _ _=>Y0 (Rt T (NY T 7) F rfl Rm) jR⟩
theorem walk62{q:AR}{loose:Ad Ah}{XP:(Ah->An Ai)->AD->Prop}{YP:AC->AD->Prop}{d:DefRec}{K:KD->Fg}(hn:l.most=Aa 63)(hdf:d.params.defaults=[])(hY:∀(w:AC)(h:AD),YP w h->(K w.params).In h)(F:∀(w:AC)(mg:Ah->An Ai)(fa:Aj)(h:AD),(K w.params).In h->h.Ns AK mg->mg d.name=Aa (.ref fa) ->
   ∃ fd:BP,(∀(s:Ar)(u:Ai),FV s fd ⟨[u],[]⟩ [("_law_script", u)])/\∀ base:AD,(K w.params).In base->base.Ns AK mg->FnOk l.prog w (K w.params) mg base (CXR l.prog w) 8 fa fd ["_law_script"] (Lj (K w.params))):Vo q loose XP YP l.row.toRowW d [] (fun f vs=>JJ f vs):=
 L2.walk_of (n:=63) (k:=8) (x := "_law_script") (CX:=fun w=>CXR l.prog w) (sp:=fun w=>Lj (K w.params)) hn (by decide) hdf ⟨rfl,by decide,by decide,rfl⟩ hY F (fun _ H a ns hl _ hS=>⟨a,ns,rfl,hl,hS,fun _ _ z=>z⟩) fun _ _ _ _ _ z=>eN z
end OvC
open PySem PySem.W PyProof.Rows
set_option hygiene false
set_option maxRecDepth 100000 in
set_option maxHeartbeats 0 in
theorem PySem.Challenge.cw_ovalfield_k62_whole_any_five_points_holds : PySem.Challenge.rw_ovalfield_k62_whole_any_five_points.Holds := by
 refine OvC.hold62.go OvC.reck62_1 OvC.reck62_2 OvC.reck62_3 OvC.reck62_4 OvC.reck62_5 OvC.reck62_6 OvC.reck62_7 OvC.reck62_8 OvC.reck62_9 OvC.reck62_10 OvC.reck62_11 ?_;intro said;refine OvC.walk62 (l:=PySem.Challenge.rw_ovalfield_k62_whole_any_five_points) rfl rfl (fun w h Y=>Vr Y) ?F
 case F=>
  intro w mg fa h KX G hmg
  refine' OvC.all62 KX G hmg ?a0 ?a1 ?a2 ?a3 ?a4 ?a5 ?a6 ?a7 ?a8 ?a9 ?a10 ?a11 ?a12 ?a13 ?a14 ?a15 ?a16 ?a17 ?a18 ?a19 ?a20 ?a21 ?a22 ?a23 ?a24 ?a25 ?a26 ?a27 ?a28 ?nx0 ?dcx0 ?ftx0 ?fpx0 ?ex0 ?gax0 ?gtx0 ?clx0 ?obx0 ?bex0 ?svx0 ?nx1 ?dcx1 ?ftx1 ?fpx1 ?ex1 ?gax1 ?gtx1 ?clx1 ?obx1 ?bex1 ?svx1 ?nx2 ?dcx2 ?ftx2 ?fpx2 ?fix2 ?iix2 ?tix2 ?ex2 ?snx2 ?gax2 ?gtx2 ?clx2 ?obx2 ?bex2 ?svx2 ?nx3 ?dcx3 ?ftx3 ?fpx3 ?ex3 ?gax3 ?gtx3 ?clx3 ?obx3 ?bex3 ?svx3 ?nx4 ?dcx4 ?ftx4 ?fpx4 ?ex4 ?gax4 ?gtx4 ?clx4 ?obx4 ?bex4 ?svx4 ?nx5 ?dcx5 ?ftx5 ?fpx5 ?fix5 ?iix5 ?tix5 ?ex5 ?snx5 ?gax5 ?gtx5 ?clx5 ?obx5 ?bex5 ?svx5 ?nx6 ?csx6 ?tyx6 ?nx7 ?csx7 ?tyx7 ?nx8 ?csx8 ?tyx8 ?nx9 ?csx9 ?tyx9 ?nx10 ?csx10 ?tyx10 ?nx11 ?csx11 ?tyx11 ?nx12 ?csx12 ?tyx12 ?nx13 ?csx13 ?tyx13 ?nx14 ?csx14 ?tyx14 ?nx15 ?sax15 ?sbx15 ?scx15 ?csx15 ?tyx15 ?sux0x6 ?sux0x0 ?sux0x1 ?sux0x7 ?sux0x3 ?sux0x8 ?sux0x9 ?sux0x10 ?sux0x11 ?sux0x12 ?sux0x13 ?sux0x14 ?sux0x2 ?sux0x5 ?sux0x4 ?sux0x15 ?sux1x6 ?sux1x0 ?sux1x1 ?sux1x7 ?sux1x3 ?sux1x8 ?sux1x9 ?sux1x10 ?sux1x11 ?sux1x12 ?sux1x13 ?sux1x14 ?sux1x2 ?sux1x5 ?sux1x4 ?sux1x15 ?sux2x6 ?sux2x0 ?sux2x1 ?sux2x7 ?sux2x3 ?sux2x8 ?sux2x9 ?sux2x10 ?sux2x11 ?sux2x12 ?sux2x13 ?sux2x14 ?sux2x2 ?sux2x5 ?sux2x4 ?sux2x15 ?sux3x6 ?sux3x0 ?sux3x1 ?sux3x7 ?sux3x3 ?sux3x8 ?sux3x9 ?sux3x10 ?sux3x11 ?sux3x12 ?sux3x13 ?sux3x14 ?sux3x2 ?sux3x5 ?sux3x4 ?sux3x15 ?sux4x6 ?sux4x0 ?sux4x1 ?sux4x7 ?sux4x3 ?sux4x8 ?sux4x9 ?sux4x10 ?sux4x11 ?sux4x12 ?sux4x13 ?sux4x14 ?sux4x2 ?sux4x5 ?sux4x4 ?sux4x15 ?sux5x6 ?sux5x0 ?sux5x1 ?sux5x7 ?sux5x3 ?sux5x8 ?sux5x9 ?sux5x10 ?sux5x11 ?sux5x12 ?sux5x13 ?sux5x14 ?sux5x2 ?sux5x5 ?sux5x4 ?sux5x15 ?z0 ?z1 ?z2 ?z3 ?z4 ?z5 ?z6 ?z7 ?z8 ?z9 ?z10 ?z11 ?z12 ?z13
  case a0|a1|a2|a3|a4|a5|a6|a7|a8|a9|a10|a11|a12|a13|a14|a15|a16|a17|a18|a19|a20|a21|a22|a23|a24|a25|a26|a27|a28=>(refine' Ov.fni ?a ?l ?c ?k;(case a=>k_is);(case l=>k_is);(case c=>k_is);(case k=>k_is))
  (case nx0=>k_is)
  (case dcx0=>kernel_rfl)
  (case ftx0=>k_is)
  (case fpx0=>k_is)
  (case ex0=>k_exc)
  (case gax0=>k_is)
  (case gtx0=>k_is)
  (case clx0=>k_is)
  (case obx0=>k_is)
  (case bex0=>k_is)
  (case svx0=>k_is)
  (case nx1=>k_is)
  (case dcx1=>kernel_rfl)
  (case ftx1=>k_is)
  (case fpx1=>k_is)
  (case ex1=>k_exc)
  (case gax1=>k_is)
  (case gtx1=>k_is)
  (case clx1=>k_is)
  (case obx1=>k_is)
  (case bex1=>k_is)
  (case svx1=>k_is)
  (case nx2=>k_is)
  (case dcx2=>kernel_rfl)
  (case ftx2=>k_is)
  (case fpx2=>k_is)
  (case fix2=>k_is)
  (case iix2=>(refine' Ov.ini_mk ?l ?c ?k;(case l=>k_is);(case c=>k_is);(case k=>k_is)))
  (case tix2=>k_is)
  (case ex2=>kernel_rfl)
  (case snx2=>k_is)
  (case gax2=>k_is)
  (case gtx2=>k_is)
  (case clx2=>k_is)
  (case obx2=>k_is)
  (case bex2=>k_is)
  (case svx2=>k_is)
  (case nx3=>k_is)
  (case dcx3=>kernel_rfl)
  (case ftx3=>k_is)
  (case fpx3=>k_is)
  (case ex3=>k_exc)
  (case gax3=>k_is)
  (case gtx3=>k_is)
  (case clx3=>k_is)
  (case obx3=>k_is)
  (case bex3=>k_is)
  (case svx3=>k_is)
  (case nx4=>k_is)
  (case dcx4=>kernel_rfl)
  (case ftx4=>k_is)
  (case fpx4=>k_is)
  (case ex4=>k_exc)
  (case gax4=>k_is)
  (case gtx4=>k_is)
  (case clx4=>k_is)
  (case obx4=>k_is)
  (case bex4=>k_is)
  (case svx4=>k_is)
  (case nx5=>k_is)
  (case dcx5=>kernel_rfl)
  (case ftx5=>k_is)
  (case fpx5=>k_is)
  (case fix5=>k_is)
  (case iix5=>(refine' Ov.ini_mk ?l ?c ?k;(case l=>k_is);(case c=>k_is);(case k=>k_is)))
  (case tix5=>k_is)
  (case ex5=>kernel_rfl)
  (case snx5=>k_is)
  (case gax5=>k_is)
  (case gtx5=>k_is)
  (case clx5=>k_is)
  (case obx5=>k_is)
  (case bex5=>k_is)
  (case svx5=>k_is)
  (case nx6=>k_is)
  (case csx6=>k_is)
  (case tyx6=>k_is)
  (case nx7=>k_is)
  (case csx7=>k_is)
  (case tyx7=>k_is)
  (case nx8=>k_is)
  (case csx8=>k_is)
  (case tyx8=>k_is)
  (case nx9=>k_is)
  (case csx9=>k_is)
  (case tyx9=>k_is)
  (case nx10=>k_is)
  (case csx10=>k_is)
  (case tyx10=>k_is)
  (case nx11=>k_is)
  (case csx11=>k_is)
  (case tyx11=>k_is)
  (case nx12=>k_is)
  (case csx12=>k_is)
  (case tyx12=>k_is)
  (case nx13=>k_is)
  (case csx13=>k_is)
  (case tyx13=>k_is)
  (case nx14=>k_is)
  (case csx14=>k_is)
  (case tyx14=>k_is)
  (case nx15=>k_is)
  (case sax15=>k_is)
  (case sbx15=>k_is)
  (case scx15=>k_is)
  (case csx15=>k_is)
  (case tyx15=>k_is)
  (case sux0x6=>k_is)
  (case sux0x0=>k_is)
  (case sux0x1=>k_is)
  (case sux0x7=>k_is)
  (case sux0x3=>k_is)
  (case sux0x8=>k_is)
  (case sux0x9=>k_is)
  (case sux0x10=>k_is)
  (case sux0x11=>k_is)
  (case sux0x12=>k_is)
  (case sux0x13=>k_is)
  (case sux0x14=>k_is)
  (case sux0x2=>k_is)
  (case sux0x5=>k_is)
  (case sux0x4=>k_is)
  (case sux0x15=>k_is)
  (case sux1x6=>k_is)
  (case sux1x0=>k_is)
  (case sux1x1=>k_is)
  (case sux1x7=>k_is)
  (case sux1x3=>k_is)
  (case sux1x8=>k_is)
  (case sux1x9=>k_is)
  (case sux1x10=>k_is)
  (case sux1x11=>k_is)
  (case sux1x12=>k_is)
  (case sux1x13=>k_is)
  (case sux1x14=>k_is)
  (case sux1x2=>k_is)
  (case sux1x5=>k_is)
  (case sux1x4=>k_is)
  (case sux1x15=>k_is)
  (case sux2x6=>k_is)
  (case sux2x0=>k_is)
  (case sux2x1=>k_is)
  (case sux2x7=>k_is)
  (case sux2x3=>k_is)
  (case sux2x8=>k_is)
  (case sux2x9=>k_is)
  (case sux2x10=>k_is)
  (case sux2x11=>k_is)
  (case sux2x12=>k_is)
  (case sux2x13=>k_is)
  (case sux2x14=>k_is)
  (case sux2x2=>k_is)
  (case sux2x5=>k_is)
  (case sux2x4=>k_is)
  (case sux2x15=>k_is)
  (case sux3x6=>k_is)
  (case sux3x0=>k_is)
  (case sux3x1=>k_is)
  (case sux3x7=>k_is)
  (case sux3x3=>k_is)
  (case sux3x8=>k_is)
  (case sux3x9=>k_is)
  (case sux3x10=>k_is)
  (case sux3x11=>k_is)
  (case sux3x12=>k_is)
  (case sux3x13=>k_is)
  (case sux3x14=>k_is)
  (case sux3x2=>k_is)
  (case sux3x5=>k_is)
  (case sux3x4=>k_is)
  (case sux3x15=>k_is)
  (case sux4x6=>k_is)
  (case sux4x0=>k_is)
  (case sux4x1=>k_is)
  (case sux4x7=>k_is)
  (case sux4x3=>k_is)
  (case sux4x8=>k_is)
  (case sux4x9=>k_is)
  (case sux4x10=>k_is)
  (case sux4x11=>k_is)
  (case sux4x12=>k_is)
  (case sux4x13=>k_is)
  (case sux4x14=>k_is)
  (case sux4x2=>k_is)
  (case sux4x5=>k_is)
  (case sux4x4=>k_is)
  (case sux4x15=>k_is)
  (case sux5x6=>k_is)
  (case sux5x0=>k_is)
  (case sux5x1=>k_is)
  (case sux5x7=>k_is)
  (case sux5x3=>k_is)
  (case sux5x8=>k_is)
  (case sux5x9=>k_is)
  (case sux5x10=>k_is)
  (case sux5x11=>k_is)
  (case sux5x12=>k_is)
  (case sux5x13=>k_is)
  (case sux5x14=>k_is)
  (case sux5x2=>k_is)
  (case sux5x5=>k_is)
  (case sux5x4=>k_is)
  (case sux5x15=>k_is)
  (case z0=>k_is)
  (case z1=>k_is)
  (case z2=>k_is)
  (case z3=>k_is)
  (case z4=>k_is)
  (case z5=>k_is)
  (case z6=>k_is)
  (case z7=>k_is)
  (case z8=>k_is)
  (case z9=>k_is)
  (case z10=>k_is)
  (case z11=>k_is)
  (case z12=>k_is)
  (case z13=>k_is)
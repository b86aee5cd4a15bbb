import PyProof.Rows.All
import Wide.All
import OpenK.AllK
import Wide.FinOn
import PyProof.EqAt
import KE.KSortTup
import PyProof.EqKinds
import PyProof.TupleCall
import Lean
import PySem.Challenge.RW_ovalfield_k96_rows_refused
noncomputable section
set_option autoImplicit true
set_option Elab.async false
set_option linter.all false
set_option maxRecDepth 100000
set_option maxHeartbeats 4000000
open Option renaming some→Aa,none→Ae,bind_eq_some_iff→AO,isSome_iff_exists→CW,isNone_iff_eq_none→F1,bind_some→Jc,getD_none→Xp,isSome→Xq,map_some→Xr
open Bool renaming true→Ab,false→Ad,and_eq_true→As,false_ne_true→BC,or_eq_true→Ca,not_eq_true'→Cn,eq_iff_iff→EF,or_false→GX,and_false→HN,false_eq_true→Ii,and_true→Ix,or_true→KN
open _root_ renaming List→Ac,Nat→Ag,Int→Ai,Option→Am,Bool→Ao,if_pos→Au,if_neg→AA,False→AN,beq_iff_eq→A2,Array→A3,decide_eq_true_eq→Bh,decide_eq_false→Bq,beq_eq_false_iff_ne→BO,beq_self_eq_true→Ck,String→Da,decide_eq_true→Di,or_false→Dm,Unit→EB,if_true→Fj,bne_iff_ne→FD,not_or→HB,ne_true_of_eq_false→HM,True→HV,Decidable→Ij,if_false→Jn,ne_eq→KG,beq_false_of_ne→iw
open PySem.Str renaming ofString→Af,empty→Do,join→DV
open PySem renaming Str→Ah,Value→Aj,Addr→Ak,wpAny_bind→Al,Shared→An,Expr→Aq,starEach→At,wpAny→Av,wpAny_pure→Ax,Heap→AC,World→AD,Program→AG,Pos→AH,mainGlobals→AJ,Stmt→AT,Around→AY,FuncData→A7,wpAny_mono→Bg,backTo→Br,wpAny_field→Bx,wpAny_holding→BA,cLine→BD,sizeLine_eq→BE,attributeBase→BW,OsState→BY,Env→B8,binaryOp→Cb,Scope→Cf,Tok→Ch,excClassObj→Cj,rawInt→Cm,assignEach→Co,wpAny_newObj_type→Cp,wpAny_callSpecial?_slot→CC,Obj→CD,methodCallPos→CI,wpAny_standAt→CJ,Keyword→CK,keywordEach→CO,wpAny_loadPart_at→CS,mem_of_lookup→CT,cellsFrom→C9,wpAny_seqItems→Dh,foldedSetIterable→Dl,swapsWith→Dp,treeTable→Dq,bootBuiltins→Ds,wpAny_call_entry→Dv,compareOp→DB,wpAny_Call_Name_kw→DC,behindInMarks→DQ,backToKw→DY,methodCallForm→DZ,wpAny_setField_rec→D7,wpAny_of_eq→Eo,OwnTail→Ep,codeAny→Er,NameKind→Ev,checkBuiltinCall→Ew,call_meets→EK,codeAny_builtin→EM,GenState→EQ,wpAny_pyIter_list→E4,codeAny_mono→E9,pyNext→Fb,codeAny_call_builtin→Fo,arm_eval_Call→FG,strKind→FJ,wpAny_newFunctionEnv_cells→FK,sliceBounds→FL,Sem→FQ,wpAny_isSubtype_exc→FU,wpAny_passesOwn→F6,PassesOwn→Gd,typeIs_str→Gv,valueAt→Gw,wpAny_call→Gx,wpAny_setField→Gy,wpAny_truthy_bool→GJ,strLen_append→G2,BindsTo→Hb,codeAny_call_function→Hc,noteFrame→Hd,CmpOp→Hk,letOwnedTupleGo→Hl,methodCall→Hm,sysModules→Hn,wpAny_execs_nil→Ho,wpAny_updateSeq→Hq,Operator→HP,bindArgs→HS,recursionLimit→HU,Model→Ih,IsPart→Io,pushCells→Ir,setFlight→Iu,wpAny_pyIter_tuple→Iw,plainId_quiet→IA,swappedStores→IB,wpAny_attempt→IC,wpAny_onRaise→ID,isInstance→IS,callerA→IU,ExcBaseFacts→Jd,Paired→Je,Result→Jf,Drawn→Jr,importedModules→Ju,pushCells_keeps→Jv,wpAny_specialOf→Jw,boot_len→J_4,isTrue→J_5,newFunctionEnv→J_6,notedBy→J_7,bindC→J_9,bindL→Ka,builtinsNs→Kb,handleBy→Kc,numAt→Kd,typeLookup→Ke,wpAny_rule→Kf,swapsWithSole→KJ,JoinOk→KZ,Within→K2,callSpecial?→K3,codeAny_func→K4,concat_meets→K5,updateSeq→K7,getItem→Lv,wpAny_letGo→Lw,PyData→L8,StoreFacts→Ma,call→Mc,pyIter→Md,wpAny_Name→Me,setAttr→Mf,Arguments→MW,DictEntry→MY,IntMulOk→M2,Params→M3,intItems→M4,builtinLookup_eq_fast→YJ,codeAny_of_tree→YK,firstArgMember→YL,noFill_tuple_add→YM,pastItsLine_dict→YN,plainObj_wpAny_Assign_Attribute→YO,refuseLoop_ref→YQ,slot_list_getitem→YR,typeLookup_type→YS,wpAny_JoinedStr→YT,wpAny_assign_Name→YU,wpAny_comprehension_free→YV,wpAny_execs_cons→YW,wpAny_loadPart→YX,wpAny_lookBehind→YY,wpAny_newTuple→YZ,wpAny_pyIter_enum→Y_0,wpAny_pyNext_list_end→Y_1,wpAny_pyNext_list_item→Y_2
open PySem.W renaming findIn→Ap,keepIn→AM,mg_of→AU,nsIn→A1,isFn→Bw,mg_none_of→BJ,subIn→BV,fnOf→B5,mroIn→Cq,look_both→CA,kitOne→CN,emptyDict→CP,callWith_K→CZ,typeIn→Dz,instObj→DJ,looks_findIn→DL,specialIn→DN,clsIn→DP,codeIn→DW,plainGet→DX,hasDictIn→Eg,boot_heap→EJ,plainOver→E3,findCls→F3,makesIn→F4,readsIn→F5,OpenLaw→GV,cellsFrom_some→GW,callWith_K0→HJ,plainGet_of→HK,lookIn→HQ,topFrame→HR,codeRec_of→Iq,methodObj→IR,topStub→IT,takerIn→Jt,piecesOf→J_8,excIn→KI,topRun→K1,WalkO→Yz,handedIn→YA,isNs_of_in→YB,kIn_of→YC,kitMeta→YD,looks_subIn→YE,nsOkIn→YF,tail_of_in→YG,takesIn→YH
open PySem.Heap renaming get?_push_of_some→Ar,lt_size→AF,get?_push_size→AI,size_push→BR,get?_update_self→B3,get?_update_other→B7,get?_none_of_le→DH,SameBut→D6,ExtBut→Jy,MadeExcOf→J_3,get?_push_at→Yh,get?_update_ne→Yi
open List renaming mem_cons_of_mem→Ay,mem_cons→AE,size_toArray→AL,mem_cons_self→AR,all_eq_true→A6,getElem?_eq_some_iff→A8,length_cons→Ba,length_map→Bb,length_set→Bc,not_mem_nil→Bo,append_nil→Bp,replicate→Bs,mem_append_right→By,mem_singleton→BH,lookup→BM,lookup_cons→BQ,map_cons→BU,range→B2,getElem?_eq_getElem→Cr,length_append→Cy,mem_of_getElem?→De,getElem?_set_self→Dr,getD_eq_getElem?_getD→Du,all_cons→DO,getElem_mem→DR,mem_range→DT,getElem?_map→Ef,drop_eq_getElem_cons→Eh,nodup_cons→EH,eq_nil_of_length_eq_zero→EZ,all_map→E5,forIn_nil→E6,getElem_of_mem→FM,map_congr_left→FN,forIn_cons→FZ,getElem?_append_left→F0,map_map→F7,mem_map→F8,getElem?_cons_succ→Gz,getElem?_cons_zero→GB,getElem?_replicate→GD,getElem?_set_self'→GE,drop_eq_nil_of_le→GP,length_singleton→G9,getElem?_set_ne→Hf,mem_append→Hg,mem_append_left→Hh,of_mem_zip→Hi,toArray→Hj,filterMap_cons→HF,contains_cons→Ik,zip_cons_cons→Il,any_cons→Iz,any_eq_true→IY,length_take→IZ,map_append→Jo,any_map→KP,map_nil→KQ,contains_eq_mem→W3,dropLast_eq_take→W4,drop_zero→W5,flatten_cons→W6,getElem?_append_right→W7,getElem?_of_mem→W8,getElem?_toArray→W9,length→Xa,length_drop→Xb,length_nil→Xc,length_pos_iff→Xd,length_replicate→Xe,lookup_cons_self→Xf,range_succ_eq_map→Xg,replicate_succ→Xh,reverse_cons→Xi,set_set→Xj,sum_cons→Xk,zipIdx_cons→Xl,zipIdx_nil→Xm
open Nat renaming le_of_ble_eq_true→AK,le_refl→AQ,lt_of_lt_of_le→AS,ne_of_lt→A5,lt_irrefl→Bl,le_trans→BF,ble→Cs,lt_of_le_of_lt→CV,le_add_right→DU,zero_le→D5,ne_of_gt→Et,le_of_lt→E7,ble_eq→Gp,not_lt→Gq,log2_le_self→G3,lt_succ_self→G4,add_le_add_left→HG,lt_succ_of_lt→IP,mod_eq_of_lt→Ja,not_lt_zero→Jp,le_succ→Jx,blt→JZ,le_of_eq→KR,lt_trans→KS,blt_eq→Xn,min_self→Xo
open False renaming elim→A4
open Int renaming emod_emod_of_dvd→Bi,emod_lt_of_pos→Bn,emod_nonneg→Bz,emod_eq_of_lt→BG,mul_emod→BN,dvd_refl→Ce,eq_ofNat_of_zero_le→Ez,one_mul→EN,mul_comm→He,toNat_of_nonneg→HE,mul_assoc→Iy,sub_zero→KO,add_emod→WR,ediv_nonneg→WS,le_refl→WT,le_trans→WU,mul_one→WV,mul_zero→WW,natAbs_natCast→WX,ne_of_gt→WY,sub_emod→WZ,toNat_natCast→W1,zero_emod→W2
open Option.some renaming inj→Bj,injEq→IQ
open PySem.Builtin.SmallTypes renaming nextOf→Bk,ownedTupleIsFree→Bt,ownedTupleHandOut→XH
open PySem.Value renaming ref→Bv,none→Dg,type→Gs,builtin→G1,int→Ip,bool→Mb,str→MZ,bytes→Yr,float→Ys
open Array renaming getElem?_eq_getElem→BP,length_toList→Ey,getElem?_eq_some_iff→FE,getElem?_push→HC,toList→KM,append_assoc→WJ,find?_toList→WK,forIn_toList→WL,getElem?_toList→WM,mem_toList_iff→WN,size_push→WO,toArray_toList→WP,toList_append→WQ
open PySem.NameKind renaming cell→B4,free→Ed
open PySem.PyData renaming keyHash→Cd,shownAll→Eb,depthAll→Js,hasDictAll→Yn,showableAll→Yo
open PyProof.Rows renaming callWith_type1→Cz,envOfC→Eu,AllBare→Gr,boot_tuple→GF,subscriptTail_builtinR→GQ,boot_str→Ha,boot_isinstance→Jq,IntsAre→Lu,IsTup→L7,Call_→M0,boot_int→Xu,boot_list→Xv,slicePart_none→Xx,slot_tuple_getitem→Xy
open Ne renaming symm→CB
open PySem.Builtin.Tuple renaming tupleExact→CY
open PySem.F renaming plainAttrs_list→Dj,slot_zip_next→DG,slot_tuple_iterator_next→Ec,slot_str_split→EO,excBase_ValueError→FF,plain_extend_loop→FP,args_str_split_2→Gb,entry_str_split→GH,args_zip_next_1→GI,entry_zip_next→G5,args_object_init_2→XU,args_tuple_add_2→XV,args_tuple_iterator_next_1→XX,entry_extend_loop→XY,entry_tuple_add→XZ,entry_tuple_iterator_next→X1,plainAttrs_str→X2,plain_list_iadd→X3,plain_tuple_new→X4,slot_list_append→X5,slot_list_count→X6,slot_list_index→X7,slot_str_join→X8,slot_tuple_add→X9,slot_zip_iter→Yb,typeOf_object_class→Yc,type_list_append→Yd
open PySem.Obj renaming data_mapFields→Dy,mapSeq→DI,isFreed_of_fields→E8,mapFields→GZ,cls_mapFields→Yj
open Classical renaming choose_spec→Ea,choose→IX
open PySem.Around renaming under_plainId→Ei,under→KW
open PySem.Builtin.Slice renaming slicePlaces→Ej,sliceAdjust→F2,sliceApplied→XG
open PySem.Txt renaming split→En,join→ER
open PySem.Builtin.Str renaming occurrences→EA,strSliceIndices→Fk,strKind→FO,partsBetween→XI
open ForInStep renaming yield→EG
open PySem.SeqAt renaming EqAt→EI,RcNeAt→K0,RcAt→L9
open PySem.Calls renaming evalArgs_plain→Fn,callWith_builtin→GR,Name_function_global→XJ,spliced_cons→XM,spliced_nil→XN
open PySem.Builtin.List renaming listTooLong→F9,listExtendWith→XC,listSameRef→XD
open PySem.Heap.SameBut renaming update→HI,refl→Yg
open PySem.Code renaming quiet_builtin→Im,isFrame→KY,frames→XQ
open Sum renaming inl→IV,inr→IW
open Nat.succ renaming inj→Jb
open PySem.Shared renaming heap→Jz
open PySem.Value.ref renaming inj→KH
open PyProof.Rows.IsTup renaming new→KU
open NeZero renaming ne→MV
open PySem.Data renaming cell→MX,seq→M1
open Eq renaming symm→NQ
open Prod.mk renaming injEq→Xs
open PySem.Builtin.Int renaming intBits→Xz
open PySem.Builtin.ObjectAttr renaming storeInDict→XF
open PySem.EntryCells renaming newEntry→XS
open PySem.Heap.Ns1 renaming of_empty→Ye
open PySem.Paired renaming length→Yk
open PySem.PassesOwn renaming leaving→Yl,looking→Ym
open PySem.SeqAt.EqAt renaming of_refs→Yp,same→Yq
open PySem.W.Fast renaming te10110043849684766642→Yt,te12563942051412417395→Yu,te14364793385576792824→Yv,tw14364793385576792824→Yw
open PySem.W.WData renaming int→Yx
open PySem.W.WShape renaming has→Yy
open PySem.Walks renaming list→YI
open True renaming intro→Y_3
abbrev Fg:=PySem.W.Frag
abbrev Pn:=Ac (PySem.Addr×PySem.Obj)
abbrev Vq:=PySem.Value->PySem.Shared->Prop
set_option genSizeOfSpec false
set_option genSizeOf false
set_option genInjectivity false
section
open PySem PySem.W PyProof.Rows
namespace OvC
noncomputable def tp96(i:Ag):AT:=PySem.Challenge.pw_ovalfield_k96_rows_refused.main.body.getD i (.Pass ⟨0,0,0,0⟩)
noncomputable def Vv:Ag->BT->Ac CD->BT
 |_,t,[]=>t
 |n,t,o::r=>Vv (n+1) (t.ins n o) r
def ü(s:An):SharedT:=⟨Vv 0 .nil s.heap.objs.toList,s.heap.objs.size,s.heap.life,s.gens,s.drawn,s.toks,s.os⟩
noncomputable abbrev Fh:AG:=PySem.Challenge.pw_ovalfield_k96_rows_refused
noncomputable def Ll:B8 := {scope:=Fh.main.scope,locals:=mainNs,globals:=mainNs,cells:=[],code := .ref 13,frame:=Aa 14}
def L4:Ac AT:=behindTheImports Fh
def Jm:Code := .body L4 Ll
noncomputable def S0(w:AD)(os:BY):An:=⟨EJ w.params,#[],boot_drawn,boot_toks,os⟩
def Sa(w:AD)(os:BY):An:=match PySem.W.Fast.tw15667345088766844465 Yw Fh w 11 (Aa (.ref 6)) 12 (S0 w os) (IT Fh) with
  |some (s,_)=>s
  |none=>S0 w os
def xZ:Thread:=⟨(PySem.W.Fast.tw12563942051412417395 L4 Ll).wrap doneF deadEnd id id,Jm,⟨0,0,0,0⟩,[HR ⟨0,0,0,0⟩]⟩
def ť(w:AD)(os:BY):SharedT:=match PySem.W.Fast.tw10110043849684766642 Yw Fh w 11 (Aa (.ref 6)) 1 7096 (ü (Sa w os)) xZ with
  |some (_,s,_,_)=>s
  |none=>ü (Sa w os)
noncomputable def wF(b:Ao)(w:AD):AD:=w.withFollow "special-get-raises" b
def Sf(w:AD)(os:BY):An:=(ť (wF Ad w) os).abs
noncomputable def Wo(t:BT)(n a:Ag):Am CD:=match JZ a n with
  |true=>alive ((t.get a).getD default)
  |false=>Ae
theorem getT_eq(t:BT)(n:Ag)(life:Life):(absHeap t n life).get? = Wo t n:=by
 funext a
 unfold Wo;by_cases h:a<n
 .have e:JZ a n=Ab:=Gp.mpr h;rw[e];dsimp only;unfold Heap.get?;rw[absHeap_at,Au h];generalize (t.get a).getD default=o;obtain⟨c,d,dt,sl⟩:=o;cases dt <;> rfl
 .have e:JZ a n=Ad:=by
   cases q:JZ a n with
   |false=>rfl
   |true=>exact absurd (AK q) h
  rw[e,abs_get_none h]
theorem left_tree{Yf:An->α}{Ya:AD->α}{Z:AD->BY->An}(o : ∀ w:AD,(fencedOpening Dq p w N).map (λs=>(s.heap,s.gens,s.drawn,s.toks))=Aa (EJ w.params,#[],boot_drawn,boot_toks))(z : ∀ w:AD,(EJ w.params).isNs AJ=Ab/\(EJ w.params).objs.size=m/\(EJ w.params).nsMap AJ "__annotations__" = ann)(r : ∀ w os,K1 Dq p w m ann M (S0 w os) (IT p)=Aa (Z w os))(le:M<=N)(l : ∀ w os,(staticsOk (Ju p.main.body) (EJ w.params) (Z w os).heap&&namesBound p (Z w os).heap&&gensDone (Z w os)&&laidKept (EJ w.params) (Z w os).heap)=Ab)(k : ∀ w os,(openSeen q loose (Ju p.main.body) Xt Ab (Z w os),Yf (Z w os))=(openGood q loose,Ya w)):LeftO p q loose Xt Yf Ya N:=λw=>by
 obtain⟨s,e1,e2⟩:=Option.map_eq_some_iff.mp (o w);obtain⟨z1,z2,z3⟩:=z w;cases s with
 |mk h g d t os=>
  cases e2;have e3:=topRun_mono (N-M) _ _ _ _ (r w os);have e4:M+(N-M)=N:=by omega
  rw[e4]at e3;unfold openEnds;rw[e1,Jc];have e5:topFrom Dq p w N (S0 w os)=Aa (Z w os):=by
   unfold topFrom;rw[show (S0 w os).heap=EJ w.params from rfl,z1,z2,z3,e3]
   show (match (staticsOk (Ju p.main.body) (EJ w.params) (Z w os).heap&&namesBound p (Z w os).heap&&gensDone (Z w os)&&laidKept (EJ w.params) (Z w os).heap) with|true=>Aa (Z w os)|false=>Ae)=_
   rw[l w os]
  show (topFrom Dq p w N (S0 w os)).map _=_;rw[e5];exact congrArg Aa (k w os)
theorem pair_eq{α:Type}{β:Type}{a a':α}{b b':β}(h:a=a')(k:b=b'):(a,b)=(a',b'):=by rw[h,k]
theorem yZ(w:AD)(os:BY):topGo Dq Fh w 11 (Aa (.ref 6)) 12 (S0 w os) (IT Fh)=Aa (Sa w os,⟨denote Dq (.body L4 Ll),Jm,⟨0,0,0,0⟩,[HR ⟨0,0,0,0⟩]⟩):=by kernel_rfl
theorem cz(w:AD)(s:An):segRun Dq Fh w 11 (Aa (.ref 6)) 1 1 s (blockOf L4 Ll Jm ⟨0,0,0,0⟩ [HR ⟨0,0,0,0⟩])=Aa (.next,s,Jm,⟨0,0,0,0⟩):=by kernel_rfl
theorem dv(w:AD)(os:BY):(ü (Sa w os)).abs=Sa w os:=by kernel_rfl
theorem bg(w:AD)(s:An):K1 Dq Fh w 11 (Aa (.ref 6)) 3 s (restOf [] Ll Jm ⟨511,0,537,111⟩ [HR ⟨0,0,0,0⟩])=Aa s:=by
 cases s
 kernel_rfl
theorem kA(w:AD)(os:BY):segRunT Dq Fh (wF Ad w) 11 (Aa (.ref 6)) 1 7096 (ü (Sa (wF Ad w) os)) (J_8 L4 Ll Jm ⟨0,0,0,0⟩ [HR ⟨0,0,0,0⟩])=Aa (.next,ť (wF Ad w) os,Jm,⟨511,0,537,111⟩):=by
 unfold J_8;rw[Yt,Yv,Yu]
 kernel_rfl
theorem jZ(w:AD)(os:BY):segRunT Dq Fh (wF Ab w) 11 (Aa (.ref 6)) 1 7096 (ü (Sa (wF Ab w) os)) (J_8 L4 Ll Jm ⟨0,0,0,0⟩ [HR ⟨0,0,0,0⟩])=Aa (.next,ť (wF Ad w) os,Jm,⟨511,0,537,111⟩):=by
 unfold J_8;rw[Yt,Yv,Yu]
 kernel_rfl
theorem run96(w:AD)(os:BY):K1 Dq Fh w 11 (Aa (.ref 6)) (12+(1+(7096+3))) (S0 w os) (IT Fh)=Aa (Sf w os):=by
 have key : ∀ w',segRunT Dq Fh w' 11 (Aa (.ref 6)) 1 7096 (ü (Sa w' os)) (J_8 L4 Ll Jm ⟨0,0,0,0⟩ [HR ⟨0,0,0,0⟩])=Aa (.next,ť (wF Ad w) os,Jm,⟨511,0,537,111⟩)->K1 Dq Fh w' 11 (Aa (.ref 6)) (12+(1+(7096+3))) (S0 w' os) (IT Fh)=Aa (Sf w os):=λw' h=>by
  have h1:=segRun_of h;rw[dv]at h1;have h2:=piece_app (rest:=[]) h1 (bg w' _);rw[Bp]at h2;exact go_top (yZ w' os) (piece_block (cz w' _) h2)
 have fin : ∀ b,w.params.followText "special-get-raises" = b->K1 Dq Fh (wF b w) 11 (Aa (.ref 6)) (12+(1+(7096+3))) (S0 (wF b w) os) (IT Fh)=Aa (Sf w os)->K1 Dq Fh w 11 (Aa (.ref 6)) (12+(1+(7096+3))) (S0 w os) (IT Fh)=Aa (Sf w os):=λb hb h=>by
  generalize Sf w os=z at h ⊢;have e:wF b w=w:=by rw[<-hb];exact World.withFollow_self w "special-get-raises"
  rw[e]at h;exact h
 cases hb:w.params.followText "special-get-raises" with
 |false=>exact fin Ad hb (key _ (kA w os))
 |true=>exact fin Ab hb (key _ (jZ w os))
theorem said96:PySem.Challenge.rw_ovalfield_k96_rows_refused.wellSaid=Ab:=by
 unfold OpenLaw.wellSaid;refine CA (CA (CA (CA (CA (CA (CA (CA (CA (CA (CA (CA (CA (CA (CA (CA (CA (CA ?c0 ?c1) ?c2) ?c3) ?c4) ?c5) ?c6) ?c7) ?c8) ?c9) ?c10) ?c11) ?c12) ?c13) ?c14) ?c15) ?c16) ?c17) ?c18
 case c0=>decide+kernel
 case c1=>decide+kernel
 case c2=>decide+kernel
 case c3=>decide+kernel
 case c4=>decide+kernel
 case c5=>decide+kernel
 case c6=>decide+kernel
 case c7=>decide+kernel
 case c8=>decide+kernel
 case c9=>decide+kernel
 case c10=>decide+kernel
 case c11=>decide+kernel
 case c12=>decide+kernel
 case c13=>decide+kernel
 case c14=>decide+kernel
 case c15=>decide+kernel
 case c16=>decide+kernel
 case c17=>decide+kernel
 case c18=>decide+kernel
set_option genInjectivity false in
structure Tre (P:Prop) where
 (α1 α2 α3 α4 α5 α6 α7 α8 α9 α10 α11  : Type)
 (l1 r1:AD->BY->α1)
 (l2 r2:AD->BY->α2)
 (l3 r3:AD->BY->α3)
 (l4 r4:AD->BY->α4)
 (l5 r5:AD->BY->α5)
 (l6 r6:AD->BY->α6)
 (l7 r7:AD->BY->α7)
 (l8 r8:AD->BY->α8)
 (l9 r9:AD->BY->α9)
 (l10 r10:AD->BY->α10)
 (l11 r11:AD->BY->α11)
 X:Prop
 go:(∀ w os,l1 w os=r1 w os)->(∀ w os,l2 w os=r2 w os)->(∀ w os,l3 w os=r3 w os)->(∀ w os,l4 w os=r4 w os)->(∀ w os,l5 w os=r5 w os)->(∀ w os,l6 w os=r6 w os)->(∀ w os,l7 w os=r7 w os)->(∀ w os,l8 w os=r8 w os)->(∀ w os,l9 w os=r9 w os)->(∀ w os,l10 w os=r10 w os)->(∀ w os,l11 w os=r11 w os)->X->P
noncomputable def loose96:Ac Ah:=(["_wall", "OvalError", "NoOver", "NoTriple", "NoTable", "NoCount", "NoCurve", "NotWhole", "TooMany", "NoRow", "NothingDone", "Alike", "NotOn", "OnLine", "rest", "turned_over", "one_form", "crossed", "lies", "row_of", "Triple", "Point", "Line", "on", "join", "measure", "first_three", "ask_unlike", "ask_no_three", "triples"]:Ac Ah)++(["points_on", "columns", "sums_by", "table_of", "crossed_rows", "led", "after", "table_back", "curve_of", "plain_curve", "value", "points_of", "twice_table", "is_whole", "mixed", "moved", "scaled", "frame_table", "frame_move", "SIDES", "ask_whole", "polar_table", "polar", "pole", "met_by", "side", "frame_on", "curve_move", "crossing", "two_lines"]:Ac Ah)++(["kind", "picture_rows", "row_drawn", "drawn", "first_four", "lines_multiplied", "five_curve", "curve_through", "on_any", "still_fitting", "fitting", "curve_on", "first_two", "end_rows", "look", "ask_set", "grown", "rest_read", "rests_read", "COUNTS", "OF_THE_LIST", "MAKE_A_CURVE", "ASK_THE_CURVE", "MOST", "rests_of_row", "told_by", "put_in", "taken_out", "point_texts", "line_texts"]:Ac Ah)++(["look_text", "kind_text", "Desk", "_law_mixed", "_law_prime", "_law_triple", "_law_whole", "_law_texts", "_law_text", "_law_point_text", "_law_rested", "_law_refusal", "_law_said", "_law_odd", "_law_due"]:Ac Ah)
end OvC
noncomputable def OvC.view96:PySem.Program := { PySem.Challenge.pw_ovalfield_k96_rows_refused with main := {PySem.Challenge.pw_ovalfield_k96_rows_refused.main with body:=[OvC.tp96 121]} }
set_option hygiene false
local macro_rules | `(tactic| o_head $H) => `(tactic| refine holds_open (q := OvC.view96) (loose := OvC.loose96) (Xt := fun s => xlAt OvC.view96 [] s&&recOk (RowW.records (OpenRow.toRowW (PySem.Challenge.rw_ovalfield_k96_rows_refused.row))) s) (XP := XL OvC.view96 []) (Yf := Hook.obs $H) (Ya := Hook.val $H) (YP := Hook.says $H) (N := 14212) ?hl (Hook.of $H) (Hook.keeps $H) (fun s e => xl_of s (Bool.and_eq_true_iff.mp e).1) XL.keeps (by rfl) (by rfl) (by rfl) (fun s e => recFacts_of (Bool.and_eq_true_iff.mp e).2) (by rfl) (by first|assumption|decide +kernel) (by decide +kernel) ⟨rfl, rfl, rfl, rfl, rfl, by decide +kernel⟩ ?hw ?hc)
set_option maxRecDepth 100000 in
set_option maxHeartbeats 0 in
noncomputable def OvC.hold96:OvC.Tre PySem.Challenge.rw_ovalfield_k96_rows_refused.Holds:=by
 refine' ⟨_,_,_,_,_,_,_,_,_,_,_,_,_,_,_,_,_,_,_,_,_,_,_,_,_,_,_,_,_,_,_,_,_,_,λg1 g2 g3 g4 g5 g6 g7 g8 g9 g10 g11 x=>_⟩
 rotate_right
 w_on;refine holds_law OvC.said96 λÅ => ?_;k_head
 (case hl=>refine OvC.left_tree (Z:=OvC.Sf) (M:=7112) (m:=11) (ann:=Aa (.ref 6)) ?o ?z ?r ?le ?l ?k;(case o=>exact boot_open (by kernel_rfl) (by decide+kernel) (λs=>by kernel_rfl));(case z=>intro w;refine⟨?a,?b,?c⟩;all_goals kernel_rfl);(case r=>exact OvC.run96);(case le=>decide);(case l=>intro w os;exact g1 w os);(case k=>intro w os;refine OvC.pair_eq ?k1 ?k2;(case k1=>rw[PySem.W.Fast.te4187177175401517315];unfold PySem.W.Fast.tw4187177175401517315 openGood;refine OvC.pair_eq ?q1 (OvC.pair_eq ?q2 (OvC.pair_eq ?q3 (OvC.pair_eq ?q4 (OvC.pair_eq ?q5 (OvC.pair_eq ?q6 (OvC.pair_eq ?q7 (OvC.pair_eq ?q8 ?q9)))))));(case q1=>exact g2 w os);(case q2=>exact g3 w os);(case q3=>exact g4 w os);(case q4=>exact g5 w os);(case q5=>exact g6 w os);(case q6=>exact g7 w os);(case q7=>exact g8 w os);(case q8=>exact g9 w os);(case q9=>exact g10 w os));(case k2=>show List.map (absHeap _ _ _).get? _=_;rw[OvC.getT_eq];exact g11 w os)))
 (case hw=>w_witness2)
 k_fill
 revert Å
 exact x
theorem OvC.reck96_1(w:AD)(os:BY):(OvC.hold96.l1 w os,OvC.hold96.l2 w os,OvC.hold96.l3 w os,OvC.hold96.l4 w os,OvC.hold96.l5 w os,OvC.hold96.l6 w os,OvC.hold96.l7 w os,OvC.hold96.l8 w os,OvC.hold96.l9 w os,OvC.hold96.l10 w os)=(OvC.hold96.r1 w os,OvC.hold96.r2 w os,OvC.hold96.r3 w os,OvC.hold96.r4 w os,OvC.hold96.r5 w os,OvC.hold96.r6 w os,OvC.hold96.r7 w os,OvC.hold96.r8 w os,OvC.hold96.r9 w os,OvC.hold96.r10 w os):=by kernel_rfl
theorem OvC.reckA96(w:AD)(os:BY):OvC.hold96.l1 w os=OvC.hold96.r1 w os/\OvC.hold96.l2 w os=OvC.hold96.r2 w os/\OvC.hold96.l3 w os=OvC.hold96.r3 w os/\OvC.hold96.l4 w os=OvC.hold96.r4 w os/\OvC.hold96.l5 w os=OvC.hold96.r5 w os/\OvC.hold96.l6 w os=OvC.hold96.r6 w os/\OvC.hold96.l7 w os=OvC.hold96.r7 w os/\OvC.hold96.l8 w os=OvC.hold96.r8 w os/\OvC.hold96.l9 w os=OvC.hold96.r9 w os/\OvC.hold96.l10 w os=OvC.hold96.r10 w os:=by
 have h:=OvC.reck96_1 w os;simp only[Xs]at h;exact h
theorem OvC.reck96_2(w:AD)(os:BY):OvC.hold96.l11 w os=OvC.hold96.r11 w os:=by kernel_rfl
end
namespace L2
open PySem PySem.Spec PyProof.Rows
variable{a b:Ak}{ch:Ac Ak}{g:Ai->Ai->Ai}
abbrev Key:=Sum Ai Ah
noncomputable def VR:Key->Aj->Ao
 |.inl k,v=>Value.isInt k v
 |.inr x,v=>Value.isStrOf x v
noncomputable def Ze(w:AD):Key->Ai
 |.inl k=>hashInt k
 |.inr x=>hashStr w x
theorem Kg:∀{k:Key}{v:Aj},VR k v=Ab->(∃ i t,k=IV i/\v=Ip i t)\/(∃ x t,k=IW x/\v=MZ x t)
 |.inl i,v,h=>by
  obtain⟨t,e⟩:=Value.isInt_shape (k:=i) (v:=v) h;exact .inl ⟨i,t,rfl,e⟩
 |.inr x,v,h=>by
  obtain⟨t,e⟩:=Value.isStrOf_shape (x:=x) (v:=v) h;exact .inr ⟨x,t,rfl,e⟩
theorem tZ(a b:Ai):decide ((IV a:Key)=IV b)=(a==b):=by
 by_cases e:a=b
 .subst e;simp
 .have h:¬ (IV a:Key)=IV b:=λq=>e (Sum.inl.inj q)
  rw[Bq h];exact(BO.mpr e).symm
theorem vE(a b:Ah):decide ((IW a:Key)=IW b)=decide (a=b):=by
 by_cases e:a=b
 .subst e;simp
 .have h:¬ (IW a:Key)=IW b:=λq=>e (Sum.inr.inj q)
  rw[Bq h,Bq e]
theorem vG(a:Ai)(b:Ah):decide ((IV a:Key)=IW b)=Ad:=Bq (λq=>nomatch q)
theorem vF(a:Ah)(b:Ai):decide ((IW a:Key)=IV b)=Ad:=Bq (λq=>nomatch q)
def Qp(prog:AG)(w:AD):PySem.KeyKind prog w Key where
 is:=VR
 hash:=Ze w
 inj:=λv a b ha hb=>by
  rcases Kg ha with ⟨i,t,rfl,rfl⟩|⟨x,t,rfl,rfl⟩
  .rcases Kg hb with ⟨j,u,rfl,e⟩|⟨y,u,rfl,e⟩
   .injection e with e1 _;rw[e1]
   .exact nomatch e
  .rcases Kg hb with ⟨j,u,rfl,e⟩|⟨y,u,rfl,e⟩
   .exact nomatch e
   .injection e with e1 _;rw[e1]
 byValue:=λk v h=>by
  rcases Kg h with ⟨i,t,rfl,rfl⟩|⟨x,t,rfl,rfl⟩<;>rfl
 pyHash:=λhv h=>by
  rcases Kg hv with ⟨i,t,rfl,rfl⟩|⟨x,t,rfl,rfl⟩
  .exact wpAny_pyHash_int h
  .exact wpAny_pyHash_str h
 eqBool:=λhu hv h=>by
  rcases Kg hu with ⟨i,t,rfl,rfl⟩|⟨x,t,rfl,rfl⟩
  .rcases Kg hv with ⟨j,u,rfl,rfl⟩|⟨y,u,rfl,rfl⟩
   .rw[tZ]at h;exact wpAny_eqBool_int h
   .rw[vG]at h;exact SeqAt.EqAt.int_str i t y u _ _ _ _ h
  .rcases Kg hv with ⟨j,u,rfl,rfl⟩|⟨y,u,rfl,rfl⟩
   .rw[vF]at h;exact SeqAt.EqAt.str_int x t j u _ _ _ _ h
   .rw[vE]at h;exact wpAny_eqBool_str h
 «strs»:=λk x t v h=>by
  rcases Kg h with ⟨i,u,rfl,e⟩|⟨y,u,rfl,e⟩
  .exact nomatch e
  .injection e with e1 _
   subst e1;cases v<;>rfl
inductive V where
 |O|bl (b:Ao)|int (i:Ai)|str (x:Ah)|byt (b:A3 UInt8)|flt (b:UInt64)|ref (a:Ak)|ty (n:Da)
 deriving DecidableEq
def BB:V->Aj->Prop
 |.O,u=>u=Dg
 |.bl b,u=>u=Mb b
 |.int i,u=>∃ t,u=Ip i t
 |.str x,u=>∃ t,u=MZ x t
 |.byt b,u=>∃ t,u=Yr b t
 |.flt b,u=>∃ t,u=Ys b t
 |.ref a,u=>u=Bv a
 |.ty n,u=>u=Gs n
abbrev AZ:Ac V->Ac Aj->Prop:=Je BB
theorem AZ.length(r:AZ xs us):xs.length=us.length:=Yk r
theorem AZ.get:∀{xs:Ac V}{us:Ac Aj}{i:Ag}{x:V},AZ xs us->xs[i]?=Aa x->∃ u,us[i]?=Aa u/\BB x u
 |_,_,_,_,.nil,e=>by simp at e
 |_,_,0,_,.cons r _,e=>by simp at e;subst e;exact⟨_,rfl,r⟩
 |_,_,i+1,x,.cons _ t,e=>by
  obtain⟨u,h1,h2⟩:=AZ.get (i:=i) (x:=x) t (by simpa using e)
  exact⟨u,by simpa using h1,h2⟩
theorem AZ.set(r:BB x u):∀{xs:Ac V}{us:Ac Aj}(i:Ag),AZ xs us->AZ (xs.set i x) (us.set i u)
 |_,_,_,.nil=>.nil
 |_,_,0,.cons _ t=>.cons r t
 |_,_,i+1,.cons q t=>.cons q (AZ.set r i t)
theorem AZ.append:∀{xs ys:Ac V}{us ws:Ac Aj},AZ xs us->AZ ys ws->AZ (xs++ys) (us++ws)
 |_,_,_,_,.nil,s=>s
 |_,_,_,_,.cons r t,s=>.cons r (AZ.append t s)
theorem AZ.take:∀{xs:Ac V}{us:Ac Aj}(n:Ag),AZ xs us->AZ (xs.take n) (us.take n)
 |_,_,0,_=>.nil
 |_,_,_+1,.nil=>.nil
 |_,_,n+1,.cons r t=>.cons r (AZ.take n t)
theorem AZ.drop:∀{xs:Ac V}{us:Ac Aj}(n:Ag),AZ xs us->AZ (xs.drop n) (us.drop n)
 |_,_,0,r=>r
 |_,_,_+1,.nil=>.nil
 |_,_,n+1,.cons _ t=>AZ.drop n t
theorem AZ.none_of:∀{xs:Ac V}{us:Ac Aj}{i:Ag},AZ xs us->xs[i]?=Ae->us[i]?=Ae:=λ{xs us i} r e=>by
 have h1:=r.length;have h2:xs.length<=i:=List.getElem?_eq_none_iff.mp e;exact List.getElem?_eq_none_iff.mpr (by lia)
def JY:Am V->Am Aj->Prop
 |some v,Aa u=>BB v u
 |none,Ae=>HV
 |_,_=>AN
def KV{κ:Type}:Ac (κ×V)->Ac (κ×Aj)->Prop:=Je fun(p:κ×V)(q:κ×Aj)=>p.1=q.1/\BB p.2 q.2
noncomputable def kV:Key->V
 |.inl i=>.int i
 |.inr x=>.str x
inductive HO where
 |L (xs:Ac V)
 |H (xs:Ac V)
 |dK (kvs:Ac (Key×V))|dT (kvs:Ac (Ac Key×V))
 |set (S:Ai->Ao) (n:Ag)
 |ins (C dx:Ak) (fs:Ac (Ah×V))
 |own (x:Ak)
 |xd (fs:Ac (Ah×V))
 |met (f x:Ak)
 |rng (lo hi:Ai)
 |frz (o:CD) (u:HO)
 |tbl (ps:A3 Aj)
 |ext (φ:AC->Prop)
abbrev Hp:=Ak->Am HO
noncomputable def upd(H:Hp)(a:Ak)(o:HO):Hp:=λb=>if b=a then Aa o else H b
theorem B1:upd H a o a=Aa o:=by unfold upd;rw[Au rfl]
theorem AW(h:b≠a):upd H a o b=H b:=by unfold upd;rw[AA h]
theorem TM:upd (upd H a o) a u=upd H a u:=by
 funext b;unfold upd;split<;>rfl
theorem Fe{H:Hp}(h:H a=Aa o)(h':H b=Ae):a≠b:=by
 intro e;subst e;rw[h]at h';cases h'
section
variable(P:AG)(w:AD)
def ObjOk(H:Hp)(h:AC)(a:Ak):HO->Prop
  |.L xs=>xs.length<=sizeLine/\∃(its:Ac Aj)(n:Ag),AZ xs its/\h.get? a=Aa { cls:=.type "list",data:=.seq its.toArray n }
  |.H xs=>xs.length<=sizeLine/\∃ its:Ac Aj,AZ xs its/\L7 h a its.toArray
  |.dK kvs=>kvs.length<=sizeLine/\(a==Hn)=Ad/\∃ vs,KV kvs vs/\h.DictOf (Qp P w) a vs
  |.dT kvs=>kvs.length<=sizeLine/\(a==Hn)=Ad/\∃ xs:Ac (Ac Key×Ak×Aj),
      Je (fun(p:Ac Key×V)(q:Ac Key×Ak×Aj)=>p.1=q.1/\H q.2.1=Aa (.H (p.1.map kV))/\BB p.2 q.2.2) kvs xs /\
      ∃ o es ep,h.get? a=Aa o/\o.ExactDict/\o.data=.dict es ep/\es.toList=xs.map (entryOfKey (tupleKind (Qp P w)))/\(xs.map (·.1)).Nodup
  |.set S n=>h.SetOf (intKind P w) a S n
  |.ins C dx fs=>H dx=Aa (.own a)/\fs.length<=1000/\dx≠a/\h.get? a=Aa (DJ C dx) /\
      ∃ mA,h.Ns1 dx mA/\(∀ f,JY (fs.lookup f) (mA f))/\K2 mA (fs.map (·.1))
  |.own _=>∃ o,h.get? a=Aa o
  |.xd fs=>∃ mA,h.Ns1 a mA/\∀ f,JY (fs.lookup f) (mA f)
  |.rng lo hi=>∃ t u v,h.get? a=Aa { cls:=.type "range",data:=.fields #[.int lo t,.int hi u,.int 1 v] }
  |.frz o u=>h.get? a=Aa o/\ObjOk H h a u
  |.tbl ps=>h.get? a=Aa {cls:=.none,data:=.fields ps}
  |.met f x=>h.get? a=Aa (IR (.ref f) (.ref x))
  |.ext φ=>φ h/\(∃ o,h.get? a=Aa o)/\∀ h1 h2:AC,φ h1->(∀ o,h1.get? a=Aa o->h2.get? a=Aa o)->φ h2
def yj(H:Hp)(h:AC):Prop:=∀ a o,H a=Aa o->ObjOk P w H h a o
end
section
variable{a:Ak}
theorem ObjOk.lt(x:ObjOk P w H h a o):a<h.objs.size:=by
 cases o with
 |L xs=>obtain⟨_,_,_,_,e⟩:=x;exact AF e
 |H xs=>obtain⟨_,_,_,p⟩:=x;exact p.lt
 |dK kvs=>obtain⟨_,_,_,_,o,_,_,e,_⟩:=x;exact AF e
 |dT kvs=>obtain⟨_,_,_,_,o,_,_,e,_⟩:=x;exact AF e
 |set S n=>obtain⟨o,_,_,_,e,_⟩:=x;exact AF e
 |ins C dx fs=>obtain⟨_,_,_,e,_⟩:=x;exact AF e
 |own y=>obtain⟨_,e⟩:=x;exact AF e
 |xd fs=>obtain⟨_,⟨_,_,_,e,_⟩,_⟩:=x;exact AF e
 |rng lo hi=>obtain⟨_,_,_,e⟩:=x;exact AF e
 |frz ob u=>obtain⟨e,_⟩:=x;exact AF e
 |tbl ps=>exact AF (show h.get? a=Aa _ from x)
 |met f y=>exact AF (show h.get? a=Aa _ from x)
 |ext φ=>obtain⟨_,⟨_,e⟩,_⟩:=x;exact AF e
theorem Je.mapP:∀{l₁:Ac α}{l₂:Ac β},Je F l₁ l₂->(∀ a b,F a b->G a b)->Je G l₁ l₂
 |_,_,.nil,_=>.nil
 |_,_,.cons r t,f=>.cons (f _ _ r) (Je.mapP t f)
theorem ObjOk.stay(x:ObjOk P w H h a o)(k:∀ b u,(b=a\/H b=Aa (.own a))->h.get? b=Aa u->h'.get? b=Aa u)(ho:∀ b,H b=Aa (.own a)->H' b=Aa (.own a))(ht:∀ b xs,H b=Aa (.H xs)->H' b=Aa (.H xs)):ObjOk P w H' h' a o:=by
 induction o with
 |L xs=>obtain⟨z,its,n,r,e⟩:=x;exact⟨z,its,n,r,k _ _ (.inl rfl) e⟩
 |H xs=>obtain⟨z,its,r,ob,e,c⟩:=x;exact⟨z,its,r,ob,k _ _ (.inl rfl) e,c⟩
 |dK kvs=>obtain⟨z,y,vs,r,ob,es,ep,e,c⟩:=x;exact⟨z,y,vs,r,ob,es,ep,k _ _ (.inl rfl) e,c⟩
 |dT kvs=>
  obtain⟨z,y,xs,r,ob,es,ep,e,c⟩:=x;exact⟨z,y,xs,Je.mapP r λp q z=>⟨z.1,ht _ _ z.2.1,z.2.2⟩,ob,es,ep,k _ _ (.inl rfl) e,c⟩
 |set S n=>obtain⟨ob,es,ep,t,e,c⟩:=x;exact⟨ob,es,ep,t,k _ _ (.inl rfl) e,c⟩
 |ins C dx fs=>
  obtain⟨d,z,ne,e,mA,⟨od,es,ep,e2,c⟩,r⟩:=x;exact⟨ho _ d,z,ne,k _ _ (.inl rfl) e,mA,⟨od,es,ep,k _ _ (.inr d) e2,c⟩,r⟩
 |own y=>obtain⟨ob,e⟩:=x;exact⟨ob,k _ _ (.inl rfl) e⟩
 |xd fs=>obtain⟨mA,⟨od,es,ep,e,c⟩,r⟩:=x;exact⟨mA,⟨od,es,ep,k _ _ (.inl rfl) e,c⟩,r⟩
 |rng lo hi=>obtain⟨t,u,v,e⟩:=x;exact⟨t,u,v,k _ _ (.inl rfl) e⟩
 |frz ob u ih=>obtain⟨e,q⟩:=x;exact⟨k _ _ (.inl rfl) e,ih q⟩
 |tbl ps=>
  have e:h.get? a=Aa {cls:=.none,data:=.fields ps}:=x;show h'.get? a=Aa {cls:=.none,data:=.fields ps};exact k a _ (.inl rfl) e
 |met f y=>
  have e:h.get? a=Aa (IR (.ref f) (.ref y)):=x;show h'.get? a=Aa (IR (.ref f) (.ref y));exact k a _ (.inl rfl) e
 |ext φ=>obtain⟨p,⟨o,e⟩,st⟩:=x;exact⟨st _ _ p λo q=>k _ _ (.inl rfl) q,⟨o,k _ _ (.inl rfl) e⟩,st⟩
theorem yj.lt(x:yj P w H h)(e:H a=Aa o):a<h.objs.size:=(x a o e).lt
theorem yj.fresh(x:yj P w H h)(e:h.objs.size<=a):H a=Ae:=by
 cases q:H a with
 |none=>rfl
 |some u=>exact absurd (AS (x.lt q) e) (Bl _)
theorem yj.kept(x:yj P w H h)(k:∀ b u,h.get? b=Aa u->h'.get? b=Aa u):yj P w H h':=λa o e=>
 (x a o e).stay (λb u _ q=>k b u q) (λ_ q=>q) λ_ _ q=>q
theorem yj.laid(x:yj P w H h)(k:∀ b u,h.get? b=Aa u->h'.get? b=Aa u)(hp:h.objs.size<=a)(new:ObjOk P w (upd H a o) h' a o):yj P w (upd H a o) h':=λb u e=>by
 have hn:=x.fresh hp;by_cases hb:b=a
 .subst hb;rw[B1]at e;cases e;exact new
 .rw[AW hb]at e;exact(x b u e).stay (λc v _ q=>k c v q) (λc q=>by rw[AW (Fe q hn)];exact q) λc xs q=>by rw[AW (Fe q hn)];exact q
end
def Rd(H:Hp)(a:Ak)(u:HO):Prop:=H a=Aa u\/∃ o,H a=Aa (.frz o u)
theorem Rd.of(h:H a=Aa u):Rd H a u:=.inl h
theorem Rd.ok(r:Rd H a u)(x:yj P w H h):ObjOk P w H h a u:=by
 rcases r with r|⟨o,r⟩
 .exact x a u r
 .obtain⟨_,q⟩:=x a _ r;exact q
def ţ:Am HO->Prop
 |some (.L _)=>HV
 |some (.dK _)=>HV
 |some (.dT _)=>HV
 |some (.set _ _)=>HV
 |some (.ins _ _ _)=>HV
 |some (.ext _)=>HV
 |_=>AN
theorem yj.write(ok:yj P w H h)(mu:ţ (H x))(he:e=x\/H e=Aa (.own x))(k:∀ b u,b≠e->h.get? b=Aa u->h'.get? b=Aa u)(ð:∃ u,h'.get? e=Aa u)(new:ObjOk P w (upd H x o') h' x o'):yj P w (upd H x o') h':=λb u q=>by
 have Ϸ:∀ c y,H c=Aa (.own y)->c≠x:=λc y r z=>by subst z;rw[r]at mu;exact mu
 have ntup:∀ c xs,H c=Aa (.H xs)->c≠x:=λc xs r z=>by subst z;rw[r]at mu;exact mu
 by_cases hb:b=x
 .subst hb;rw[B1]at q;cases q;exact new
 .rw[AW hb]at q;by_cases hbe:b=e
  .have q':H b=Aa (.own x):=by
    rcases he with z|z
    .exact absurd (hbe.trans z) hb
    .rw[hbe];exact z
   rw[q]at q';cases q';obtain⟨v,hv⟩:=ð;exact⟨v,by rw[hbe];exact hv⟩
  .refine(ok b u q).stay (λc v hc r=>k c v ?_ r) (λc r=>by rw[AW (Ϸ c b r)];exact r) λc xs r=>by rw[AW (ntup c xs r)];exact r
   rcases hc with rfl|hc
   .exact hbe
   .rintro rfl;rcases he with z|z
    .exact Ϸ c b hc z
    .rw[hc]at z;cases z;exact hb rfl
structure Un (fs ex:Ac Ak) (H H':Hp) (h h':AC):Prop where
 keep:∀ b o,h.get? b=Aa o->H b=Ae->b∉fs->b∉ex->h'.get? b=Aa o
 slot:∀ b o,h.get? b=Aa o->H b=Ae->b∈fs->b∉ex->∃ sl,h'.get? b=Aa {o with slots:=sl}
 free:∀ b o,h.get? b=Aa o->H b=Ae->b∉ex->H' b=Ae
 there:∀ b o,h.get? b=Aa o->b∉ex->∃ o',h'.get? b=Aa o'
 tups:∀ b xs,H b=Aa (.H xs)->H' b=Aa (.H xs)
 frzs:∀ b o u,H b=Aa (.frz o u)->H' b=Aa (.frz o u)
 tbls:∀ b ps,H b=Aa (.tbl ps)->∃ more,H' b=Aa (.tbl (ps++more))
section
variable{h:AC}{a:Ak}
theorem Un.any(u:Un fs ex H H1 h h1)(q:h.get? b=Aa ob)(n:H b=Ae)(hx:b∉ex):∃ sl,h1.get? b=Aa {ob with slots:=sl}:=by
 by_cases hb:b∈fs
 .exact u.slot b ob q n hb hx
 .exact⟨ob.slots,u.keep b ob q n hb hx⟩
theorem Un.trans(a:Un fs ex H H1 h h1)(b:Un fs ex H1 H2 h1 h2):Un fs ex H H2 h h2 where
 keep:=λc ob q n hc hx=>b.keep c ob (a.keep c ob q n hc hx) (a.free c ob q n hx) hc hx
 slot:=λc ob q n hc hx=>by
  obtain⟨sl,e1⟩:=a.slot c ob q n hc hx;obtain⟨t7,e2⟩:=b.slot c _ e1 (a.free c ob q n hx) hc hx;exact⟨t7,e2⟩
 free:=λc ob q n hx=>by
  obtain⟨o',e1⟩:=a.there c ob q hx;exact b.free c o' e1 (a.free c ob q n hx) hx
 there:=λc ob q hx=>by
  obtain⟨o',e1⟩:=a.there c ob q hx;exact b.there c o' e1 hx
 tups:=λc xs q=>b.tups c xs (a.tups c xs q)
 frzs:=λc ob xs q=>b.frzs c ob xs (a.frzs c ob xs q)
 tbls:=λc ps q=>by
  obtain⟨m1,e1⟩:=a.tbls c ps q;obtain⟨m2,e2⟩:=b.tbls c _ e1;exact⟨m1++m2,by rw[e2,WJ]⟩
theorem Un.kept(k:∀ b u,h.get? b=Aa u->h'.get? b=Aa u):Un fs ex H H h h':=
 ⟨λb ob q _ _ _=>k b ob q,λb ob q _ _ _=>⟨ob.slots,k b ob q⟩,λ_ _ _ n _=>n,λb ob q _=>⟨ob,k b ob q⟩,λ_ _ q=>q,λ_ _ _ q=>q,λ_ ps q=>⟨#[],by rw[q];simp⟩⟩
theorem Un.refl:Un fs ex H H h h:=Un.kept λ_ _ q=>q
theorem Un.laid(k:∀ b u,h.get? b=Aa u->h'.get? b=Aa u)(hp:h.objs.size<=a)(hn:H a=Ae):Un fs ex H (upd H a o) h h' where
 keep:=λb u q _ _ _=>k b u q
 slot:=λb u q _ _ _=>⟨u.slots,k b u q⟩
 free:=λb u q n _=>by rw[AW (A5 (AS (AF q) hp))];exact n
 there:=λb u q _=>⟨u,k b u q⟩
 tups:=λb xs q=>by rw[AW (Fe q hn)];exact q
 frzs:=λb u xs q=>by rw[AW (Fe q hn)];exact q
 tbls:=λb ps q=>⟨#[],by rw[AW (Fe q hn),q];simp⟩
theorem Un.write(mu:ţ (H x))(he:e=x\/H e=Aa (.own x))(k:∀ b u,b≠e->h.get? b=Aa u->h'.get? b=Aa u)(ð:∃ u,h'.get? e=Aa u):Un fs ex H (upd H x o) h h':=by
 have hx:∀ b,H b=Ae->b≠x:=λb n z=>by subst z;rw[n]at mu;exact mu
 have hb:∀ b,H b=Ae->b≠e:=λb n z=>by
  subst z;rcases he with r|r
  .exact hx b n r
  .rw[n]at r;cases r
 have hm:∀ b u,H b=Aa u->¬ ţ (Aa u)->b≠x:=λb u q nm z=>by subst z;rw[q]at mu;exact nm mu
 refine⟨λb u q n _ _=>k b u (hb b n) q,λb u q n _ _=>⟨u.slots,k b u (hb b n) q⟩,λb u q n _=>by rw[AW (hx b n)];exact n,λb u q _=>?_,
  λb xs q=>by rw[AW (hm b _ q λz=>z)];exact q,λb u xs q=>by rw[AW (hm b _ q λz=>z)];exact q,λb ps q=>⟨#[],by rw[AW (hm b _ q λz=>z),q];simp⟩⟩
 by_cases hbe:b=e
 .subst hbe;exact ð
 .exact⟨u,k b u hbe q⟩
theorem Un.mono(u:Un fs ex H H1 h h1)(hs:∀ b∈fs,b∈fs')(hx:∀ b∈ex,b∈ex'):Un fs' ex' H H1 h h1:=
 ⟨λb ob q n hb he=>u.keep b ob q n (λz=>hb (hs b z)) λz=>he (hx b z),λ_ _ q n _ he=>u.any q n λz=>he (hx _ z),λb ob q n he=>u.free b ob q n λz=>he (hx b z),λb ob q he=>u.there b ob q λz=>he (hx b z),u.tups,u.frzs,u.tbls⟩
end
noncomputable def Ν(h:AC)(H:Hp):Ac Ak:=(B2 h.objs.size).filter λa=>(H a).isSome
def Ku(h:AC)(H:Hp):AC:=PySem.W.hideAll h (Ν h H)
theorem cV(h:AC)(H:Hp):(Ku h H).objs.size=h.objs.size:=PySem.W.hideAll_size _ _
theorem fZ(e:h.get? b=Aa o)(n:H b=Ae):(Ku h H).get? b=Aa o:=
 PySem.W.hideAll_get _ e λhm=>by
  have q:(H b).isSome=Ab:=(List.mem_filter.mp hm).2;rw[n]at q;simp at q
theorem nJ(e:(Ku h H).get? b=Aa o):h.get? b=Aa o/\H b=Ae:=by
 have e':h.get? b=Aa o:=PySem.W.of_hideAll (Ν h H) e;refine⟨e',?_⟩;cases q:H b with
 |none=>rfl
 |some x=>
  have hm:b∈Ν h H:=List.mem_filter.mpr ⟨DT.mpr (AF e'),by simp[q]⟩
  have z:(Ku h H).get? b=Ae:=PySem.W.hideAll_none (Ν h H) hm;rw[z]at e;cases e
noncomputable def oU(g h:AC)(L:Ak):Pn:=(B2 h.objs.size).filterMap λa=>if a=L\/(g.get? a).isSome=Ab then Ae else (h.get? a).map λo=>(a,o)
def rest(g h:AC)(L d:Ak):Pn:=(oU g h L).filter λp=>decide (p.1≠d)
structure Mod (K:Fg) (mg:Ah->Am Aj) (base:AC):Prop where
 kin:K.In base
 glob:base.Ns AJ mg
 blt:∃ mb,base.Ns Kb mb/\∀ x:Ah,x≠"__name__"->mb x=Ds x
 nolimit:base.NoLimit
structure Cx where
 prog:AG
 w:AD
 K:Fg
 mg:Ah->Am Aj
 base:AC
 A:AY
 N:Ac Ah
 s₀:An
 H₀:Hp
 env:B8
 outer:Ac B8
 stack:Ac B8
 ex:Ac Ak
 fn:Ah->Ao
 calm:Ao
 pn:Pn
 xe:Aj->An->Prop
variable{X:Cx}
noncomputable def xx(l:Ac B8):Ac Ak:=l.filterMap (·.frame)
abbrev Cx.fs(X:Cx):Ac Ak:=xx X.outer
def Ŧ(sc:Cf)(x:Ah):Prop:=sc.names.lookup x=Aa .local\/sc.names.lookup x=Aa .cell\/sc.names.lookup x=Aa .free
def þ(sc:Cf)(x:Ah):Prop:=sc.names.lookup x=Aa .local\/sc.names.lookup x=Aa .cell
def ZQ(env:B8)(h:AC)(m:Ah->Am Aj)(x:Ah)(u:Aj):Prop:=
 (env.kindOf x=Aa .local/\m x=Aa u)\/((env.kindOf x=Aa .cell\/env.kindOf x=Aa .free)/\∃ c,env.cells.lookup x=Aa c/\h.IsCell c (Aa u))
structure Cx.Ok (X:Cx):Prop where
 mod:Mod X.K X.mg X.base
 kind:X.env.scope.kind=.function
 glob:X.env.globals=AJ
 blt:X.env.builtins=Kb
 above:X.s₀.heap.objs.size<=X.env.locals
 inj:∀ x y c,X.env.cells.lookup x=Aa c->X.env.cells.lookup y=Aa c->x=y
 has:∀ x,(X.env.kindOf x=Aa .cell\/X.env.kindOf x=Aa .free)->∃ c,X.env.cells.lookup x=Aa c
 cab:∀ x c,X.fn x=Ab->X.env.cells.lookup x=Aa c->X.s₀.heap.objs.size<=c
 hd:X.calm=Ab->X.A.handled=Ae
 frames:X.A.frames=Aa X.stack
 stk:X.stack=X.outer\/(X.stack=X.env::X.outer/\X.env.frame=Aa X.env.locals)
 exf:∀ b∈X.ex,b≠X.env.locals/\∀ x c,X.env.cells.lookup x=Aa c->c≠b
 bs:∀ b o,X.base.get? b=Aa o->X.s₀.heap.get? b=Aa o/\X.H₀ b=Ae
 bsz:X.base.objs.size<=X.s₀.heap.objs.size
 noex:∀ b o,X.base.get? b=Aa o->b∉X.ex
 exfs:∀ b∈X.ex,b∉X.fs
 funs:X.s₀.heap.FunFrames X.base X.outer
 frf:∀ b∈X.fs,X.H₀ b=Ae
structure Y8 (X:Cx) (pI:Pn) (U:Ac (Am V)) (H:Hp) (s:An):Prop where
 ok:X.Ok
 os:s.os=X.s₀.os
 bare:Gr s.gens
 base:Un X.fs X.ex X.H₀ H X.s₀.heap s.heap
 loc:∃ m,s.heap.Ns X.env.locals m/\∀(i:Ag)(x:Ah)(v:V),X.N[i]?=Aa x->U[i]?=Aa (Aa v)->Ŧ X.env.scope x->∃ u,BB v u/\ZQ X.env s.heap m x u
 cell:∀ x c,X.env.cells.lookup x=Aa c->∃ v,s.heap.IsCell c v
 free:H X.env.locals=Ae
 freeC:∀ x c,X.env.cells.lookup x=Aa c->H c=Ae
 pin:∀ p∈X.pn++pI,s.heap.get? p.1=Aa p.2/\H p.1=Ae/\p.1≠X.env.locals/\p.1∉X.fs/\∀ v,p.2.data≠.cell v
 hok:yj X.prog X.w H s.heap
 len:U.length=X.N.length
theorem Cx.Ok.nofr{X:Cx}(ok:X.Ok)(e:X.base.get? b=Aa o):b∉X.fs:=λhb=>by
 have:=(ok.funs.mem hb).1;rw[e]at this;cases this
theorem Y8.bs(I:Y8 X pI U H s):∀ b o,X.base.get? b=Aa o->s.heap.get? b=Aa o/\H b=Ae:=λb o e=>
 ⟨I.base.keep b o (I.ok.bs b o e).1 (I.ok.bs b o e).2 (I.ok.nofr e) (I.ok.noex b o e),I.base.free b o (I.ok.bs b o e).1 (I.ok.bs b o e).2 (I.ok.noex b o e)⟩
theorem Y8.bk(I:Y8 X pI U H s):∀ b o,X.base.get? b=Aa o->s.heap.get? b=Aa o:=λb o e=>(I.bs b o e).1
theorem Y8.mod(I:Y8 X pI U H s):Mod X.K X.mg X.base:=I.ok.mod
theorem Y8.kIn(I:Y8 X pI U H s):X.K.In s.heap:=I.ok.mod.kin.keeps I.bk
theorem Y8.nolimit(I:Y8 X pI U H s):s.heap.NoLimit:=I.ok.mod.nolimit.keeps I.bk
theorem Y8.fr(I:Y8 X pI U H s):∃ m,Fr X.base X.env.locals s.heap m:=
 let ⟨m,hn,_⟩:=I.loc
 ⟨m,hn,I.bk,BF I.ok.bsz I.ok.above⟩
theorem Y8.lt(I:Y8 X pI U H s):X.env.locals<s.heap.objs.size:=let ⟨_,hn,_⟩:=I.loc;hn.lt
theorem Y8.sz(I:Y8 X pI U H s):X.s₀.heap.objs.size<=s.heap.objs.size:=BF I.ok.above (E7 I.lt)
theorem Y8.nofs(I:Y8 X pI U H s)(h:s.heap.objs.size<=a):a∉X.fs:=λhb=>by
 obtain⟨_,o,ho,_⟩:=I.ok.funs.mem hb;exact absurd (AS (AF ho) (BF I.sz h)) (Bl _)
theorem Y8.cne(I:Y8 X pI U H s):∀ x c,X.env.cells.lookup x=Aa c->c≠X.env.locals:=λx c e z=>by
 obtain⟨v,o,ho,hd⟩:=I.cell x c e;obtain⟨m,⟨o',es,ep,jx,Ϣ,_⟩,_⟩:=I.loc;rw[z,jx]at ho;cases ho;rw[Ϣ]at hd;cases hd
theorem Y8.funs(I:Y8 X pI U H s):s.heap.FunFrames X.base X.outer:=by
 have all:∀(l:Ac B8),(∀ b∈xx l,b∈X.fs)->X.s₀.heap.FunFrames X.base l->s.heap.FunFrames X.base l:=by
  intro l
  induction l with
  |nil=>intro _ _;trivial
  |cons env r ih=>
   intro hs hl;obtain⟨hk,⟨L,o,hf,hn,ho,hd⟩,hr⟩:=hl;have hL:L∈X.fs:=hs L (by unfold xx;rw[HF,hf];exact AR)
   obtain⟨sl,e⟩:=I.base.slot L o ho (I.ok.frf L hL) hL λz=>I.ok.exfs L z hL
   exact⟨hk,⟨L,_,hf,hn,e,hd⟩,ih (λb hb=>hs b (by unfold xx;rw[HF,hf];exact Ay _ hb)) hr⟩
 exact all X.outer (λ_ hb=>hb) I.ok.funs
theorem Y8.stack(I:Y8 X pI U H s):s.heap.FunFrames X.base X.stack:=by
 rcases I.ok.stk with e|⟨e,hf⟩
 .rw[e];exact I.funs
 .rw[e];obtain⟨m,hn,_⟩:=I.loc;refine .cons (by rw[I.ok.kind];decide) hf hn ?_ I.funs
  exact DH (BF I.ok.bsz I.ok.above)
theorem Y8.stkSub(I:Y8 X pI U H s):∀ b∈xx X.stack,b∈X.env.locals::X.fs:=λb hb=>by
 rcases I.ok.stk with e|⟨e,hf⟩
 .rw[e]at hb;exact Ay _ hb
 .rw[e]at hb;unfold xx at hb;rw[HF,hf]at hb;exact hb
theorem Y8.stkFree(I:Y8 X pI U H s):∀ b∈xx X.stack,H b=Ae:=λb hb=>by
 rcases AE.mp (I.stkSub b hb) with e|hb
 .rw[e];exact I.free
 .obtain⟨_,o,ho,_⟩:=I.ok.funs.mem hb;exact I.base.free b o ho (I.ok.frf b hb) λz=>I.ok.exfs b z hb
theorem Y8.step(I:Y8 X pI U H s)(sk:∀ b∈ch,(b∈X.ex\/X.s₀.heap.objs.size<=b)/\b≠X.env.locals/\(∀ x c,X.env.cells.lookup x=Aa c->c≠b)/\∀ p∈X.pn++pI,p.1≠b)(keep:∀ b o,b≠X.env.locals->b∉X.fs->b∉ch->s.heap.get? b=Aa o->H b=Ae->h'.get? b=Aa o)(slot:∀ b o,b≠X.env.locals->b∈X.fs->b∉ch->s.heap.get? b=Aa o->H b=Ae->∃ sl,h'.get? b=Aa {o with slots:=sl})(free:∀ b o,b∉ch->s.heap.get? b=Aa o->H b=Ae->H' b=Ae)(there:∀ b o,b∉ch->s.heap.get? b=Aa o->∃ o',h'.get? b=Aa o')(tups:∀ b xs,H b=Aa (.H xs)->H' b=Aa (.H xs))(frzs:∀ b o u,H b=Aa (.frz o u)->H' b=Aa (.frz o u))(tbls:∀ b ps,H b=Aa (.tbl ps)->∃ more,H' b=Aa (.tbl (ps++more)))(ns:∀ m,s.heap.Ns X.env.locals m->h'.Ns X.env.locals m)(hok:yj X.prog X.w H' h')(hg:Gr g'):Y8 X pI U H' {s with heap:=h',gens:=g',drawn:=d',toks:=t'}:=by
 have neL:∀ b o,X.s₀.heap.get? b=Aa o->b≠X.env.locals:=λb o e=>A5 (AS (AF e) I.ok.above)
 have Ÿ:∀ b o,X.s₀.heap.get? b=Aa o->b∉X.ex->b∉ch:=λb o e hx hb=>by
  rcases (sk b hb).1 with z|z
  .exact hx z
  .exact absurd (AS (AF e) z) (Bl _)
 have cellK:∀ x c,X.env.cells.lookup x=Aa c->∀ v,s.heap.IsCell c v->h'.IsCell c v:=λx c e v ⟨o,ho,hd⟩=>by
  have ϳ:c∉ch:=λz=>(sk c z).2.2.1 x c e rfl
  by_cases hc:c∈X.fs
  .obtain⟨sl,q⟩:=slot c o (I.cne x c e) hc ϳ ho (I.freeC x c e);exact⟨_,q,hd⟩
  .exact⟨o,keep c o (I.cne x c e) hc ϳ ho (I.freeC x c e),hd⟩
 refine⟨I.ok,I.os,hg,⟨λb o e n hb hx=>?_,λb o e n hb hx=>?_,λb o e n hx=>?_,λb o e hx=>?_,λb xs e=>tups b xs (I.base.tups b xs e),λb o xs e=>frzs b o xs (I.base.frzs b o xs e),λb ps e=>?_⟩,?_,λx c e=>?_,?_,λx c e=>?_,λp hp=>?_,hok,I.len⟩
 .exact keep b o (neL b o e) hb (Ÿ b o e hx) (I.base.keep b o e n hb hx) (I.base.free b o e n hx)
 .obtain⟨sl,e1⟩:=I.base.slot b o e n hb hx;obtain⟨t7,e2⟩:=slot b _ (neL b o e) hb (Ÿ b o e hx) e1 (I.base.free b o e n hx);exact⟨t7,e2⟩
 .obtain⟨o',e1⟩:=I.base.there b o e hx;exact free b o' (Ÿ b o e hx) e1 (I.base.free b o e n hx)
 .obtain⟨o',e1⟩:=I.base.there b o e hx;exact there b o' (Ÿ b o e hx) e1
 .obtain⟨m1,e1⟩:=I.base.tbls b ps e;obtain⟨m2,e2⟩:=tbls b _ e1;exact⟨m1++m2,by rw[e2,WJ]⟩
 .obtain⟨m,hn,hl⟩:=I.loc;refine⟨m,ns m hn,λi x v e1 e2 e3=>?_⟩
  obtain⟨u,r,l⟩:=hl i x v e1 e2 e3;refine⟨u,r,?_⟩;rcases l with l|⟨k,c,e,z⟩
  .exact .inl l
  .exact .inr ⟨k,c,e,cellK x c e _ z⟩
 .obtain⟨v,z⟩:=I.cell x c e;exact⟨v,cellK x c e v z⟩
 .obtain⟨m,⟨o,_,_,ho,_⟩,_⟩:=I.loc;exact free _ o (λz=>(sk _ z).2.1 rfl) ho I.free
 .obtain⟨v,o,ho,hd⟩:=I.cell x c e;exact free c o (λz=>(sk c z).2.2.1 x c e rfl) ho (I.freeC x c e)
 .obtain⟨e,n,ne,nf,d⟩:=I.pin p hp;have ϳ:p.1∉ch:=λz=>(sk p.1 z).2.2.2 p hp rfl
  exact⟨keep p.1 p.2 ne nf ϳ e n,free p.1 p.2 ϳ e n,ne,nf,d⟩
theorem Y8.un(I:Y8 X pI U H s)(u:Un X.fs [] H H' s.heap h')(hok:yj X.prog X.w H' h'):Y8 X pI U H' {s with heap:=h',toks:=t'}:=by
 obtain⟨m,⟨o,es,ep,ho,r⟩,_⟩:=id I.loc;obtain⟨sl,hL⟩:=u.any ho I.free (by simp)
 exact I.step (g':=s.gens) (d':=s.drawn) (ch:=[]) (λ_ z=>nomatch z) (λb o _ hb _ e n=>u.keep b o e n hb (by simp)) (λb o _ hb _ e n=>u.slot b o e n hb (by simp)) (λb o _ e n=>u.free b o e n (by simp)) (λb o _ e=>u.there b o e (by simp)) u.tups u.frzs u.tbls (λm' hm=>by
  obtain⟨o',τ,ì,jx,r'⟩:=hm;rw[ho]at jx;cases jx;exact⟨_,τ,ì,hL,r'⟩) hok I.bare
theorem Y8.call(I:Y8 X pI U H s)(u:Un (xx X.stack) ch H H' s.heap h')(hok:yj X.prog X.w H' h')(hg:Gr g')(sk:∀ b∈ch,(b∈X.ex\/X.s₀.heap.objs.size<=b)/\b≠X.env.locals/\(∀ x c,X.env.cells.lookup x=Aa c->c≠b)/\∀ p∈X.pn++pI,p.1≠b):Y8 X pI U H' {s with heap:=h',gens:=g',drawn:=d',toks:=t'}:=by
 obtain⟨m,⟨o,es,ep,ho,r⟩,_⟩:=id I.loc;obtain⟨sl,hL⟩:=u.any ho I.free λz=>(sk _ z).2.1 rfl
 exact I.step (ch:=ch) sk (λb o hL hb hc e n=>u.keep b o e n (λz=>(AE.mp (I.stkSub b z)).elim hL hb) hc) (λb o _ _ hc e n=>u.any e n hc) (λb o hc e n=>u.free b o e n hc) (λb o hc e=>u.there b o e hc) u.tups u.frzs u.tbls (λm' hm=>by
  obtain⟨o',τ,ì,jx,r'⟩:=hm;rw[ho]at jx;cases jx;exact⟨_,τ,ì,hL,r'⟩) hok hg
theorem Y8.turned(I:Y8 X pI U H s)(k:∀ b o,b≠it->s.heap.get? b=Aa o->h'.get? b=Aa o)(hn:H it=Ae)(hL:it≠X.env.locals)(h1:it∈X.ex\/X.s₀.heap.objs.size<=it)(h2:∀ x c,X.env.cells.lookup x=Aa c->c≠it)(h3:∀ p∈X.pn++pI,p.1≠it):Y8 X pI U H {s with heap:=h',toks:=t'}:=by
 have ϴ:∀ b u,H b=Aa u->b≠it:=λb u e z=>by rw[z,hn]at e;cases e
 refine I.step (g':=s.gens) (d':=s.drawn) (ch:=[it]) (λb hb=>?_) (λb o _ _ hc e _=>k b o (λz=>hc (by simp[z])) e) (λb o _ _ hc e _=>⟨o.slots,k b o (λz=>hc (by simp[z])) e⟩) (λ_ _ _ _ n=>n)
  (λb o hc e=>⟨o,k b o (λz=>hc (by simp[z])) e⟩) (λ_ _ e=>e) (λ_ _ _ e=>e) (λb ps e=>⟨#[],by rw[e];simp⟩) (λm hm=>?_) (λb u e=>?_) I.bare
 .have e:b=it:=by simpa using hb
  subst e;exact⟨h1,hL,h2,h3⟩
 .obtain⟨o,es,ep,ho,r⟩:=hm;exact⟨o,es,ep,k _ o (CB hL) ho,r⟩
 .refine(I.hok b u e).stay (λc v hc q=>k c v ?_ q) (λ_ q=>q) λ_ _ q=>q
  rcases hc with z|z
  .rw[z];exact ϴ b u e
  .exact ϴ c _ z
theorem Y8.tok(I:Y8 X pI U H s)(t:Ag):Y8 X pI U H {s with toks:=t}:=I.un (h':=s.heap) (t':=t) Un.refl I.hok
theorem Y8.kept(I:Y8 X pI U H s)(k:∀ b u,s.heap.get? b=Aa u->h'.get? b=Aa u):Y8 X pI U H {s with heap:=h',toks:=t'}:=I.un (Un.kept k) (I.hok.kept k)
theorem Y8.laid{a:Ak}(I:Y8 X pI U H s)(k:∀ b u,s.heap.get? b=Aa u->h'.get? b=Aa u)(hp:s.heap.objs.size<=a)(new:ObjOk X.prog X.w (upd H a o) h' a o):Y8 X pI U (upd H a o) {s with heap:=h',toks:=t'}:=I.un (Un.laid k hp (I.hok.fresh hp)) (I.hok.laid k hp new)
theorem Y8.write(I:Y8 X pI U H s)(mu:ţ (H x))(he:e=x\/H e=Aa (.own x))(k:∀ b u,b≠e->s.heap.get? b=Aa u->h'.get? b=Aa u)(ð:∃ u,h'.get? e=Aa u)(new:ObjOk X.prog X.w (upd H x o) h' x o):Y8 X pI U (upd H x o) {s with heap:=h',toks:=t'}:=I.un (Un.write mu he k ð) (I.hok.write mu he k ð new)
theorem Y8.weak(I:Y8 X pI U H s)(hl:U'.length=U.length)(w:∀(i:Ag) v,U'[i]?=Aa (Aa v)->U[i]?=Aa (Aa v)):Y8 X pI U' H s:=
 ⟨I.ok,I.os,I.bare,I.base,let ⟨m,hn,jr⟩:=I.loc;⟨m,hn,λi x v e1 e2 e3=>jr i x v e1 (w i v e2) e3⟩,I.cell,I.free,I.freeC,I.pin,I.hok,hl.trans I.len⟩
theorem Y8.pins_of(I:Y8 X pI U H s)(h:∀ p∈zo,s.heap.get? p.1=Aa p.2/\H p.1=Ae/\p.1≠X.env.locals/\p.1∉X.fs/\∀ v,p.2.data≠.cell v):Y8 X zo U H s:=
 ⟨I.ok,I.os,I.bare,I.base,I.loc,I.cell,I.free,I.freeC,λp hp=>(Hg.mp hp).elim (λz=>I.pin p (Hh _ z)) (h p),I.hok,I.len⟩
theorem Qi{N:Ac Ah}(hN:N.Nodup){j:Ag}(a:N[i]?=Aa x)(b:N[j]?=Aa x):i=j:=by
 obtain⟨h1,e1⟩:=A8.mp a;obtain⟨h2,e2⟩:=A8.mp b;exact(List.getElem_inj hN).mp (e1.trans e2.symm)
theorem Sb{E:Vq}(I:Y8 X pI U H s)(hN:X.N.Nodup)(hi:X.N[i]?=Aa x)(hx:þ X.env.scope x)(r:BB v u)(h:∀ s',Y8 X pI (U.set i (Aa v)) H s'->(∃ a,D6 a s.heap s'.heap/\(a=X.env.locals\/X.env.cells.lookup x=Aa a))->Q () s')(hf:X.fn x=Ab\/X.env.scope.names.lookup x=Aa .local:=by first|exact .inl rfl|exact .inr rfl|assumption):Av M A (storeName X.env x u) Q E s:=by
 obtain⟨m,hn,hl⟩:=id I.loc;have hcls:(X.env.scope.kind==.class||(X.env.scope.kind==.module&&X.env.locals != X.env.globals))=Ad:=by rw[I.ok.kind];rfl
 have hiσ:i<U.length:=by rw[I.len];exact(A8.mp hi).1
 have cne:=I.cne;have tracked:∀{a:Ak}{h':AC},(∃ o,s.heap.get? a=Aa o/\H a=Ae)->D6 a s.heap h'->yj X.prog X.w H h':=λ{a h'} ha hs b ob e=>by
  obtain⟨_,_,vw⟩:=ha;refine(I.hok b ob e).stay (λc w' hc q=>(hs.2 c ?_).trans q) (λ_ q=>q) λ_ _ q=>q
  rintro rfl;rcases hc with rfl|hc
  .rw[vw]at e;cases e
  .rw[vw]at hc;cases hc
 rcases hx with hk|hk
 .refine wpAny_storeName_local hk hn (λh' ϩ hs=>?_) hcls
  obtain⟨oL,_,_,hoL,_⟩:=id hn;refine h _ ⟨I.ok,I.os,I.bare,⟨λb o e n hb hx=>?_,λb o e n hb hx=>?_,I.base.free,λb o e hx=>?_,I.base.tups,I.base.frzs,I.base.tbls⟩,⟨_,ϩ,λj y v' e1 e2 e3=>?_⟩,λy c e=>?_,I.free,I.freeC,λp hp=>?_,tracked ⟨oL,hoL,I.free⟩ hs,by simpa using I.len⟩ ⟨_,hs,.inl rfl⟩
  .exact(hs.2 b (A5 (AS (AF e) I.ok.above))).trans (I.base.keep b o e n hb hx)
  .obtain⟨sl,e1⟩:=I.base.slot b o e n hb hx;exact⟨sl,(hs.2 b (A5 (AS (AF e) I.ok.above))).trans e1⟩
  .obtain⟨o',e1⟩:=I.base.there b o e hx;exact⟨o',(hs.2 b (A5 (AS (AF e) I.ok.above))).trans e1⟩
  .by_cases hj:j=i
   .subst hj;rw[hi]at e1;cases e1;rw[Dr hiσ]at e2;cases e2;exact⟨u,r,.inl ⟨hk,by simp⟩⟩
   .rw[Hf (CB hj)]at e2;obtain⟨u',r',q⟩:=hl j y v' e1 e2 e3;refine⟨u',r',?_⟩;rcases q with ⟨k,e⟩|⟨k,c,e,z⟩
    .refine .inl ⟨k,?_⟩;have:y≠x:=λe=>hj (Qi hN e1 (e ▸ hi))
     simp[this,e]
    .exact .inr ⟨k,c,e,z.sameBut hs (cne y c e)⟩
  .obtain⟨w',z⟩:=I.cell y c e;exact⟨w',z.sameBut hs (cne y c e)⟩
  .obtain⟨e,n,ne,nf,d⟩:=I.pin p hp;exact⟨(hs.2 p.1 ne).trans e,n,ne,nf,d⟩
 .have ϥ:X.fn x=Ab:=by
   rcases hf with z|z
   .exact z
   .rw[z]at hk;cases hk
  obtain⟨c,hc⟩:=I.ok.has x (.inl hk);obtain⟨w',z⟩:=I.cell x c hc;refine wpAny_storeName_cell I.ok.kind hk hc z (λh' lh hs=>?_)
  obtain⟨oc,ű,hocd⟩:=id z;refine h {s with heap:=h'} ⟨I.ok,I.os,I.bare,⟨λb o e n hb hx=>?_,λb o e n hb hx=>?_,I.base.free,λb o e hx=>?_,I.base.tups,I.base.frzs,I.base.tbls⟩,⟨m,hn.sameBut hs (CB (cne x c hc)),λj y v' e1 e2 e3=>?_⟩,λy c' e=>?_,I.free,I.freeC,λp hp=>?_,tracked ⟨oc,ű,I.freeC x c hc⟩ hs,by simpa using I.len⟩ ⟨c,hs,.inr hc⟩
  .exact(hs.2 b (A5 (AS (AF e) (I.ok.cab x c ϥ hc)))).trans (I.base.keep b o e n hb hx)
  .obtain⟨sl,e1⟩:=I.base.slot b o e n hb hx;exact⟨sl,(hs.2 b (A5 (AS (AF e) (I.ok.cab x c ϥ hc)))).trans e1⟩
  .obtain⟨o',e1⟩:=I.base.there b o e hx;exact⟨o',(hs.2 b (A5 (AS (AF e) (I.ok.cab x c ϥ hc)))).trans e1⟩
  .by_cases hj:j=i
   .subst hj;rw[hi]at e1;cases e1;rw[Dr hiσ]at e2;cases e2;exact⟨u,r,.inr ⟨.inl hk,c,hc,lh⟩⟩
   .rw[Hf (CB hj)]at e2;obtain⟨u',r',q⟩:=hl j y v' e1 e2 e3;refine⟨u',r',?_⟩;rcases q with q|⟨k,c',e,z'⟩
    .exact .inl q
    .refine .inr ⟨k,c',e,z'.sameBut hs ?_⟩;rintro rfl;exact hj (Qi hN e1 (I.ok.inj _ _ _ e hc ▸ hi))
  .by_cases hcc:c'=c
   .subst hcc;exact⟨_,lh⟩
   .obtain⟨w2,z2⟩:=I.cell y c' e;exact⟨w2,z2.sameBut hs hcc⟩
  .obtain⟨e,n,ne,nf,d⟩:=I.pin p hp;refine⟨(hs.2 p.1 ?_).trans e,n,ne,nf,d⟩;intro q;rw[q,ű]at e;have q':oc=p.2:=Bj e;exact d w' (by rw[<-q'];exact hocd)
theorem Qe{E:Vq}(I:Y8 X pI U H s)(hN:X.N.Nodup)(hi:X.N[i]?=Aa x)(hx:þ X.env.scope x)(r:BB v u)(h:∀ s',Y8 X pI (U.set i (Aa v)) H s'->Q () s')(hf:X.fn x=Ab\/X.env.scope.names.lookup x=Aa .local:=by first|exact .inl rfl|exact .inr rfl|assumption):Av M A (storeName X.env x u) Q E s:=
 Sb I hN hi hx r (λs' I' _=>h s' I') hf
theorem Y8.call'(I:Y8 X pI U H s)(ho:s'.os=s.os)(u:Un (xx X.stack) ch H H' s.heap s'.heap)(hok:yj X.prog X.w H' s'.heap)(hg:Gr s'.gens)(sk:∀ b∈ch,(b∈X.ex\/X.s₀.heap.objs.size<=b)/\b≠X.env.locals/\(∀ x c,X.env.cells.lookup x=Aa c->c≠b)/\∀ p∈X.pn++pI,p.1≠b):Y8 X pI U H' s':=by
 obtain⟨h',g',d',t',o'⟩:=s';have e:o'=s.os:=ho;subst e;exact I.call (g':=g') (t':=t') (d':=d') u hok hg sk
abbrev XK:=Aj->Am Ak->Hp->Prop
abbrev St:=Ac (Am V)
variable{U:St}
abbrev VK:=V->Hp->Prop
abbrev TE:=St->Hp->VK->Prop
abbrev TT:=St->Hp->(Ao->Hp->Prop)->Prop
abbrev TA:=St->Hp->(Ac V->Hp->Prop)->Prop
structure wf where
 nx:St->Hp->Prop
 rt:VK
 bk:St->Hp->Prop:=λ_ _=>AN
 ct:St->Hp->Prop:=λ_ _=>AN
abbrev TS:=wf->St->Hp->Prop
def EP(X:Cx)(pI:Pn)(U:St)(Q:VK)(u:Aj)(s':An):Prop:=∃ v H',Y8 X pI U H' s'/\BB v u/\Q v H'
def TP(X:Cx)(pI:Pn)(U:St)(Q:Ao->Hp->Prop)(b:Ao)(s':An):Prop:=∃ H',Y8 X pI U H' s'/\Q b H'
def AP(X:Cx)(pI:Pn)(U:St)(Q:Ac V->Hp->Prop)(us:Ac Aj)(s':An):Prop:=∃ vs H',Y8 X pI U H' s'/\AZ vs us/\Q vs H'
def SP(X:Cx)(pI:Pn)(D:wf)(f:Flow)(s':An):Prop:=
  match f with
  |.next=>∃ U' H',Y8 X pI U' H' s'/\D.nx U' H'
  |.brk=>∃ U' H',Y8 X pI U' H' s'/\D.bk U' H'
  |.cont=>∃ U' H',Y8 X pI U' H' s'/\D.ct U' H'
  |.ret u=>∃ v U' H',Y8 X pI U' H' s'/\BB v u/\D.rt v H'
def PE(X:Cx)(e:Aq)(t:TE):Prop:=
 ∀(pI:Pn)(s:An)(U:St)(H:Hp)(Q:VK),Y8 X pI U H s->t U H Q->Av (model X.prog X.w) X.A (eval e X.env) (EP X pI U Q) X.xe s
def PT(X:Cx)(e:Aq)(t:TT):Prop:=
 ∀(pI:Pn)(s:An)(U:St)(H:Hp)(Q:Ao->Hp->Prop),Y8 X pI U H s->t U H Q->Av (model X.prog X.w) X.A (J_5 e X.env (eval e X.env)) (TP X pI U Q) X.xe s
def PW(X:Cx)(e:Aq)(t:TT):Prop:=
 ∀(whole:FQ Aj)(pI:Pn)(s:An)(U:St)(H:Hp)(Q:Ao->Hp->Prop),Y8 X pI U H s->t U H Q->Av (model X.prog X.w) X.A (J_5 e X.env whole) (TP X pI U Q) X.xe s
theorem PW.pt(h:PW X e t):PT X e t:=h _
def PA(X:Cx)(es:Ac Aq)(t:TA):Prop:=
 ∀(pos:AH)(pI:Pn)(s:An)(U:St)(H:Hp)(Q:Ac V->Hp->Prop),Y8 X pI U H s->t U H Q->Av (model X.prog X.w) X.A (spliced (Br pos (At es X.env))) (AP X pI U Q) X.xe s
def PS(X:Cx)(st:AT)(t:TS):Prop:=
 ∀(pI:Pn)(s:An)(U:St)(H:Hp)(D:wf),Y8 X pI U H s->t D U H->Av (model X.prog X.w) X.A (exec st X.env) (SP X pI D) X.xe s
def zc(X:Cx)(st:Ac AT)(t:TS):Prop:=
 ∀(pI:Pn)(s:An)(U:St)(H:Hp)(D:wf),Y8 X pI U H s->t D U H->Av (model X.prog X.w) X.A (execs st X.env) (SP X pI D) X.xe s
theorem J5{t:FQ α}{Q Q':α->An->Prop}{E:Vq}(h:Av M A t Q E s)(hQ:∀ a s,Q a s->Q' a s):Av M A t Q' E s:=Bg h hQ λ_ _ x=>x
section
theorem bin{a b:Aq}(ha:PE X a ta)(hb:PE X b tb){R:V->V->Hp->Prop}(I:Y8 X pI U H s)(h:ta U H λx H1=>tb U H1 λy H2=>R x y H2){Q:α->An->Prop}{f:Aj->Aj->FQ α}(hf:∀ v u s2 x y H2,Y8 X pI U H2 s2->BB x v->BB y u->R x y H2->Av (model X.prog X.w) X.A (f v u) Q X.xe s2):Av (model X.prog X.w) X.A (eval a X.env) (λv s₁=>Av (model X.prog X.w) X.A (eval b X.env) (λu s₂=>Av (model X.prog X.w) X.A (f v u) Q X.xe s₂) X.xe s₁) X.xe s:=by
 refine J5 (ha pI s U H _ I h) λv s1 ⟨x,H1,I1,r1,q1⟩=>?_
 refine J5 (hb pI s1 U H1 _ I1 q1) λu s2 ⟨y,H2,I2,r2,q2⟩=>?_
 exact hf v u s2 x y H2 I2 r1 r2 q2
def BS(i:Ag):TE:=λU H Q=>∃ v,U[i]?=Aa (Aa v)/\Q v H
def tC(v:V):TE:=λ_ H Q=>Q v H
theorem DF(hN:X.N[i]?=Aa x)(hv:Ŧ X.env.scope x)(hd:(x==("__debug__" : Ah))=Ad:=by decide)(ze:(x==("__classdict__" : Ah))=Ad:=by decide):PE X (.Name x pos) (BS i):=by
 intro pI s U H Q I h;obtain⟨v,e,h⟩:=h;obtain⟨m,hn,hl⟩:=I.loc;obtain⟨u,r,l⟩:=hl i x v hN e hv;have fin:EP X pI U Q u s:=⟨v,H,I,r,h⟩;rcases l with ⟨hk,hm⟩|⟨hk,c,hc,ul⟩
 .exact Me (wpAny_loadName_local I.ok.kind hk hn hm fin) hd
 .rcases hk with hk|hk
  .exact Me (wpAny_loadName_cell I.ok.kind hk hc ul fin) hd
  .exact Me (wpAny_loadName_free I.ok.kind hk hc ul fin ze) hd
theorem QM:PE X (.Constant (.int i) j pos) (tC (.int i)):=λ_ _ _ H _ I h=>wpAny_Constant_int ⟨.int i,H,I.tok _,⟨_,rfl⟩,h⟩
theorem zE{b}:PE X (.Constant (.bool b) j pos) (tC (.bl b)):=λ_ _ _ H _ I h=>Constant_bool ⟨.bl b,H,I,rfl,h⟩
theorem On:PE X (.Constant .none j pos) (tC .O):=λ_ _ _ H _ I h=>Constant_none ⟨.O,H,I,rfl,h⟩
theorem Mu:PE X (.Constant (.str x) j pos) (tC (.str x)):=λ_ _ _ H _ I h=>Calls.Constant_str ⟨.str x,H,I.tok _,⟨_,rfl⟩,h⟩
def Gl(X:Cx)(x:Ah):Prop:=X.env.kindOf x=Aa .globalImplicit
theorem JG{E:Vq}{Q:Vq}(I:Y8 X pI U H s)(hg:Gl X x)(hm:X.mg x=Aa u)(h:Q u s)(hd:(x==("__debug__" : Ah))=Ad:=by decide):Av (model X.prog X.w) X.A (eval (.Name x pos) X.env) Q E s:=
 XJ I.ok.kind hg (Calls.loadGlobal_global (by rw[I.ok.glob];exact I.mod.glob.keeps I.bk) hm h) hd
theorem Lc{E:Vq}{Q:Vq}(I:Y8 X pI U H s)(hg:Gl X x)(hm:X.mg x=Ae)(hv:Ds x=Aa u)(h:Q u s)(hn:x≠"__name__" := by decide)(hd:(x==("__debug__" : Ah))=Ad:=by decide):Av (model X.prog X.w) X.A (eval (.Name x pos) X.env) Q E s:=by
 obtain⟨mb,h1,h2⟩:=I.mod.blt;exact XJ I.ok.kind hg (Calls.loadGlobal_builtin (by rw[I.ok.glob];exact I.mod.glob.keeps I.bk) hm (by rw[I.ok.blt];exact h1.keeps I.bk) ((h2 x hn).trans hv) h) hd
theorem Qn(hg:Gl X x)(hm:X.mg x=Aa u)(r:BB v u)(hd:(x==("__debug__" : Ah))=Ad:=by decide):PE X (.Name x pos) (tC v):=
 λ_ _ _ H _ I h=>JG I hg hm ⟨v,H,I,r,h⟩ hd
theorem T4(hg:Gl X x)(hm:X.mg x=Ae)(hv:Ds x=Aa u)(r:BB v u)(hn:x≠"__name__" := by decide)(hd:(x==("__debug__" : Ah))=Ad:=by decide):PE X (.Name x pos) (tC v):=
 λ_ _ _ H _ I h=>Lc I hg hm hv ⟨v,H,I,r,h⟩ hn hd
variable{rest:Ac Aq}
def ZA(t u:TT):TT:=λU H Q=>t U H λc H1=>if c=Ab then u U H1 Q else Q Ad H1
def tOr(t u:TT):TT:=λU H Q=>t U H λc H1=>if c=Ab then Q Ab H1 else u U H1 Q
def iv(t:TT):TT:=λU H Q=>t U H λc H1=>Q (!c) H1
theorem TY{X:Cx}{a:Aq}{pos:AH}{tA:TT}(ha:PT X a tA):PW X (.BoolOp .And [a] pos) tA:=by
 intro wh pI s U H Q I h;refine isTrue_and (J5 (ha pI s U H Q I h) λc s1 e=>?_)
 cases c with
 |true=>exact isTrue_and_nil e
 |false=>exact e
theorem UV{X:Cx}{a:Aq}{pos:AH}{tA:TT}(ha:PT X a tA):PW X (.BoolOp .Or [a] pos) tA:=by
 intro wh pI s U H Q I h;refine isTrue_or (J5 (ha pI s U H Q I h) λc s1 e=>?_)
 cases c with
 |false=>exact isTrue_or_nil e
 |true=>exact e
theorem UW{X:Cx}{a b:Aq}{pos:AH}{tA É:TT}(ha:PT X a tA)(hb:PW X (.BoolOp .And (b::rest) pos) É):PW X (.BoolOp .And (a::b::rest) pos) (ZA tA É):=by
 intro wh pI s U H Q I h;refine isTrue_and (J5 (ha pI s U H _ I h) λc s1 ⟨H1,I1,q1⟩=>?_)
 cases c with
 |true=>exact hb wh pI s1 U H1 Q I1 q1
 |false=>exact⟨H1,I1,q1⟩
theorem Q9{X:Cx}{a b:Aq}{pos:AH}{tA É:TT}(ha:PT X a tA)(hb:PW X (.BoolOp .Or (b::rest) pos) É):PW X (.BoolOp .Or (a::b::rest) pos) (tOr tA É):=by
 intro wh pI s U H Q I h;refine isTrue_or (J5 (ha pI s U H _ I h) λc s1 ⟨H1,I1,q1⟩=>?_)
 cases c with
 |true=>exact⟨H1,I1,q1⟩
 |false=>exact hb wh pI s1 U H1 Q I1 q1
theorem sL{X:Cx}{a:Aq}{pos:AH}{tA:TT}(ha:PT X a tA):PT X (.UnaryOp .Not a pos) (iv tA):=by
 intro pI s U H Q I h;exact isTrue_not (ha pI s U H (λc H1=>Q (!c) H1) I h)
def yG(ta tb:TE):TE:=λU H Q=>ta U H λx H1=>∃ c,x=.bl c/\if c=Ab then tb U H1 Q else Q (.bl Ad) H1
theorem UZ{X:Cx}{a:Aq}{pos:AH}{op}{t:TE}(h:PE X a t):PE X (.BoolOp op [a] pos) t:=λpI s U H Q I hw=>BoolOp_one (h pI s U H Q I hw)
theorem U_3{X:Cx}{a b:Aq}{ta tb:TE}{pos:AH}(ha:PE X a ta)(hb:PE X (.BoolOp .And (b::rest) pos) tb):PE X (.BoolOp .And (a::b::rest) pos) (yG ta tb):=by
 intro pI s U H Q I h;refine BoolOp_and (J5 (ha pI s U H _ I h) λv s1 ⟨x,H1,I1,r1,q1⟩=>?_)
 obtain⟨c,rfl,q1⟩:=q1;cases r1;refine GJ ?_;cases c with
 |true=>exact hb pI s1 U H1 Q I1 q1
 |false=>exact⟨.bl Ad,H1,I1,rfl,q1⟩
end
def zr(K:Fg)(H:Hp)(a:Ak)(xs:Ac V):Prop:=
 Rd H a (.L xs) \/
  ∃(o:CD)(its:A3 Aj)(n:Ag),K.lookup a=Aa o/\o.cls=.type "list"/\o.dict=Ae/\o.data=.seq its n/\its.size<=sizeLine/\AZ xs its.toList
def yg(K:Fg)(H:Hp)(a:Ak)(xs:Ac V):Prop:=
 Rd H a (.H xs) \/
  ∃(o:CD)(its:A3 Aj)(n:Ag),K.lookup a=Aa o/\o.cls=.type "tuple"/\o.data=.seq its n/\its.size<=sizeLine/\AZ xs its.toList
noncomputable def Y_9:Aj->Am V
 |.none=>Aa .O
 |.bool b=>Aa (.bl b)
 |.int i _=>Aa (.int i)
 |.str x _=>Aa (.str x)
 |.bytes b _=>Aa (.byt b)
 |.float b _=>Aa (.flt b)
 |.ref a=>Aa (.ref a)
 |.type n=>Aa (.ty n)
 |_=>Ae
theorem BB.abs(r:BB x u):Y_9 u=Aa x:=by
 cases x with
 |O=>cases r;rfl
 |bl _=>cases r;rfl
 |int _=>obtain⟨t,rfl⟩:=r;rfl
 |str _=>obtain⟨t,rfl⟩:=r;rfl
 |byt _=>obtain⟨t,rfl⟩:=r;rfl
 |flt _=>obtain⟨t,rfl⟩:=r;rfl
 |ref _=>cases r;rfl
 |ty _=>cases r;rfl
theorem BB.inj(r:BB x u)(q:BB y u):x=y:=Bj (r.abs.symm.trans q.abs)
theorem AZ.inj:∀{xs ys:Ac V}{us:Ac Aj},AZ xs us->AZ ys us->xs=ys
 |_,_,_,.nil,.nil=>rfl
 |_,_,_,.cons r t,.cons r' t'=>by rw[r.inj r',AZ.inj t t']
section
variable{U:St}
theorem zr.of{K:Fg}(h:H a=Aa (.L xs)):zr K H a xs:=.inl (.inl h)
theorem yg.of{K:Fg}(h:H a=Aa (.H xs)):yg K H a xs:=.inl (.inl h)
theorem Y8.list(I:Y8 X pI U H s)(h:zr X.K H a xs):∃ its:Ac Aj,AZ xs its/\PlainL s.heap a its.toArray/\xs.length<=sizeLine:=by
 rcases h with h|⟨o,its,n,hk,hc,hd,hs,hz,r⟩
 .obtain⟨z,its,n,r,e⟩:=h.ok I.hok;exact⟨its,r,⟨_,n,e,rfl,rfl,rfl⟩,z⟩
 .refine⟨its.toList,r,⟨o,n,I.kIn a o hk,hc,hd,by simpa using hs⟩,?_⟩
  have e:=r.length;simp only[Ey]at e
  lia
theorem Y8.tuple(I:Y8 X pI U H s)(h:yg X.K H a xs):∃ its:Ac Aj,AZ xs its/\L7 s.heap a its.toArray/\xs.length<=sizeLine:=by
 rcases h with h|⟨o,its,n,hk,hc,hs,hz,r⟩
 .obtain⟨z,its,r,p⟩:=h.ok I.hok;exact⟨its,r,p,z⟩
 .refine⟨its.toList,r,⟨o,I.kIn a o hk,hc,n,by simpa using hs⟩,?_⟩
  have e:=r.length;simp only[Ey]at e
  lia
theorem Y8.list_inj(I:Y8 X pI U H s)(h:zr X.K H a xs)(h':zr X.K H a ys):xs=ys:=by
 obtain⟨its,r,⟨o,n,e,_,_,d⟩,_⟩:=I.list h;obtain⟨its',r',⟨o',n',e',_,_,d'⟩,_⟩:=I.list h';rw[e]at e';cases e';rw[d]at d'
 injection d' with d1 _
 have:its=its':=by simpa using congrArg KM d1
 subst this;exact r.inj r'
theorem Y8.tuple_inj(I:Y8 X pI U H s)(h:yg X.K H a xs)(h':yg X.K H a ys):xs=ys:=by
 obtain⟨its,r,⟨o,e,_,n,d⟩,_⟩:=I.tuple h;obtain⟨its',r',⟨o',e',_,n',d'⟩,_⟩:=I.tuple h';rw[e]at e';cases e';rw[d]at d'
 injection d' with d1 _
 have:its=its':=by simpa using congrArg KM d1
 subst this;exact r.inj r'
end
noncomputable abbrev Cx.wish(X:Cx)(E:Vq):Cx:={X with xe:=E}
noncomputable abbrev Cx.nox(X:Cx):Cx:=X.wish λ_ _=>AN
theorem Cx.Ok.wish(ok:X.Ok)(E:Vq):(X.wish E).Ok:=
 ⟨ok.mod,ok.kind,ok.glob,ok.blt,ok.above,ok.inj,ok.has,ok.cab,ok.hd,ok.frames,ok.stk,ok.exf,ok.bs,ok.bsz,ok.noex,ok.exfs,ok.funs,ok.frf⟩
theorem Cx.Ok.unwish(ok:(X.wish E).Ok):X.Ok:=
 ⟨ok.mod,ok.kind,ok.glob,ok.blt,ok.above,ok.inj,ok.has,ok.cab,ok.hd,ok.frames,ok.stk,ok.exf,ok.bs,ok.bsz,ok.noex,ok.exfs,ok.funs,ok.frf⟩
section
variable{U:St}
theorem Y8.wish(I:Y8 X pI U H s)(E:Vq):Y8 (X.wish E) pI U H s:=⟨I.ok.wish E,I.os,I.bare,I.base,I.loc,I.cell,I.free,I.freeC,I.pin,I.hok,I.len⟩
theorem Y8.unwish(I:Y8 (X.wish E) pI U H s):Y8 X pI U H s:=⟨I.ok.unwish,I.os,I.bare,I.base,I.loc,I.cell,I.free,I.freeC,I.pin,I.hok,I.len⟩
theorem SP.unwish(h:SP (X.wish E) pI D f s'):SP X pI D f s':=by
 cases f with
 |next=>obtain⟨U',H',I,q⟩:=h;exact⟨U',H',I.unwish,q⟩
 |brk=>obtain⟨U',H',I,q⟩:=h;exact⟨U',H',I.unwish,q⟩
 |cont=>obtain⟨U',H',I,q⟩:=h;exact⟨U',H',I.unwish,q⟩
 |ret u=>obtain⟨v,U',H',I,r,q⟩:=h;exact⟨v,U',H',I.unwish,r,q⟩
theorem PE.nox(h:PE X.nox e t):PE X e t:=λpI s U H Q I hw=>
 Bg (h pI s U H Q (I.wish _) hw) (λ_ _ ⟨v,H',I',r,q⟩=>⟨v,H',I'.unwish,r,q⟩) λ_ _ z=>A4 z
theorem PT.nox(h:PT X.nox e t):PT X e t:=λpI s U H Q I hw=>
 Bg (h pI s U H Q (I.wish _) hw) (λ_ _ ⟨H',I',q⟩=>⟨H',I'.unwish,q⟩) λ_ _ z=>A4 z
theorem zc.nox{st:Ac AT}(h:zc X.nox st t):zc X st t:=λpI s U H D I hw=>
 Bg (h pI s U H D (I.wish _) hw) (λ_ _ q=>q.unwish) λ_ _ z=>A4 z
end
section
variable{st:AT}
def IH:TS:=λD U H=>D.nx U H
def OX(t u:TS):TS:=λD U H=>t {D with nx:=u D} U H
theorem Gf:zc X [] IH:=λ_ _ U H _ I h=>Ho ⟨U,H,I,h⟩
theorem CF{rest:Ac AT}(h1:PS X st t)(h2:zc X rest u):zc X (st::rest) (OX t u):=by
 intro pI s U H D I h;refine YW (J5 (h1 pI s U H {D with nx:=u D} I h) λf s1 q=>?_)
 cases f with
 |next=>
  obtain⟨U',H',I',q⟩:=q;exact h2 pI s1 U' H' D I' q
 |ret v=>exact q
 |brk=>exact q
 |cont=>exact q
theorem DE(h1:PS X st t):zc X [st] t:=by
 intro pI s U H D I h;refine YW (J5 (h1 pI s U H D I h) λf s1 q=>?_)
 cases f with
 |next=>exact Ho q
 |ret v=>exact q
 |brk=>exact q
 |cont=>exact q
theorem Y8.quiet(I:Y8 X pI U H s):interactive X.env=Ad:=by simp[interactive,I.ok.kind]
def OL(te:TE):TS:=λD U H=>te U H λ_ H1=>D.nx U H1
theorem K9(he:PE X e te)(hs:Dp e Ae pos.line X.env=pure Ad:=by rfl):PS X (.Expr e pos) (OL te):=by
 intro pI s U H D I h;exact wpAny_Expr_any (J5 (he pI s U H _ I h) λv s1 ⟨x,H1,I1,r1,q1⟩=>⟨U,H1,I1,q1⟩) I.quiet hs
def OY(te:TE):TS:=λD U H=>te U H D.rt
theorem Ft(he:PE X e te):PS X (.Return (Aa e) pos) (OY te):=by
 intro pI s U H D I h;exact wpAny_Return_some (J5 (he pI s U H _ I h) λv s1 ⟨x,H1,I1,r1,q1⟩=>⟨x,U,H1,I1,r1,q1⟩)
def Zv(c:TT)(t u:TS):TS:=λD U H=>c U H λb H1=>if b=Ab then t D U H1 else u D U H1
theorem Fw{a b:Ac AT}(hc:PT X c tc)(ha:zc X a t)(hb:zc X b u):PS X (.If c a b pos) (Zv tc t u):=by
 intro pI s U H D I h;refine wpAny_If (J5 (hc pI s U H _ I h) λd s1 ⟨H1,I1,q1⟩=>?_)
 cases d with
 |true=>exact ha pI s1 U H1 D I1 q1
 |false=>exact hb pI s1 U H1 D I1 q1
def qK:TS:=λ_ _ _=>AN
theorem M7:zc X sts qK:=λ_ _ _ _ _ _ h=>h.elim
end
abbrev TG:=V->St->Hp->(St->Hp->Prop)->Prop
abbrev TGs:=Ac V->St->Hp->(St->Hp->Prop)->Prop
def PG(X:Cx)(target:Aq)(t:TG):Prop:=
 ∀(pI:Pn)(s:An)(U:St)(H:Hp)(v:V)(u:Aj)(Q:St->Hp->Prop),Y8 X pI U H s->BB v u->t v U H Q ->
  Av (model X.prog X.w) X.A (assign target X.env u) (λ_ s'=>∃ U' H',Y8 X pI U' H' s'/\Q U' H') X.xe s
def Þ(X:Cx)(ts:Ac Aq)(t:TGs):Prop:=
 ∀(pI:Pn)(s:An)(U:St)(H:Hp)(vs:Ac V)(us:Ac Aj)(Q:St->Hp->Prop),Y8 X pI U H s->AZ vs us->t vs U H Q ->
  Av (model X.prog X.w) X.A (assignInOrder ((Co ts X.env).map (·.2)) us) (λ_ s'=>∃ U' H',Y8 X pI U' H' s'/\Q U' H') X.xe s
def Gg(i:Ag):TG:=λv U H Q=>Q (U.set i (Aa v)) H
theorem Mo(hN:X.N.Nodup)(hi:X.N[i]?=Aa x)(hx:þ X.env.scope x)(hf:X.fn x=Ab\/X.env.scope.names.lookup x=Aa .local:=by first|exact .inl rfl|exact .inr rfl|assumption):PG X (.Name x pos) (Gg i):=by
 intro pI s U H v u Q I r h;exact YU (Qe I hN hi hx r (λs' I'=>⟨_,H,I',h⟩) hf)
def LV:TGs:=λvs U H Q=>vs=[]/\Q U H
def LP(t:TG)(u:TGs):TGs:=λvs U H Q=>∃ v r,vs=v::r/\t v U H λU' H'=>u r U' H' Q
theorem kU:Þ X [] LV:=by
 intro pI s U H vs us Q I r h;obtain⟨e,h⟩:=h;subst e;cases r;exact assignInOrder_nil ⟨U,H,I,h⟩
theorem gZ(h1:PG X e t)(h2:Þ X es u)(hs:(Co (e::es) X.env).map (·.2)=assign e X.env::(Co es X.env).map (·.2):=by rfl):Þ X (e::es) (LP t u):=by
 intro pI s U H vs us Q I r h;obtain⟨v,vr,e1,h⟩:=h;subst e1;cases r with
 |cons r rr=>
  rw[hs];refine assignInOrder_cons (J5 (h1 pI s U H _ _ _ I r h) λ_ s1 ⟨U1,H1,I1,q1⟩=>?_)
  exact h2 pI s1 U1 H1 _ _ Q I1 rr q1
def Pj(K:Fg)(n:Ag)(t:TGs):TG:=λv U H Q=>∃ a xs,v=.ref a/\yg K H a xs/\xs.length=n/\t xs U H Q
theorem UX(hc:X.calm=Ab)(h:Þ X es t)(hn:(Co es X.env).length=n:=by rfl)(xm:(Co es X.env).findIdx? (·.1)=Ae:=by rfl):PG X (.Tuple es k pos) (Pj X.K n t):=by
 intro pI s U H v u Q I r hw;obtain⟨a,xs,e1,hq,hl,hw⟩:=hw;subst e1;cases r;obtain⟨its,rv,ht,hz⟩:=I.tuple hq;refine assign_Tuple_tuple (I.ok.hd hc) ht (by simp[hn,<-hl,rv.length]) xm λh' hx=>?_
 have I1:Y8 X pI U H {s with heap:=h'}:=I.kept (t':=s.toks) λb o e=>hx b o (A5 (AF e)) e
 exact h pI _ U H xs _ Q I1 (by simpa using rv) hw
def OZ(te:TE)(g:TG):TS:=λD U H=>te U H λx H1=>g x U H1 D.nx
theorem sN{g:TG}(he:PE X e te)(hg:PG X tg g)(hs:KJ [tg] e pos.line X.env=pure Ad:=by rfl)(hw:IB [tg] e X.env=pure Ae:=by rfl)(h1:(Co [tg] X.env).map (·.2)=[assign tg X.env]:=by rfl):PS X (.Assign [tg] e pos) (OZ te g):=by
 intro pI s U H D I h;refine wpAny_Assign_stores (J5 (he pI s U H _ I h) λv s1 ⟨x,H1,I1,r1,q1⟩=>?_) hs hw
 rw[h1];exact J5 (hg pI s1 U H1 x v _ I1 r1 q1) λ_ s2 q=>q
theorem G6(hN:X.N.Nodup)(hi:X.N[i]?=Aa x)(hx:þ X.env.scope x)(he:PE X e te)(hs:Dp e (Aa (.Name x pos')) pos.line X.env=pure Ad:=by rfl)(hf:X.fn x=Ab\/X.env.scope.names.lookup x=Aa .local:=by first|exact .inl rfl|exact .inr rfl|assumption):PS X (.Assign [.Name x pos'] e pos) (OZ te (Gg i)):=by
 intro pI s U H D I h;refine wpAny_Assign_Name (J5 (he pI s U H _ I h) λv s1 ⟨y,H1,I1,r1,q1⟩=>?_) hs
 exact Qe I1 hN hi hx r1 (λs2 I2=>⟨_,H1,I2,q1⟩) hf
structure It where
 go:Ag->Hp->Prop
 yld:Ag->Hp->V->Hp->Prop
 stop:Ag->Hp->Prop
def IM(X:Cx)(pI:Pn)(H:Hp)(b:Ak):Prop:=
 H b=Ae/\b≠X.env.locals/\b∉X.fs/\(b∈X.ex\/X.s₀.heap.objs.size<=b)/\(∀ x c,X.env.cells.lookup x=Aa c->c≠b)/\∀ p∈X.pn++pI,p.1≠b
theorem Y8.fpOk(I:Y8 X pI U H s)(hb:s.heap.objs.size<=b)(hn:H' b=Ae):IM X pI H' b:=by
 refine⟨hn,Et (AS I.lt hb),I.nofs hb,.inr (BF I.sz hb),λx c e z=>?_,λp hp z=>?_⟩
 .obtain⟨v,q⟩:=I.cell x c e;exact absurd (AS q.lt (by rw[z];exact hb)) (Bl _)
 .exact absurd (AS (AF (I.pin p hp).1) (by rw[z];exact hb)) (Bl _)
structure uc (P:AG) (w:AD) (K:Fg) (tg:Aq) (J_:It) (fp:Ac Ak) (it:Ak) (tn:Ag->AC->Prop):Prop where
 mem:it∈fp
 obj:∀ i h,tn i h->∀ b∈fp,∃ o,h.get? b=Aa o/\∀ v,o.data≠.cell v
 keep:∀ i h h',tn i h->(∀ b∈fp,∀ o,h.get? b=Aa o->h'.get? b=Aa o)->tn i h'
 item:∀(X:Cx),X.prog=P->X.w=w->X.K=K->X.calm=Ab->∀(i:Ag)(pI:Pn)(s:An)(U:St)(H:Hp)(E:Vq),Y8 X pI U H s->(∀ b∈fp,IM X pI H b)->tn i s.heap->J_.go i H ->
  Av (model P w) X.A (Fb (.ref it)) (λr s1=>∃ u,r=Aa u /\
   Av (model P w) X.A (Hl tg (.ref it) u) (λ_ s2=>∃ x H',Y8 X pI U H' s2/\BB x u/\J_.yld i H x H'/\tn (i+1) s2.heap/\∀ b∈fp,H' b=Ae) E s1) E s
 done:∀(X:Cx),X.prog=P->X.w=w->X.K=K->X.calm=Ab->∀(i:Ag)(pI:Pn)(s:An)(U:St)(H:Hp)(E:Vq),Y8 X pI U H s->(∀ b∈fp,IM X pI H b)->tn i s.heap->J_.stop i H ->
  Av (model P w) X.A (Fb (.ref it)) (λr s1=>r=Ae/\Y8 X pI U H s1) E s
 self:∀(A:AY)(i:Ag)(s:An)(Q:Vq)(E:Vq),tn i s.heap->Q (.ref it) s->Av (model P w) A (Md (.ref it)) Q E s
abbrev TI:=St->Hp->(It->Hp->Prop)->Prop
def PIE(X:Cx)(pI:Pn)(U:St)(tg:Aq)(R:It->Hp->Prop)(ŵ:Aj)(s2:An):Prop:=
 ∃(it:Ak)(fp:Ac Ak)(tn:Ag->AC->Prop)(J_:It)(H':Hp),ŵ=.ref it/\Y8 X pI U H' s2/\uc X.prog X.w X.K tg J_ fp it tn/\tn 0 s2.heap/\(∀ b∈fp,IM X pI H' b)/\R J_ H'
def PI(X:Cx)(tg iter:Aq)(wi:TI):Prop:=
 ∀(pI:Pn)(s:An)(U:St)(H:Hp)(R:It->Hp->Prop),Y8 X pI U H s->wi U H R ->
  Av (model X.prog X.w) X.A (eval iter X.env) (λv s1=>Av (model X.prog X.w) X.A (Md v) (PIE X pI U tg R) X.xe s1) X.xe s
theorem Rc{E:Vq}(ho:s.heap.get? it=Aa o)(hc:o.cls=.type n)(hd:o.data=.fields vs)(hn:["enumerate", "zip", "dict_itemiterator", "dict_reverseitemiterator", "odict_iterator", "itertools.zip_longest", "itertools.pairwise"].contains n=Ad)(hQ:Q () s):Av M A (Hl tg (.ref it) u) Q E s:=by
  unfold Hl;cases tg<;>first
    |exact Ax hQ
    | (cases u<;>first
        |exact Ax hQ
        | (refine Al (wpAny_load ho ?_)
           rw[hc,hd];show Av M A (if (["enumerate", "zip", "dict_itemiterator", "dict_reverseitemiterator", "odict_iterator", "itertools.zip_longest", "itertools.pairwise"].contains n&&vs[0]? == Aa (Cm _))=Ab then _ else _) Q E s
           rw[AA (by intro h;rw[hn,Bool.false_and]at h;cases h)]
           exact Ax hQ))
noncomputable def Itl(K:Fg)(a:Ak):It:=
 ⟨λi H=>∃ xs x,zr K H a xs/\xs[i]?=Aa x,λi H x H'=>H'=H/\∀ xs,zr K H a xs->xs[i]?=Aa x,λi H=>∃ xs,zr K H a xs/\xs.length<=i⟩
noncomputable def Itt(K:Fg)(a:Ak):It:=
 ⟨λi H=>∃ xs x,yg K H a xs/\xs[i]?=Aa x,λi H x H'=>H'=H/\∀ xs,yg K H a xs->xs[i]?=Aa x,λi H=>∃ xs,yg K H a xs/\xs.length<=i⟩
noncomputable def kq(lo:Ai)(n:Ag):It:=⟨λi _=>i<n,λi H x H'=>H'=H/\x=.int (lo+i),λi _=>n<=i⟩
theorem bK{K:Fg}(a it:Ak):uc P w K tg (Itl K a) [it] it (λi h=>h.IsListIter it a i) where
  mem:=by simp
  obj:=λi h st b hb=>by
    have e:b=it:=by simpa using hb
    subst e;obtain⟨o,e,c,d⟩:=st;exact⟨o,e,λv z=>by rw[d]at z;cases z⟩
  keep:=λi h h' st k=>st.at λo e=>k it (by simp) o e
  item:=by
    intro X hP hw hK hc i pI s U H E I hf st hg;subst hP hw hK;obtain⟨xs,x,hq,hx⟩:=hg;obtain⟨its,rv,p,hz⟩:=I.list hq;obtain⟨u,hu,ru⟩:=rv.get hx;obtain⟨f0,f1,f2,f3,f4,f5⟩:=hf it (by simp)
    refine Y_2 st p.isList (x:=u) (by simpa using hu) λh' rj sb=>?_
    have I1:Y8 X pI U H {s with heap:=h'}:=I.turned (t':=s.toks) (λb o hb e=>(sb.2 b hb).trans e) f0 f1 f3 f4 f5
    obtain⟨o,e,c,d⟩:=id rj;exact⟨u,rfl,Rc (s:={s with heap:=h'}) e c d (by decide) ⟨x,H,I1,ru,⟨rfl,λys hy=>by rw[I.list_inj hy hq];exact hx⟩,rj,λb hb=>(hf b hb).1⟩⟩
  done:=by
    intro X hP hw hK hc i pI s U H E I hf st hg;subst hP hw hK;obtain⟨xs,hq,hx⟩:=hg;obtain⟨its,rv,p,hz⟩:=I.list hq;obtain⟨f0,f1,f2,f3,f4,f5⟩:=hf it (by simp)
    have hl:=rv.length;exact Y_1 (I.ok.hd hc) st p.isList (by simp;lia) λh' eb=>⟨rfl,I.turned (t':=s.toks) (λb o hb e=>eb b o hb e) f0 f1 f3 f4 f5⟩
  self:=λ_ _ _ _ _ st h=>wpAny_pyIter_listiter st h
theorem cH{K:Fg}(a it:Ak):uc P w K tg (Itt K a) [it] it (λi h=>h.IsTupleIter it a i) where
  mem:=by simp
  obj:=λi h st b hb=>by
    have e:b=it:=by simpa using hb
    subst e;obtain⟨o,e,c,d⟩:=st;exact⟨o,e,λv z=>by rw[d]at z;cases z⟩
  keep:=λi h h' st k=>st.at λo e=>k it (by simp) o e
  item:=by
    intro X hP hw hK hc i pI s U H E I hf st hg;subst hP hw hK;obtain⟨xs,x,hq,hx⟩:=hg;obtain⟨its,rv,p,hz⟩:=I.tuple hq;obtain⟨u,hu,ru⟩:=rv.get hx;obtain⟨f0,f1,f2,f3,f4,f5⟩:=hf it (by simp)
    refine wpAny_pyNext_tuple_item st (show s.heap.IsTuple a its.toArray from p) (x:=u) (by simpa using hu) λh' rj sb=>?_
    have I1:Y8 X pI U H {s with heap:=h'}:=I.turned (t':=s.toks) (λb o hb e=>(sb.2 b hb).trans e) f0 f1 f3 f4 f5
    obtain⟨o,e,c,d⟩:=id rj;exact⟨u,rfl,Rc (s:={s with heap:=h'}) e c d (by decide) ⟨x,H,I1,ru,⟨rfl,λys hy=>by rw[I.tuple_inj hy hq];exact hx⟩,rj,λb hb=>(hf b hb).1⟩⟩
  done:=by
    intro X hP hw hK hc i pI s U H E I hf st hg;subst hP hw hK;obtain⟨xs,hq,hx⟩:=hg;obtain⟨its,rv,p,hz⟩:=I.tuple hq;obtain⟨f0,f1,f2,f3,f4,f5⟩:=hf it (by simp)
    have hl:=rv.length;exact wpAny_pyNext_tuple_end (I.ok.hd hc) st (show s.heap.IsTuple a its.toArray from p) (by simp;lia) λh' eb=>⟨rfl,I.turned (t':=s.toks) (λb o hb e=>eb b o hb e) f0 f1 f3 f4 f5⟩
  self:=λ_ _ _ _ _ st h=>wpAny_pyIter_tupleiter st h
theorem cJ{K:Fg}(it:Ak)(lo:Ai)(n:Ag):uc P w K tg (kq lo n) [it] it (λi h=>IsRangeIter h it (lo+(i:Ag)*1) ((n:Ai)-(i:Ag)) 1) where
  mem:=by simp
  obj:=λi h st b hb=>by
    have e:b=it:=by simpa using hb
    subst e;exact⟨_,st,λv z=>by
      have z':Data.fields _=MX v:=z;cases z'⟩
  keep:=λi h h' st k=>k it (by simp) _ st
  item:=by
    intro X hP hw hK hc i pI s U H E I hf st hg;subst hP hw hK;obtain⟨f0,f1,f2,f3,f4,f5⟩:=hf it (by simp)
    have W:=Walks.range (prog:=X.prog) (w:=X.w) (I.ok.hd hc) it lo 1 n;refine W.item i s _ _ hg st λv h' tk hv rj kk=>?_
    obtain⟨t,rfl⟩:=hv;have I1:Y8 X pI U H {s with heap:=h',toks:=tk}:=I.turned (λb o hb e=>kk b o (by simpa using hb) e) f0 f1 f3 f4 f5
    refine⟨_,rfl,Rc (s:={s with heap:=h',toks:=tk}) (n := "range_iterator") rj rfl rfl (by decide) ⟨.int (lo+i),H,I1,⟨t,?_⟩,⟨rfl,rfl⟩,rj,λb hb=>(hf b hb).1⟩⟩
    rw[WV]
  done:=by
    intro X hP hw hK hc i pI s U H E I hf st hg;subst hP hw hK;obtain⟨f0,f1,f2,f3,f4,f5⟩:=hf it (by simp)
    exact wpAny_pyNext_range_end (I.ok.hd hc) st (by have:n<=i:=hg;lia) λh' eb=>⟨rfl,I.turned (t':=s.toks) (λb o hb e=>eb b o hb e) f0 f1 f3 f4 f5⟩
  self:=λ_ _ _ _ _ st h=>wpAny_pyIter_rangeiter st h
theorem Ta{E:Vq}{lo:Ai}(I:Y8 X pI U H s)(h1:-(2 ^ 62)<=lo)(h2:lo<2 ^ 62)(h3:-(2 ^ 62)<=hi)(h4:hi<2 ^ 62)(q:R (kq lo (hi-lo).toNat) H):Av (model X.prog X.w) X.A (Md (.ref s.heap.objs.size)) (PIE X pI U tg R) E { s with heap:=s.heap.push { cls:=.type "range",data:=.fields #[.int lo t,.int hi u,.int 1 v] },toks:=tk }:=by
 refine wpAny_pyIter_range (IsRange.new ..) (small_one h1 h2 h3 h4) ?_;have I1:Y8 X pI U H { s with heap:=s.heap.push { cls:=.type "range",data:=.fields #[.int lo t,.int hi u,.int 1 v] },toks:=tk }:=I.kept λb o e=>Ar _ e
 refine⟨(s.heap.push { cls:=.type "range",data:=.fields #[.int lo t,.int hi u,.int 1 v] }).objs.size,[(s.heap.push { cls:=.type "range",data:=.fields #[.int lo t,.int hi u,.int 1 v] }).objs.size],_,_,H,rfl,
  I1.kept (t':=tk) λb o e=>Ar _ e,cJ _ lo (hi-lo).toNat,?_,λb hb=>?_,q⟩
 .have e1:lo+((0:Ag):Ai)*1=lo:=by simp
  have e2:(((hi-lo).toNat:Ag):Ai)-((0:Ag):Ai)=Builtin.Range.rangeSize lo hi 1:=by rw[rangeSize_one];split<;>lia
  show IsRangeIter _ _ (lo+((0:Ag):Ai)*1) ((((hi-lo).toNat:Ag):Ai)-((0:Ag):Ai)) 1;rw[e1,e2];exact AI _ rfl
 .have e:b=(s.heap.push { cls:=.type "range",data:=.fields #[.int lo t,.int hi u,.int 1 v] }).objs.size:=by simpa using hb
  subst e;exact I1.fpOk (AQ _) (I1.hok.fresh (AQ _))
def b9(ta:TA):TI:=λU H R=>ta U H λvs H1=>∃ j:Ai,vs=[.int j]/\-(2 ^ 62)<=j/\j<2 ^ 62/\R (kq 0 j.toNat) H1
def b8(ta:TA):TI:=λU H R=>ta U H λvs H1=>∃ i j:Ai,vs=[.int i,.int j]/\(-(2 ^ 62)<=i/\i<2 ^ 62/\-(2 ^ 62)<=j/\j<2 ^ 62)/\R (kq i (j-i).toNat) H1
theorem SJ{a:Aq}(hg:Gl X "range")(hm:X.mg "range" = Ae)(ha:PA X [a] ta)(hs:At [a] X.env=[(Ad,eval a X.env)]:=by rfl):PI X tg (.Call (.Name "range" p) [a] [] pos) (b9 ta):=by
 intro pI s U H R I h;refine M0 (Lc I hg hm boot_range (Cz (J5 (ha pos pI s U H _ I h) λus s1 ⟨vs,H1,I1,r1,q1⟩=>?_) hs rfl))
 obtain⟨j,e,q1,q2,q⟩:=q1;subst e;cases r1 with
 |cons r rr=>
  cases rr;obtain⟨t,rfl⟩:=r;exact call_range_1 (Ta I1 (by lia) (by lia) q1 q2 (by simpa using q))
theorem Si{a b:Aq}(hg:Gl X "range")(hm:X.mg "range" = Ae)(ha:PA X [a,b] ta)(hs:At [a,b] X.env=[(Ad,eval a X.env),(Ad,eval b X.env)]:=by rfl)(vk:At [b] X.env=[(Ad,eval b X.env)]:=by rfl):
  PI X tg (.Call (.Name "range" p) [a,b] [] pos) (b8 ta):=by
 intro pI s U H R I h;refine M0 (Lc I hg hm boot_range (Cz (J5 (ha pos pI s U H _ I h) λus s1 ⟨vs,H1,I1,r1,q1⟩=>?_) (by rw[hs,vk]) (by rw[vk];rfl)))
 obtain⟨i,j,e,⟨q1,q2,q3,q4⟩,q⟩:=q1;subst e;cases r1 with
 |cons r rr=>
  cases rr with
  |cons r' rr=>
   cases rr;obtain⟨t,rfl⟩:=r;obtain⟨t',rfl⟩:=r';exact call_range_2 (Ta I1 q1 q2 q3 q4 q)
def Zw(wi:TI)(g:TG)(tb:TS):TS:=λD U H=>wi U H λJ_ H1=>∃ W:Ag->Ag->St->Hp->Prop,(∃ m,W 0 m U H1)/\∀ i m U H,W i m U H ->
 (J_.stop i H/\D.nx U H)\/(J_.go i H/\∃ N:St->Hp->Prop,(∀ U' H',N U' H'->∃ m',m'<m/\W (i+1) m' U' H')/\∀ x H',J_.yld i H x H'->g x U H' λU2 H2=>tb {D with nx:=N,ct:=N,bk:=D.nx} U2 H2)
noncomputable def LJ(fp:Ac Ak)(h:AC):Pn:=fp.filterMap λb=>(h.get? b).map λo=>(b,o)
theorem NW(hb:b∈fp)(e:h.get? b=Aa o):(b,o)∈LJ fp h:=List.mem_filterMap.mpr ⟨b,hb,by rw[e];rfl⟩
theorem SK(hp:p∈LJ fp h):p.1∈fp/\h.get? p.1=Aa p.2:=by
 obtain⟨b,hb,e⟩:=List.mem_filterMap.mp hp;cases q:h.get? b with
 |none=>rw[q]at e;cases e
 |some o=>
  rw[q]at e;have e':(b,o)=p:=Bj e;subst e';exact⟨hb,q⟩
theorem Y8.pinned(I:Y8 X pI U H s)(hf:∀ b∈fp,IM X pI H b)(ho:∀ b∈fp,∃ o,s.heap.get? b=Aa o/\∀ v,o.data≠.cell v):Y8 X (pI++LJ fp s.heap) U H s:=
 I.pins_of λp hp=>(Hg.mp hp).elim (λz=>I.pin p (By _ z)) λz=>by
  obtain⟨hb,e⟩:=SK z;obtain⟨f0,f1,f2,_⟩:=hf p.1 hb;obtain⟨o,e',d⟩:=ho p.1 hb;rw[e]at e';cases e';exact⟨e,f0,f1,f2,d⟩
theorem Y8.unpinned(I:Y8 X (pI++pl) U H s):Y8 X pI U H s:=I.pins_of λp hp=>I.pin p (By _ (Hh _ hp))
theorem QJ{g:TG}(hp:Gd (model X.prog X.w) X.A X.env X.xe)(hc:X.calm=Ab)(hi:PI X tg iter wi)(hg:PG X tg g)(hb:zc X body tb)(hs:∀ x,Dl iter X.env x=pure x:=by intro _;rfl):PS X (.For tg iter body [] pos) (Zw wi g tb):=by
 intro pI s U H D I h;refine wpAny_For (J5 (hi pI s U H _ I h) λv s1 h1=>J5 h1 λŵ s2 h2=>?_) hs
 obtain⟨it,fp,tn,J_,H2,e,I2,T,st2,f2,W,⟨m0,w0⟩,turn⟩:=h2;subst e
 have ki:∀{H':Hp},(∀ b∈fp,H' b=Ae)->∀ b∈fp,IM X pI H' b:=λhn b hb=>⟨hn b hb,(f2 b hb).2⟩
 refine codeAny_forLoop_any (λn s'=>∃ i U' H',Y8 X pI U' H' s'/\tn i s'.heap/\(∀ b∈fp,H' b=Ae)/\W i n U' H') ?_ m0 ⟨0,U,H2,I2,st2,λb hb=>(f2 b hb).1,w0⟩
 rintro n s3 ⟨i,U3,H3,I3,st3,fr3,w3⟩;rcases turn i n U3 H3 w3 with ⟨stop,qn⟩|⟨go,N,hN,step⟩
 .refine F6 hp (J5 (T.done X rfl rfl rfl hc i pI s3 U3 H3 X.xe I3 (ki fr3) st3 stop) λr s4 ⟨hr,I4⟩=>?_)
  subst hr;exact Ho ⟨U3,H3,I4,qn⟩
 .refine F6 hp (J5 (T.item X rfl rfl rfl hc i pI s3 U3 H3 X.xe I3 (ki fr3) st3 go) λr s4 ⟨u,hr,h4⟩=>?_)
  subst hr;refine F6 hp (J5 h4 λ_ s5 ⟨x,H5,I5,r5,y5,kh,fr5⟩=>?_)
  have Ú:=I5.pinned (ki fr5) (T.obj _ _ kh);refine F6 hp (J5 (hg _ s5 U3 H5 x u _ Ú r5 (step x H5 y5)) λ_ s6 ⟨U6,H6,I6,q6⟩=>?_)
  refine F6 hp (J5 (hb _ s6 U6 H6 _ I6 q6) λf s7 q7=>?_)
  have again:∀{U7:St}{H7:Hp},Y8 X (pI++LJ fp s5.heap) U7 H7 s7->N U7 H7->∃ m,m<n/\∃ i U' H',Y8 X pI U' H' s7/\tn i s7.heap/\(∀ b∈fp,H' b=Ae)/\W i m U' H':=λ{U7 H7} I7 n7=>by
   obtain⟨m',hm,w7⟩:=hN U7 H7 n7;refine⟨m',hm,i+1,U7,H7,I7.unpinned,T.keep _ _ _ kh λb hb o e=>(I7.pin (b,o) (By _ (By _ (NW hb e)))).1,λb hb=>?_,w7⟩
   obtain⟨o,e,d⟩:=T.obj _ _ kh b hb;exact(I7.pin (b,o) (By _ (By _ (NW hb e)))).2.1
  cases f with
  |next=>obtain⟨U7,H7,I7,n7⟩:=q7;exact again I7 n7
  |cont=>obtain⟨U7,H7,I7,n7⟩:=q7;exact again I7 n7
  |brk=>obtain⟨U7,H7,I7,q7⟩:=q7;exact⟨U7,H7,I7.unpinned,q7⟩
  |ret v=>obtain⟨x7,U7,H7,I7,r7,q7⟩:=q7;exact⟨x7,U7,H7,I7.unpinned,r7,q7⟩
abbrev R2:=V->V->Hp->VK->Prop
def xw(X:Cx)(f:Aj->Aj->FQ Aj)(r:R2):Prop:=
 ∀(pI:Pn)(s:An)(U:St)(H:Hp)(x y:V)(v u:Aj)(Q:VK),Y8 X pI U H s->BB x v->BB y u->r x y H Q ->
  Av (model X.prog X.w) X.A (f v u) (EP X pI U Q) X.xe s
def UnR(X:Cx)(f:Aj->FQ Aj)(r:V->Hp->VK->Prop):Prop:=
 ∀(pI:Pn)(s:An)(U:St)(H:Hp)(x:V)(v:Aj)(Q:VK),Y8 X pI U H s->BB x v->r x H Q ->
  Av (model X.prog X.w) X.A (f v) (EP X pI U Q) X.xe s
def GN(X:Cx)(f:Aj)(r:Ac V->Hp->VK->Prop):Prop:=
 ∀(pI:Pn)(s:An)(U:St)(H:Hp)(xs:Ac V)(us:Ac Aj)(Q:VK),Y8 X pI U H s->AZ xs us->r xs H Q ->
  Av (model X.prog X.w) X.A (call f us) (EP X pI U Q) X.xe s
def Zb(X:Cx)(r:V->Hp->(Ao->Hp->Prop)->Prop):Prop:=
 ∀(pI:Pn)(s:An)(U:St)(H:Hp)(x:V)(v:Aj)(Q:Ao->Hp->Prop),Y8 X pI U H s->BB x v->r x H Q ->
  Av (model X.prog X.w) X.A (truthy v) (TP X pI U Q) X.xe s
def Μ(r:R2)(ta tb:TE):TE:=λU H Q=>ta U H λx H1=>tb U H1 λy H2=>r x y H2 Q
def tUn(r:V->Hp->VK->Prop)(ta:TE):TE:=λU H Q=>ta U H λx H1=>r x H1 Q
def rI(C:Ai->Ai->Prop)(g:Ai->Ai->V):R2:=λx y H Q=>∃ i j,x=.int i/\y=.int j/\C i j/\Q (g i j) H
def n9(g:Ai->Ai->V):R2:=λx y H Q=>∃ i j,x=.int i/\y=.int j/\Q (g i j) H
def rU(g:Ai->V):V->Hp->VK->Prop:=λx H Q=>∃ i,x=.int i/\Q (g i) H
theorem RC{s:An}{pI:Pn}{f:Aj->Aj->FQ Aj}{X:Cx}{a b:Aq}{ta tb:TE}(ha:PE X a ta)(hb:PE X b tb){H:Hp}{R:V->V->Hp->Prop}(I:Y8 X pI U H s)(h:ta U H λx H1=>tb U H1 λy H2=>R x y H2){Q:Vq}(hf:∀ v u s2 x y H2,Y8 X pI U H2 s2->BB x v->BB y u->R x y H2->Av (model X.prog X.w) X.A (f v u) Q X.xe s2):Av (model X.prog X.w) X.A (eval a X.env) (λv s₁=>Av (model X.prog X.w) X.A (eval b X.env) (λu s₂=>Av (model X.prog X.w) X.A (f v u) Q X.xe s₂) X.xe s₁) X.xe s:=by
 refine J5 (ha pI s U H _ I h) λv s1 ⟨x,H1,I1,r1,q1⟩=>?_
 refine J5 (hb pI s1 U H1 _ I1 q1) λu s2 ⟨y,H2,I2,r2,q2⟩=>?_
 exact hf v u s2 x y H2 I2 r1 r2 q2
theorem VL{r:R2}{X:Cx}{a b:Aq}{ta tb:TE}{pos:AH}{op:HP}(ho:xw X (Cb op) r)(ha:PE X a ta)(hb:PE X b tb):PE X (.BinOp a op b pos) (Μ r ta tb):=by
 intro pI s U H Q I h;exact wpAny_BinOp (RC ha hb I h λv u s2 x y H2 I2 rx ry q=>ho pI s2 U H2 x y v u Q I2 rx ry q)
theorem zB{X:Cx}{a:Aq}{ta:TE}{pos:AH}{op:UnaryOp}{r:V->Hp->VK->Prop}(ho:UnR X (unaryOp op) r)(ha:PE X a ta):PE X (.UnaryOp op a pos) (tUn r ta):=by
 intro pI s U H Q I h;exact UnaryOp_ (J5 (ha pI s U H _ I h) λv s1 ⟨x,H1,I1,r1,q1⟩=>ho pI s1 U H1 x v Q I1 r1 q1)
theorem ż(rule:∀(i j:Ai)(t u:Ch)(s:An)(Q:Vq)(E:Vq),C i j->Q (.int (g i j) s.toks) {s with toks:=s.toks+1}->Av (model X.prog X.w) X.A (f (.int i t) (.int j u)) Q E s):xw X f (rI C λi j=>.int (g i j)):=by
 intro pI s U H x y v u Q I rx ry h;obtain⟨i,j,rfl,rfl,hc,q⟩:=h;obtain⟨t,rfl⟩:=rx;obtain⟨t',rfl⟩:=ry;exact rule i j t t' s _ _ hc ⟨.int (g i j),H,I.tok _,⟨_,rfl⟩,q⟩
theorem WG(rule:∀(i j:Ai)(t u:Ch)(s:An)(Q:Vq)(E:Vq),Q (.int (g i j) s.toks) {s with toks:=s.toks+1}->Av (model X.prog X.w) X.A (f (.int i t) (.int j u)) Q E s):xw X f (n9 λi j=>.int (g i j)):=by
 intro pI s U H x y v u Q I rx ry h;obtain⟨i,j,rfl,rfl,q⟩:=h;obtain⟨t,rfl⟩:=rx;obtain⟨t',rfl⟩:=ry;exact rule i j t t' s _ _ ⟨.int (g i j),H,I.tok _,⟨_,rfl⟩,q⟩
theorem Pd{g:Ai->Ai->Ao}(rule:∀(i j:Ai)(t u:Ch)(s:An)(Q:Vq)(E:Vq),Q (.bool (g i j)) s->Av (model X.prog X.w) X.A (f (.int i t) (.int j u)) Q E s):xw X f (n9 λi j=>.bl (g i j)):=by
 intro pI s U H x y v u Q I rx ry h;obtain⟨i,j,rfl,rfl,q⟩:=h;obtain⟨t,rfl⟩:=rx;obtain⟨t',rfl⟩:=ry;exact rule i j t t' s _ _ ⟨.bl (g i j),H,I,rfl,q⟩
def ZS(i j:Ai):Prop:=0<j/\j<1073741824
def ZR(i j:Ai):Prop:=0<=j/\j<=1000000/\i.natAbs<2 ^ 64
def Pb(i j:Ai):Prop:=(-(2 ^ 64)<i/\i<2 ^ 64)\/(-(2 ^ 64)<j/\j<2 ^ 64)
theorem Pb.ok(h:Pb i j):M2 i j:=by
 rcases h with ⟨h1,h2⟩|⟨h1,h2⟩
 .exact .of_left (intBits_le_64 h1 h2)
 .exact .of_right (intBits_le_64 h1 h2)
theorem rS:xw X (Cb .Add) (n9 λi j=>.int (i+j)):=WG λ_ _ _ _ _ _ _ q=>add_int q
theorem rN:xw X (Cb .Sub) (n9 λi j=>.int (i-j)):=WG λ_ _ _ _ _ _ _ q=>sub_int q
theorem nG:xw X (Cb .FloorDiv) (rI ZS λi j=>.int (i/j)):=ż λi j _ _ _ _ _ hc q=>by
 have h1:(0:Ai)<j:=hc.1;have h2:j<1073741824:=hc.2;exact floordiv_int (by omega) (by rw[Int.fdiv_eq_ediv_of_nonneg i (by omega)];exact q) (.inl (PyProof.noPylong_small (by omega)))
theorem rQ:xw X (Cb .Mod) (rI (λ_ j=>0<j) λi j=>.int (i%j)):=ż λi j _ _ _ _ _ hc q=>by
 have h1:(0:Ai)<j:=hc;exact mod_int' (by lia) (by rw[Int.fmod_eq_emod_of_nonneg i (by lia)];exact q)
theorem rO:xw X (Cb .Pow) (rI ZR λi j=>.int (i ^ j.toNat)):=ż λ_ _ _ _ _ _ _ hc q=>pow_int_small hc.1 hc.2.1 hc.2.2 q
theorem unI{g:Ai->Ai}(rule:∀(i:Ai)(t:Ch)(s:An)(Q:Vq)(E:Vq),Q (.int (g i) s.toks) {s with toks:=s.toks+1}->Av (model X.prog X.w) X.A (f (.int i t)) Q E s):UnR X f (rU λi=>.int (g i)):=by
 intro pI s U H x v Q I rx h;obtain⟨i,rfl,q⟩:=h;obtain⟨t,rfl⟩:=rx;exact rule i t s _ _ ⟨.int (g i),H,I.tok _,⟨_,rfl⟩,q⟩
theorem rF:UnR X (unaryOp .USub) (rU λi=>.int (-i)):=unI λ_ _ _ _ _ q=>neg_int q
theorem UI(I:Y8 X pI U H s)(q:Q (.bl k) H)(e:k=k'):EP X pI U Q (.bool k') s:=by
 subst e;exact⟨.bl k,H,I,rfl,q⟩
theorem zG:xw X (DB .Lt) (n9 λi j=>.bl (decide (i<j))):=Pd λ_ _ _ _ _ _ _ q=>lt_int q
theorem zH:xw X (DB .LtE) (n9 λi j=>.bl (decide (i<=j))):=Pd λ_ _ _ _ _ _ _ q=>le_int q
theorem zJ:xw X (DB .Gt) (n9 λi j=>.bl (decide (j<i))):=Pd λ_ _ _ _ _ _ _ q=>gt_int q
theorem zK:xw X (DB .GtE) (n9 λi j=>.bl (decide (j<=i))):=Pd λ_ _ _ _ _ _ _ q=>ge_int q
theorem rR:xw X (DB .Is) (λx y H Q=>y=.O/\Q (.bl (decide (x=.O))) H):=by
 intro pI s U H x y v u Q I rx ry h;obtain⟨rfl,q⟩:=h;cases ry;refine is_none_gen (UI I q ?_);cases x<;>first
  |(cases rx;rfl)
  |(obtain⟨t,rfl⟩:=rx;rfl)
theorem jW:xw X (DB .IsNot) (λx y H Q=>y=.O/\Q (.bl (!decide (x=.O))) H):=by
 intro pI s U H x y v u Q I rx ry h;obtain⟨rfl,q⟩:=h;cases ry;refine isnot_none_gen (UI I q ?_);cases x<;>first
  |(cases rx;rfl)
  |(obtain⟨t,rfl⟩:=rx;rfl)
theorem xw.or(h:xw X f r)(h':xw X f r'):xw X f (λx y H Q=>r x y H Q\/r' x y H Q):=by
 intro pI s U H x y v u Q I rx ry q;rcases q with q|q
 .exact h pI s U H x y v u Q I rx ry q
 .exact h' pI s U H x y v u Q I rx ry q
theorem Qo{op:Hk}{r:R2}{X:Cx}{a b:Aq}{ta tb:TE}{pos:AH}(ho:xw X (DB op) r)(ha:PE X a ta)(hb:PE X b tb)(hm:DQ op b=Ad):PE X (.Compare a [op] [b] pos) (Μ r ta tb):=by
 intro pI s U H Q I h;exact wpAny_Compare1 (RC ha hb I h λv u s2 x y H2 I2 rx ry q=>ho pI s2 U H2 x y v u Q I2 rx ry q) hm
def yD(t:TE):TT:=λU H Q=>t U H λx H'=>∃ k,x=.bl k/\Q k H'
theorem LF{op:Hk}{r:R2}{X:Cx}{a b:Aq}{ta tb:TE}{pos:AH}(ho:xw X (DB op) r)(ha:PE X a ta)(hb:PE X b tb)(hm:DQ op b=Ad):PT X (.Compare a [op] [b] pos) (yD (Μ r ta tb)):=by
 intro pI s U H Q I h;refine wpAny_isTrue_Compare1 (J5 (ha pI s U H _ I h) λv s1 ⟨x,H1,I1,r1,q1⟩=>J5 (hb pI s1 U H1 _ I1 q1) λu s2 ⟨y,H2,I2,r2,q2⟩=>
  J5 (ho pI s2 U H2 x y v u _ I2 r1 r2 q2) λc s3 ⟨z,H3,I3,r3,k,e,q3⟩=>?_) hm
 subst e;cases r3;exact GJ ⟨H3,I3,q3⟩
def Wi(K:Fg)(x:V)(H:Hp)(k:Ao):Prop:=
  match x with
  |.O=>k=Ad
  |.bl b=>k=b
  |.int i=>k=(i != 0)
  |.str y=>y.length<=sizeLine/\k=((y.length:Ai) != 0)
  |.byt y=>y.size<=sizeLine/\k=((y.size:Ai) != 0)
  |.ref p=>(∃ xs,zr K H p xs/\k=!xs.isEmpty)\/(∃ xs,yg K H p xs/\k=!xs.isEmpty)\/∃ kvs,H p=Aa (.dK kvs)/\k=!kvs.isEmpty
  |_=>AN
theorem cR{kvs:Ac (κ×V)}{vs:Ac (κ×Aj)}(r:KV kvs vs):(!vs.isEmpty)=!kvs.isEmpty:=by
 cases r<;>rfl
theorem RO(r:AZ xs its):(!its.toArray.isEmpty)=!xs.isEmpty:=by
 cases r<;>simp
theorem Mp:(sizeLine:Ag)<2 ^ 63:=by rw[BE];decide
theorem qI:Zb X (λx H Q=>∃ k,Wi X.K x H k/\Q k H):=by
 intro pI s U H x v Q I rx h;obtain⟨k,e,q⟩:=h;have hl:=Mp;have hs:sizeLine=16777216:=BE;cases x with
 |O=>
  cases rx;have e':k=Ad:=e;subst e';exact truthy_none ⟨H,I,q⟩
 |bl b=>
  cases rx;have e':k=b:=e;subst e';exact GJ ⟨H,I,q⟩
 |int i=>
  obtain⟨t,rfl⟩:=rx;have e':k=(i != 0):=e;subst e';exact PySem.P.truthy_int ⟨H,I,q⟩
 |str y=>
  obtain⟨t,rfl⟩:=rx;obtain⟨hy,e'⟩:y.length<=sizeLine/\k=((y.length:Ai) != 0):=e;subst e';exact PySem.P.truthy_str (by lia) ⟨H,I.tok _,q⟩
 |byt y=>
  obtain⟨t,rfl⟩:=rx;obtain⟨hy,e'⟩:y.size<=sizeLine/\k=((y.size:Ai) != 0):=e;subst e';exact PySem.W.truthy_bytes (by lia) ⟨H,I.tok _,q⟩
 |ref p=>
  cases rx;have e':(∃ xs,zr X.K H p xs/\k=!xs.isEmpty)\/(∃ xs,yg X.K H p xs/\k=!xs.isEmpty)\/∃ kvs,H p=Aa (.dK kvs)/\k=!kvs.isEmpty:=e;rcases e' with ⟨xs,hx,e'⟩|⟨xs,hx,e'⟩|⟨kvs,hx,e'⟩
  .subst e';obtain⟨its,r,pl,hz⟩:=I.list hx;have RL:=r.length;exact wpAny_truthy_list pl.isList (by simp only[AL];lia) ⟨H,I.tok _,by rw[RO r];exact q⟩
  .subst e';obtain⟨its,r,pl,hz⟩:=I.tuple hx;have RL:=r.length;exact truthy_tuple pl (by simp only[AL];lia) ⟨H,I.tok _,by rw[RO r];exact q⟩
  .subst e';obtain⟨hz,hS,vs,r,m⟩:kvs.length<=sizeLine/\(p==Hn)=Ad/\∃ vs,KV kvs vs/\s.heap.DictOf (Qp X.prog X.w) p vs:=I.hok p _ hx;have RL:kvs.length=vs.length:=Yk r;exact wpAny_truthy_dict hS m (by lia) ⟨H,I.tok _,by rw[cR r];exact q⟩
 |_=>exact(show AN from e).elim
theorem gX{X:Cx}{a:Aq}{ta:TE}(ha:PE X a ta)(he:∀ whole,J_5 a X.env whole=(do let v <-whole;standAt a.pos;holding [v] (truthy v))):PT X a (λU H Q=>ta U H λx H'=>∃ k,Wi X.K x H' k/\Q k H'):=by
 intro pI s U H Q I h;exact isTrue_plain (J5 (ha pI s U H _ I h) λv s1 ⟨x,H1,I1,r1,q1⟩=>qI pI s1 U H1 x v Q I1 r1 q1) (he _)
theorem cO:xw X (Cb .Add) (λx y H Q=>∃ i j,x=.str i/\y=.str j/\i.length+j.length<=sizeLine/\Q (.str (i++j)) H):=by
 intro pI s U H x y v u Q I rx ry h;obtain⟨i,j,rfl,rfl,hz,q⟩:=h;obtain⟨t,rfl⟩:=rx;obtain⟨t',rfl⟩:=ry;exact add_str (λt' tk=>⟨.str (i++j),H,I.tok _,⟨_,rfl⟩,q⟩) hz
theorem IG(r:AZ [x] us):∃ u,us=[u]/\BB x u:=by
 cases r with
 |cons r1 r2=>cases r2;exact⟨_,rfl,r1⟩
theorem Nt(r:AZ [x,y] us):∃ u w',us=[u,w']/\BB x u/\BB y w':=by
 cases r with
 |cons r1 r2=>
  cases r2 with
  |cons r3 r4=>cases r4;exact⟨_,_,rfl,r1,r3⟩
theorem eP(hc:X.calm=Ab):GN X (.builtin "min") (λxs H Q=>∃ i j,xs=[.int i,.int j]/\Q (.int (if j<i then j else i)) H):=by
 intro pI s U H xs us Q I r h;obtain⟨i,j,rfl,q⟩:=h;obtain⟨u,w',rfl,⟨t,rfl⟩,⟨t',rfl⟩⟩:=Nt r;refine min_two_ints (I.ok.hd hc) λh' tk k=>⟨_,H,I.kept k,?_,q⟩
 by_cases hj:j<i
 .rw[Au hj,Au hj];exact⟨_,rfl⟩
 .rw[AA hj,AA hj];exact⟨_,rfl⟩
theorem Sv:GN X (.type "int") (λxs H Q=>(∃ i,xs=[.int i]/\Q (.int i) H)\/∃ k,xs=[.bl k]/\Q (.int (if k then 1 else 0)) H):=by
 intro pI s U H xs us Q I r h;rcases h with ⟨i,rfl,q⟩|⟨k,rfl,q⟩
 .obtain⟨u,rfl,t,rfl⟩:=IG r;exact call_int_int ⟨.int i,H,I,⟨_,rfl⟩,q⟩
 .obtain⟨u,rfl,r1⟩:=IG r;cases r1;exact call_int_bool ⟨.int (if k then 1 else 0),H,I.tok _,⟨_,rfl⟩,q⟩
theorem RI:GN X (.type "str") (λxs H Q=>∃ i,xs=[.int i]/\i.natAbs.log2<1920/\Q (.str (toString i)) H):=by
 intro pI s U H xs us Q I r h;obtain⟨i,rfl,hz,q⟩:=h;obtain⟨u,rfl,t,rfl⟩:=IG r;exact PySem.P.str_of_int hz ⟨.str _,H,I.tok _,⟨_,rfl⟩,q⟩
structure ux (h:AC) (x dx C:Ak) (mA:Ah->Am Aj):Prop where
 obj:h.get? x=Aa (DJ C dx)
 ns:h.Ns1 dx mA
 ne:dx≠x
theorem dD{h:AC}(n:h.Ns1 dx mA):∃ od,h.get? dx=Aa od/\∀ name,HQ name od=Aa (mA name):=by
 obtain⟨o,es,ep,ho,hd,hk,_,hm⟩:=n;refine⟨o,ho,λname=>?_⟩
 have e:=hm name;unfold nsFind findBy at e;rw[<-WK]at e;unfold HQ;rw[hd];dsimp only;split
 .rename_i y q;rw[q]at e;exact congrArg Aa e
 .rename_i q;rw[q]at e;have a:es.toList.any (·.refKey)=Ad:=by
   rw[List.any_eq_false];intro y hy;obtain⟨z,t,hkey⟩:=hk y (WN.mp hy);simp[DictEntry.refKey,hkey]
  have a':¬ es.toList.any (·.refKey)=Ab:=by rw[a];exact BC
  rw[AA a'];exact congrArg Aa e
theorem ux.look(I:ux h x dx C mA):∃ od,PySem.W.InstAt h x (DJ C dx) C (Aa od)/\∀ name,HQ name od=Aa (mA name):=
 let ⟨od,ho,hl⟩:=dD I.ns
 ⟨od,⟨I.obj,rfl,rfl,ho⟩,hl⟩
section
variable{E:Vq}{K:Fg}
theorem mO{Q:Vq}(X:K.In s.heap)(I:ux s.heap x dx C mA)(hg:DX K C name=Ab)(hh:Eg K C=Ab)(ha:Ap K (.ref C) name=Aa Ae)(hv:mA name=Aa v)(hv':YA v=Ab)(h:Q v {s with toks:=s.toks+1}):Av (model prog w) A (getAttr (.ref x) name expr) Q E s:=by
 obtain⟨od,J_,hl⟩:=I.look;exact PySem.W.get_value X J_ (HK hg).1 (PySem.W.findObj_own hh ha rfl (by rw[hl,hv])) hv' h
theorem eY(X:K.In s.heap)(I:ux s.heap x dx C mA)(hg:DX K C name=Ab)(hf:Ap K (.ref C) name=Aa (Aa (.ref f)))(ht:Bw K (.ref f)=Ab)(hv:mA name=Ae)(h:Q (.ref f,[.ref x]) s):Av (model prog w) A (getMethod (.ref x) name pl) Q E s:=by
 obtain⟨od,J_,hl⟩:=I.look;exact PySem.W.method_fn X J_ (HK hg).1 (HK hg).2 hf (A2.mp ht) (by show (HQ name od).map (·.isSome)=Aa Ad;rw[hl,hv];rfl) h
theorem lG(X:K.In s.heap)(I:ux s.heap x dx C mA)(hs:Ap K (.ref C) "__setattr__" = Aa (Aa (.builtin "object.__setattr__")))(hp:E3 K C=Ab)(ht:Jt K C name=Aa Ae)(hh:Eg K C=Ab)(hw:K2 mA ns)(hsz:ns.length<=sizeLine)(h:∀ h',ux h' x dx C (λy=>if y=name then Aa v else mA y)->D6 dx s.heap h'->Q () {s with heap:=h',toks:=s.toks+2}):Av (model prog w) A (Mf (.ref x) name v) Q E s:=by
  obtain⟨od,J_,hl⟩:=I.look;refine PySem.W.set_plain X J_ hs (PySem.W.osa_open (s:={s with toks:=s.toks+1}) (r:=Ae) X J_ hp ht λb=>?_)
  obtain⟨cd,hc,Ϣ⟩:=PySem.W.any_some hh;have hx:s.heap.get? x=Aa ⟨.ref C,Aa dx,.plain,#[]⟩:=I.obj;refine Al (Ax (Al (Al (YX hx (Al (PySem.W.Looks.here (s:={s with toks:=s.toks+1}) (PySem.W.looks_clsIn X hc) ?_))))))
  rw[Ϣ];refine Ax (a:=Aa dx) (Al (Ax (Al ?_)));refine wpAny_nsSet1 (s:={s with toks:=s.toks+1}) I.ns λh' ñ vk=>?_
  obtain⟨oD,esD,epD,hoD,hdD,hcD⟩:=ñ.count (PySem.Within.cons name v hw);refine Al (YY hoD (by rw[hdD];exact YN (BF hcD (by rw[Ba];lia))) ?_)
  exact Ax (h _ ⟨(vk.2 _ (CB I.ne)).trans I.obj,ñ,I.ne⟩ vk)
theorem fP{s:An}(X:K.In s.heap)(hm:F4 K C=Ab)(hi:Ap K (.ref C) "__init__" = Aa (Aa (.ref f)))(hf:Dz K (.ref f)=Aa (.type "function"))(h:Er (model prog w) (A.under (.builtin "type.__call__" ⟨.ref C::vs,kw⟩)) (.call (.ref f) ⟨.ref (s.heap.objs.size+1)::vs,kw⟩) (PySem.W.InitBack (s.heap.objs.size+1) R)
      {s with heap:=(s.heap.push CP).push (DJ C s.heap.objs.size)}):Er (model prog w) A (.call (.ref C) ⟨vs,kw⟩) R s:=by
  obtain⟨hh,g,d,t,os⟩:=s;exact PySem.W.make_core (PySem.W.makes_of X hm) (DL X hi) (λself=>PySem.W.bind_fn X self hf) (.inl rfl) h
end
noncomputable def FY(f:Ah)(v:V):Ac (Ah×V)->Ac (Ah×V)
 |[]=>[(f,v)]
 |(g,x)::r=>if g=f then (g,v)::r else (g,x)::FY f v r
theorem R4(f g:Ah)(v:V):∀ fs:Ac (Ah×V),(FY f v fs).lookup g=if g=f then Aa v else fs.lookup g
 |[]=>by
  show BM g [(f,v)]=_;by_cases h:g=f
  .have hb:(g==f)=Ab:=A2.mpr h;simp only[BM,hb,Au h]
  .have hb:(g==f)=Ad:=BO.mpr h;simp only[BM,hb,AA h]
 |(k,x)::r=>by
  have ih:=R4 f g v r;rw[show FY f v ((k,x)::r)=(if k=f then (k,v)::r else (k,x)::FY f v r) from rfl]
  by_cases hk:k=f
  .rw[Au hk];by_cases h:g=k
   .have hb:(g==k)=Ab:=A2.mpr h;simp only[BM,hb,Au (h.trans hk)]
   .have hb:(g==k)=Ad:=BO.mpr h;simp only[BM,hb,AA (λe:g=f=>h (e.trans hk.symm))]
  .rw[AA hk];by_cases h:g=k
   .have hb:(g==k)=Ab:=A2.mpr h;simp only[BM,hb,AA (λe:g=f=>hk (h.symm.trans e))]
   .have hb:(g==k)=Ad:=BO.mpr h;simp only[BM,hb];exact ih
theorem PN(f:Ah)(v:V):∀ fs:Ac (Ah×V),f∈(FY f v fs).map (·.1)/\∀ g,g∈fs.map (·.1)->g∈(FY f v fs).map (·.1)
 |[]=>⟨by simp[FY],λg h=>by simp at h⟩
 |(k,x)::r=>by
  obtain⟨i1,i2⟩:=PN f v r;rw[show FY f v ((k,x)::r)=(if k=f then (k,v)::r else (k,x)::FY f v r) from rfl]
  by_cases hk:k=f
  .rw[Au hk];subst hk;exact⟨by simp,λg h=>by simpa using h⟩
  .rw[AA hk];refine⟨?_,λg h=>?_⟩
   .rw[BU];exact Ay _ i1
   .rw[BU]at h ⊢;rcases AE.mp h with e|e
    .exact List.mem_cons.mpr (.inl e)
    .exact Ay _ (i2 g e)
theorem R5(f:Ah)(v:V):∀ fs:Ac (Ah×V),(FY f v fs).length<=fs.length+1
 |[]=>by simp[FY]
 |(k,x)::r=>by
  have ih:=R5 f v r;rw[show FY f v ((k,x)::r)=(if k=f then (k,v)::r else (k,x)::FY f v r) from rfl]
  by_cases hk:k=f
  .rw[Au hk,Ba,Ba];lia
  .rw[AA hk,Ba,Ba];lia
theorem JY.some_of(r:JY (Aa v) o):∃ u,o=Aa u/\BB v u:=by
 cases o with
 |none=>exact(show AN from r).elim
 |some u=>exact⟨u,rfl,r⟩
theorem JY.none_of(r:JY Ae o):o=Ae:=by
 cases o with
 |none=>rfl
 |some u=>exact(show AN from r).elim
theorem cW(r:BB v u):YA u=Ab:=by
 cases v with
 |O=>cases (show u=Dg from r);rfl
 |bl b=>cases (show u=Mb b from r);rfl
 |int i=>obtain⟨t,e⟩:=(show ∃ t,u=Ip i t from r);cases e;rfl
 |str x=>obtain⟨t,e⟩:=(show ∃ t,u=MZ x t from r);cases e;rfl
 |byt b=>obtain⟨t,e⟩:=(show ∃ t,u=Yr b t from r);cases e;rfl
 |flt b=>obtain⟨t,e⟩:=(show ∃ t,u=Ys b t from r);cases e;rfl
 |ref a=>cases (show u=Bv a from r);rfl
 |ty n=>cases (show u=Gs n from r);rfl
theorem Qy(hok:yj P w H h)(e:H a=Aa (.ins C dx fs)):∃ mA,ux h a dx C mA/\(∀ f,JY (fs.lookup f) (mA f))/\K2 mA (fs.map (·.1))/\fs.length<=1000/\H dx=Aa (.own a):=by
 obtain⟨d,z,ne,ob,mA,n,r,q⟩:=(show ObjOk P w H h a (.ins C dx fs) from hok a _ e)
 exact⟨mA,⟨ob,n,ne⟩,r,q,z,d⟩
structure we (K:Fg) (C:Ak):Prop where
 pg:DX K C Do=Ab
 hd:Eg K C=Ab
 po:E3 K C=Ab
 sa:Ap K (.ref C) "__setattr__" = Aa (Aa (.builtin "object.__setattr__"))
theorem we.get{K:Fg}(c:we K C)(f:Ah):DX K C f=Ab:=c.pg
def Fv(K:Fg)(C:Ak)(f:Ah):Prop:=Ap K (.ref C) f=Aa Ae
theorem Fv.taker{K:Fg}(n:Fv K C f):Jt K C f=Aa Ae:=by
 unfold Jt;rw[show Ap K (.ref C) f=Aa Ae from n]
 rfl
structure zf (K:Fg) (C:Ak) (m:Ah) (f:Ak):Prop where
 at_:Ap K (.ref C) m=Aa (Aa (.ref f))
 fn:Bw K (.ref f)=Ab
 kp:AM K (.ref f)=Ab
section
variable{U:St}{E:Vq}
theorem RS{b:Ao}{Q:Vq}(I:Y8 X pI U H s)(e:H a=Aa (.ins C dx fs))(c:we X.K C)(n:Fv X.K C f)(l:fs.lookup f=Aa v)(h:∀ u s',Y8 X pI U H s'->BB v u->Q u s'):Av (model X.prog X.w) A (getAttr (.ref a) f b) Q E s:=by
 obtain⟨mA,O,r,_,_,_⟩:=Qy I.hok e;obtain⟨u,hu,ru⟩:=JY.some_of (v:=v) (o:=mA f) (by rw[<-l];exact r f)
 exact mO I.kIn O (c.get f) c.hd n hu (cW ru) (h u _ (I.tok _) ru)
theorem M8{g:Ak}(I:Y8 X pI U H s)(e:H a=Aa (.ins C dx fs))(c:we X.K C)(k:zf X.K C m g)(l:fs.lookup m=Ae)(h:Q (.ref g,[.ref a]) s):Av (model X.prog X.w) A (getMethod (.ref a) m pl) Q E s:=by
 obtain⟨mA,O,r,_,_,_⟩:=Qy I.hok e;have hn:mA m=Ae:=JY.none_of (by rw[<-l];exact r m)
 exact eY I.kIn O (c.get m) k.at_ k.fn hn h
theorem cL(I:Y8 X pI U H s)(e:H a=Aa (.ins C dx fs))(c:we X.K C)(n:Fv X.K C f)(hl:fs.length<1000)(ry:BB y u)(h:∀ s',Y8 X pI U (upd H a (.ins C dx (FY f y fs))) s'->Q () s'):Av (model X.prog X.w) A (Mf (.ref a) f u) Q E s:=by
 obtain⟨mA,O,r,wi,_,ho⟩:=Qy I.hok e;have hz:(fs.map (·.1)).length<=sizeLine:=by rw[Bb,BE];lia
 refine lG I.kIn O c.sa c.po n.taker c.hd wi hz λh' O' sb=>h _ ?_
 have hd:∃ o,h'.get? dx=Aa o:=let ⟨o,_,_,e',_⟩:=O'.ns;⟨o,e'⟩
 refine I.write (x:=a) (e:=dx) (by rw[e];exact Y_3) (.inr ho) (λb q hb z=>(sb.2 b hb).trans z) hd ?_
 refine⟨by rw[AW O.ne];exact ho,?_,O.ne,O'.obj,_,O'.ns,λg=>?_,λg hg=>?_⟩
 .have:=R5 f y fs;lia
 .show JY ((FY f y fs).lookup g) (if g=f then Aa u else mA g)
  rw[R4];by_cases q:g=f
  .rw[Au q,Au q];exact ry
  .rw[AA q,AA q];exact r g
 .by_cases q:g=f
  .rw[q];exact(PN f y fs).1
  .refine(PN f y fs).2 g (wi g λz=>hg ?_)
   show (if g=f then Aa u else mA g)=Ae
   rw[AA q];exact z
theorem Y8.made(I:Y8 X pI U H s):Y8 X pI U (upd (upd H s.heap.objs.size (.own (s.heap.objs.size+1))) (s.heap.objs.size+1) (.ins C s.heap.objs.size [])) {s with heap:=(s.heap.push CP).push (DJ C s.heap.objs.size)}:=by
  have e1:(s.heap.push CP).get? s.heap.objs.size=Aa CP:=AI s.heap rfl;have e2:((s.heap.push CP).push (DJ C s.heap.objs.size)).get? (s.heap.objs.size+1)=Aa (DJ C s.heap.objs.size):=by
    have:=AI (s.heap.push CP) (o:=DJ C s.heap.objs.size) rfl
    rwa [BR]at this
  have e3:(s.heap.push CP).Ns s.heap.objs.size (λ_=>Ae):=⟨CP,#[],_,e1,rfl,(λe he=>absurd he (by simp)),λ_=>rfl⟩
  have I1:=I.laid (a:=s.heap.objs.size) (o:=.own (s.heap.objs.size+1)) (h':=s.heap.push CP) (t':=s.toks) (λb u q=>Ar _ q) (AQ _) ⟨_,e1⟩
  refine I1.laid (a:=s.heap.objs.size+1) (o:=.ins C s.heap.objs.size []) (t':=s.toks) (λb u q=>Ar _ q) (KR (BR _ _)) ?_
  have ne:s.heap.objs.size≠s.heap.objs.size+1:=A5 (G4 _);refine⟨by rw[AW ne,B1],D5 _,ne,e2,λ_=>Ae,(Ye e3).at λo q=>Ar _ q,λ_=>Y_3,λy hy=>absurd rfl hy⟩
theorem Uo{Q:Vq}(hb:BW e f env (eval e env)=eval e env)(h:Av (model prog w) A (eval e env) (λo s₁=>Av (model prog w) A (getAttr o f Ab) Q E s₁) E s):Av (model prog w) A (eval (.Attribute e f pos) env) Q E s:=
 Attribute_any_ h (by rw[arm_eval_Attribute,hb])
end
def Zx(K:Fg)(ta:TE)(f:Ah):TE:=λU H Q=>ta U H λx H1=>∃ a C dx fs v,x=.ref a/\H1 a=Aa (.ins C dx fs)/\we K C/\Fv K C f/\fs.lookup f=Aa v/\Q v H1
def ZK(K:Fg)(ta tv:TE)(f:Ah):TS:=λD U H=>tv U H λy H1=>ta U H1 λx H2=>∃ a C dx fs,x=.ref a/\H2 a=Aa (.ins C dx fs)/\we K C/\Fv K C f/\fs.length<1000 /\
 D.nx U (upd H2 a (.ins C dx (FY f y fs)))
theorem Oo(he:PE X e ta)(hb:BW e f X.env (eval e X.env)=eval e X.env):PE X (.Attribute e f pos) (Zx X.K ta f):=by
 intro pI s U H Q I h;refine Uo hb (J5 (he pI s U H _ I h) λu s1 ⟨x,H1,I1,rx,a,C,dx,fs,v,ex,ea,c,n,l,q⟩=>?_)
 subst ex;obtain rfl:u=Bv a:=rx;exact RS I1 ea c n l λu' s2 I2 ru=>⟨v,H1,I2,ru,q⟩
theorem JC(ha:PE X o ta)(hv:PE X value tv)(hs:Dp value (Aa (.Attribute o f pos')) pos.line X.env=pure Ad):PS X (.Assign [.Attribute o f pos'] value pos) (ZK X.K ta tv f):=by
 intro pI s U H D I h;refine YO (J5 (hv pI s U H _ I h) λu s1 ⟨y,H1,I1,ry,q⟩=>J5 (ha pI s1 U H1 _ I1 q) λov s2 ⟨x,H2,I2,rx,a,C,dx,fs,ex,ea,c,n,l,q2⟩=>?_) hs
 subst ex;obtain rfl:ov=Bv a:=rx;exact cL I2 ea c n l ry λs3 I3=>⟨U,_,I3,q2⟩
structure PP (k:Ag) (A:AY):Prop where
 hd:A.handled=Ae
 dp:A.depth+3*k+5<HU
 un:A.units+16*k+200<BD
 gd:A.guards=Aa []
theorem PP.mono(r:PP k A)(h:j<=k):PP j A:=⟨r.hd,by have:=r.dp;lia,by have:=r.un;lia,r.gd⟩
theorem PP.deeper(r:PP (k+1) A)(env:B8):PP k (A.deeper env):=
 ⟨r.hd,by have:=r.dp;show A.depth+1+3*k+5<_;lia,by have:=r.un;show A.units+3+16*k+200<_;lia,r.gd⟩
theorem PP.in1(r:PP (k+1) A):PP k A.in1:=
 ⟨r.hd,by have:=r.dp;show A.depth+3*k+5<_;lia,by have:=r.un;show A.units+1+16*k+200<_;lia,r.gd⟩
theorem RZ{A:AY}:(A.under (.builtin "type.__call__" ⟨.ref C::us,kw⟩)).depth=A.depth+1:=by
 first|rfl|simp[KW,Code.weight,Code.isCreation,Code.isGuard,Code.isCaller,XQ,KY,guardIds]
theorem RY{A:AY}:(A.under (.builtin "type.__call__" ⟨.ref C::us,kw⟩)).units=A.units+1:=by
 first|rfl|simp[KW,Code.cUnits,XQ,KY]
theorem PP.make(r:PP (k+1) A)(C:Ak)(us:Ac Aj)(kw:Ac (Ah×Aj)):PP k (A.under (.builtin "type.__call__" ⟨.ref C::us,kw⟩)):=
 ⟨r.hd,by have:=r.dp;rw[RZ];omega,by have:=r.un;rw[RY];omega,r.gd⟩
theorem PP.depth(r:PP k A):A.depth<HU:=by have:=r.dp;lia
theorem PP.units(r:PP k A):A.units+64<BD:=by have:=r.un;lia
def MO:TA:=λ_ H Q=>Q [] H
def Lg(ta:TE)(tr:TA):TA:=λU H Q=>ta U H λx H1=>tr U H1 λxs H2=>Q (x::xs) H2
theorem B9:PA X [] MO:=λ_ _ _ _ H Q I h=>XN ⟨[],H,I,.nil,h⟩
theorem Bm(ha:PE X e te)(hr:PA X es t)(hs:At (e::es) X.env=(Ad,eval e X.env)::At es X.env:=by rfl):PA X (e::es) (Lg te t):=by
 intro pos pI s U H Q I h;rw[hs];show Av _ _ (spliced ((Ad,eval e X.env)::Br pos (At es X.env))) _ _ s;refine XM (J5 (ha pI s U H _ I h) λu s1 ⟨x,H1,I1,r1,q1⟩=>?_)
 exact J5 (hr pos pI s1 U H1 _ I1 q1) λus s2 ⟨xs,H2,I2,r2,q2⟩=>⟨x::xs,H2,I2,.cons r1 r2,q2⟩
def iq(t:TA):TE:=λU H Q=>t U H λxs H1=>xs.length<=sizeLine/\∀ p,H1 p=Ae->Q (.ref p) (upd H1 p (.H xs))
def Zu(t:TA):TE:=λU H Q=>t U H λxs H1=>xs.length<=sizeLine/\∀ p,H1 p=Ae->Q (.ref p) (upd H1 p (.L xs))
theorem QL(h:PA X es t):PE X (.Tuple es x1 pos) (iq t):=by
 intro pI s U H Q I hq;refine wpAny_Tuple_spliced (J5 (h pos pI s U H _ I hq) λus s1 ⟨xs,H1,I1,r,z,q⟩=>⟨by rw[<-r.length];exact z,?_⟩)
 have hf:H1 s1.heap.objs.size=Ae:=I1.hok.fresh (AQ _);refine⟨.ref s1.heap.objs.size,upd H1 s1.heap.objs.size (.H xs),I1.laid (t':=s1.toks) (λb u e=>Ar _ e) (AQ _) ?_,rfl,q _ hf⟩
 exact⟨z,us,r,⟨_,AI _ rfl,rfl,_,rfl⟩⟩
theorem Nn(h:PA X es t):PE X (.List es pos) (Zu t):=by
 intro pI s U H Q I hq;refine wpAny_List_spliced (J5 (h pos pI s U H _ I hq) λus s1 ⟨xs,H1,I1,r,z,q⟩=>⟨by rw[<-r.length];exact z,?_⟩)
 have hf:H1 s1.heap.objs.size=Ae:=I1.hok.fresh (AQ _);refine⟨.ref s1.heap.objs.size,upd H1 s1.heap.objs.size (.L xs),I1.laid (t':=s1.toks) (λb u e=>Ar _ e) (AQ _) ?_,rfl,q _ hf⟩
 exact⟨z,us,0,r,AI _ rfl⟩
abbrev Sp:=Ac V->Hp->VK->XK->Prop
abbrev CXT:=Ac B8->Hp->An->XK->Aj->An->Prop
structure xp (P:AG) (w:AD) (K:Fg) (mg:Ah->Am Aj) (base:AC) (A:AY) (outer:Ac B8) (s:An) (H:Hp):Prop where
 frames:A.frames=Aa outer
 mod:Mod K mg base
 bs:∀ b o,base.get? b=Aa o->s.heap.get? b=Aa o/\H b=Ae
 bsz:base.objs.size<=s.heap.objs.size
 funs:s.heap.FunFrames base outer
 frf:∀ b∈xx outer,H b=Ae
 hok:yj P w H s.heap
 bare:Gr s.gens
def CE(outer:Ac B8)(P:AG)(w:AD)(H:Hp)(s:An)(Q:VK)(u:Aj)(s':An):Prop:=
 ∃ v H',s'.os=s.os/\Gr s'.gens/\Un (xx outer) [] H H' s.heap s'.heap/\yj P w H' s'.heap/\BB v u/\Q v H'
def CR(CX:CXT)(outer:Ac B8)(P:AG)(w:AD)(H:Hp)(s:An)(Q:VK)(E:XK)(r:Jf)(s':An):Prop:=
  match r with
  |.ok (.ret u)=>CE outer P w H s Q u s'
  |.ok _=>AN
  |.error e=>CX outer H s E e s'
structure Y0 (P:AG) (w:AD) (K:Fg) (mg:Ah->Am Aj) (base:AC) (CX:CXT) (k:Ag) (f:Ak) (fd:A7) (ps:Ac Ah) (sp:Sp):Prop where
 len:∀ vs H Q E,sp vs H Q E->vs.length=ps.length
 run:∀(A:AY)(outer:Ac B8)(s:An)(H:Hp)(args:Args)(us:Ac Aj)(vs:Ac V)(Q:VK)(E:XK),PP k A->xp P w K mg base A outer s H->Hb s fd args (ps.zip us)->AZ vs us->sp vs H Q E ->
  Er (model P w) A (.call (.ref f) args) (CR CX outer P w H s Q E) s
theorem Y0.mono{K:Fg}(F:Y0 P w K mg base CX j f fd ps sp)(h:j<=k):Y0 P w K mg base CX k f fd ps sp:=⟨F.len,λA outer s H args us vs Q E hr=>F.run A outer s H args us vs Q E (hr.mono h)⟩
theorem Y0.imp{K:Fg}(F:Y0 P w K mg base CX k f fd ps sp)(h:∀ vs H Q E,sp' vs H Q E->sp vs H Q E):Y0 P w K mg base CX k f fd ps sp':=
 ⟨λvs H Q E q=>F.len vs H Q E (h _ _ _ _ q),λA outer s H args us vs Q E hr he hb hv hs=>F.run A outer s H args us vs Q E hr he hb hv (h _ _ _ _ hs)⟩
theorem xp.make{K:Fg}(e:xp P w K mg base A outer s H)(C:Ak)(us:Ac Aj)(kw:Ac (Ah×Aj)):
    xp P w K mg base (A.under (.builtin "type.__call__" ⟨.ref C::us,kw⟩)) outer s H:=⟨by first|exact e.frames|(simpa [KW,Code.envs,KY,pushEnvs] using e.frames),e.mod,e.bs,e.bsz,e.funs,e.frf,e.hok,e.bare⟩
theorem xp.in1{K:Fg}(e:xp P w K mg base A outer s H):xp P w K mg base A.in1 outer s H:=⟨e.frames,e.mod,e.bs,e.bsz,e.funs,e.frf,e.hok,e.bare⟩
section
variable{U:St}
theorem Y8.env0(I:Y8 X pI U H s):xp X.prog X.w X.K X.mg X.base X.A X.stack s H:=
 ⟨I.ok.frames,I.ok.mod,I.bs,BF I.ok.bsz I.sz,I.stack,I.stkFree,I.hok,I.bare⟩
theorem Y8.after(I:Y8 X pI U H s)(h:CE X.stack X.prog X.w H s Q u s'):EP X pI U Q u s':=by
 obtain⟨v,H',os,bare,un,hok,r,q⟩:=h;obtain⟨hh,g,d,t,os'⟩:=s';obtain rfl:os'=s.os:=os;exact⟨v,H',I.call (h':=hh) (g':=g) (d':=d) (t':=t) (ch:=[]) un hok bare (λb z=>absurd z (by simp)),r,q⟩
end
def Vw(sp:Sp)(vh:Ac V)(E:XK)(t:TA):TE:=λU H Q=>t U H λvs H1=>sp (vs++vh) H1 Q E
def LO(C:Ak)(m:Ah)(sp:Sp)(vh:Ac V)(E:XK)(ta:TE)(t:TA):TE:=λU H Q=>ta U H λx H1=>∃ a dx fs,x=.ref a/\H1 a=Aa (.ins C dx fs)/\fs.lookup m=Ae /\
 t U H1 λvs H2=>sp (x::(vs++vh)) H2 Q E
def yF(C:Ak)(sp:Sp)(vh:Ac V)(E:XK)(t:TA):TE:=λU H Q=>t U H λvs H1=>∀ x dx,H1 x=Ae->H1 dx=Ae->dx≠x ->
 sp (.ref x::(vs++vh)) (upd (upd H1 dx (.own x)) x (.ins C dx [])) (λv H2=>v=.O/\Q (.ref x) H2) E
def Cv(K:Fg)(fd:A7)(ps:Ac Ah)(ds:Ac Aj):Prop:=
 ∀(s:An)(us:Ac Aj),K.In s.heap->(us++ds).length=ps.length->Hb s fd ⟨us,[]⟩ (ps.zip (us++ds))
theorem Cv.all{K:Fg}(h:∀ us:Ac Aj,us.length=ps.length->HS fd ⟨us,[]⟩=pure (ps.zip us)):Cv K fd ps []:=λs us _ hl=>by
 rw[Bp]at hl ⊢;exact .of_eq (h us hl)
def G7(CX:CXT)(X:Cx)(E:XK):Prop:=∀(pI:Pn)(U:St)(H:Hp)(s:An)(e:Aj)(s':An),Y8 X pI U H s->CX X.stack H s E e s'->X.xe e s'
theorem Nm(F:Y0 X.prog X.w X.K X.mg X.base CX k f fd ps sp)(hr:PP k X.A)(hb:Cv X.K fd ps ds)(hd:AZ vh ds)(hx:G7 CX X E)(I:Y8 X pI U H s)(r:AZ vs us)(h:sp (vs++vh) H Q E):Av (model X.prog X.w) X.A (call (.ref f) us) (EP X pI U Q) X.xe s:=by
 have r2:AZ (vs++vh) (us++ds):=r.append hd;have hl:(us++ds).length=ps.length:=by rw[<-r2.length];exact F.len _ _ _ _ h
 refine Gx (E9 (F.run X.A X.stack s H ⟨us,[]⟩ (us++ds) (vs++vh) Q E hr I.env0 (hb s us I.kIn hl) r2 h) λr s' hq=>?_)
 cases r with
 |error e=>exact hx pI U H s e s' I hq
 |ok fl=>
  cases fl with
  |ret u=>exact I.after hq
  |next=>exact A4 hq
  |brk=>exact A4 hq
  |cont=>exact A4 hq
theorem Ng(F:Y0 X.prog X.w X.K X.mg X.base CX k f fd ps sp)(hr:PP k X.A)(hg:Gl X x)(hm:X.mg x=Aa (.ref f))(hk:AM X.K (.ref f)=Ab)(hb:Cv X.K fd ps ds)(hd:AZ vh ds)(hx:G7 CX X E)(ha:PA X (e::es) t)(zh:(x==("__debug__" : Ah))=Ad:=by decide)(he:At (e::es) X.env=(Ad,eval e X.env)::At es X.env:=by rfl)(zj:(Br pos (At es X.env)).any (·.1)=Ad:=by rfl):PE X (.Call (.Name x p) (e::es) [] pos) (Vw sp vh E t):=by
 intro pI s U H Q I h;refine DC (JG I hg hm ?_ zh);refine CZ (h₀:=X.base) I.ok.mod.kin hk (J5 (ha pos pI s U H _ I h) λus s1 ⟨vs,H1,I1,r,q⟩=>⟨I1.kIn,?_⟩) he zj
 exact Nm F hr hb hd hx I1 r q
structure Mk (K:Fg) (C f:Ak):Prop where
 makes:F4 K C=Ab
 init:Ap K (.ref C) "__init__" = Aa (Aa (.ref f))
 fn:Bw K (.ref f)=Ab
 kp:AM K (.ref C)=Ab
theorem Qf(M:Mk X.K C f)(F:Y0 X.prog X.w X.K X.mg X.base CX k f fd ps sp)(hr:PP (k+1) X.A)(hb:Cv X.K fd ps ds)(hd:AZ vh ds)(hx:G7 CX X E)(I:Y8 X pI U H s)(r:AZ vs us)(h:∀ x dx,H x=Ae->H dx=Ae->dx≠x->sp (.ref x::(vs++vh)) (upd (upd H dx (.own x)) x (.ins C dx [])) (λv H2=>v=.O/\Q (.ref x) H2) E):Av (model X.prog X.w) X.A (call (.ref C) us) (EP X pI U Q) X.xe s:=by
 have hq:=h (s.heap.objs.size+1) s.heap.objs.size (I.hok.fresh (Jx _)) (I.hok.fresh (AQ _)) (A5 (G4 _));have I2:=Y8.made (C:=C) I;have r2:AZ (V.ref (s.heap.objs.size+1)::(vs++vh)) (Bv (s.heap.objs.size+1)::(us++ds)):=.cons rfl (r.append hd);have hl:(Bv (s.heap.objs.size+1)::us++ds).length=ps.length:=by
  have e:=r2.length;rw[F.len _ _ _ _ hq]at e;exact e.symm
 refine Gx (fP (f:=f) I.kIn M.makes M.init (A2.mp M.fn) (E9 (F.run _ X.stack _ _ ⟨Bv (s.heap.objs.size+1)::us,[]⟩ (Bv (s.heap.objs.size+1)::(us++ds)) _ _ E (hr.make C us [])
  (I2.env0.make C us []) (hb _ (Bv (s.heap.objs.size+1)::us) I2.kIn hl) r2 hq) λr s' ϭ=>?_))
 cases r with
 |error e=>exact hx pI U _ _ e s' I2 ϭ
 |ok fl=>
  cases fl with
  |ret u=>
   obtain⟨v,H',I3,rv,ev,q3⟩:=I2.after ϭ;subst ev;exact⟨rv,⟨V.ref (s.heap.objs.size+1),H',I3,rfl,q3⟩⟩
  |next=>exact A4 ϭ
  |brk=>exact A4 ϭ
  |cont=>exact A4 ϭ
theorem kW(M:Mk X.K C f)(F:Y0 X.prog X.w X.K X.mg X.base CX k f fd ps sp)(hr:PP (k+1) X.A)(hg:Gl X x)(hm:X.mg x=Aa (.ref C))(hb:Cv X.K fd ps ds)(hd:AZ vh ds)(hx:G7 CX X E)(ha:PA X (e::es) t)(zh:(x==("__debug__" : Ah))=Ad:=by decide)(he:At (e::es) X.env=(Ad,eval e X.env)::At es X.env:=by rfl)(zj:(Br pos (At es X.env)).any (·.1)=Ad:=by rfl):PE X (.Call (.Name x p) (e::es) [] pos) (yF C sp vh E t):=by
 intro pI s U H Q I h;refine DC (JG I hg hm ?_ zh);refine CZ (h₀:=X.base) I.ok.mod.kin M.kp (J5 (ha pos pI s U H _ I h) λus s1 ⟨vs,H1,I1,r,q⟩=>⟨I1.kIn,?_⟩) he zj
 exact Qf M F hr hb hd hx I1 r q
structure zi (N P:Ac Ah) (sc:Cf):Prop where
 kind:sc.kind=.function
 co:sc.isCoroutine=Ad
 gen:sc.isGenerator=Ad
 nd:N.Nodup
 pre:N.take P.length=P
 par:∀ x∈P,sc.names.lookup x=Aa .local\/sc.names.lookup x=Aa .cell
 nofree:∀ y∈sc.names,y.2≠.free
theorem Sy{kindOf:Ah->Am Ev}:∀{binds:Ac (Ah×Aj)}{m:Ah->Am Aj},(∀ v,(x,v)∉binds)->Ka kindOf binds m x=m x
 |[],_,_=>rfl
 |(n,v)::r,m,h=>by
  unfold Ka;rw[Sy λw hw=>h w (Ay _ hw)]
  split
  .have:x≠n:=by rintro rfl;exact h v AR
   simp[this]
  .rfl
theorem SG{kindOf:Ah->Am Ev}:∀{binds:Ac (Ah×Aj)}{m:Ah->Am Aj},(∀ v,(x,v)∉binds)->J_9 kindOf binds m x=m x
 |[],_,_=>rfl
 |(n,v)::r,m,h=>by
  unfold J_9;rw[SG λw hw=>h w (Ay _ hw)]
  split
  .rfl
  .have:x≠n:=by rintro rfl;exact h v AR
   simp[this]
theorem Sz{kindOf:Ah->Am Ev}:∀{P:Ac Ah}{vs:Ac Aj}{i:Ag}{m:Ah->Am Aj},P.Nodup->P[i]?=Aa x->vs[i]?=Aa v->kindOf x=Aa .local->Ka kindOf (P.zip vs) m x=Aa v
 |[],_,_,_,_,h,_,_=>by simp at h
 |_::_,[],_,_,_,_,h,_=>by simp at h
 |p::P,w::vs,0,m,nd,h1,h2,hk=>by
  simp at h1 h2;subst h1;subst h2;show Ka kindOf ((p,w)::P.zip vs) m p=_;unfold Ka;rw[Sy λv hv=>(EH.mp nd).1 (Hi hv).1,Au hk]
  simp
 |p::P,w::vs,i+1,m,nd,h1,h2,hk=>by
  show Ka kindOf ((p,w)::P.zip vs) m x=_;unfold Ka;exact Sz (i:=i) (EH.mp nd).2 (by simpa using h1) (by simpa using h2) hk
theorem SH{kindOf:Ah->Am Ev}:∀{P:Ac Ah}{vs:Ac Aj}{i:Ag}{m:Ah->Am Aj},P.Nodup->P[i]?=Aa x->vs[i]?=Aa v->kindOf x≠Aa .local->J_9 kindOf (P.zip vs) m x=Aa v
 |[],_,_,_,_,h,_,_=>by simp at h
 |_::_,[],_,_,_,_,h,_=>by simp at h
 |p::P,w::vs,0,m,nd,h1,h2,hk=>by
  simp at h1 h2;subst h1;subst h2;show J_9 kindOf ((p,w)::P.zip vs) m p=_;unfold J_9;rw[SG λv hv=>(EH.mp nd).1 (Hi hv).1,AA hk]
  simp
 |p::P,w::vs,i+1,m,nd,h1,h2,hk=>by
  show J_9 kindOf ((p,w)::P.zip vs) m x=_;unfold J_9;exact SH (i:=i) (EH.mp nd).2 (by simpa using h1) (by simpa using h2) hk
noncomputable def start(N:Ac Ah)(vs:Ac V):St:=vs.map Aa++Bs (N.length-vs.length) Ae
noncomputable def Bu(CX:CXT)(P:AG)(w:AD)(K:Fg)(mg:Ah->Am Aj)(base:AC)(N:Ac Ah)(qual:Ah)(scope:Cf)(f:Ak)(cd:Aj)(A:AY)(outer:Ac B8)(s:An)(H:Hp)(E:XK):Cx where
 prog:=P
 w:=w
 K:=K
 mg:=mg
 base:=base
 A:=A.deeper (Eu qual scope s.heap.objs.size f cd)
 N:=N
 s₀:=s
 H₀:=H
 env:=Eu qual scope s.heap.objs.size f cd
 outer:=outer
 stack:=Eu qual scope s.heap.objs.size f cd::outer
 ex:=[]
 calm:=Ab
 fn:=λ_=>Ab
 pn:=[]
 xe:=λe s'=>Av (model P w) (A.deeper (Eu qual scope s.heap.objs.size f cd)) (leaving (Eu qual scope s.heap.objs.size f cd) e) (λ_ Ã=>CX outer H s E e Ã) (λe' Ã=>CX outer H s E e' Ã) s'
theorem S8{sc:Cf}(h:sc.names.lookup x=Aa .cell):∃ c,(C9 n sc.names []).lookup x=Aa c:=by
 have q:=GW sc.names n [] (.inl h);exact CW.mp q
theorem PQ{K:Fg}(S:zi N ps scope)(hd:A.handled=Ae)(e0:xp P w K mg base A outer s H)(hl:vs.length=ps.length)(r:AZ vs us)(x:InCallC s s.heap.objs.size (Ka (Eu qual scope s.heap.objs.size f cd).kindOf (ps.zip us) λ_=>Ae) (C9 (s.heap.objs.size+1) scope.names []) (J_9 (Eu qual scope s.heap.objs.size f cd).kindOf (ps.zip us) λ_=>Ae) s1):Y8 (Bu CX P w K mg base N qual scope f cd A outer s H E) [] (start N vs) H s1:=by
 have zj:ps.length<=N.length:=by have:=congrArg Xa S.pre;rw[IZ]at this;lia
 obtain⟨h1,tk,rfl,hk⟩:=x.done;have ϵ:∀ b:Ak,b∉(Bu CX P w K mg base N qual scope f cd A outer s H E).ex:=λb z=>absurd (show b∈([]:Ac Ak) from z) (by simp)
 refine⟨⟨e0.mod,S.kind,rfl,rfl,AQ _,λy z c h1 h2=>?_,λy hy=>?_,λy c _ h=>?_,λ_=>hd,Around.frames_deeper e0.frames,.inr ⟨rfl,rfl⟩,λb z=>absurd z (ϵ b),e0.bs,e0.bsz,λb _ _=>ϵ b,λb z=>absurd z (ϵ b),e0.funs,e0.frf⟩,
  rfl,e0.bare,Un.kept hk,⟨_,x.toInCall.ns,λi y v h1 h2 h3=>?_⟩,λy c h=>⟨_,x.cell y c h⟩,e0.hok.fresh (AQ _),λy c h=>?_,λp hp=>absurd (show p∈([]:Pn) from hp) (by simp),e0.hok.kept hk,?_⟩
 .exact name_of_addr x.apart (CT h1) (CT h2)
 .have hy:scope.names.lookup y=Aa .cell\/scope.names.lookup y=Aa .free:=hy;rcases hy with hy|hy
  .exact S8 hy
  .exact absurd rfl (S.nofree _ (CT hy))
 .exact E7 (x.above y c (CT h))
 .have hi:i<vs.length:=by
   unfold start at h2;by_cases hi:i<vs.length
   .exact hi
   .rw[W7 (by simpa using hi)]at h2
    rw[GD]at h2;split at h2<;>cases h2
  have ha:vs[i]?=Aa v:=by
   unfold start at h2;rw[F0 (by simpa using hi),Ef]at h2
   cases e:vs[i]? with
   |none=>rw[e]at h2;cases h2
   |some a=>rw[e]at h2;cases h2;rfl
  obtain⟨u,hu,rv⟩:=r.get ha;have hp:ps[i]?=Aa y:=by
   rw[<-S.pre,List.getElem?_take_of_lt (by lia)];exact h1
  have ndP:ps.Nodup:=by rw[<-S.pre];exact S.nd.sublist (List.take_sublist _ _)
  refine⟨u,rv,?_⟩;rcases S.par y (De hp) with k|k
  .exact .inl ⟨k,Sz ndP hp hu k⟩
  .obtain⟨c,e⟩:=S8 (n:=s.heap.objs.size+1) k;refine .inr ⟨.inl k,c,e,?_⟩;have q:=x.cell y c e;rw[SH ndP hp hu (by show scope.names.lookup y≠_;rw[k];decide)]at q
   exact q
 .exact e0.hok.fresh (E7 (x.above y c (CT h)))
 .unfold start;show _=N.length;rw[Cy,Bb,Xe]
  lia
theorem Hw{K:Fg}{kV:Aj}(lk:K.lookup f=Aa ⟨oc,od,.func (B5 name qual params body scope dV kV doc pm an cdv ct),osl⟩)(ze:DW K cdv qual=Ab)(S:zi N ps scope)(len:∀ vs H Q E,sp vs H Q E->vs.length=ps.length)(vv:∀(A:AY)(outer:Ac B8)(s:An)(H:Hp)(vs:Ac V)(Q:VK)(E:XK),PP k (A.deeper (Eu qual scope s.heap.objs.size f cdv))->sp vs H Q E ->
   ∃ t,zc (Bu CX P w K mg base N qual scope f cdv A outer s H E) body t/\t {nx:=λ_ H'=>Q .O H',rt:=Q} (start N vs) H):Y0 P w K mg base CX (k+1) f (B5 name qual params body scope dV kV doc pm an cdv ct) ps sp:=by
 refine⟨len,λA outer s H args us vs Q E hr e0 hb r qr=>?_⟩
 have hl:=len _ _ _ _ qr;have KX:K.In s.heap:=e0.mod.kin.keeps λb o e=>(e0.bs b o e).1
 have lim:s.heap.NoLimit:=e0.mod.nolimit.keeps λb o e=>(e0.bs b o e).1
 have vx:∀ y∈ps.zip us,scope.names.lookup y.1=Aa .local\/(scope.names.lookup y.1=Aa .cell/\((C9 (s.heap.objs.size+1) scope.names []).lookup y.1).isSome=Ab):=λ⟨n,v⟩ hy=>by
  rcases S.par n (Hi hy).1 with q|q
  .exact .inl q
  .exact .inr ⟨q,GW _ _ _ (.inl q)⟩
 refine Hc hr.depth (KX _ _ lk) rfl S.co S.gen rfl (Iq KX ze) (hb _ _ _ _ ?_);refine FK S.kind vx λenv he s1 x=>?_
 subst he;refine⟨lim.keeps x.toInCall.keep,K4 ?_⟩;obtain⟨t,ht,hq⟩:=vv A outer s H vs Q E (hr.deeper _) qr;have I:Y8 (Bu CX P w K mg base N qual scope f cdv A outer s H E) [] (start N vs) H s1:=PQ S hr.hd e0 hl r x;refine Bg (ht [] s1 (start N vs) H _ I hq) (λfl s' hs=>?_) λe s' hs=>hs
 have fin:∀{U':St}{H':Hp}{v:V}{u:Aj},Y8 (Bu CX P w K mg base N qual scope f cdv A outer s H E) [] U' H' s'->BB v u->Q v H'->CE outer P w H s Q u s':=
  λ{U' H' v u} J_ rv q=>⟨v,H',J_.os,J_.bare,J_.base,J_.hok,rv,q⟩
 cases fl with
 |ret u=>
  obtain⟨v,U',H',J_,rv,q⟩:=hs;exact fin J_ rv q
 |next=>
  obtain⟨U',H',J_,q⟩:=hs;exact fin (v:=V.O) (u:=Dg) J_ rfl q
 |brk=>
  obtain⟨_,_,_,q⟩:=hs;exact A4 q
 |cont=>
  obtain⟨_,_,_,q⟩:=hs;exact A4 q
section
variable{id:Da}
def tCB(r:Ac V->Hp->VK->Prop)(t:TA):TE:=λU H Q=>t U H λvs H1=>r vs H1 Q
theorem Mj(hc:GN X (.builtin id) r)(hg:Gl X x)(hm:X.mg x=Ae)(hv:Ds x=Aa (.builtin id))(ha:PA X (e::es) t)(hn:x≠"__name__" := by decide)(zh:(x==("__debug__" : Ah))=Ad:=by decide)(he:At (e::es) X.env=(Ad,eval e X.env)::At es X.env:=by rfl)(zj:(Br pos (At es X.env)).any (·.1)=Ad:=by rfl):PE X (.Call (.Name x p) (e::es) [] pos) (tCB r t):=by
 intro pI s U H Q I h;refine DC (Lc I hg hm hv ?_ hn zh);exact PyProof.Rows.callWith_builtin1 (J5 (ha pos pI s U H _ I h) λus s1 ⟨vs,H1,I1,r1,q1⟩=>hc pI s1 U H1 vs us Q I1 r1 q1) he zj
theorem PM(hc:GN X (.type T) r)(hg:Gl X x)(hm:X.mg x=Ae)(hv:Ds x=Aa (.type T))(ha:PA X (e::es) t)(hn:x≠"__name__" := by decide)(zh:(x==("__debug__" : Ah))=Ad:=by decide)(he:At (e::es) X.env=(Ad,eval e X.env)::At es X.env:=by rfl)(zj:(Br pos (At es X.env)).any (·.1)=Ad:=by rfl):PE X (.Call (.Name x p) (e::es) [] pos) (tCB r t):=by
 intro pI s U H Q I h;refine DC (Lc I hg hm hv ?_ hn zh);exact Cz (J5 (ha pos pI s U H _ I h) λus s1 ⟨vs,H1,I1,r1,q1⟩=>hc pI s1 U H1 vs us Q I1 r1 q1) he zj
end
end L2
namespace HT
open PySem PyProof.Rows
section
open PySem.SeqAt
open PySem.AutoSeq1 (wpAny_loadPart')
open PySem.MeetsSeq PySem.MeetsSeq2 PySem.MeetsSeq3
end
section
variable{E:Vq}
theorem cat_tup{Q:Vq}(ht:L7 s.heap t vs.toArray)(hb:L7 s.heap b ws.toArray)(hv:vs≠[])(h1:ws=[]->Q (.ref t) s)(h2:ws≠[]->Q (.ref s.heap.objs.size) { s with heap:=s.heap.push { cls:=.type "tuple",data:=.seq (vs++ws).toArray } })(hsz:vs.length+ws.length<=sizeLine):Av (model prog w) A (Cb .Add (.ref t) (.ref b)) Q E s:=by
 obtain⟨⟨cls,dd,data,sl⟩,ho,hc,n,hd⟩:=id ht;obtain⟨⟨cls2,π,data2,Ι⟩,Ű,hc2,n2,hd2⟩:=id hb;simp only at hc hd hc2 hd2;subst hc hd hc2 hd2;have e:vs.toArray++ws.toArray=(vs++ws).toArray:=by simp
 by_cases hw:ws=[]
 .exact K5 ⟨_,ho,rfl⟩ ⟨_,Ű,rfl⟩ YM seq_tuple_add X9 XZ (XV _ _)
   (tuple_addW1 t b vs.toArray ws.toArray n n2 dd π sl Ι (by simpa using hv) (by simp[hw])) ⟨ho,Ű,h1 hw⟩
 .refine K5 ⟨_,ho,rfl⟩ ⟨_,Ű,rfl⟩ YM seq_tuple_add X9 XZ (XV _ _)
   (tuple_addW2 t b vs.toArray ws.toArray n n2 dd π sl Ι (by simpa using hv) (by simpa using hw) (by rw[AL,AL];exact hsz)) ⟨ho,Ű,?_⟩
  rw[e];exact h2 hw
noncomputable def sIx(n d:Ag):Am Ai->Ag
 |none=>d
 |some v=>if v<0 then (v+(n:Ai)).toNat else min v.toNat n
theorem tQ(n d:Ag)(hd:d<=n)(o:Am Ai):sIx n d o<=n:=by
 cases o with
 |none=>exact hd
 |some v=>
  show (if v<0 then (v+(n:Ai)).toNat else min v.toNat n)<=n
  by_cases hv:v<0
  .rw[Au hv];lia
  .rw[AA hv];exact Nat.min_le_right _ _
theorem UA(v:Ai)(n d:Ag):(if v<0 then max (v+(n:Ai)) 0 else min v (n:Ai))=((sIx n d (Aa v):Ag):Ai):=by
 show (if v<0 then max (v+(n:Ai)) 0 else min v (n:Ai))=(((if v<0 then (v+(n:Ai)).toNat else min v.toNat n):Ag):Ai)
 by_cases hv:v<0
 .simp only[Au hv];lia
 .simp only[AA hv];lia
theorem bU(lo hi:Am Ai)(n:Ag):F2 lo hi 1 (n:Ai)=(((sIx n 0 lo:Ag):Ai),((sIx n n hi:Ag):Ai)):=by
 have h1:¬ ((1:Ai)<0):=by omega
 unfold F2;simp only[h1,Jn];refine Prod.ext ?_ ?_
 .cases lo with
  |none=>rfl
  |some v=>exact UA v n 0
 .cases hi with
  |none=>rfl
  |some v=>exact UA v n n
theorem cN(i j:Ag):Ej (i:Ai) (j:Ai) 1=j-i:=by
 unfold Ej;have h1:(1:Ai)>0:=by lia
 simp only[h1,Fj,Int.ediv_one];split<;>lia
theorem RW(p:Io v o)(h:Q o s):Av (model prog w) A (Builtin.Slice.slicePartIndex v) Q E s:=by
 cases p with
 |none=>exact Xx h
 |int i t=>exact slicePart_int h
theorem ZV{lo:Am Ai}{Q:Ai×Ai×Ag->An->Prop}(hs:s.heap.IsSliceOf sl vl vu .none)(pl:Io vl lo)(pu:Io vu hi)(h:Q (((sIx n 0 lo:Ag):Ai),1,sIx n n hi-sIx n 0 lo) s):Av (model prog w) A (XG (.ref sl) (pure (n:Ai))) Q E s:=by
 obtain⟨os,Ϭ,hcs,Ů⟩:=id hs;unfold XG Builtin.Slice.sliceFields;refine Al (Al (Bx Ϭ Ů (x:=vl) rfl (Al (Bx Ϭ Ů (x:=vu) rfl (Al (Bx Ϭ Ů (x:=.none) rfl (Ax ?_)))))));refine Al (Xx ?_);show Av _ _ (if ((1:Ai)==0)=Ab then _ else _) _ _ s
 rw[AA (by decide)]
 refine Al (RW pl (Al (RW pu (Al (Ax ?_)))));show Av _ _ (match F2 lo hi 1 (n:Ai) with|(lo,hi)=>pure (lo,(1:Ai),Ej lo hi 1)) _ _ s
 rw[bU lo hi n];show Av _ _ (pure (((sIx n 0 lo:Ag):Ai),(1:Ai),Ej ((sIx n 0 lo:Ag):Ai) ((sIx n n hi:Ag):Ai) 1)) _ _ s;rw[cN];exact Ax h
theorem gY(xs:A3 Aj)(i k:Ag):((B2 k).filterMap fun(m:Ag)=>xs[((i:Ai)+(m:Ai)*1).toNat]?).toArray=((xs.toList.drop i).take k).toArray:=by
 have e:(fun(m:Ag)=>xs[((i:Ai)+(m:Ai)*1).toNat]?)=λm=>xs[i+m]?:=by
  funext m
  have:((i:Ai)+(m:Ai)*1).toNat=i+m:=by lia
  rw[this]
 rw[e];have:=pick_run xs i k;rw[List.filterMap_map]at this;have e2:((λx=>xs[x]?) ∘ λx=>i+x)=λm=>xs[i+m]?:=rfl
 rw[e2]at this;rw[this]
theorem getItem_tuple_cut{lo:Am Ai}{Q:Vq}(ht:L7 s.heap t items)(hs:s.heap.IsSliceOf sl vl vu .none)(pl:Io vl lo)(pu:Io vu hi)(hw:¬ (sIx items.size 0 lo=0/\sIx items.size items.size hi=items.size))(h:Q (.ref s.heap.objs.size) { s with heap:=s.heap.push { cls:=.type "tuple",data:=.seq ((items.toList.drop (sIx items.size 0 lo)).take (sIx items.size items.size hi-sIx items.size 0 lo)).toArray } })(hsz:items.size<=sizeLine):Av (model prog w) A (Lv (.ref t) (.ref sl)) Q E s:=by
 have uo:sizeOk (.seq ((items.toList.drop (sIx items.size 0 lo)).take (sIx items.size items.size hi-sIx items.size 0 lo)).toArray):=by
  show ((items.toList.drop (sIx items.size 0 lo)).take (sIx items.size items.size hi-sIx items.size 0 lo)).toArray.size<=sizeLine;rw[AL,IZ,Xb,Ey];omega
 have hj:sIx items.size items.size hi<=items.size:=tQ _ _ (AQ _) hi;obtain⟨os,Ϭ,hcs,Ů⟩:=id hs;have hTs:s.TypeIs (.ref sl) "slice" := ⟨os,Ϭ,hcs⟩;unfold Lv
 try with_reducible refine BA ?_
 first|refine Al (Ax ?_)|skip
 refine Al (wpAny_sequenceKey ht.typeIs (by decide) ?_)
 refine Al (CC (name:=Af "__getitem__") ht.typeIs Xy
  (Dv Xy ht.typeIs entry_tuple_getitem ?_ (args_tuple_getitem _ _)))
 show Av _ _ (Builtin.Tuple.tupleItemsOf (.ref t) >>= _) _ _ s;refine Al (tupleItemsOf_ ht ?_);refine Al (wpAny_typeOf hTs ?_);rw[Au (by decide)]
 refine Al (ZV hs pl pu ?_);have hno:¬ ((((sIx items.size 0 lo:Ag):Ai)==0&&(1:Ai)==1&&(sIx items.size items.size hi-sIx items.size 0 lo)==items.size)=Ab):=by
  intro q;rw[As,As]at q;have q1:((sIx items.size 0 lo:Ag):Ai)=0:=eq_of_beq q.1.1;have q2:sIx items.size items.size hi-sIx items.size 0 lo=items.size:=eq_of_beq q.2;exact hw ⟨by omega,by omega⟩
 show Av _ _ (if (((sIx items.size 0 lo:Ag):Ai)==0&&(1:Ai)==1&&(sIx items.size items.size hi-sIx items.size 0 lo)==items.size)=Ab then _ else _) _ _ s
 rw[AA hno,gY]
 first
  |exact Al (m:=CY _) (Cp (Ax ⟨_,rfl,Ax h⟩) uo)
  |exact Al (m:=CY _) (Cp (Al (Ax (Ax ⟨_,rfl,Ax h⟩))) uo)
  |exact Al (Al (m:=CY _) (Cp (Ax (Ax ⟨_,rfl,Ax h⟩)) uo))
  |exact Al (Al (m:=CY _) (Cp (Ax ⟨_,rfl,Ax h⟩) uo))
end
end HT
namespace L2
open PySem PySem.Spec PyProof.Rows
variable{xs:Ac V}{its:Ac Aj}{U:St}
abbrev TO:=St->Hp->(Am Ai->Hp->Prop)->Prop
def PO(X:Cx)(e:Am Aq)(t:TO):Prop:=
 ∀(pI:Pn)(s:An)(U:St)(H:Hp)(Q:Am Ai->Hp->Prop),Y8 X pI U H s->t U H Q ->
  Av (model X.prog X.w) X.A (evalPart e X.env) (λu s'=>∃ o H',Y8 X pI U H' s'/\Io u o/\Q o H') X.xe s
def jJ:TO:=λ_ H Q=>Q Ae H
def yE(t:TE):TO:=λU H Q=>t U H λx H1=>∃ i,x=.int i/\Q (Aa i) H1
section
variable{lo:Am Aq}
theorem kR:PO X Ae jJ:=by
 intro pI s U H Q I h;rw[evalPart_none];exact Ax ⟨Ae,H,I,.none,h⟩
theorem kQ(h:PE X e te):PO X (Aa e) (yE te):=by
 intro pI s U H Q I hw;rw[evalPart_some];refine J5 (h pI s U H _ I hw) λu s1 ⟨x,H1,I1,r1,q1⟩=>?_
 obtain⟨i,rfl,q⟩:=q1;obtain⟨t,rfl⟩:=r1;exact⟨Aa i,H1,I1,.int i t,q⟩
def ox(X:Cx)(r:V->Am Ai->Am Ai->Hp->VK->Prop):Prop:=
 ∀(pI:Pn)(s:An)(U:St)(H:Hp)(x:V)(v vl vu:Aj)(lo hi:Am Ai)(sl:Ak)(Q:VK),Y8 X pI U H s->BB x v->s.heap.IsSliceOf sl vl vu .none->Io vl lo->Io vu hi->r x lo hi H Q ->
  ∃ T id,Ke (.type T) "__getitem__" = pure (Aa (.builtin id))/\s.TypeIs v T/\Av (model X.prog X.w) X.A (Lv v (.ref sl)) (EP X pI U Q) X.xe s
theorem ox.or(h:ox X r)(h':ox X r'):ox X (λx lo hi H Q=>r x lo hi H Q\/r' x lo hi H Q):=by
 intro pI s U H x v vl vu lo hi sl Q I rx hs pl pu q;rcases q with q|q
 .exact h pI s U H x v vl vu lo hi sl Q I rx hs pl pu q
 .exact h' pI s U H x v vl vu lo hi sl Q I rx hs pl pu q
def tSl(r:V->Am Ai->Am Ai->Hp->VK->Prop)(te:TE)(tl th:TO):TE:=λU H Q=>te U H λx H1=>tl U H1 λl H2=>th U H2 λu H3=>r x l u H3 Q
theorem hJ(hr:ox X r)(he:PE X e te)(hl:PO X lo tl)(hu:PO X hi th):PE X (.Subscript e (.Slice lo hi Ae p2) pos) (tSl r te tl th):=by
 intro pI s U H Q I h;refine Subscript_ (J5 (he pI s U H _ I h) λv s1 ⟨x,H1,I1,r1,q1⟩=>?_)
 refine wpAny_Slice (J5 (hl pI s1 U H1 _ I1 q1) λvl s2 ⟨l,H2,I2,pl,q2⟩=>J5 (hu pI s2 U H2 _ I2 q2) λvu s3 ⟨u,H3,I3,pu,q3⟩=>?_)
 rw[evalPart_none];refine Ax ?_;have I4:Y8 X pI U H3 { s3 with heap:=s3.heap.push { cls:=.type "slice",data:=.fields #[vl,vu,.none] } }:=I3.kept (t':=s3.toks) λb ob q=>Ar _ q
 obtain⟨T,id,hT,ht,hg⟩:=hr pI { s3 with heap:=s3.heap.push { cls:=.type "slice",data:=.fields #[vl,vu,.none] } } U H3 x v vl vu l u s3.heap.objs.size Q I4 r1 (Heap.IsSliceOf.new ..) pl pu q3
 show Av (model X.prog X.w) X.A (subscriptTail e (.Slice lo hi Ae p2) v (.ref s3.heap.objs.size)) (EP X pI U Q) X.xe { s3 with heap:=s3.heap.push { cls:=.type "slice",data:=.fields #[vl,vu,.none] } }
 exact tail_any (ops:=[.ref s3.heap.objs.size,v]) ht hT hg (by with_unfolding_all rfl)
noncomputable def Lr(xs:Ac V)(lo hi:Am Ai):Ac V:=(xs.drop (HT.sIx xs.length 0 lo)).take (HT.sIx xs.length xs.length hi-HT.sIx xs.length 0 lo)
theorem R7(xs:Ac V)(lo hi:Am Ai):(Lr xs lo hi).length<=xs.length:=by
 unfold Lr;rw[IZ,Xb];omega
def Wx(K:Fg):V->Am Ai->Am Ai->Hp->VK->Prop:=λx lo hi H Q=>∃ a xs,x=.ref a/\yg K H a xs /\
 ¬ (HT.sIx xs.length 0 lo=0/\HT.sIx xs.length xs.length hi=xs.length)/\∀ p,H p=Ae->Q (.ref p) (upd H p (.H (Lr xs lo hi)))
theorem qX:ox X (Wx X.K):=by
 intro pI s U H x v vl vu lo hi sl Q I rx hs pl pu h;obtain⟨a,xs,rfl,hx,hw,q⟩:=h;cases rx;obtain⟨its,r,ht,hz⟩:=I.tuple hx;have RL:its.toArray.size=xs.length:=by rw[AL];exact r.length.symm
 refine⟨"tuple",_,PyProof.Rows.slot_tuple_getitem.lookup,ht.typeIs,?_⟩;refine HT.getItem_tuple_cut ht hs pl pu (by rw[RL];exact hw) ?_ (by rw[RL];exact hz)
 rw[RL];refine⟨.ref s.heap.objs.size,_,I.laid (t':=s.toks) (o:=.H (Lr xs lo hi)) (λb ob q=>Ar _ q) (AQ _) ?_,rfl,q _ (I.hok.fresh (AQ _))⟩
 exact⟨BF (R7 xs lo hi) hz,_,(r.drop (HT.sIx xs.length 0 lo)).take (HT.sIx xs.length xs.length hi-HT.sIx xs.length 0 lo),KU _ _⟩
def yW(K:Fg):R2:=λx y H Q=>∃ a b xs ys,x=.ref a/\y=.ref b/\yg K H a xs/\yg K H b ys/\xs≠[]/\xs.length+ys.length<=sizeLine /\
 (ys=[]->Q (.ref a) H)/\(ys≠[]->∀ p,H p=Ae->Q (.ref p) (upd H p (.H (xs++ys))))
theorem AZ.nil_iff(r:AZ xs us):us=[]↔xs=[]:=by
 cases r with
 |nil=>simp
 |cons _ _=>simp
theorem nI:xw X (Cb .Add) (yW X.K):=by
 intro pI s U H x y v u Q I rx ry h;obtain⟨a,b,xs,ys,rfl,rfl,ha,hb,hx,hz,q1,q2⟩:=h;cases rx;cases ry;obtain⟨its,r1,p1,_⟩:=I.tuple ha;obtain⟨zk,r2,p2,_⟩:=I.tuple hb;refine HT.cat_tup p1 p2 (λz=>hx (r1.nil_iff.mp z)) (λz=>⟨.ref a,H,I,rfl,q1 (r2.nil_iff.mp z)⟩) (λz=>?_) (by rw[<-r1.length,<-r2.length];exact hz)
 refine⟨.ref s.heap.objs.size,_,I.laid (t':=s.toks) (o:=.H (xs++ys)) (λb ob q=>Ar _ q) (AQ _) ?_,rfl,q2 (λw=>z (r2.nil_iff.mpr w)) _ (I.hok.fresh (AQ _))⟩
 exact⟨by rw[Cy];exact hz,_,r1.append r2,KU _ _⟩
end
noncomputable def ó(n:Ag)(i:Ai):Am Ag:=if 0<=i then (if i<n then Aa i.toNat else Ae) else if -(n:Ai)<=i then Aa (i+n).toNat else Ae
noncomputable def u7{α:Type}(xs:Ac α)(i:Ai):Am α:=(ó xs.length i).bind λj=>xs[j]?
theorem nR(h:ó n i=Aa j):seqIndex? i n=Aa j/\j<n/\-(n:Ai)<=i/\i<n:=by
 unfold ó at h;by_cases h0:0<=i
 .rw[Au h0]at h;by_cases h1:i<n
  .rw[Au h1]at h;have e:i.toNat=j:=Bj h;exact⟨by rw[seqIndex_of h0 h1,e],by lia,by lia,h1⟩
  .rw[AA h1]at h;cases h
 .rw[AA h0]at h;by_cases h1:-(n:Ai)<=i
  .rw[Au h1]at h;have e:(i+n).toNat=j:=Bj h;exact⟨by rw[seqIndex_neg (by lia) h1,e],by lia,h1,by lia⟩
  .rw[AA h1]at h;cases h
theorem QC{xs:Ac α}{v:α}(h:u7 xs i=Aa v):∃ j,seqIndex? i xs.length=Aa j/\xs[j]?=Aa v/\j<xs.length/\-(xs.length:Ai)<=i/\i<xs.length:=by
 unfold u7 at h;cases e:ó xs.length i with
 |none=>rw[e]at h;cases h
 |some j=>
  rw[e]at h;obtain⟨h1,h2,h3,h4⟩:=nR e;exact⟨j,h1,h,h2,h3,h4⟩
def Oc(b:Aq):Prop:=∀ o i,subscripted b Ad o i=operate [o,i] (Lv o i)
def om(X:Cx)(r:R2):Prop:=
 ∀(value slice:Aq)(pI:Pn)(s:An)(U:St)(H:Hp)(x y:V)(v u:Aj)(Q:VK),Y8 X pI U H s->BB x v->BB y u->r x y H Q ->
  subscripted slice Ad v u=operate [v,u] (Lv v u)->Av (model X.prog X.w) X.A (subscriptTail value slice v u) (EP X pI U Q) X.xe s
def oo(X:Cx)(id:Da)(r:V->Ac V->Hp->VK->Prop):Prop:=
 ∀(pI:Pn)(s:An)(U:St)(H:Hp)(x:V)(xs:Ac V)(v:Aj)(us:Ac Aj)(Q:VK),Y8 X pI U H s->BB x v->AZ xs us->r x xs H Q ->
  Av (model X.prog X.w) X.A (call (.builtin id) (v::us)) (EP X pI U Q) X.xe s
section
variable{a:Aq}
theorem om.or(h:om X r)(h':om X r'):om X (λx y H Q=>r x y H Q\/r' x y H Q):=by
 intro value slice pI s U H x y v u Q I rx ry q hs;rcases q with q|q
 .exact h value slice pI s U H x y v u Q I rx ry q hs
 .exact h' value slice pI s U H x y v u Q I rx ry q hs
theorem oo.or{id:Da}(h:oo X id r)(h':oo X id r'):oo X id (λx xs H Q=>r x xs H Q\/r' x xs H Q):=by
 intro pI s U H x xs v us Q I rx rs q;rcases q with q|q
 .exact h pI s U H x xs v us Q I rx rs q
 .exact h' pI s U H x xs v us Q I rx rs q
theorem Q6(hr:om X r)(ha:PE X a ta)(hb:PE X b tb)(hs:Oc b):PE X (.Subscript a b pos) (Μ r ta tb):=by
 intro pI s U H Q I h;exact Subscript_ (RC ha hb I h λv u s2 x y H2 I2 rx ry q=>hr a b pI s2 U H2 x y v u Q I2 rx ry q (hs _ _))
def WC(K:Fg):R2:=λx y H Q=>∃ p xs i v,x=.ref p/\y=.int i/\zr K H p xs/\u7 xs i=Aa v/\Q v H
def WA(K:Fg):R2:=λx y H Q=>∃ p xs i v,x=.ref p/\y=.int i/\yg K H p xs/\u7 xs i=Aa v/\Q v H
def WB:R2:=λx y H Q=>∃ z i c,x=.str z/\y=.int i/\z.length<=sizeLine/\u7 z.cps.toList i=Aa c/\Q (.str ⟨#[c]⟩) H
theorem nQ:om X (WC X.K):=by
 intro value slice pI s U H x y v u Q I rx ry h hs;obtain⟨p,xs,i,z,rfl,rfl,hq,he,q⟩:=h;cases rx;obtain⟨t,rfl⟩:=ry;obtain⟨its,r,pl,hz⟩:=I.list hq;obtain⟨j,h1,h2,h3,h4,h5⟩:=QC he;obtain⟨w,ew,wk⟩:=r.get h2;have hl:=r.length;have hn:=Mp;have fin:EP X pI U Q w s:=⟨z,H,I,wk,q⟩;by_cases h0:0<=i
 .have hj:i.toNat=j:=by
   rw[seqIndex_of h0 h5]at h1;exact Bj h1
  exact item_listR pl.isList h0 (by lia) (by rw[hj];simpa using ew) fin hs
 .have hj:(i+(its.toArray.size:Ai)).toNat=j:=by
   rw[seqIndex_neg (by lia) h4]at h1
   rw[AL,<-hl];exact Bj h1
  exact GQ (x:=w) pl.isList.typeIs YR.lookup
   (wpAny_getItem_list_neg (Q:=λr s'=>r=w/\EP X pI U Q r s') pl.isList (by lia) (by rw[AL]<;>lia) (by lia) (by rw[hj];simpa using ew) ⟨rfl,fin⟩) hs
theorem UC:om X (WA X.K):=by
 intro value slice pI s U H x y v u Q I rx ry h hs;obtain⟨p,xs,i,z,rfl,rfl,hq,he,q⟩:=h;cases rx;obtain⟨t,rfl⟩:=ry;obtain⟨its,r,pl,hz⟩:=I.tuple hq;obtain⟨j,h1,h2,h3,h4,h5⟩:=QC he;obtain⟨w,ew,wk⟩:=r.get h2;have hl:=r.length;have hn:=Mp;have fin:EP X pI U Q w s:=⟨z,H,I,wk,q⟩;exact GQ (x:=w) pl.typeIs slot_tuple_getitem.lookup
  (getItem_tuple (j:=j) (Q:=λr s'=>r=w/\EP X pI U Q r s') pl (by lia) (by lia) (by rw[AL,<-hl];exact h1) (by simpa using ew) ⟨rfl,fin⟩) hs
theorem uA:om X WB:=by
 intro value slice pI s U H x y v u Q I rx ry h hs;obtain⟨z,i,c,rfl,rfl,hz,he,q⟩:=h;obtain⟨t,rfl⟩:=rx;obtain⟨t',rfl⟩:=ry;obtain⟨j,h1,h2,h3,h4,h5⟩:=QC he;have hl:z.cps.toList.length=z.length:=by simp[Str.length]
 rw[hl]at h1 h4 h5;have hn:=Mp;exact tail_any (Gv s z t) slot_str_getitem.lookup (getItem_str (c:=c) (by
  have e1:decide (i < -(2 ^ 63:Ai))=Ad:=Bq (by lia)
  have e2:decide (i ≥ 2 ^ 63)=Ad:=Bq (by lia)
  rw[e1,e2,GX]) (by rw[h1];simpa using h2) ⟨.str ⟨#[c]⟩,H,I.tok _,⟨_,rfl⟩,q⟩) hs
def rIx(K:Fg):R2:=λx y H Q=>WC K x y H Q\/WA K x y H Q\/WB x y H Q
theorem uB:om X (rIx X.K):=nQ.or (UC.or uA)
theorem Y8.L(I:Y8 X pI U H s)(h:H p=Aa (.L xs)):
  ∃(its:Ac Aj)(n:Ag),AZ xs its/\s.heap.get? p=Aa { cls:=.type "list",data:=.seq its.toArray n }/\xs.length<=sizeLine:=by
 obtain⟨z,its,n,r,e⟩:=I.hok p _ h;exact⟨its,n,r,e,z⟩
theorem Z7(lo hi:Am Ai)(n:Ag):(FL lo hi Ae n).1=((HT.sIx n 0 lo:Ag):Ai)/\(FL lo hi Ae n).2.1=((HT.sIx n n hi:Ag):Ai)/\(FL lo hi Ae n).2.2=1:=by
 refine⟨?_,?_,rfl⟩
 .cases lo with
  |none=>simp[FL,HT.sIx]
  |some i=>
   simp only[FL,HT.sIx,Xp,show (1:Ai)>0 by decide,Fj]
   by_cases h:i<0
   .simp only[h,Fj]<;>lia
   .simp only[h,Jn]<;>lia
 .cases hi with
  |none=>simp[FL,HT.sIx]
  |some i=>
   simp only[FL,HT.sIx,Xp,show (1:Ai)>0 by decide,Fj]
   by_cases h:i<0
   .simp only[h,Fj]<;>lia
   .simp only[h,Jn]<;>lia
theorem aI(its:Ac Aj)(lo hi:Am Ai):slicePick its.toArray lo hi Ae=((its.drop (HT.sIx its.length 0 lo)).take (HT.sIx its.length its.length hi-HT.sIx its.length 0 lo)).toArray:=by
 obtain⟨h1,h2,h3⟩:=Z7 lo hi its.toArray.size;unfold slicePick;rw[h1,h2,h3];simp only[sliceRange_one,pick_run,AL]<;>rfl
def Wz(K:Fg):V->Am Ai->Am Ai->Hp->VK->Prop:=λx lo hi H Q=>∃ a xs,x=.ref a/\zr K H a xs/\∀ p,H p=Ae->Q (.ref p) (upd H p (.L (Lr xs lo hi)))
theorem lD:ox X (Wz X.K):=by
 intro pI s U H x v vl vu lo hi sl Q I rx hs pl pu h;obtain⟨a,xs,rfl,hx,q⟩:=h;cases rx;obtain⟨its,r,ht,hz⟩:=I.list hx;have RL:=r.length;refine⟨"list",_,YR.lookup,ht.isList.typeIs,?_⟩;refine wpAny_getItem_list_slice ht.isList hs pl pu .none (by simp) ?_ (by rw[AL]<;>lia)
 rw[aI,<-RL];refine⟨.ref s.heap.objs.size,_,I.laid (t':=s.toks) (o:=.L (Lr xs lo hi)) (λb ob q=>Ar _ q) (AQ _) ?_,rfl,q _ (I.hok.fresh (AQ _))⟩
 exact⟨BF (R7 xs lo hi) hz,_,0,(r.drop (HT.sIx xs.length 0 lo)).take (HT.sIx xs.length xs.length hi-HT.sIx xs.length 0 lo),AI _ rfl⟩
theorem N3:GN X (.builtin "len") (λxs H Q=>∃ p ys,xs=[.ref p]/\(zr X.K H p ys\/yg X.K H p ys)/\Q (.int ys.length) H):=by
 intro pI s U H xs us Q I r h;obtain⟨p,ys,rfl,hq,q⟩:=h;obtain⟨u,rfl,rx⟩:=IG r;cases rx;have hn:=Mp;rcases hq with hq|hq
 .obtain⟨its,r',pl,hz⟩:=I.list hq;have RL:=r'.length;exact Calls.call_len_list pl.isList (by simp only[AL]<;>lia) ⟨.int ys.length,H,I.tok _,⟨s.toks+1,by rw[AL,RL]⟩,q⟩
 .obtain⟨its,r',pl,hz⟩:=I.tuple hq;have RL:=r'.length;exact len_tuple pl (by simp only[AL]<;>lia) ⟨.int ys.length,H,I.tok _,⟨s.toks+1,by rw[AL,RL]⟩,q⟩
theorem aW:GN X (.builtin "len") (λxs H Q=>∃ z,xs=[.str z]/\z.length<=sizeLine/\Q (.int z.length) H):=by
 intro pI s U H xs us Q I r h;obtain⟨z,rfl,hz,q⟩:=h;obtain⟨u,rfl,t,rfl⟩:=IG r;have hn:=Mp;exact len_str (by lia) ⟨.int z.length,H,I.tok _,⟨_,rfl⟩,q⟩
theorem GN.or(h:GN X f r)(h':GN X f r'):GN X f (λxs H Q=>r xs H Q\/r' xs H Q):=by
 intro pI s U H xs us Q I rs q;rcases q with q|q
 .exact h pI s U H xs us Q I rs q
 .exact h' pI s U H xs us Q I rs q
theorem RJ:GN X (.type "list") (λxs H Q=>∃ p ys,xs=[.ref p]/\(zr X.K H p ys\/yg X.K H p ys)/\∀ l,H l=Ae->Q (.ref l) (upd H l (.L ys))):=by
 intro pI s U H xs us Q I r h;obtain⟨p,ys,rfl,hq,q⟩:=h;obtain⟨u,rfl,rx⟩:=IG r;cases rx;have fin:∀(its:Ac Aj),AZ ys its->ys.length<=sizeLine->∀(h':AC)(c':Ag),(∀ b o',s.heap.get? b=Aa o'->h'.get? b=Aa o') ->
   h'.get? s.heap.objs.size=Aa { cls:=.type "list",dict:=Ae,data:=.seq its.toArray c',slots:=#[] }->EP X pI U Q (.ref s.heap.objs.size) {s with heap:=h'}:=λits r' hz h' c' kp e=>
  ⟨.ref s.heap.objs.size,_,I.laid (t':=s.toks) kp (AQ _) (show ObjOk X.prog X.w _ h' _ (.L ys) from ⟨hz,its,c',r',e⟩),rfl,q _ (I.hok.fresh (AQ _))⟩
 rcases hq with hq|hq
 .obtain⟨its,r',pl,hz⟩:=I.list hq;have RL:=r'.length;obtain⟨o,ho,hc,n,hd⟩:=pl.isList;exact call_list_seq p (.inl rfl) ho hc hd (λh' c' kp e=>fin its r' hz h' c' kp e) (by simp only[AL]<;>lia)
 .obtain⟨its,r',pl,hz⟩:=I.tuple hq;have RL:=r'.length;obtain⟨o,ho,hc,n,hd⟩:=pl;exact call_list_seq p (.inr rfl) ho hc hd (λh' c' kp e=>fin its r' hz h' c' kp e) (by simp only[AL]<;>lia)
theorem RM:GN X (.type "tuple") (λxs H Q=>∃ p ys,xs=[.ref p]/\((zr X.K H p ys/\∀ l,H l=Ae->Q (.ref l) (upd H l (.H ys)))\/(yg X.K H p ys/\Q (.ref p) H))):=by
 intro pI s U H xs us Q I r h;obtain⟨p,ys,rfl,h⟩:=h;obtain⟨u,rfl,rx⟩:=IG r;cases rx;rcases h with ⟨hq,q⟩|⟨hq,q⟩
 .obtain⟨its,r',pl,hz⟩:=I.list hq;have RL:=r'.length;refine call_tuple_list pl.isList (λh' kp=>?_) (by simp only[AL]<;>lia)
  have I1:Y8 X pI U H {s with heap:=h'}:=I.kept (t':=s.toks) kp
  have I2:Y8 X pI U (upd H h'.objs.size (.H ys)) { s with heap:=h'.push { cls:=.type "tuple",data:=.seq its.toArray } }:=
   I1.laid (t':=s.toks) (λb o e=>Ar _ e) (AQ _) (show ObjOk X.prog X.w _ _ _ (.H ys) from ⟨hz,its,r',KU _ _⟩)
  exact⟨.ref h'.objs.size,_,I2,rfl,q _ (I1.hok.fresh (AQ _))⟩
 .obtain⟨its,r',pl,hz⟩:=I.tuple hq;exact call_tuple_same pl ⟨.ref p,H,I,rfl,q⟩
def tyV(K:Fg)(T:Da)(x:V)(H:Hp):Prop:=match x with
  |.str _=>T = "str"
  |.int _=>T = "int"
  |.ref p=>(T = "list"/\∃ xs,zr K H p xs)\/(T = "tuple"/\∃ o,K.lookup p=Aa o/\o.cls=.type "tuple"/\o.dict=Ae) \/
      (T = "dict"/\((∃ kvs,H p=Aa (.dK kvs))\/∃ kvs,H p=Aa (.dT kvs)))\/(T = "set"/\∃ S n,H p=Aa (.set S n))
  |_=>AN
theorem Vd(I:Y8 X pI U H s)(r:BB x v)(ty:tyV X.K T x H):s.TypeIs v T/\∀ a,v=.ref a->∃ ob,s.heap.get? a=Aa ob/\ob.dict=Ae:=by
 cases x with
 |str z=>
  obtain⟨t,rfl⟩:=r;cases (show T = "str" from ty)
  exact⟨Gv s z t,λ_ e=>nomatch e⟩
 |int i=>
  obtain⟨t,rfl⟩:=r;cases (show T = "int" from ty)
  exact⟨typeIs_int s i t,λ_ e=>nomatch e⟩
 |ref p=>
  cases r;rcases ty with ⟨rfl,xs,hq⟩|⟨rfl,o,hk,hc,hd⟩|⟨rfl,hk⟩|⟨rfl,S,n,hk⟩
  .obtain⟨its,_,pl,_⟩:=I.list hq;refine⟨pl.isList.typeIs,λa e=>?_⟩
   cases e;obtain⟨o,n,e,c,hd,_⟩:=pl;exact⟨o,e,hd⟩
  .refine⟨⟨o,I.kIn p o hk,hc⟩,λa e=>?_⟩
   cases e;exact⟨o,I.kIn _ o hk,hd⟩
  .have z:∃ o,s.heap.get? p=Aa o/\o.ExactDict:=by
    rcases hk with ⟨kvs,hk⟩|⟨kvs,hk⟩
    .obtain⟨_,_,_,_,o,_,_,e,ex,_⟩:=I.hok p _ hk;exact⟨o,e,ex⟩
    .obtain⟨_,_,_,_,o,_,_,e,ex,_⟩:=I.hok p _ hk;exact⟨o,e,ex⟩
   obtain⟨o,e,ex⟩:=z;refine⟨⟨o,e,ex.1⟩,λa e2=>?_⟩
   cases e2;exact⟨o,e,ex.2.1⟩
  .obtain⟨o,_,_,_,e,ex,_⟩:=I.hok p _ hk;refine⟨⟨o,e,ex.1⟩,λa e2=>?_⟩
   cases e2;exact⟨o,e,ex.2.1⟩
 |_=>exact A4 ty
def Zz(K:Fg)(T:Da)(r:V->Ac V->Hp->VK->Prop)(to:TE):TE:=λU H Q=>to U H λx H1=>tyV K T x H1/\r x [] H1 Q
def tBM(K:Fg)(T:Da)(r:V->Ac V->Hp->VK->Prop)(to:TE)(t:TA):TE:=λU H Q=>to U H λx H1=>tyV K T x H1/\t U H1 λxs H2=>r x xs H2 Q
variable{e:Aq}{id:Da}
theorem rM(pa:PlainAttrs T)(slot:Slot T name id)(vb:typeOf (.builtin id)=pure (.type "method_descriptor"))(hm:oo X id r)(ho:PE X o to)(My:BW o name X.env (eval o X.env)=eval o X.env:=by rfl)(J7:(apos.endLine==cpos.line)=Ab:=by rfl):PE X (.Call (.Attribute o name apos) [] [] cpos) (Zz X.K T r to):=by
 intro pI s U H Q I h;refine wpAny_Call_method0_late My J7 (J5 (ho pI s U H _ I h) λv s1 ⟨x,H1,I1,r1,ty,q1⟩=>?_)
 obtain⟨h1,h2⟩:=Vd I1 r1 ty;exact⟨T,id,pa,slot,vb,h1,h2,GR rfl (PySem.evalArgs_none (hm pI s1 U H1 x [] v [] Q I1 r1 .nil q1))⟩
theorem LN(pa:PlainAttrs T)(slot:Slot T name id)(vb:typeOf (.builtin id)=pure (.type "method_descriptor"))(hm:oo X id r)(ho:PE X o to)(ha:PA X (e::es) t)(My:BW o name X.env (eval o X.env)=eval o X.env:=by rfl)(w6:((Br cpos (At (e::es) X.env)).all (λx=>!x.1)&&(DY cpos (CO [] X.env)).all (λx=>x.1.isSome)
   && decide ((e::es).length+([]:Ac CK).length+(if ([]:Ac CK).isEmpty then 0 else 1)<30))=Ab:=by rfl)(J7:(apos.endLine==cpos.line)=Ab:=by rfl)(hs:At (e::es) X.env=(Ad,eval e X.env)::At es X.env:=by rfl)(jz:(Br cpos (At es X.env)).any (·.1)=Ad:=by rfl):PE X (.Call (.Attribute o name apos) (e::es) [] cpos) (tBM X.K T r to t):=by
 intro pI s U H Q I h;refine wpAny_Call_method_late My w6 J7 rfl (J5 (ho pI s U H _ I h) λv s1 ⟨x,H1,I1,r1,ty,q1⟩=>?_)
 obtain⟨h1,h2⟩:=Vd I1 r1 ty;refine⟨T,id,pa,slot,vb,h1,h2,?_⟩;have hA:=ha cpos pI s1 U H1 _ I1 q1;rw[hs]at hA ⊢;refine GR (by show (Ad||(Br cpos (At es X.env)).any (·.1))=Ad;rw[jz]<;>rfl) (Fn ?_)
 exact J5 hA λus s2 ⟨vs,H2,I2,r2,q2⟩=>hm pI s2 U H2 x vs v us Q I2 r1 r2 q2
end
def MtM(X:Cx)(id:Da)(r:V->Ac V->Hp->VK->Prop):Prop:=
 ∀(pI:Pn)(s:An)(U:St)(H:Hp)(x:V)(xs:Ac V)(v:Aj)(us:Ac Aj)(Q:VK),Y8 X pI U H s->BB x v->AZ xs us->r x xs H Q ->
  Av (model X.prog X.w) X.A (call (.builtin id) (v::us)) (EP X pI U Q) X.xe s
theorem AZ.one:∀{x:V}{us:Ac Aj},AZ [x] us->∃ u,us=[u]/\BB x u
 |_,_,.cons r .nil=>⟨_,rfl,r⟩
theorem AZ.zero:∀{us:Ac Aj},AZ [] us->us=[]
 |_,.nil=>rfl
theorem AZ.dropLast(h:AZ xs us):AZ xs.dropLast us.dropLast:=by
 induction h with
 |nil=>exact .nil
 |cons r t ih=>
  cases t with
  |nil=>exact .nil
  |cons q t'=>exact .cons r ih
theorem AZ.eraseIdx:∀{xs:Ac V}{us:Ac Aj}(i:Ag),AZ xs us->AZ (xs.eraseIdx i) (us.eraseIdx i)
 |_,_,_,.nil=>.nil
 |_,_,0,.cons _ t=>t
 |_,_,i+1,.cons r t=>.cons r (AZ.eraseIdx i t)
theorem AZ.reverse(h:AZ xs us):AZ xs.reverse us.reverse:=by
 induction h with
 |nil=>exact .nil
 |cons r t ih=>rw[Xi,Xi];exact AZ.append ih (.cons r .nil)
theorem AZ.rep{xs:Ac V}(h:AZ xs us):∀ k:Ag,AZ (Bs k xs).flatten (Bs k us).flatten
 |0=>.nil
 |k+1=>by
  rw[Xh,Xh,W6,W6];exact AZ.append h (AZ.rep h k)
theorem cT{α:Type}(l:Ac α):l.eraseIdx (l.length-1)=l.dropLast:=by
 induction l with
 |nil=>rfl
 |cons a r ih=>
  cases r with
  |nil=>rfl
  |cons b r=>
   have e:(a::b::r).length-1=((b::r).length-1)+1:=by
    have h1:(a::b::r).length=r.length+2:=rfl;have h2:(b::r).length=r.length+1:=rfl
    lia
   rw[e,List.eraseIdx_cons_succ,ih]
   all_goals rfl
section
variable{U:St}
theorem Y8.lset(I:Y8 X pI U H s)(hH:H l=Aa (.L xs))(e:s.heap.get? l=Aa { cls:=.type "list",data:=.seq its.toArray n })(hf:f its.toArray=its'.toArray)(hv:AZ ys its')(hz:ys.length<=sizeLine):Y8 X pI U (upd H l (.L ys)) {s with heap:=s.heap.update l (DI f),toks:=t'}:=by
 have q:=PySem.IsL.update e f;rw[hf]at q;refine I.write (x:=l) (e:=l) (by rw[hH];exact trivial) (.inl rfl) (λb' u hb hu=>(B7 s.heap (DI f) (CB hb)).trans hu) ⟨_,q⟩ ?_
 exact⟨hz,its',_,hv,q⟩
theorem Y8.lnew(I:Y8 X pI U H s)(hv:AZ ys its)(hz:ys.length<=sizeLine):
  Y8 X pI U (upd H s.heap.objs.size (.L ys)) { s with heap:=s.heap.push { cls:=.type "list",data:=.seq its.toArray },toks:=t' }:=
 I.laid (λ_ _ q=>Ar _ q) (AQ _) ⟨hz,its,0,hv,AI _ rfl⟩
theorem Y8.fresh(I:Y8 X pI U H s):H s.heap.objs.size=Ae:=I.hok.fresh (AQ _)
theorem Y8.lstM(I:Y8 X pI U H s)(hH:H l=Aa (.L xs)):xs.length<=sizeLine/\∃(its:Ac Aj)(n:Ag),AZ xs its/\xs.length=its.length/\s.heap.get? l=Aa { cls:=.type "list",data:=.seq its.toArray n }:=by
 obtain⟨z,its,n,r,e⟩:=I.hok l _ hH;exact⟨z,its,n,r,r.length,e⟩
theorem fK(h:n<=sizeLine):F9 n=Ad:=by
 unfold F9;exact Bq (by lia)
end
def kI:V->Ac V->Hp->VK->Prop:=λx vs H Q=>∃ l xs y,x=.ref l/\vs=[y]/\H l=Aa (.L xs)/\xs.length<sizeLine/\Q .O (upd H l (.L (xs++[y])))
theorem SL:MtM X "list.append" kI:=by
 intro pI s U H x vs v us Q I rx rv h;obtain⟨l,xs,y,rfl,rfl,hH,hz,q⟩:=h;cases rx;obtain⟨u,rfl,ru⟩:=rv.one;obtain⟨z,its,n,r,hl,e⟩:=I.lstM hH;refine EK F.slot_list_append ⟨_,e,rfl⟩ F.entry_list_append (F.args_list_append_2 _ _) (PySem.list_append l its.toArray n u (by rw[AL];lia)) ⟨e,?_⟩
 refine⟨.O,_,I.lset (its':=its++[u]) hH e (by simp) (r.append (.cons ru .nil)) ?_,rfl,q⟩
 rw[Cy,G9]
 lia
def kH:V->Ac V->Hp->VK->Prop:=λx vs H Q=>∃ l b xs zs,x=.ref l/\vs=[.ref b]/\H l=Aa (.L xs)/\H b=Aa (.L zs)/\xs.length+zs.length<=sizeLine/\Q .O (upd H l (.L (xs++zs)))
theorem dA:MtM X "list.extend" kH:=by
 intro pI s U H x vs v us Q I rx rv h;obtain⟨l,b,xs,zs,rfl,rfl,hH,hB,hz,q⟩:=h;cases rx;obtain⟨u,rfl,ru⟩:=rv.one;cases ru;obtain⟨z,its,n,r,hl,e⟩:=I.lstM hH;obtain⟨z2,zk,n2,r2,nk,e2⟩:=I.lstM hB;have hsz:its.toArray.size+zk.toArray.size<=sizeLine:=by rw[AL,AL];lia
 have Ϧ:¬ (!its.toArray.isEmpty&&F9 (its.toArray.size+zk.toArray.size))=Ab:=by
  rw[fK hsz,HN];exact BC
 refine EK F.slot_list_extend ⟨_,e,rfl⟩ F.entry_list_extend (F.args_list_extend_2 _ _)
  (AutoSeq1.list_extend_list_list_0 l its.toArray n b zk.toArray n2 Ϧ (by rw[AL];lia) (by lia)) ⟨e,e2,?_⟩
 refine⟨.O,_,I.lset (its':=its++zk) hH e (by simp) (r.append r2) ?_,rfl,q⟩
 rw[Cy]
 lia
def ZM:V->Ac V->Hp->VK->Prop:=λx vs H Q=>∃ l xs y,x=.ref l/\vs=[]/\H l=Aa (.L xs)/\xs[xs.length-1]?=Aa y/\Q y (upd H l (.L xs.dropLast))
theorem uX:MtM X "list.pop" ZM:=by
 intro pI s U H x vs v us Q I rx rv h;obtain⟨l,xs,y,rfl,rfl,hH,hy,q⟩:=h;cases rx;have hus:=rv.zero;subst hus;obtain⟨z,its,n,r,hl,e⟩:=I.lstM hH;obtain⟨u,hu,ru⟩:=r.get hy;have hy':its.toArray[its.toArray.size-1]?=Aa u:=by
  show its.toArray[its.length-1]?=Aa u;rw[<-WM,<-hl];exact hu
 refine EK F.slot_list_pop ⟨_,e,rfl⟩ F.entry_list_pop (F.args_list_pop_1 _) (MeetsSeq.list_pop_last l its.toArray n u hy' (by rw[AL];omega)) ⟨e,?_⟩
 refine⟨y,_,I.lset (its':=its.dropLast) hH e ?_ r.dropLast ?_,ru,q⟩
 .show its.toArray.eraseIdxIfInBounds (its.toArray.size-1)=its.dropLast.toArray;rw[AL,List.eraseIdxIfInBounds_toArray,cT]
 .rw[List.length_dropLast];omega
end L2
namespace Att
open PySem PySem.W PySem.Calls PyProof.Rows
variable{l:GV}
theorem Z4:∀(ns:Ac Ai)(vs:Ac Aj),WellAll P h vs (ns.map Yx)->Lu vs ns:=by
 intro ns
 induction ns with
 |nil=>
  intro vs w;rw[KQ]at w;cases w;exact .nil
 |cons n ns ih=>
  intro vs w;rw[BU]at w;cases w with
  |cons a b=>
   cases a;exact .cons _ _ (ih _ b)
theorem dN(hn:l.most=Aa n)(nr:l.row.toRowW.claim.pre args=Ab)(hwl:WellAll P h vals args):
  ∃ a vs ns,vals=[Bv a]/\args=[WData.list (ns.map Yx)]/\h.get? a=Aa { cls:=.type "list",data:=.seq vs.toArray }/\Lu vs ns/\ns.length<=n:=by
 have hsh:WShape.hasAll [] args [.list .int]=Ab:=(pre_splitW nr).1;have hc:l.pre.holds [] {args:=args}=Ab:=(pre_splitW nr).2;obtain⟨d,r,rfl,h1,h2⟩:=hasAllW_cons hsh;obtain rfl:=hasAllW_nil h2;obtain⟨xs,rfl,h3⟩:=hasW_list h1;obtain⟨ns,rfl⟩:=items_int h3;have RL:ns.length<=n:=by
  unfold OpenLaw.pre at hc;have h4:(WTm.not (.lt (.lit (.int (n:Ai))) (.len (.arg 0)))).holds [] {args:=[.list (ns.map .int)]}=Ab:=by
   have h4:=(holds_andW hc).1;rw[hn]at h4;exact h4
  have h5:=condW_of h4 (w_not (w_lt w_lit (w_len_list (w_arg rfl))));rw[Bb]at h5;refine Nat.le_of_not_lt λq=>?_
  have q':(n:Ai)<((ns.length:Ag):Ai):=by omega
  first
   |(rw[Di q']at h5;exact absurd h5 (by decide))
   |(simp at h5;omega)
 cases hwl with
 |cons w1 w2=>
  cases w2;cases w1 with
  |list ho jg=>exact⟨_,_,ns,rfl,rfl,ho,Z4 ns _ jg,RL⟩
theorem cY(l:GV)(args:Ac WData):l.row.toRowW.claim.post args (.bool Ab) args=Ab:=
 postW_of (r:=l.row.toRowW) (X:=(Ab==Ab))
  (show Yy [] (.bool Ab) .bool=Ab by first|rfl|decide|simp[Yy,WShape.arms,WShape.armsAll])
  (show (WTm.eq .res (.lit (.bool Ab))).value [] {args:=args,res:=Aa (.bool Ab),after:=args}=Aa (.bool (Ab==Ab)) from w_eq_bool (w_res rfl) w_lit) rfl
theorem attach_call(hn:l.most=Aa n)(Ϥ:d.params.defaults=[])(call:∀(w:AD)(s₀ s₁:An)(mg mb:Ah->Am Aj)(fa:Ak)(o:CD)(pm cd doc:Aj)(a:Ak)(vs:Ac Aj)(ns:Ac Ai),
   Ground q loose [] XP w s₀ mg mb s₁.heap->YP w s₁.heap ->
   s₁.heap.get? fa=Aa o->o.data=.func (docDef d.name d.params d.body d.scope pm cd doc)->s₁.heap.CodeRec cd d.name->mg d.name=Aa (.ref fa) ->
   s₁.heap.get? a=Aa { cls:=.type "list",data:=.seq vs.toArray }->Lu vs ns->ns.length<=n->s₁.gens=#[] ->
   Er (model l.prog w) IU (.call (.ref fa) ⟨[.ref a],[]⟩) (λr s'=>r=.ok (.ret (.bool Ab))/\OldK s₁.heap s'.heap/\s'.os=s₁.os/\Gr s'.gens) s₁):WalkO q loose XP YP l.row.toRowW d [] (λf vs=>Mc f vs):=by
 intro w s₀ s₁ mg mb G Y_ fa o pm cd doc dV kV ho hd ze hD jw hg args vals as nr hlay hrd hwl hlo;obtain rfl:dV=.none:=Dflts.none hD Ϥ;obtain rfl:kV=.none:=Dflts.noKw hD;obtain⟨a,vs,ns,rfl,rfl,jy,ql,RL⟩:=dN hn nr hwl;refine enter_call (E9 (call w s₀ s₁ mg mb fa o pm cd doc a vs ns G Y_ ho (fd_plain hd) ze jw jy ql RL hg) λr s' hq=>?_)
 obtain⟨rfl,h2,h3,h4⟩:=hq;exact⟨.inl ⟨.bool Ab,.bool Ab,[],rfl,λ_=>rfl,.bool Ab,cY l _,λ_=>⟨List.Pairwise.nil,λ_ hm=>(nomatch hm)⟩⟩,h2,h3,h4⟩
end Att
namespace L2
open PySem PySem.Spec PyProof.Rows
theorem Sk:∀{vs:Ac Aj}{ns:Ac Ai},Lu vs ns->AZ (ns.map V.int) vs
 |_,_,.nil=>.nil
 |_,_,.cons n t h=>.cons ⟨t,rfl⟩ (Sk h)
def RD(H:Hp):Prop:=∀ b,H b=Ae\/∃ o xs,H b=Aa (.frz o (.L xs))
theorem fR{K:Fg}(KX:K.In s₁.heap)(hns:s₁.heap.Ns AJ mg)(hb:s₁.heap.Ns Kb mb)(jh:∀ x:Ah,x≠"__name__"->mb x=Ds x)(hlim:s₁.heap.NoLimit)(hg:s₁.gens=#[])(ha:s₁.heap.get? a=Aa { cls:=.type "list",data:=.seq vs.toArray })(hi:Lu vs ns)(hl:ns.length<=sizeLine)(hr:PP k IU)(F:∀ base:AC,K.In base->base.Ns AJ mg->Y0 P w K mg base CX k fa fd [x] sp)(ϡ:∀(s:An)(u:Aj),Hb s fd ⟨[u],[]⟩ [(x,u)])(qr:∀ H:Hp,RD H->zr K H a (ns.map V.int)->sp [.ref a] H (λv _=>v=.bl Ab) λ_ _ _=>AN)(hCX:∀ H e s',CX [] H s₁ (λ_ _ _=>AN) e s'->AN):Er (model P w) IU (.call (.ref fa) ⟨[.ref a],[]⟩) (λr s'=>r=.ok (.ret (.bool Ab))/\OldK s₁.heap s'.heap/\s'.os=s₁.os/\Gr s'.gens) s₁:=by
 have rv:=Sk hi;have lenV:=hi.length
 have core:∀ H:Hp,RD H->zr K H a (ns.map V.int)->yj P w H s₁.heap->(∀ b,H b≠Ae->b=a)->(H a≠Ae->K.lookup a=Ae) ->
   Er (model P w) IU (.call (.ref fa) ⟨[.ref a],[]⟩) (λr s'=>r=.ok (.ret (.bool Ab))/\OldK s₁.heap s'.heap/\s'.os=s₁.os/\Gr s'.gens) s₁:=by
  intro H hO hS hok hA hK;have ui:∀{b:Ak}{o:CD},s₁.heap.get? b=Aa o->H b=Ae->(Ku s₁.heap H).get? b=Aa o:=λe n=>fZ e n
  have ϵ:∀{b:Ak}{o:CD}{es:A3 MY}{ep:Ag},s₁.heap.get? b=Aa o->o.data=.dict es ep->H b=Ae:=λ{b o es ep} e d=>by
   cases q:H b with
   |none=>rfl
   |some u=>
    have e':b=a:=hA b (by rw[q];simp)
    subst e';rw[ha]at e;cases e;have d':M1 vs.toArray _=Data.dict es ep:=d;cases d'
  have ź:∀{b:Ak}{m:Ah->Am Aj},s₁.heap.Ns b m->(Ku s₁.heap H).Ns b m:=λ{b m} ⟨o,es,ep,e,d,r⟩=>⟨o,es,ep,ui e (ϵ e d),d,r⟩
  have hKb:K.In (Ku s₁.heap H):=λb o e=>ui (KX b o e) (by
   cases q:H b with
   |none=>rfl
   |some u=>
    have e':b=a:=hA b (by rw[q];simp)
    subst e';rw[hK (by rw[q];simp)]at e;cases e)
  have hM:Mod K mg (Ku s₁.heap H):=⟨hKb,ź hns,⟨mb,ź hb,jh⟩,let ⟨mc,h1,h2⟩:=hlim;⟨mc,ź h1,h2⟩⟩
  have e0:xp P w K mg (Ku s₁.heap H) IU [] s₁ H:=⟨rfl,hM,λb o e=>nJ e,KR (cV _ _),trivial,λb hb=>absurd (show b∈([]:Ac Ak) from hb) (by simp),hok,.of_eq hg⟩
  refine E9 ((F _ hKb (ź hns)).run IU [] s₁ H ⟨[.ref a],[]⟩ [.ref a] [.ref a] _ _ hr e0 (ϡ s₁ (.ref a)) (.cons rfl .nil) (qr H hO hS)) λr s' h=>?_
  cases r with
  |error e=>exact(hCX H e s' h).elim
  |ok fl=>
   cases fl with
   |next=>exact A4 h
   |brk=>exact A4 h
   |cont=>exact A4 h
   |ret u=>
    obtain⟨v,H',os,bare,un,hok',r',q⟩:=h;have q':v=.bl Ab:=q;subst q';obtain rfl:u=Mb Ab:=r';refine⟨rfl,OldK.of_keep λb o e=>?_,os,bare⟩
    cases q:H b with
    |none=>exact un.keep b o e q (by intro z;exact absurd (show b∈([]:Ac Ak) from z) (by simp)) (by simp)
    |some u=>
     rcases hO b with z|⟨ob,xs,z⟩
     .rw[q]at z;cases z
     .have z2:=un.frzs b ob _ z;obtain⟨e1,_⟩:=hok b _ z;obtain⟨e2,_⟩:=hok' b _ z2;rw[e]at e1;cases e1;exact e2
 cases hk:K.lookup a with
 |some o=>
  have e:=KX a o hk;rw[ha]at e;cases e;refine core (λ_=>Ae) (λ_=>.inl rfl) (.inr ⟨_,vs.toArray,_,hk,rfl,rfl,rfl,by rw[AL,lenV];exact hl,by simpa using rv⟩) (λb u z=>by have z':(Ae:Am HO)=Aa u:=z;cases z') (λb z=>absurd rfl z) λz=>absurd rfl z
 |none=>
  refine core (λb=>if b=a then Aa (.frz { cls:=.type "list",data:=.seq vs.toArray } (.L (ns.map V.int))) else Ae) (λb=>?_) (.inl (.inr ⟨{ cls:=.type "list",data:=.seq vs.toArray },Au rfl⟩)) (λb u z=>?_) (λb z=>?_) λ_=>hk
  .by_cases hb:b=a
   .exact .inr ⟨_,_,Au hb⟩
   .exact .inl (AA hb)
  .by_cases hb:b=a
   .have z':=(Au hb).symm.trans z;cases z';subst hb;exact⟨ha,by rw[Bb];exact hl,vs,_,rv,ha⟩
   .have z':=(AA hb).symm.trans z;cases z'
  .by_cases hb:b=a
   .exact hb
   .exact absurd (AA hb) z
noncomputable abbrev KOf{K:Fg}{h:AC}(_:K.In h):Fg:=K
theorem walk_of{l:GV}{K:M3->Fg}{CX:AD->CXT}{sp:AD->Sp}(hn:l.most=Aa n)(ñ:n<=sizeLine)(Ϥ:d.params.defaults=[])(hr:PP k IU)(hY:∀(w:AD)(h:AC),YP w h->(K w.params).In h)(F:∀(w:AD)(mg:Ah->Am Aj)(fa:Ak)(h:AC),(K w.params).In h->h.Ns AJ mg->mg d.name=Aa (.ref fa) ->
   ∃ fd:A7,(∀(s:An)(u:Aj),Hb s fd ⟨[u],[]⟩ [(x,u)]) /\
    ∀ base:AC,(K w.params).In base->base.Ns AJ mg->Y0 l.prog w (K w.params) mg base (CX w) k fa fd [x] (sp w))(qr:∀(w:AD)(H:Hp)(a:Ak)(ns:Ac Ai),ns.length<=n->RD H->zr (K w.params) H a (ns.map V.int)->sp w [.ref a] H (λv _=>v=.bl Ab) λ_ _ _=>AN)(hCX:∀(w:AD)(H:Hp)(s:An)(e:Aj)(s':An),CX w [] H s (λ_ _ _=>AN) e s'->AN):Yz q loose XP YP l.row.toRowW d [] (λf vs=>Mc f vs):=by
 refine Att.attach_call hn Ϥ λw s₀ s₁ mg mb fa o pm cd doc a vs ns G Y_ ho hd ze jw jy ql RL hg=>?_
 have KX:=hY w _ Y_;obtain⟨fd,hb,hF⟩:=F w mg fa _ KX G.T.g jw;exact fR KX G.T.g G.T.b G.T.builtins G.T.nolimit hg jy ql (BF RL ñ) hr hF hb (λH hO hS=>qr w H a ns RL hO hS) λH e s'=>hCX w H s₁ e s'
end L2
namespace L2
open PySem PySem.Spec PyProof.Rows
def HW(s:AT):MW:=match s with
  |.FunctionDef _ a _ _ _ _ _ _ _ _=>a
  |_=>{posonlyargs:=[],args:=[],vararg:=Ae,kwonlyargs:=[],kw_defaults:=[],kwarg:=Ae,defaults:=[]}
noncomputable def Dt(s:AT):Ac AT:=match s with
  |.FunctionDef _ _ b _ _ _ _ _ _ _=>b
  |_=>[]
def AB(s:AT):Cf:=match s with
  |.FunctionDef _ _ _ _ _ _ sc _ _ _=>sc
  |_=>{kind:=.function,names:=[],isGenerator:=Ad,isCoroutine:=Ad}
noncomputable abbrev CX0:CXT:=λ_ _ _ _ _ _=>AN
noncomputable abbrev E0:XK:=λ_ _ _=>AN
structure qc (K:Fg) (x qual:Ah) (st:AT) (f:Ak) (fd:A7):Prop where
 ex:∃(oc:Aj)(od:Am Ak)(kV doc pm:Aj)(an:Am Ak)(cdv ct:Aj)(osl:A3 (Am Aj)),
  fd=B5 x qual (HW st) (Dt st) (AB st) .none kV doc pm an cdv ct/\K.lookup f=Aa ⟨oc,od,.func fd,osl⟩/\DW K cdv qual=Ab
 kp:AM K (.ref f)=Ab
section
variable{K:Fg}
theorem qc.ok{st:AT}(F:qc K x qual st f fd)(S:zi N ps (AB st))(len:∀ vs H Q E,sp vs H Q E->vs.length=ps.length)(vv:∀(cdv:Aj)(A:AY)(outer:Ac B8)(s:An)(H:Hp)(vs:Ac V)(Q:VK)(E:XK),PP k (A.deeper (Eu qual (AB st) s.heap.objs.size f cdv))->sp vs H Q E ->
   ∃ t,zc (Bu CX0 P w K mg base N qual (AB st) f cdv A outer s H E).nox (Dt st) t/\t {nx:=λ_ H'=>Q .O H',rt:=Q} (start N vs) H):Y0 P w K mg base CX0 (k+1) f fd ps sp:=by
 obtain⟨oc,od,kV,doc,pm,an,cdv,ct,osl,rfl,lk,ze⟩:=F.ex;refine Hw lk ze S len λA outer s H vs Q E hr qr=>?_
 obtain⟨t,h,q⟩:=vv cdv A outer s H vs Q E hr qr;exact⟨t,h.nox,q⟩
theorem qc.binds{st:AT}(F:qc K x qual st f fd)(h:∀(kV doc pm:Aj)(an:Am Ak)(cdv ct:Aj)(us:Ac Aj),us.length=ps.length->HS (B5 x qual (HW st) (Dt st) (AB st) .none kV doc pm an cdv ct) ⟨us,[]⟩=pure (ps.zip us)):Cv K fd ps []:=by
 obtain⟨oc,od,kV,doc,pm,an,cdv,ct,osl,rfl,lk,ze⟩:=F.ex;exact .all (h kV doc pm an cdv ct)
theorem QI{st:AT}{kV:Aj}(l:K.lookup f=Aa ⟨oc,od,.func (B5 x qual (HW st) (Dt st) (AB st) .none kV doc pm an cdv ct),osl⟩)(c:DW K cdv qual=Ab)(k:AM K (.ref f)=Ab):qc K x qual st f (B5 x qual (HW st) (Dt st) (AB st) .none kV doc pm an cdv ct):=⟨⟨oc,od,kV,doc,pm,an,cdv,ct,osl,rfl,l,c⟩,k⟩
end
theorem pv(i:Ag)(hN:X.N[i]?=Aa x:=by rfl)(hv:Ŧ X.env.scope x:=by first|exact Or.inl rfl|exact Or.inr (Or.inl rfl)|exact Or.inr (Or.inr rfl))(hd:(x==("__debug__" : Ah))=Ad:=by decide)(ze:(x==("__classdict__" : Ah))=Ad:=by decide):PE X (.Name x pos) (BS i):=DF hN hv hd ze
def Aw(H H':Hp):Prop:=∀ b o,H b=Aa o->H' b=Aa o
theorem Aw.refl(H:Hp):Aw H H:=λ_ _ h=>h
theorem Aw.trans(a:Aw H H1)(b:Aw H1 H2):Aw H H2:=λc o h=>b c o (a c o h)
theorem Aw.free(e:Aw H H')(h:H' l=Ae):H l=Ae:=by
 cases q:H l with
 |none=>rfl
 |some o=>
  rw[e l o q]at h;cases h
theorem Aw.seq{K:Fg}(e:Aw H H')(h:zr K H a xs):zr K H' a xs:=by
 rcases h with (h|⟨o,h⟩)|h
 .exact .inl (.inl (e _ _ h))
 .exact .inl (.inr ⟨o,e _ _ h⟩)
 .exact .inr h
end L2
namespace Ov
open PySem
set_option genInjectivity true
inductive D where
 |O|bl (b:Ao)|int (i:Ai)|str (x:Ah)|H (ds:Ac D)|L (ds:Ac D)
 |obj (c:Ag) (fs:Ac (Ah×D))|exc (c:Ag) (fs:Ac (Ah×D))|dic (kvs:Ac (Ac Ai×D))
 deriving Inhabited
set_option genInjectivity true in
structure Ex where
 c:Ag
 fs:Ac (Ah×D)
 deriving Inhabited
inductive R (α:Type) where
 |ok (a:α)|exn (x:Ex)|bad
 deriving Inhabited
noncomputable def R.bind{α β:Type}(r:R α)(f:α->R β):R β:=match r with
  |.ok a=>f a
  |.exn x=>.exn x
  |.bad=>.bad
@[simp]theorem R.bind_ok(a:α)(f:α->R β):(R.ok a).bind f=f a:=rfl
@[simp]theorem R.bind_exn(x:Ex)(f:α->R β):(R.exn x:R α).bind f=.exn x:=rfl
@[simp]theorem R.bind_bad(f:α->R β):(R.bad:R α).bind f=.bad:=rfl
theorem R.bind_assoc(r:R α)(f:α->R β)(g:β->R γ):(r.bind f).bind g=r.bind λa=>(f a).bind g:=by cases r<;>rfl
noncomputable def Dd(n:Ag):Ao:=Cs n 1000000
noncomputable def FX(i j:Ai):Ao:=(decide (-(18446744073709551616:Ai)<i)&&decide (i<18446744073709551616))||(decide (-(18446744073709551616:Ai)<j)&&decide (j<18446744073709551616))
noncomputable def OR(i j:Ai):Ao:=decide (i.natAbs<2 ^ 2000)&&decide (j.natAbs<2 ^ 2000)
def Cw:HP->D->D->R D
 |.Add,.int i,.int j=>.ok (.int (i+j))
 |.Sub,.int i,.int j=>.ok (.int (i-j))
 |.Mult,.int i,.int j=>if (FX i j||OR i j)=Ab then .ok (.int (i*j)) else .bad
 |.FloorDiv,.int i,.int j=>if 0<j/\j<1073741824 then .ok (.int (i/j)) else .bad
 |.Mod,.int i,.int j=>if 0<j then .ok (.int (i%j)) else .bad
 |.Pow,.int i,.int j=>if (0<=j/\j<=1000000)/\(-(18446744073709551616:Ai)<i/\i<18446744073709551616) then .ok (.int (i ^ j.toNat)) else .bad
 |.Add,.str x,.str y=>if Dd (x.length+y.length)=Ab then .ok (.str (x++y)) else .bad
 |.Add,.L x,.L y=>if Dd (x.length+y.length)=Ab then .ok (.L (x++y)) else .bad
 |.Add,.H x,.H y=>if (!x.isEmpty&&Dd (x.length+y.length))=Ab then .ok (.H (x++y)) else .bad
 |_,_,_=>.bad
noncomputable def Χ:UnaryOp->D->R D
 |.USub,.int i=>.ok (.int (-i))
 |_,_=>.bad
noncomputable def ν(b:Ao):Ai:=if b=Ab then 1 else 0
mutual
def J0:D->D->Ao
 |.O,.O=>Ab
 |.bl a,.bl b=>a==b
 |.bl a,.int j=>ν a==j
 |.int i,.bl b=>i==ν b
 |.int i,.int j=>i==j
 |.str x,.str y=>x==y
 |.H xs,.H ys=>zw xs ys
 |.L xs,.L ys=>zw xs ys
 |_,_=>Ad
def zw:Ac D->Ac D->Ao
 |[],[]=>Ab
 |x::xs,y::ys=>J0 x y&&zw xs ys
 |_,_=>Ad
end
noncomputable def J8:Ag->D->Ao
 |_,.O=>Ab
 |_,.bl _=>Ab
 |_,.int _=>Ab
 |_,.str _=>Ab
 |n+1,.H xs=>xs.all (J8 n)
 |n+1,.L xs=>xs.all (J8 n)
 |_,_=>Ad
noncomputable def NE:D->Am (Ac Ai)
 |.H ds=>keyDs ds
 |_=>Ae
where keyDs:Ac D->Am (Ac Ai)
 |[]=>Aa []
 |.int i::r=>(keyDs r).map (i :: ·)
 |_=>Ae
noncomputable def ö:Ag->D->D->Ao
 |0,.int i,.int j=>decide (i<j)
 |n+1,.H xs,.H ys=>ltDs (ö n) xs ys
 |_,_,_=>Ad
where ltDs (lt:D->D->Ao):Ac D->Ac D->Ao
 |[],[]=>Ad
 |[],_::_=>Ab
 |_::_,[]=>Ad
 |x::xs,y::ys=>if J0 x y=Ab then ltDs lt xs ys else lt x y
noncomputable def Α:Ag->D->Ao
 |0,.int _=>Ab
 |n+1,.H xs=>xs.all (Α n)
 |_,_=>Ad
noncomputable def Wl(lt:D->D->Ao)(x:D):Ac D->Ac D
 |[]=>[x]
 |y::ys=>if lt y x=Ab then y::Wl lt x ys else x::y::ys
def Vx(lt:D->D->Ao):Ac D->Ac D
 |[]=>[]
 |x::xs=>Wl lt x (Vx lt xs)
def WH:Ac D->Ao
 |[]=>Ab
 |x::xs=>xs.all (λy=>!J0 x y)&&WH xs
noncomputable def Wg:Ac D->Ao
 |[]=>Ab
 |[_]=>Ab
 |x::y::r=>ö 1 x y&&Wg (y::r)
def Uh(xs:Ac D):R (Ac D):=if (xs.all (λd=>Α 1 d && !J0 d (.H []))&&WH xs&&(decide (xs.length<64)||(Wg xs&&decide (xs.length<=1000))))=Ab then .ok (Vx (ö 1) xs) else .bad
def BZ:Hk->D->D->R D
  |.Eq,x,y=>if (J8 5 x&&J8 5 y)=Ab then .ok (.bl (J0 x y)) else .bad
  |.NotEq,x,y=>if (J8 5 x&&J8 5 y)=Ab then .ok (.bl (!J0 x y)) else .bad
  |.Lt,.int i,.int j=>.ok (.bl (decide (i<j)))
  |.LtE,.int i,.int j=>.ok (.bl (decide (i<=j)))
  |.Gt,.int i,.int j=>.ok (.bl (decide (j<i)))
  |.GtE,.int i,.int j=>.ok (.bl (decide (j<=i)))
  |.In,x,.L ys=>if (J8 5 x&&ys.all (J8 5))=Ab then .ok (.bl (ys.any λy=>J0 y x)) else .bad
  |.In,x,.dic kvs=>match NE x with
    |some k=>.ok (.bl (kvs.any λp=>p.1==k))
    |none=>.bad
  |.In,x,.H ys=>if (J8 5 x&&ys.all (J8 5))=Ab then .ok (.bl (ys.any λy=>J0 y x)) else .bad
  |.NotIn,x,.L ys=>if (J8 5 x&&ys.all (J8 5))=Ab then .ok (.bl (!ys.any λy=>J0 y x)) else .bad
  |.NotIn,x,.H ys=>if (J8 5 x&&ys.all (J8 5))=Ab then .ok (.bl (!ys.any λy=>J0 y x)) else .bad
  |.Is,.O,.O=>.ok (.bl Ab)
  |.Is,.bl _,.O=>.ok (.bl Ad)
  |.Is,.int _,.O=>.ok (.bl Ad)
  |.Is,.str _,.O=>.ok (.bl Ad)
  |.Is,.H _,.O=>.ok (.bl Ad)
  |.Is,.L _,.O=>.ok (.bl Ad)
  |.Is,.obj _ _,.O=>.ok (.bl Ad)
  |.Is,.bl a,.bl b=>.ok (.bl (a==b))
  |.IsNot,.bl a,.bl b=>.ok (.bl (!(a==b)))
  |.IsNot,.O,.O=>.ok (.bl Ad)
  |.IsNot,.bl _,.O=>.ok (.bl Ab)
  |.IsNot,.int _,.O=>.ok (.bl Ab)
  |.IsNot,.str _,.O=>.ok (.bl Ab)
  |.IsNot,.H _,.O=>.ok (.bl Ab)
  |.IsNot,.L _,.O=>.ok (.bl Ab)
  |.IsNot,.obj _ _,.O=>.ok (.bl Ab)
  |_,_,_=>.bad
def Ci:D->R Ao
 |.O=>.ok Ad
 |.bl b=>.ok b
 |.int i=>.ok (i != 0)
 |.str x=>if Dd x.length=Ab then .ok (x.length != 0) else .bad
 |.H xs=>.ok (!xs.isEmpty)
 |.L xs=>.ok (!xs.isEmpty)
 |_=>.bad
noncomputable def pz(n:Ag)(i:Ai):Am Ag:=if 0<=i then (if i<n then Aa i.toNat else Ae) else if -(n:Ai)<=i then Aa (i+n).toNat else Ae
def Ee(xs:Ac D)(i:Ai):R D:=match pz xs.length i with
  |some k=>match xs[k]? with
    |some d=>.ok d
    |none=>.bad
  |none=>.bad
noncomputable def wB(kvs:Ac (Ac Ai×D))(k:Ac Ai):Am D:=(kvs.find? λp=>p.1==k).map (·.2)
noncomputable def Vj(kvs:Ac (Ac Ai×D))(k:Ac Ai)(v:D):Ac (Ac Ai×D):=if (kvs.any λp=>p.1==k)=Ab then kvs.map (λp=>if (p.1==k)=Ab then (k,v) else p) else kvs++[(k,v)]
noncomputable def NP(x:Ah):Ac D:=x.cps.toList.map λc=>.str ⟨#[c]⟩
def D4:D->D->R D
  |.str x,.int i=>if Dd x.length=Ab then Ee (NP x) i else .bad
  |.L xs,.int i=>Ee xs i
  |.H xs,.int i=>Ee xs i
  |.dic kvs,k=>match (NE k).bind (wB kvs) with
    |some d=>.ok d
    |none=>.bad
  |_,_=>.bad
noncomputable def Gh:D->R Ai
 |.int i=>.ok i
 |_=>.bad
noncomputable def Fx:D->R Ao
 |.bl b=>.ok b
 |_=>.bad
noncomputable def DD:D->R (Ac D)
 |.L xs=>.ok xs
 |.H xs=>.ok xs
 |_=>.bad
noncomputable def Rn:D->R (Ac D)
 |.L xs=>.ok xs
 |_=>.bad
set_option genInjectivity false
inductive BI where
 |len|abs|max|min|int|list|tuple|all|any|sum|sorted|str|count|stp|lset|tmin|tmax|tlt|rvs|sjoin|ssplit|index
 deriving DecidableEq,Inhabited
inductive Ki where
 |int|bool|str|list|tuple|verr|cls (c:Ag)
 deriving DecidableEq,Inhabited
mutual
inductive E where
 |O|bl (b:Ao)|int (i:Ai)|str (x:Ah)
 |v (i:Ag)|glob (g:Ag)
 |B (op:HP) (a b:E)|un (op:UnaryOp) (a:E)|no (a:E)
 |and (es:Es)|or (es:Es)
 |cmp (op:Hk) (a b:E)|cmp2 (op op':Hk) (a b c:E)
 |ite (c a b:E)
 |call (f:Ag) (as:Es)|bi (b:BI) (as:Es)
 |isi (a:E) (ks:Ac Ki)
 |idx (a i:E)|sl (a lo hi:E)
 |H (es:Es)|L (es:Es)
 |comp (elt:E) (t:Ag) (it:I) (c:E)|compT (elt:E) (ts:Ac Ag) (it:I) (c:E)|tupI (it:I)|dnew
 |fld (o:E) (f:Ah)|mkx (c:Ag) (as:Es)
 |ofl (o:E) (f:Ah)|iso (a:E) (k:Ag)|meth (m:Ah) (ms:Ac (Ag×Ag)) (o:E)|mkob (c:Ag) (e:E)|mkn (c:Ag) (as:Es)
inductive Es where
 |nil|cons (e:E) (es:Es)
inductive I where
 |e (a:E)|rng (a:E)|rng2 (a b:E)|zip (a b:E)|zip3 (a b c:E)|enm (a:E)
end
abbrev Sl:=Am (D×Ao)
abbrev Rho:=Ac Sl
structure J9 where
 F:Ag->Ac D->R D
 G:Ag->D
 up:Ag->Ac Ag
 fr:Ag->Ao
 xn:Ag->Ac D->R Ex
noncomputable def Jl(lo:Ai)(n:Ag):Ac D:=(B2 n).map fun(k:Ag)=>D.int (lo+(k:Ai))
def Fp(lo hi:Ai):R (Ac D):=if (-(4611686018427387904:Ai)<=lo/\lo<4611686018427387904)/\(-(4611686018427387904:Ai)<=hi/\hi<4611686018427387904)/\hi-lo<1000000 then .ok (Jl lo (hi-lo).toNat) else .bad
noncomputable def w9(up:Ag->Ac Ag):Ki->D->Ao
 |.int,.int _=>Ab
 |.int,.bl _=>Ab
 |.bool,.bl _=>Ab
 |.str,.str _=>Ab
 |.list,.L _=>Ab
 |.tuple,.H _=>Ab
 |.cls c,.obj k _=>(up k).contains c
 |.cls c,.exc k _=>(up k).contains c
 |.verr,.exc _ _=>Ab
 |_,_=>Ad
noncomputable def Go:Ki->Ao
 |.cls _=>Ab
 |.verr=>Ab
 |_=>Ad
def EV(up:Ag->Ac Ag)(ks:Ac Ki)(x:D):R D:=match x with
  |.obj _ _=>.bad
  |.exc _ _=>if ks.all Go=Ab then .ok (.bl (ks.any λk=>w9 up k x)) else .bad
  |.dic _=>.bad
  |_=>if ks.any Go=Ab then .bad else .ok (.bl (ks.any λk=>w9 up k x))
noncomputable def FA:D->R Ao
 |.O=>.ok Ad
 |.bl b=>.ok b
 |.int i=>.ok (i != 0)
 |_=>.bad
def Hy:Ac D->R Ao
 |[]=>.ok Ab
 |x::r=>(FA x).bind λb=>(Hy r).bind λc=>.ok (b&&c)
def II:Ac D->R Ao
 |[]=>.ok Ad
 |x::r=>(FA x).bind λb=>(II r).bind λc=>.ok (b||c)
noncomputable def O0:Ai->Ac D->R Ai
 |a,[]=>.ok a
 |a,.int i::r=>O0 (a+i) r
 |_,_=>.bad
noncomputable def Rs:Ac D->Ac D->Ac D
 |x::xs,y::ys=>.H [x,y]::Rs xs ys
 |_,_=>[]
noncomputable def Q0:Ac D->Ac D->Ac D->Ac D
 |x::xs,y::ys,z::zs=>.H [x,y,z]::Q0 xs ys zs
 |_,_,_=>[]
def OB(x y z:D):R (Ac D):=(DD x).bind λxs=>(DD y).bind λys=>(DD z).bind λzs=>if 0<xs.length/\xs.length<=1000/\ys.length=xs.length/\zs.length=xs.length then .ok (Q0 xs ys zs) else .bad
noncomputable def IL:Ai->Ac D->Ac D
 |_,[]=>[]
 |i,x::xs=>.H [.int i,x]::IL (i+1) xs
noncomputable def wq:Ag->D->Ao
 |_,.O=>Ab
 |_,.bl _=>Ab
 |_,.int _=>Ab
 |_,.str _=>Ab
 |n+1,.H xs=>xs.all (wq n)
 |_,_=>Ad
def Ky(fr:Ao):D->Ao
 |.L ds=>fr&&ds.all (wq 5)
 |d=>wq 5 d
noncomputable def Kr:Ac D->Am (Ac Ai)
 |[]=>Aa []
 |.int i::r=>(Kr r).map (i :: ·)
 |_=>Ae
noncomputable def JU(i:Ai):Ac Ai->Ai
 |[]=>i
 |j::r=>JU (if j<i then j else i) r
noncomputable def pk2(k n:Ag):Ac Ag:=(B2 ((n-min k n+1)/2)).map λj=>min k n+2*j
def ZD(k:Ag)(xs:Ac D):Ac D:=(pk2 k xs.length).filterMap λi=>xs[i]?
noncomputable def ddS(U4:Ac Ai)(x:Ai):Ac Ai:=if U4.any (· == x)=Ab then U4 else U4++[x]
def ddN(is:Ac Ai):Ag:=(is.foldl ddS []).length
def bv(xs:Ac D):R D:=match Kr xs with
  |some is=>if Cs is.length 4000=Ab then .ok (.int (ddN is)) else .bad
  |none=>.bad
def mmD(mx:Ao)(x y:D):R D:=if [x,y].all (λd=>Α 1 d && !J0 d (.H []))=Ab then .ok (if (if mx=Ab then ö 1 x y else ö 1 y x)=Ab then y else x) else .bad
def ij(x y:D):R D:=if [x,y].all (λd=>Α 1 d && !J0 d (.H []))=Ab then .ok (.bl (ö 1 x y)) else .bad
noncomputable def Zh(k:Ac Ai):Ai:=reduceHash (Builtin.Tuple.tupleHashOf (k.map hashInt))
def V3:Ac D->Am (Ac (Ac Ai))
 |[]=>Aa []
 |.H xs::r=>(Kr xs).bind λk=>(V3 r).map (k :: ·)
 |_=>Ae
noncomputable def Wa:Ac Ai->Ao
 |[]=>Ab
 |h::r=>!r.contains h&&Wa r
def bu(xs:Ac D):R D:=match V3 xs with
  |some ks=>if (Cs ks.length 3&&Wa (ks.map Zh))=Ab then .ok (.int ks.length) else .bad
  |none=>.bad
noncomputable def MD:Ac D->Am (Ac Ah)
 |[]=>Aa []
 |.str x::r=>(MD r).map (x :: ·)
 |_=>Ae
def QP(s:Ah)(xs:Ac D):R D:=match MD xs with
  |some ss=>if KZ s ss=Ab then .ok (.str (ER s ss)) else .bad
  |none=>.bad
noncomputable def MP(i:Ai):Ao:=decide (i.natAbs<1000)
noncomputable def JO(x y:Ah):Ao:=Cs x.length 1000000&&Cs (XI x (EA x y 0 x.length (x.length+1)) y.length).length 1000000
noncomputable def Kw(x:Ah)(l h:Am Ai):Ah:=if ((Fk l h 1 x.length).length==x.length)=Ab then x else ⟨((Fk l h 1 x.length).filterMap (x.cps[·]?)).toArray⟩
def OK(xs:Ac D)(x:D):R D:=if (J8 5 x&&xs.all (J8 5))=Ab then (match xs.findIdx? λy=>J0 y x with
  |some j=>.ok (.int (j:Ag))
  | none=>.bad) else .bad
def zm:BI->Ac D->R D
  |.len,[.L xs]=>.ok (.int xs.length)
  |.len,[.H xs]=>.ok (.int xs.length)
  |.len,[.str x]=>if Dd x.length=Ab then .ok (.int x.length) else .bad
  |.abs,[.int i]=>.ok (.int (if i<0 then -i else i))
  |.max,[.int i,.int j]=>.ok (.int (if i<j then j else i))
  |.min,[.int i,.int j]=>.ok (.int (if j<i then j else i))
  |.min,[.L xs]=>match Kr xs with
    |some (i::is)=>.ok (.int (JU i is))
    |_=>.bad
  |.int,[.int i]=>.ok (.int i)
  |.int,[.bl b]=>.ok (.int (ν b))
  |.list,[.L xs]=>.ok (.L xs)
  |.list,[.H xs]=>.ok (.L xs)
  |.tuple,[.L xs]=>.ok (.H xs)
  |.tuple,[.H xs]=>.ok (.H xs)
  |.all,[.L xs]=>(Hy xs).bind λb=>.ok (.bl b)
  |.any,[.L xs]=>(II xs).bind λb=>.ok (.bl b)
  |.any,[.H xs]=>(II xs).bind λb=>.ok (.bl b)
  |.sum,[.L xs]=>(O0 0 xs).bind λi=>.ok (.int i)
  |.sum,[.H xs]=>(O0 0 xs).bind λi=>.ok (.int i)
  |.sorted,[.L xs]=>(Uh xs).bind λys=>.ok (.L ys)
  |.index,[.L xs,x]=>OK xs x
  |.count,[.L xs,x]=>if (J8 5 x&&xs.all (J8 5))=Ab then .ok (.int ((xs.filter λy=>J0 y x).length:Ag)) else .bad
  |.len,[.dic kvs]=>.ok (.int kvs.length)
  |.stp,[.L xs,.int k]=>.ok (.L (ZD k.toNat xs))
  |.lset,[.L xs]=>bv xs
  |.lset,[.H xs]=>bu xs
  |.sjoin,[.str s,.L xs]=>QP s xs
  |.str,[.int i]=>if MP i=Ab then .ok (.str (Af (toString i))) else .bad
  |.ssplit,[.str x,.str y]=>if (!(y.length==0)&&JO x y)=Ab then .ok (.L ((En x y).map D.str)) else .bad
  |.tmin,[x,y]=>mmD Ad x y
  |.tmax,[x,y]=>mmD Ab x y
  |.tlt,[x,y]=>ij x y
  |.rvs,[.L xs]=>.ok (.L xs.reverse)
  |_,_=>.bad
def slE(c:E)(d:D):R (Am Ai):=match c with
  |.O=>.ok Ae
  |_=>(Gh d).bind λi=>.ok (Aa i)
noncomputable def JQ(n d:Ag):Am Ai->Ag
 |none=>d
 |some i=>if i<0 then (i+n).toNat else min i.toNat n
def Kx(xs:Ac D)(lo hi:Am Ai):Ac D:=(xs.drop (JQ xs.length 0 lo)).take (JQ xs.length xs.length hi-JQ xs.length 0 lo)
def ú:D->Am Ai->Am Ai->R D
 |.L xs,l,h=>.ok (.L (Kx xs l h))
 |.H xs,l,h=>if (JQ xs.length 0 l==0&&JQ xs.length xs.length h==xs.length)=Ab then .bad else .ok (.H (Kx xs l h))
 |.str x,l,h=>if (Dd x.length&&Dd (Kw x l h).length)=Ab then .ok (.str (Kw x l h)) else .bad
 |_,_,_=>.bad
noncomputable def oup:Ag->Ac Ag
 |0=>[0]
 |1=>[1,0]
 |2=>[2,0]
 |_=>[]
noncomputable def Ϲ:D->Ah->R D
  |.obj _ fs,f=>match fs.lookup f with
    |some d=>.ok d
    |none=>.bad
  |_,_=>.bad
def Wk(k:Ag):D->R D
 |.obj c _=>.ok (.bl ((oup c).contains k))
 |_=>.bad
noncomputable def Lj(F:Ag->Ac D->R D)(m:Ah)(ms:Ac (Ag×Ag)):D->R D
  |.obj c fs=>match ms.lookup c with
    |some id=>if (fs.lookup m).isNone=Ab then F id [.obj c fs] else .bad
    |none=>.bad
  |_=>.bad
def ES(c:Ag):D->R D
 |.H [a,b]=>if wq 5 b=Ab then .ok (.obj c [("p",a),("triple",b)]) else .bad
 |_=>.bad
noncomputable def Zk:D->Ah->R D
  |.exc _ fs,f=>match fs.lookup f with
    |some d=>.ok d
    |none=>.bad
  |_,_=>.bad
noncomputable def GO(Y:Rho)(i:Ag):R D:=match Y[i]? with
  |some (Aa (d,Ad))=>.ok d
  |_=>.bad
noncomputable def ZN:D->R D
 |.L xs=>.ok (.L xs)
 |_=>.bad
def EC(Y:Rho)(i:Ag):R D:=match Y[i]? with
  |some (Aa (d,Ad))=>.ok d
  |some (Aa (d,Ab))=>ZN d
  |_=>.bad
noncomputable def v9(Y:Rho):E->Ao
  | .v i=>(match Y[i]? with
    |some (Aa (_,Ab))=>Ad
    | _=>Ab)
  |_=>Ab
def Kv(Y:Rho):Es->Ao
 |.nil=>Ab
 |.cons e es=>v9 Y e&&Kv Y es
noncomputable def HY:Ac Ag->Ac D->Rho->Am Rho
 |[],[],Y=>Aa Y
 |t::ts,d::ds,Y=>HY ts ds (Y.set t (Aa (d,Ad)))
 |_,_,_=>Ae
def IF(ts:Ac Ag)(d:D)(Y:Rho):R Rho:=match d with
  | .H xs=>(match HY ts xs Y with
    |some Y'=>.ok Y'
    | none=>.bad)
  |_=>.bad
def MA(ts:Ac Ag)(d:D)(Y:Rho):R Rho:=match d with
  | .L xs=>(match HY ts xs Y with
    |some Y'=>.ok Y'
    | none=>.bad)
  |d=>IF ts d Y
noncomputable def Cu(g:D->R Ao)(f:D->R D):Ac D->R (Ac D)
 |[]=>.ok []
 |x::xs=>(g x).bind λb=>if b=Ab then (f x).bind λy=>(Cu g f xs).bind λys=>.ok (y::ys) else Cu g f xs
noncomputable def yu{α:Type}:R α->R α
 |.ok a=>.ok a
 |_=>.bad
def top(Y:Rho)(e:E)(r:R D):R D:=match e with
  |.v i=>EC Y i
  |_=>r
mutual
def evE(J:J9)(Y:Rho):E->R D
 |.O=>.ok .O
 |.bl b=>.ok (.bl b)
 |.int i=>.ok (.int i)
 |.str x=>.ok (.str x)
 |.v i=>GO Y i
 |.glob g=>.ok (J.G g)
 |.B op a b=>(top Y a (evE J Y a)).bind λx=>(top Y b (evE J Y b)).bind λy=>Cw op x y
 |.un op a=>(top Y a (evE J Y a)).bind λx=>Χ op x
 |.no a=>(top Y a (evE J Y a)).bind λx=>(Fx x).bind λb=>.ok (.bl (!b))
 |.and es=>o8 J Y es
 |.or es=>o9 J Y es
 |.cmp op a b=>(top Y a (evE J Y a)).bind λx=>(top Y b (evE J Y b)).bind λy=>BZ op x y
 |.cmp2 op op' a b c=>(top Y a (evE J Y a)).bind λx=>(top Y b (evE J Y b)).bind λy=>(BZ op x y).bind λz=>(Fx z).bind λk=>if k=Ab then (top Y c (evE J Y c)).bind λu=>BZ op' y u else .ok (.bl Ad)
 |.ite c a b=>(top Y c (evE J Y c)).bind λx=>(Ci x).bind λk=>if k=Ab then evE J Y a else evE J Y b
 |.call f as=>(vi J Y as).bind λxs=>(J.F f xs).bind λd=>if Kv Y as=Ab then .ok d else if Ky (J.fr f) d=Ab then .ok d else .bad
 |.bi b as=>(vi J Y as).bind λxs=>zm b xs
 |.isi a ks=>(top Y a (evE J Y a)).bind λx=>EV J.up ks x
 |.idx a i=>(top Y a (evE J Y a)).bind λx=>(top Y i (evE J Y i)).bind λy=>D4 x y
 |.sl a lo hi=>(top Y a (evE J Y a)).bind λx=>(top Y lo (evE J Y lo)).bind λl=>(slE lo l).bind λl'=>(top Y hi (evE J Y hi)).bind λh=>(slE hi h).bind λh'=>ú x l' h'
 |.H es=>(w5 J Y es).bind λxs=>.ok (.H xs)
 |.L es=>(w5 J Y es).bind λxs=>.ok (.L xs)
 |.comp elt t it c=>(vt J Y it).bind λxs=>(yu (Cu (λx=>(top (Y.set t (Aa (x,Ad))) c (evE J (Y.set t (Aa (x,Ad))) c)).bind Ci) (λx=>evE J (Y.set t (Aa (x,Ad))) elt) xs)).bind λys=>.ok (.L ys)
 |.compT elt ts it c=>(vt J Y it).bind λxs=>(yu (Cu (λx=>(IF ts x Y).bind λY'=>(top Y' c (evE J Y' c)).bind Ci) (λx=>(IF ts x Y).bind λY'=>evE J Y' elt) xs)).bind λys=>.ok (.L ys)
 |.tupI it=>(vt J Y it).bind λxs=>.ok (.H xs)
 |.dnew=>.ok (.dic [])
 |.fld o f=>(top Y o (evE J Y o)).bind λx=>Zk x f
 |.mkx c as=>(yu (w5 J Y as)).bind λxs=>(J.xn c xs).bind λx=>.ok (.exc x.c x.fs)
 |.ofl o f=>(top Y o (evE J Y o)).bind λx=>Ϲ x f
 |.iso a k=>(top Y a (evE J Y a)).bind λx=>Wk k x
 |.meth m ms o=>(top Y o (evE J Y o)).bind λx=>Lj J.F m ms x
 |.mkob c e=>(yu (evE J Y e)).bind λx=>ES c x
 |.mkn c as=>(yu (w5 J Y as)).bind λxs=>J.F (900+c) xs
def o8(J:J9)(Y:Rho):Es->R D
 |.nil=>.bad
 |.cons e .nil=>evE J Y e
 |.cons e (.cons e' es)=>(evE J Y e).bind λx=>(Fx x).bind λc=>if c=Ab then o8 J Y (.cons e' es) else .ok (.bl Ad)
def o9(J:J9)(Y:Rho):Es->R D
 |.nil=>.bad
 |.cons e .nil=>evE J Y e
 |.cons e (.cons e' es)=>(evE J Y e).bind λx=>(Fx x).bind λc=>if c=Ab then .ok (.bl Ab) else o9 J Y (.cons e' es)
def w5(J:J9)(Y:Rho):Es->R (Ac D)
 |.nil=>.ok []
 |.cons e es=>(evE J Y e).bind λx=>(w5 J Y es).bind λxs=>.ok (x::xs)
def vi(J:J9)(Y:Rho):Es->R (Ac D)
 |.nil=>.ok []
 |.cons e es=>(top Y e (evE J Y e)).bind λx=>(vi J Y es).bind λxs=>.ok (x::xs)
def vt(J:J9)(Y:Rho):I->R (Ac D)
 |.e a=>(evE J Y a).bind DD
 |.rng a=>(top Y a (evE J Y a)).bind λx=>(Gh x).bind λj=>Fp 0 j
 |.rng2 a b=>(top Y a (evE J Y a)).bind λx=>(top Y b (evE J Y b)).bind λy=>(Gh x).bind λi=>(Gh y).bind λj=>Fp i j
 |.zip a b=>(evE J Y a).bind λx=>(evE J Y b).bind λy=>(DD x).bind λxs=>(DD y).bind λys=>.ok (Rs xs ys)
 |.zip3 a b c=>(evE J Y a).bind λx=>(evE J Y b).bind λy=>(evE J Y c).bind λz=>OB x y z
 |.enm a=>(evE J Y a).bind λx=>(DD x).bind λxs=>.ok (IL 0 xs)
end
noncomputable def Ek(J:J9):E->Ao
 |.L _=>Ab
 |.comp _ _ _ _=>Ab
 |.compT _ _ _ _=>Ab
 |.dnew=>Ab
 |.B .Add _ _=>Ab
 |.bi .list _=>Ab
 |.bi .sorted _=>Ab
 |.sl _ _ _=>Ab
 |.call f _=>J.fr f
 |_=>Ad
mutual
inductive S where
 |pass
 |asg (i:Ag) (fresh:Ao) (e:E)
 |asgT (ts:Ac Ag) (e:E)
 |expr (e:E)
 |ret (e:E)|retN
 |ife (c:E) (a b:Ss)
 |fors (t:Ag) (it:I) (body:Ss)
 |forT (ts:Ac Ag) (it:I) (body:Ss)
 |forO (i:Ag) (ts:Ac Ag) (body:Ss)
 |whl (c:E) (body:Ss)
 |rais (c:Ag) (as:Es)
 |tryx (body:Ss) (c:Ag) (x:Ag) (h:Ss)
 |try2 (body:Ss) (c:Ag) (x:Ag) (h:Ss) (c':Ag) (h' els:Ss)
 |app (i:Ag) (e:E)|ext (i:Ag) (e:E)|ins (i:Ag) (k e:E)|rev (i:Ag)|clr (i:Ag)
 |dput (i:Ag) (k e:E)|dsd (i:Ag) (k e:E)
 |put (i:Ag) (k e:E)
 |swp (i k l:Ag)
 |apop (j i:Ag) (e:E)
 |brk|cont
 |rel (i:Ag)
inductive Ss where
 |nil|cons (s:S) (ss:Ss)
end
inductive O where
 |next (Y:Rho)|ret (d:D) (fr:Ao)|brk (Y:Rho)|cont (Y:Rho)|exn (x:Ex) (Y:Rho)|bad
 deriving Inhabited
noncomputable def O.of{α:Type}(Y:Rho)(r:R α)(f:α->O):O:=match r with
  |.ok a=>f a
  |.exn x=>.exn x Y
  |.bad=>.bad
@[simp]theorem O.of_ok(Y:Rho)(a:α)(f:α->O):O.of Y (.ok a) f=f a:=rfl
@[simp]theorem O.of_exn(Y:Rho)(x:Ex)(f:α->O):O.of Y (.exn x:R α) f=.exn x Y:=rfl
@[simp]theorem O.of_bad(Y:Rho)(f:α->O):O.of Y (.bad:R α) f=.bad:=rfl
def Lq(J:J9)(Y:Rho)(i:I):R (Ac D):=vt J Y i
noncomputable def FC(Y:Rho)(i:Ag):R (Ac D):=match Y[i]? with
  |some (Aa (.L xs,Ab))=>.ok xs
  |_=>.bad
noncomputable def WF(Y:Rho)(i:Ag):R (Ac (Ac Ai×D)):=match Y[i]? with
  |some (Aa (.dic xs,Ab))=>.ok xs
  |_=>.bad
def V4(d:D):R (Ac Ai):=match NE d with
  |some k=>.ok k
  |none=>.bad
noncomputable def bb:Ag:=4096
noncomputable def O.seq(o:O)(f:Rho->O):O:=match o with
  |.next Y=>f Y
  |.ret d b=>.ret d b
  |.brk Y=>.brk Y
  |.cont Y=>.cont Y
  |.exn x Y=>.exn x Y
  |.bad=>.bad
noncomputable def O.turn(o:O)(f:Rho->O):O:=match o with
  |.next Y=>f Y
  |.cont Y=>f Y
  |.brk Y=>.next Y
  |.ret d b=>.ret d b
  |.exn x Y=>.exn x Y
  |.bad=>.bad
noncomputable def El(body:D->Rho->O):Ac D->Rho->O
 |[],Y=>.next Y
 |x::xs,Y=>(body x Y).turn (El body xs)
def V9(c:Rho->R Ao)(body:Rho->O):Ag->Rho->O
 |0,_=>.bad
 |n+1,Y=>O.of Y (c Y) λb=>if b=Ab then (body Y).turn (V9 c body n) else .next Y
def VT(Y:Rho)(k:Ag):R Ai:=(GO Y k).bind Gh
def ZC(Y:Rho)(d:D)(i k l:Ag):O:=match d with
  |.H [x,y]=>O.of Y (FC Y i) λxs=>O.of Y (VT Y k) λa=>O.of Y (VT Y l) λb=>match pz xs.length a,pz xs.length b with
    |some m,Aa n=>.next (Y.set i (Aa (.L ((xs.set m x).set n y),Ab)))
    |_,_=>.bad
  |_=>.bad
def apD(Y:Rho)(j i:Ag)(ys xs:Ac D)(n:Ai):O:=match pz xs.length n with
  | some m=>(match xs[m]? with
    |some d=>if (j != i&&(Dd xs.length&&Dd (ys.length+1)))=Ab then .next ((Y.set i (Aa (.L (xs.eraseIdx m),Ab))).set j (Aa (.L (ys++[d]),Ab))) else .bad
    | none=>.bad)
  |none=>.bad
noncomputable def ji(i:Ag)(y:Ex)(Y':Rho)(fh:Rho->O):O:=match fh (Y'.set i (Aa (.exc y.c y.fs,Ad))) with
  |.next uy=>.next (uy.set i Ae)
  |.ret d f=>.ret d f
  |_=>.bad
noncomputable def Ww(Y:Rho)(i:Ag):D->O
 |.L xs=>.next (Y.set i (Aa (.L xs,Ad)))
 |_=>.bad
noncomputable def WD(Y:Rho)(i:Ag):Ao:=match Y[i]? with
  |some (Aa (.O,Ab))=>Ab
  |_=>Ad
def wW(i:Ag)(xs:Ac D):O->O
 |.next Y=>if WD Y i=Ab then .next (Y.set i (Aa (.L xs,Ab))) else .bad
 |.ret d fr=>.ret d fr
 |_=>.bad
mutual
def yk(J:J9)(Y:Rho):S->O
  |.pass=>.next Y
  | .asg i fresh e=>O.of Y (evE J Y e) λd=>if fresh=Ab then (if Ek J e=Ab then (match d with
      |.L xs=>.next (Y.set i (Aa (.L xs,Ab)))
      |.dic xs=>.next (Y.set i (Aa (.dic xs,Ab)))
      | _=>.bad) else .bad) else .next (Y.set i (Aa (d,Ad)))
  |.asgT ts e=>O.of Y (evE J Y e) λd=>O.of Y (MA ts d Y) λY'=>.next Y'
  |.expr e=>O.of Y (evE J Y e) λ_=>.next Y
  |.ret e=>O.of Y (top Y e (evE J Y e)) λd=>.ret d (Ek J e||(match e with | .v i=>(match Y[i]? with|some (Aa (_,o))=>o|_=>Ad)|_=>Ad))
  |.retN=>.ret .O Ad
  |.ife c a b=>O.of Y ((top Y c (evE J Y c)).bind Ci) λk=>if k=Ab then J6 J Y a else J6 J Y b
  |.fors t it body=>O.of Y (Lq J Y it) λxs=>El (λx Y'=>J6 J (Y'.set t (Aa (x,Ad))) body) xs Y
  |.forT ts it body=>O.of Y (Lq J Y it) λxs=>El (λx Y'=>O.of Y' (IF ts x Y') λuy=>J6 J uy body) xs Y
  |.forO i ts body=>O.of Y (FC Y i) λxs=>wW i xs (El (λx Y'=>if WD Y' i=Ab then O.of Y' (IF ts x Y') λuy=>J6 J uy body else .bad) (IL 0 xs) (Y.set i (Aa (.O,Ab))))
  |.whl c body=>V9 (λY'=>(top Y' c (evE J Y' c)).bind Ci) (λY'=>J6 J Y' body) bb Y
  |.rais c as=>O.of Y (yu (w5 J Y as)) λxs=>O.of Y (J.xn c xs) λx=>.exn x Y
  |.tryx body c x h=>match J6 J Y body with
      | .exn y Y'=>if (J.up y.c).contains c=Ab then (match J6 J (Y'.set x (Aa (.exc y.c y.fs,Ad))) h with
          |.next uy=>.next (uy.set x Ae)
          |.ret d f=>.ret d f
          | _=>.bad) else .bad
      |o=>o
  |.try2 body c x h c' h' els=>match J6 J Y body with
      |.exn y Y'=>if (J.up y.c).contains c=Ab then ji x y Y' (λr=>J6 J r h) else if (J.up y.c).contains c'=Ab then ji x y Y' (λr=>J6 J r h') else .bad
      |.next Y'=>J6 J Y' els
      |o=>o
  |.app i e=>O.of Y (FC Y i) λxs=>O.of Y (evE J Y e) λd=>if Dd (xs.length+1)=Ab then .next (Y.set i (Aa (.L (xs++[d]),Ab))) else .bad
  |.ext i e=>O.of Y (FC Y i) λxs=>O.of Y (evE J Y e) λd=>O.of Y (Rn d) λys=>if Dd (xs.length+ys.length)=Ab then .next (Y.set i (Aa (.L (xs++ys),Ab))) else .bad
  |.ins i k e=>O.of Y (FC Y i) λxs=>O.of Y ((top Y k (evE J Y k)).bind Gh) λj=>O.of Y (evE J Y e) λd=>if (Dd (xs.length+1)&&decide (0<=j)&&decide (j<=xs.length))=Ab then .next (Y.set i (Aa (.L (xs.take j.toNat++d::xs.drop j.toNat),Ab))) else .bad
  |.rev i=>O.of Y (FC Y i) λxs=>.next (Y.set i (Aa (.L xs.reverse,Ab)))
  |.clr i=>O.of Y (FC Y i) λ_=>.next (Y.set i (Aa (.L [],Ab)))
  |.dput i k e=>O.of Y (evE J Y e) λd=>O.of Y (WF Y i) λxs=>O.of Y ((evE J Y k).bind V4) λj=>if Dd (xs.length+1)=Ab then .next (Y.set i (Aa (.dic (Vj xs j d),Ab))) else .bad
  |.dsd i k e=>O.of Y (WF Y i) λxs=>O.of Y ((evE J Y k).bind V4) λj=>O.of Y (evE J Y e) λd=>if Dd (xs.length+1)=Ab then .next (Y.set i (Aa (.dic (if (xs.any λp=>p.1==j)=Ab then xs else Vj xs j d),Ab))) else .bad
  |.put i k e=>O.of Y (evE J Y e) λd=>O.of Y (FC Y i) λxs=>O.of Y ((top Y k (evE J Y k)).bind Gh) λj=>match pz xs.length j with
      |some n=>.next (Y.set i (Aa (.L (xs.set n d),Ab)))
      |none=>.bad
  |.swp i k l=>O.of Y (evE J Y (.H (.cons (.idx (.v i) (.v l)) (.cons (.idx (.v i) (.v k)) .nil)))) λd=>ZC Y d i k l
  |.apop j i e=>O.of Y (FC Y j) λys=>O.of Y (FC Y i) λxs=>O.of Y (evE J Y e) λd=>O.of Y (Gh d) λn=>apD Y j i ys xs n
  |.brk=>.brk Y
  |.cont=>.cont Y
  |.rel i=>match Y[i]? with
      |some (Aa (d,Ab))=>Ww Y i d
      |_=>.next Y
def J6(J:J9)(Y:Rho):Ss->O
 |.nil=>.next Y
 |.cons s ss=>(yk J Y s).seq λY'=>J6 J Y' ss
end
structure Df where
 n:Ag
 fr:Ao
 body:Ss
noncomputable def BX(n:Ag)(ds:Ac D):Rho:=ds.map (λd=>Aa (d,Ad))++Bs (n-ds.length) Ae
noncomputable def ka:D->Ao
 |.L _=>Ab
 |.dic _=>Ab
 |_=>Ad
def O.ans(fr:Ao)(o:O):R D:=match o with
  |.ret d b=>if (fr&&(!b&&ka d))=Ab then .bad else .ok d
  |.next _=>if fr=Ab then .bad else .ok .O
  |.exn x _=>.exn x
  |_=>.bad
def Df.run(J:J9)(f:Df)(ds:Ac D):R D:=(J6 J (BX f.n ds) f.body).ans f.fr
structure Prg where
 xs:Ao
 defs:Ag->Df
 G:Ag->D
 up:Ag->Ac Ag
 xn:Ag->Ac D->R Ex
def EX(xs:Ao)(r:R D):R D:=match xs with
  |true=>r
  |false=>yu r
def Y7(P:Prg):Ag->J9
 |0=>⟨λ_ _=>.bad,P.G,P.up,λi=>(P.defs i).fr,P.xn⟩
 |n+1=>⟨λi ds=>EX P.xs ((P.defs i).run (Y7 P n) ds),P.G,P.up,λi=>(P.defs i).fr,P.xn⟩
end Ov
namespace Ov
open PySem
section
variable(J:J9)(Y:Rho)
noncomputable instance:Insert E Es:=⟨.cons⟩
noncomputable instance:Singleton E Es:=⟨λe=>.cons e .nil⟩
noncomputable instance:Insert S Ss:=⟨.cons⟩
noncomputable instance:Singleton S Ss:=⟨λe=>.cons e .nil⟩
@[simp]theorem ZAH(a:E)(l:Es):(insert a l:Es)=.cons a l:=rfl
@[simp]theorem ZAn(a:E):({a}:Es)=.cons a .nil:=rfl
@[simp]theorem ZAG(a:S)(l:Ss):(insert a l:Ss)=.cons a l:=rfl
@[simp]theorem ZAm(a:S):({a}:Ss)=.cons a .nil:=rfl
@[simp]theorem Zx1:evE J Y .O=.ok .O:=rfl
@[simp]theorem Vh(b):evE J Y (.bl b)=.ok (.bl b):=rfl
@[simp]theorem mU(b):evE J Y (.int b)=.ok (.int b):=rfl
@[simp]theorem Ut(b):evE J Y (.str b)=.ok (.str b):=rfl
@[simp]theorem ZxY(i):evE J Y (.v i)=GO Y i:=rfl
@[simp]theorem ZuH(i):evE J Y (.glob i)=.ok (J.G i):=rfl
@[simp]theorem Zx5(op a b):evE J Y (.B op a b)=(top Y a (evE J Y a)).bind λx=>(top Y b (evE J Y b)).bind λy=>Cw op x y:=rfl
@[simp]theorem ZzS(op a):evE J Y (.un op a)=(top Y a (evE J Y a)).bind λx=>Χ op x:=rfl
@[simp]theorem ZzV(a):evE J Y (.no a)=(top Y a (evE J Y a)).bind λx=>(Fx x).bind λb=>.ok (.bl (!b)):=rfl
@[simp]theorem Zx6(es):evE J Y (.and es)=o8 J Y es:=rfl
@[simp]theorem ZzU(es):evE J Y (.or es)=o9 J Y es:=rfl
@[simp]theorem ZxU(e):o8 J Y (.cons e .nil)=evE J Y e:=rfl
@[simp]theorem Zuz(e e' es):o8 J Y (.cons e (.cons e' es))=(evE J Y e).bind λx=>(Fx x).bind λc=>if c=Ab then o8 J Y (.cons e' es) else .ok (.bl Ad):=rfl
@[simp]theorem ZxT(e):o9 J Y (.cons e .nil)=evE J Y e:=rfl
@[simp]theorem Zuy(e e' es):o9 J Y (.cons e (.cons e' es))=(evE J Y e).bind λx=>(Fx x).bind λc=>if c=Ab then .ok (.bl Ab) else o9 J Y (.cons e' es):=rfl
@[simp]theorem Uu(op a b):evE J Y (.cmp op a b)=(top Y a (evE J Y a)).bind λx=>(top Y b (evE J Y b)).bind λy=>BZ op x y:=rfl
@[simp]theorem ZuJ(op op' a b c):evE J Y (.cmp2 op op' a b c)=(top Y a (evE J Y a)).bind λx=>(top Y b (evE J Y b)).bind λy=>(BZ op x y).bind λz=>(Fx z).bind λk=>if k=Ab then (top Y c (evE J Y c)).bind λu=>BZ op' y u else .ok (.bl Ad):=rfl
@[simp]theorem ZuK(f as):evE J Y (.call f as)=(vi J Y as).bind λxs=>(J.F f xs).bind λd=>if Kv Y as=Ab then .ok d else if Ky (J.fr f) d=Ab then .ok d else .bad:=rfl
@[simp]theorem Mv(f as):evE J Y (.bi f as)=(vi J Y as).bind λxs=>zm f xs:=rfl
@[simp]theorem Zx4(a ks):evE J Y (.isi a ks)=(top Y a (evE J Y a)).bind λx=>EV J.up ks x:=rfl
@[simp]theorem mV(a i):evE J Y (.idx a i)=(top Y a (evE J Y a)).bind λx=>(top Y i (evE J Y i)).bind λy=>D4 x y:=rfl
@[simp]theorem ZzT(a lo hi):evE J Y (.sl a lo hi)=(top Y a (evE J Y a)).bind λx=>(top Y lo (evE J Y lo)).bind λl=>(slE lo l).bind λl'=>(top Y hi (evE J Y hi)).bind λh=>(slE hi h).bind λh'=>ú x l' h':=rfl
@[simp]theorem ZxZ(es):evE J Y (.H es)=(w5 J Y es).bind λxs=>.ok (.H xs):=rfl
@[simp]theorem mT(es):evE J Y (.L es)=(w5 J Y es).bind λxs=>.ok (.L xs):=rfl
def cG(J:J9)(Y:Rho)(t:Ag)(c:E):D->R Ao:=λx=>(top (Y.set t (Aa (x,Ad))) c (evE J (Y.set t (Aa (x,Ad))) c)).bind Ci
def cF(J:J9)(Y:Rho)(t:Ag)(elt:E):D->R D:=λx=>evE J (Y.set t (Aa (x,Ad))) elt
def mkL(r:R (Ac D)):R D:=(yu r).bind λys=>.ok (.L ys)
@[simp]theorem Zzu(ys):mkL (.ok ys)=.ok (.L ys):=rfl
@[simp]theorem ZuI(elt t it c):evE J Y (.comp elt t it c)=(vt J Y it).bind λxs=>mkL (Cu (cG J Y t c) (cF J Y t elt) xs):=rfl
def cGT(J:J9)(Y:Rho)(ts:Ac Ag)(c:E):D->R Ao:=λx=>(IF ts x Y).bind λY'=>(top Y' c (evE J Y' c)).bind Ci
def cFT(J:J9)(Y:Rho)(ts:Ac Ag)(elt:E):D->R D:=λx=>(IF ts x Y).bind λY'=>evE J Y' elt
@[simp]theorem Zs7(elt ts it c):evE J Y (.compT elt ts it c)=(vt J Y it).bind λxs=>mkL (Cu (cGT J Y ts c) (cFT J Y ts elt) xs):=rfl
@[simp]theorem ZuE(it):evE J Y (.tupI it)=(vt J Y it).bind λxs=>.ok (.H xs):=rfl
@[simp]theorem Zx0(o f):evE J Y (.ofl o f)=(top Y o (evE J Y o)).bind λx=>Ϲ x f:=rfl
@[simp]theorem Zx3(a k):evE J Y (.iso a k)=(top Y a (evE J Y a)).bind λx=>Wk k x:=rfl
@[simp]theorem ZuG(m ms o):evE J Y (.meth m ms o)=(top Y o (evE J Y o)).bind λx=>Lj J.F m ms x:=rfl
@[simp]theorem ZuF(c e):evE J Y (.mkob c e)=(yu (evE J Y e)).bind λx=>ES c x:=rfl
@[simp]theorem Zx2(c as):evE J Y (.mkn c as)=(yu (w5 J Y as)).bind λxs=>J.F (900+c) xs:=rfl
@[simp]theorem mX:w5 J Y .nil=.ok []:=rfl
@[simp]theorem Qb(e es):w5 J Y (.cons e es)=(evE J Y e).bind λx=>(w5 J Y es).bind λxs=>.ok (x::xs):=rfl
@[simp]theorem mW:vi J Y .nil=.ok []:=rfl
@[simp]theorem Qa(e es):vi J Y (.cons e es)=(top Y e (evE J Y e)).bind λx=>(vi J Y es).bind λxs=>.ok (x::xs):=rfl
@[simp]theorem ZAQ(a):vt J Y (.e a)=(evE J Y a).bind DD:=rfl
@[simp]theorem ZxW(a):vt J Y (.rng a)=(top Y a (evE J Y a)).bind λx=>(Gh x).bind λj=>Fp 0 j:=rfl
@[simp]theorem ZuD(a b):vt J Y (.rng2 a b)=(top Y a (evE J Y a)).bind λx=>(top Y b (evE J Y b)).bind λy=>(Gh x).bind λi=>(Gh y).bind λj=>Fp i j:=rfl
@[simp]theorem ZxV(a b):vt J Y (.zip a b)=(evE J Y a).bind λx=>(evE J Y b).bind λy=>(DD x).bind λxs=>(DD y).bind λys=>.ok (Rs xs ys):=rfl
@[simp]theorem ZuC(a b c):vt J Y (.zip3 a b c)=(evE J Y a).bind λx=>(evE J Y b).bind λy=>(evE J Y c).bind λz=>OB x y z:=rfl
@[simp]theorem ZxX(a):vt J Y (.enm a)=(evE J Y a).bind λx=>(DD x).bind λxs=>.ok (IL 0 xs):=rfl
@[simp]theorem ZuB(a):Lq J Y (.enm a)=vt J Y (.enm a):=rfl
@[simp]theorem ZzR(a):Lq J Y (.e a)=(evE J Y a).bind DD:=rfl
@[simp]theorem ZuA(a):Lq J Y (.rng a)=vt J Y (.rng a):=rfl
@[simp]theorem Zs6(a b):Lq J Y (.rng2 a b)=vt J Y (.rng2 a b):=rfl
variable(r:R D)
@[simp]theorem Qv(i):top Y (.v i) r=EC Y i:=rfl
@[simp]theorem Zvh:top Y .O r=r:=rfl
@[simp]theorem Vf(b):top Y (.bl b) r=r:=rfl
@[simp]theorem jE(b):top Y (.int b) r=r:=rfl
@[simp]theorem TN(b):top Y (.str b) r=r:=rfl
@[simp]theorem Zt3(b):top Y (.glob b) r=r:=rfl
@[simp]theorem Zvn(op a b):top Y (.B op a b) r=r:=rfl
@[simp]theorem Zy3(op a):top Y (.un op a) r=r:=rfl
@[simp]theorem Zy6(a):top Y (.no a) r=r:=rfl
@[simp]theorem Zvo(a):top Y (.and a) r=r:=rfl
@[simp]theorem Zy5(a):top Y (.or a) r=r:=rfl
@[simp]theorem jF(op a b):top Y (.cmp op a b) r=r:=rfl
@[simp]theorem Zt5(a b):top Y (.call a b) r=r:=rfl
@[simp]theorem Vg(a b):top Y (.bi a b) r=r:=rfl
@[simp]theorem Zvl(a b):top Y (.isi a b) r=r:=rfl
@[simp]theorem Zvm(a b):top Y (.idx a b) r=r:=rfl
@[simp]theorem Zy4(a b c):top Y (.sl a b c) r=r:=rfl
@[simp]theorem Zvf(a):top Y (.H a) r=r:=rfl
@[simp]theorem Zvj(a):top Y (.L a) r=r:=rfl
@[simp]theorem Zt4(a b c d):top Y (.comp a b c d) r=r:=rfl
@[simp]theorem Zvg(a b):top Y (.ofl a b) r=r:=rfl
@[simp]theorem Zvk(a b):top Y (.iso a b) r=r:=rfl
@[simp]theorem Zt2(a b c):top Y (.meth a b c) r=r:=rfl
@[simp]theorem Zt1(a b):top Y (.mkob a b) r=r:=rfl
@[simp]theorem Zvi(a b):top Y (.mkn a b) r=r:=rfl
@[simp]theorem ZqE(a b c d):top Y (.compT a b c d) r=r:=rfl
@[simp]theorem Zt0(a):top Y (.tupI a) r=r:=rfl
end
@[simp]theorem Zqq(d:D)(Y:Rho):EC (Aa (d,Ad)::Y) 0=.ok d:=rfl
@[simp]theorem ZpY(xs:Ac D)(Y:Rho):EC (Aa (.L xs,Ab)::Y) 0=.ok (.L xs):=rfl
@[simp]theorem Zqr(x:D)(Y:Rho):GO (Aa (x,Ad)::Y) 0=.ok x:=rfl
@[simp]theorem ZpZ(x:Sl)(Y:Rho)(i:Ag)[NeZero i]:EC (x::Y) i=EC Y (i-1):=by
 obtain⟨j,rfl⟩:∃ j,i=j+1:=⟨i-1,by have:=MV i;omega⟩
 rfl
@[simp]theorem Zp0(x:Sl)(Y:Rho)(i:Ag)[NeZero i]:GO (x::Y) i=GO Y (i-1):=by
 obtain⟨j,rfl⟩:∃ j,i=j+1:=⟨i-1,by have:=MV i;omega⟩
 rfl
noncomputable def mq(Y:Rho)(i:Ag):Ao:=match Y[i]? with
    |some (Aa (_,Ab))=>Ad
    |_=>Ab
@[simp]theorem Zub(x:D)(b:Ao)(Y:Rho):mq (Aa (x,b)::Y) 0=!b:=by cases b<;>rfl
@[simp]theorem ZqZ(x:Sl)(Y:Rho)(i:Ag)[NeZero i]:mq (x::Y) i=mq Y (i-1):=by
 obtain⟨j,rfl⟩:∃ j,i=j+1:=⟨i-1,by have:=MV i;omega⟩
 rfl
section
variable(Y:Rho)
@[simp]theorem ZvH(i):v9 Y (.v i)=mq Y i:=rfl
@[simp]theorem ZvL(b):v9 Y (.int b)=Ab:=rfl
@[simp]theorem ZvN(op a b):v9 Y (.B op a b)=Ab:=rfl
@[simp]theorem Zuf(a b):v9 Y (.call a b)=Ab:=rfl
@[simp]theorem Zza(a b):v9 Y (.bi a b)=Ab:=rfl
@[simp]theorem ZvM(a b):v9 Y (.idx a b)=Ab:=rfl
@[simp]theorem Zy9(a b c):v9 Y (.sl a b c)=Ab:=rfl
@[simp]theorem ZvI(a):v9 Y (.H a)=Ab:=rfl
@[simp]theorem ZvK(a):v9 Y (.L a)=Ab:=rfl
@[simp]theorem Zue(a b c d):v9 Y (.comp a b c d)=Ab:=rfl
@[simp]theorem Zq0(a b c d):v9 Y (.compT a b c d)=Ab:=rfl
@[simp]theorem ZvJ(a b):v9 Y (.ofl a b)=Ab:=rfl
@[simp]theorem Zud(a b c):v9 Y (.meth a b c)=Ab:=rfl
@[simp]theorem Zuc:Kv Y .nil=Ab:=rfl
@[simp]theorem dL(e es):Kv Y (.cons e es)=(v9 Y e&&Kv Y es):=rfl
end
@[simp]theorem Zp4(Y:Rho):HY [] [] Y=Aa Y:=rfl
@[simp]theorem Znj(t ts d ds)(Y:Rho):HY (t::ts) (d::ds) Y=HY ts ds (Y.set t (Aa (d,Ad))):=rfl
@[simp]theorem eA(ts ds)(Y:Rho):MA ts (.L ds) Y=match HY ts ds Y with
  |some Y'=>.ok Y'
  |none=>.bad:=rfl
@[simp]theorem bR(ts ds)(Y:Rho):IF ts (.H ds) Y=match HY ts ds Y with
  |some Y'=>.ok Y'
  |none=>.bad:=rfl
@[simp]theorem ZuU(c:Prop)[Ij c](a b:R α)(f:α->R β):(if c then a else b).bind f=if c then a.bind f else b.bind f:=by split<;>rfl
@[simp]theorem Zzn(Y:Rho)(c:Prop)[Ij c](a b:R α)(f:α->O):O.of Y (if c then a else b) f=if c then O.of Y a f else O.of Y b f:=by split<;>rfl
@[simp]theorem ZwY(Y:Rho)(a:R α)(g:α->R β)(f:β->O):O.of Y (a.bind g) f=O.of Y a λx=>O.of Y (g x) f:=by cases a<;>rfl
@[simp]theorem ZyO(fr:Ao)(c:Prop)[Ij c](a b:O):O.ans fr (if c then a else b)=if c then a.ans fr else b.ans fr:=by split<;>rfl
@[simp]theorem ZqA(Y f):O.turn (.next Y) f=f Y:=rfl
@[simp]theorem ZuW(Y):O.ans Ad (.next Y)=.ok .O:=rfl
@[simp]theorem ZyN(d b):O.ans Ad (.ret d b)=.ok d:=rfl
@[simp]theorem ZuV(d b):O.ans Ab (.ret d b)=if (!b&&ka d)=Ab then .bad else .ok d:=rfl
@[simp]theorem Zxv(d):ka (.L d)=Ab:=rfl
@[simp]theorem ZyP(fr x Y):O.ans fr (.exn x Y)=.exn x:=rfl
@[simp]theorem ZyQ(fr):O.ans fr .bad=.bad:=rfl
@[simp]theorem Zz1(i j:Ai):Cw .Add (.int i) (.int j)=.ok (.int (i+j)):=rfl
@[simp]theorem Zy7(i j:Ai):Cw .Sub (.int i) (.int j)=.ok (.int (i-j)):=rfl
@[simp]theorem uW(i j:Ai):Cw .Mult (.int i) (.int j)=if (FX i j||OR i j)=Ab then .ok (.int (i*j)) else .bad:=rfl
@[simp]theorem mP(i j:Ai):Cw .FloorDiv (.int i) (.int j)=if 0<j/\j<1073741824 then .ok (.int (i/j)) else .bad:=rfl
@[simp]theorem uY(i j:Ai):Cw .Mod (.int i) (.int j)=if 0<j then .ok (.int (i%j)) else .bad:=rfl
@[simp]theorem sP(i j:Ai):Cw .Pow (.int i) (.int j)=if (0<=j/\j<=1000000)/\(-(18446744073709551616:Ai)<i/\i<18446744073709551616) then .ok (.int (i ^ j.toNat)) else .bad:=rfl
@[simp]theorem JD(x y:Ah):Cw .Add (.str x) (.str y)=if Dd (x.length+y.length)=Ab then .ok (.str (x++y)) else .bad:=rfl
@[simp]theorem Vp(x y:Ac D):Cw .Add (.L x) (.L y)=if Dd (x.length+y.length)=Ab then .ok (.L (x++y)) else .bad:=rfl
@[simp]theorem Vo(x y:Ac D):Cw .Add (.H x) (.H y)=if (!x.isEmpty&&Dd (x.length+y.length))=Ab then .ok (.H (x++y)) else .bad:=rfl
@[simp]theorem ZAy(i:Ai):Χ .USub (.int i)=.ok (.int (-i)):=rfl
@[simp]theorem ax(x y:D):BZ .Eq x y=if (J8 5 x&&J8 5 y)=Ab then .ok (.bl (J0 x y)) else .bad:=rfl
@[simp]theorem bj(x y:D):BZ .NotEq x y=if (J8 5 x&&J8 5 y)=Ab then .ok (.bl (!J0 x y)) else .bad:=rfl
@[simp]theorem ZAA(i j:Ai):BZ .Lt (.int i) (.int j)=.ok (.bl (decide (i<j))):=rfl
@[simp]theorem ZAD(i j:Ai):BZ .LtE (.int i) (.int j)=.ok (.bl (decide (i<=j))):=rfl
@[simp]theorem ZAL(i j:Ai):BZ .Gt (.int i) (.int j)=.ok (.bl (decide (j<i))):=rfl
@[simp]theorem ZAM(i j:Ai):BZ .GtE (.int i) (.int j)=.ok (.bl (decide (j<=i))):=rfl
@[simp]theorem RB(x:D)(ys:Ac D):BZ .In x (.L ys)=if (J8 5 x&&ys.all (J8 5))=Ab then .ok (.bl (ys.any λy=>J0 y x)) else .bad:=rfl
@[simp]theorem Zf(x:D)(ys:Ac D):BZ .In x (.H ys)=if (J8 5 x&&ys.all (J8 5))=Ab then .ok (.bl (ys.any λy=>J0 y x)) else .bad:=rfl
@[simp]theorem yP(x:D)(ys:Ac D):BZ .NotIn x (.L ys)=if (J8 5 x&&ys.all (J8 5))=Ab then .ok (.bl (!ys.any λy=>J0 y x)) else .bad:=rfl
@[simp]theorem yO(x:D)(ys:Ac D):BZ .NotIn x (.H ys)=if (J8 5 x&&ys.all (J8 5))=Ab then .ok (.bl (!ys.any λy=>J0 y x)) else .bad:=rfl
@[simp]theorem ZzD:BZ .Is .O .O=.ok (.bl Ab):=rfl
@[simp]theorem ZzC(i):BZ .Is (.H i) .O=.ok (.bl Ad):=rfl
@[simp]theorem Zxo:BZ .IsNot .O .O=.ok (.bl Ad):=rfl
@[simp]theorem Zxn(i):BZ .IsNot (.H i) .O=.ok (.bl Ab):=rfl
@[simp]theorem Zyc(i j:Ai):J0 (.int i) (.int j)=(i==j):=rfl
@[simp]theorem ZzX(i j:Ao):J0 (.bl i) (.bl j)=(i==j):=rfl
@[simp]theorem Zx9(i j:Ah):J0 (.str i) (.str j)=(i==j):=rfl
@[simp]theorem Zx8(i j:Ac D):J0 (.H i) (.H j)=zw i j:=rfl
@[simp]theorem Zyb(i j:Ac D):J0 (.L i) (.L j)=zw i j:=rfl
@[simp]theorem Zya:J0 .O .O=Ab:=rfl
@[simp]theorem ZoU(i):J0 (.int i) .O=Ad:=rfl
@[simp]theorem ZuL:zw [] []=Ab:=rfl
@[simp]theorem PX(x y:D)(xs ys:Ac D):zw (x::xs) (y::ys)=(J0 x y&&zw xs ys):=rfl
@[simp]theorem ZxN(n)(i:Ai):J8 n (.int i)=Ab:=by cases n<;>rfl
@[simp]theorem ZzP(n)(i:Ao):J8 n (.bl i)=Ab:=by cases n<;>rfl
@[simp]theorem ZxL(n)(i:Ah):J8 n (.str i)=Ab:=by cases n<;>rfl
@[simp]theorem ZxM(n):J8 n .O=Ab:=by cases n<;>rfl
@[simp]theorem Zup(i):J8 5 (.H i)=i.all (J8 4):=rfl
@[simp]theorem Zur(i):J8 5 (.L i)=i.all (J8 4):=rfl
@[simp]theorem Zuq(i):J8 4 (.H i)=i.all (J8 3):=rfl
@[simp]theorem Zvc(b):Ci (.bl b)=.ok b:=rfl
@[simp]theorem Zvd(b):FA (.bl b)=.ok b:=rfl
@[simp]theorem ZtQ:Hy []=.ok Ab:=rfl
@[simp]theorem Sr(x r):Hy (x::r)=(FA x).bind λb=>(Hy r).bind λc=>.ok (b&&c):=rfl
@[simp]theorem Sq(x r):II (x::r)=(FA x).bind λb=>(II r).bind λc=>.ok (b||c):=rfl
@[simp]theorem Zw6(a:α):yu (.ok a)=.ok a:=rfl
@[simp]theorem ZyM(b):Fx (.bl b)=.ok b:=rfl
@[simp]theorem ZtP(b):Gh (.int b)=.ok b:=rfl
@[simp]theorem eB(b):Rn (.L b)=.ok b:=rfl
@[simp]theorem ZtN(b):DD (.L b)=.ok b:=rfl
@[simp]theorem ZtM(b):DD (.H b)=.ok b:=rfl
@[simp]theorem az(xs i):D4 (.L xs) (.int i)=Ee xs i:=rfl
@[simp]theorem ay(xs i):D4 (.H xs) (.int i)=Ee xs i:=rfl
@[simp]theorem ZAC(xs):zm .len [.L xs]=.ok (.int xs.length):=rfl
@[simp]theorem ZAB(xs):zm .len [.H xs]=.ok (.int xs.length):=rfl
@[simp]theorem Zzw(i j):zm .max [.int i,.int j]=.ok (.int (if i<j then j else i)):=rfl
@[simp]theorem Zzv(i j):zm .min [.int i,.int j]=.ok (.int (if j<i then j else i)):=rfl
@[simp]theorem Zzy(i):zm .list [.L i]=.ok (.L i):=rfl
@[simp]theorem Zzx(i):zm .list [.H i]=.ok (.L i):=rfl
@[simp]theorem Zvb(i):zm .tuple [.L i]=.ok (.H i):=rfl
@[simp]theorem dn(i):zm .all [.L i]=(Hy i).bind λb=>.ok (.bl b):=rfl
@[simp]theorem ZA4(i):zm .any [.L i]=(II i).bind λb=>.ok (.bl b):=rfl
@[simp]theorem ZAj(i):zm .sum [.L i]=(O0 0 i).bind λb=>.ok (.int b):=rfl
@[simp]theorem Zua(i):zm .sorted [.L i]=(Uh i).bind λb=>.ok (.L b):=rfl
@[simp]theorem ZF(xs lo hi):ú (.H xs) lo hi=if (JQ xs.length 0 lo==0&&JQ xs.length xs.length hi==xs.length)=Ab then .bad else .ok (.H (Kx xs lo hi)):=rfl
@[simp]theorem ZBe(xs lo hi):ú (.L xs) lo hi=.ok (.L (Kx xs lo hi)):=rfl
@[simp]theorem ZvF(d):slE .O d=.ok Ae:=rfl
@[simp]theorem ZvG(k i):slE (.int k) (.int i)=.ok (Aa i):=rfl
@[simp]theorem Zxr(up ks):EV up ks .O=if ks.any Go=Ab then .bad else .ok (.bl (ks.any λk=>w9 up k .O)):=rfl
@[simp]theorem ZzB(up ks b):EV up ks (.bl b)=if ks.any Go=Ab then .bad else .ok (.bl (ks.any λk=>w9 up k (.bl b))):=rfl
@[simp]theorem Zxt(up ks b):EV up ks (.int b)=if ks.any Go=Ab then .bad else .ok (.bl (ks.any λk=>w9 up k (.int b))):=rfl
@[simp]theorem Zxq(up ks b):EV up ks (.str b)=if ks.any Go=Ab then .bad else .ok (.bl (ks.any λk=>w9 up k (.str b))):=rfl
@[simp]theorem Zxp(up ks b):EV up ks (.H b)=if ks.any Go=Ab then .bad else .ok (.bl (ks.any λk=>w9 up k (.H b))):=rfl
@[simp]theorem Zxs(up ks b):EV up ks (.L b)=if ks.any Go=Ab then .bad else .ok (.bl (ks.any λk=>w9 up k (.L b))):=rfl
@[simp]theorem Zxu(up ks c f):EV up ks (.exc c f)=if ks.all Go=Ab then .ok (.bl (ks.any λk=>w9 up k (.exc c f))) else .bad:=rfl
@[simp]theorem ZuS:Go .int=Ad:=rfl
@[simp]theorem Ztn:Go .bool=Ad:=rfl
@[simp]theorem ZuR:Go .str=Ad:=rfl
@[simp]theorem Ztm:Go .list=Ad:=rfl
@[simp]theorem Zqb:Go .tuple=Ad:=rfl
@[simp]theorem Zp8(up i):w9 up .int (.int i)=Ab:=rfl
@[simp]theorem Zp7(up):w9 up .int .O=Ad:=rfl
@[simp]theorem Zor(up i):w9 up .bool (.int i)=Ad:=rfl
@[simp]theorem Zp6(up i):w9 up .int (.H i)=Ad:=rfl
@[simp]theorem Zp9(up i):w9 up .bool (.bl i)=Ab:=rfl
@[simp]theorem Zoq(up):w9 up .bool .O=Ad:=rfl
@[simp]theorem Zop(up i):w9 up .list (.L i)=Ab:=rfl
@[simp]theorem ZlZ(up i):w9 up .tuple (.H i)=Ab:=rfl
@[simp]theorem Zl0(up):w9 up .tuple .O=Ad:=rfl
theorem Tu(h0:0<=i)(h:xs[i.toNat]?=Aa d):Ee xs i=.ok d:=by
 unfold Ee pz;obtain⟨h1,_⟩:=A8.mp h;rw[Au h0,Au (by omega)]
 dsimp only;rw[h]
section
variable(J:J9)(Y:Rho)
@[simp]theorem Zus:J6 J Y .nil=.next Y:=rfl
def Ig(J:J9)(ss:Ss)(o:O):O:=o.seq λY'=>J6 J Y' ss
@[simp]theorem eL(s ss):J6 J Y (.cons s ss)=Ig J ss (yk J Y s):=rfl
@[simp]theorem ZxH(ss):Ig J ss (.next Y)=J6 J Y ss:=rfl
@[simp]theorem ZzH(ss d b):Ig J ss (.ret d b)=.ret d b:=rfl
@[simp]theorem ZzK(ss x):Ig J ss (.exn x Y)=.exn x Y:=rfl
@[simp]theorem ZzL(ss):Ig J ss .bad=.bad:=rfl
@[simp]theorem ZzJ(ss)(c:Prop)[Ij c](a b:O):Ig J ss (if c then a else b)=if c then Ig J ss a else Ig J ss b:=by split<;>rfl
@[simp]theorem ZzI(o:O):Ig J .nil o=o:=by cases o<;>rfl
def Ff(J:J9)(t:Ag)(body:Ss):D->Rho->O:=λx Y'=>J6 J (Y'.set t (Aa (x,Ad))) body
def Wp(J:J9)(t:Ag)(body:Ss)(Y:Rho)(r:R (Ac D)):O:=O.of Y r λxs=>El (Ff J t body) xs Y
@[simp]theorem ZxJ(t body xs):Wp J t body Y (.ok xs)=El (Ff J t body) xs Y:=rfl
@[simp]theorem ZxR(i e):yk J Y (.asg i Ad e)=O.of Y (evE J Y e) λd=>.next (Y.set i (Aa (d,Ad))):=rfl
@[simp]theorem Zuw(e):yk J Y (.expr e)=O.of Y (evE J Y e) λ_=>.next Y:=rfl
@[simp]theorem Zzq(es):Ek J (.L es)=Ab:=rfl
@[simp]theorem Zw4(a b c e):Ek J (.comp a b c e)=Ab:=rfl
@[simp]theorem Zw5(f es):Ek J (.call f es)=J.fr f:=rfl
@[simp]theorem Zzo(i):Ek J (.v i)=Ad:=rfl
@[simp]theorem Zzp(es):Ek J (.H es)=Ad:=rfl
@[simp]theorem ZAx(b):Ek J (.bl b)=Ad:=rfl
@[simp]theorem Zzs(es):Ek J (.bi .list es)=Ab:=rfl
@[simp]theorem Zzr(es):Ek J (.bi .tuple es)=Ad:=rfl
@[simp]theorem Us(e):yk J Y (.ret e)=O.of Y (top Y e (evE J Y e)) λd=>.ret d (Ek J e||(match e with | .v i=>(match Y[i]? with|some (Aa (_,o))=>o|_=>Ad)|_=>Ad)):=rfl
@[simp]theorem ZxQ(c a b):yk J Y (.ife c a b)=O.of Y ((top Y c (evE J Y c)).bind Ci) λk=>if k=Ab then J6 J Y a else J6 J Y b:=rfl
@[simp]theorem Zuu(t it body):yk J Y (.fors t it body)=Wp J t body Y (Lq J Y it):=rfl
def VW(J:J9)(ts:Ac Ag)(body:Ss):D->Rho->O:=λx Y'=>O.of Y' (IF ts x Y') λuy=>J6 J uy body
def VV(J:J9)(ts:Ac Ag)(body:Ss)(Y:Rho)(r:R (Ac D)):O:=O.of Y r λxs=>El (VW J ts body) xs Y
@[simp]theorem Zuo(t body xs):VV J t body Y (.ok xs)=El (VW J t body) xs Y:=rfl
@[simp]theorem Zuv(t it body):yk J Y (.forT t it body)=VV J t body Y (Lq J Y it):=rfl
@[simp]theorem Zux(ts e):yk J Y (.asgT ts e)=O.of Y (evE J Y e) λd=>O.of Y (MA ts d Y) λY'=>.next Y':=rfl
noncomputable def setF(Y:Rho)(i:Ag):D->O
 |.L xs=>.next (Y.set i (Aa (.L xs,Ab)))
 |.dic xs=>.next (Y.set i (Aa (.dic xs,Ab)))
 |_=>.bad
@[simp]theorem Zzb(i xs):setF Y i (.L xs)=.next (Y.set i (Aa (.L xs,Ab))):=rfl
@[simp]theorem ZxS(i e):yk J Y (.app i e)=O.of Y (FC Y i) λxs=>O.of Y (evE J Y e) λd=>if Dd (xs.length+1)=Ab then .next (Y.set i (Aa (.L (xs++[d]),Ab))) else .bad:=rfl
@[simp]theorem Zuh(Y:Rho)(i)(xs):Ww Y i (.L xs)=.next (Y.set i (Aa (.L xs,Ad))):=rfl
@[simp]theorem Zut(body c x h):yk J Y (.tryx body c x h)=match J6 J Y body with
      | .exn y Y'=>if (J.up y.c).contains c=Ab then (match J6 J (Y'.set x (Aa (.exc y.c y.fs,Ad))) h with
          |.next uy=>.next (uy.set x Ae)
          |.ret d f=>.ret d f
          | _=>.bad) else .bad
      |o=>o:=rfl
@[simp]theorem P9(c as):yk J Y (.rais c as)=O.of Y (yu (w5 J Y as)) λxs=>O.of Y (J.xn c xs) λx=>.exn x Y:=rfl
end
end Ov
namespace Ov
open PySem
theorem dO(h1:0<=lo)(h2:lo<1000000)(h3:0<=hi)(h4:hi<1000000):Fp lo hi=.ok (Jl lo (hi-lo).toNat):=by
 unfold Fp;rw[Au (by omega)]
theorem dP(h3:0<=hi)(h4:hi<1000000):Fp 0 hi=.ok (Jl 0 hi.toNat):=by
 rw[dO (by omega) (by omega) h3 h4,KO]
theorem PJ(lo:Ai)(n:Ag):(Jl lo n).length=n:=by simp[Jl]
theorem gA(h:(Jl lo n)[i]?=Aa x):i<n/\x=.int (lo+(i:Ai)):=by
 have hl:=(A8.mp h).1;rw[PJ]at hl;unfold Jl at h;rw[Ef,List.getElem?_range hl]at h;cases h;exact⟨hl,rfl⟩
noncomputable def Ss.take:Ag->Ss->Ss
 |0,_=>.nil
 |_,.nil=>.nil
 |n+1,.cons s ss=>.cons s (ss.take n)
noncomputable def Ss.drop:Ag->Ss->Ss
 |0,ss=>ss
 |_,.nil=>.nil
 |n+1,.cons _ ss=>ss.drop n
theorem Tx(J:J9):∀(n:Ag)(ss:Ss)(Y:Rho),J6 J Y ss=Ig J (ss.drop n) (J6 J Y (ss.take n))
 |0,_,_=>rfl
 |_+1,.nil,_=>rfl
 |n+1,.cons s ss,Y=>by
  show (yk J Y s).seq (λY'=>J6 J Y' ss)=Ig J (ss.drop n) ((yk J Y s).seq λY'=>J6 J Y' (ss.take n))
  cases yk J Y s with
  |next Y'=>exact Tx J n ss Y'
  |_=>rfl
noncomputable def tj(c:Ag):Df:=⟨2,Ad,.cons (.ret (.mkob c (.call 910 (.cons (.v 0) (.cons (.v 1) .nil))))) .nil⟩
def j8:Df:=⟨2,Ad,.cons (.ret (.H {.v 0,.call 17 {.v 0,.v 1}})) .nil⟩
end Ov
namespace Ov
noncomputable def wc:Ag->D->Ao
 |0,.int i=>decide (0<=i)&&decide (i<100)
 |n+1,.H ds=>Cs ds.length 8&&ds.all (wc n)
 |_,_=>Ad
def ϲ(c:Ag)(f:PySem.Str):Ac D->R Ex
 |[d]=>if (wc 1 d||wc 2 d)=Ab then .ok ⟨c,[(f,d)]⟩ else .bad
 |_=>.bad
end Ov
namespace OvC
open PySem Ov PyProof.Rows
noncomputable abbrev zx(ns:Ac Ai):D:=.L (ns.map .int)
noncomputable abbrev sh(d:D):Sl:=Aa (d,Ad)
noncomputable abbrev si(i:Ai):Sl:=Aa (.int i,Ad)
theorem ώ{j:Ai}{P:Ag->Prop}(h0:P 0)(h1:P 1)(h2:P 2)(h3:P 3):P (j%4).toNat:=by
 have:(j%4).toNat=0\/(j%4).toNat=1\/(j%4).toNat=2\/(j%4).toNat=3:=by omega
 rcases this with e|e|e|e<;>rw[e]<;>assumption
def P4(p:Ai):Prop:=p=3\/p=5\/p=7\/p=11
noncomputable def pr4(j:Ai):Ai:=[3,5,7,11].getD (j%4).toNat 0
theorem sO(j):P4 (pr4 j):=by
 unfold pr4;exact ώ (P:=λj=>P4 ([3,5,7,11].getD j 0)) (.inl rfl) (.inr (.inl rfl)) (.inr (.inr (.inl rfl))) (.inr (.inr (.inr rfl)))
theorem P4.pos(h:P4 p):0<p:=by rcases h with rfl|rfl|rfl|rfl<;>decide
theorem P4.lo(h:P4 p):3<=p:=by rcases h with rfl|rfl|rfl|rfl<;>decide
theorem P4.hi(h:P4 p):p<=11:=by rcases h with rfl|rfl|rfl|rfl<;>decide
theorem eZ(j:Ai):Ee [.int 3,.int 5,.int 7,.int 11] (j%4)=.ok (.int (pr4 j)):=by
 have h:=ώ (P:=λj=>[D.int 3,D.int 5,D.int 7,D.int 11][j]?=Aa (D.int ([3,5,7,11].getD j 0))) (j:=j) rfl rfl rfl rfl
 exact Tu (by omega) h
theorem Ni(h0:-18446744073709551616<i)(h1:i<18446744073709551616):FX i j=Ab:=by simp[FX];left;exact⟨h0,h1⟩
theorem Oe(h0:-18446744073709551616<j)(h1:j<18446744073709551616):FX i j=Ab:=by simp[FX];right;exact⟨h0,h1⟩
def QX:Df:=⟨2,Ad,{.ret (.B .Mod (.v 1) (.v 0))}⟩
def Og(J:J9):Prop:=∀ p n:Ai,0<p->J.F 1 [.int p,.int n]=.ok (.int (n%p))
theorem rY(J:J9)(p n:Ai)(h:0<p):QX.run J [.int p,.int n]=.ok (.int (n%p)):=by simp[QX,Df.run,BX,h]
end OvC
namespace Ov
open PySem PySem.Spec PyProof.Rows L2
variable{K:Fg}{x:Ah}{A:Ak->Prop}{H:Hp}{a b q:Ak}{xs vs:Ac V}{v:V}{d:D}{r:R D}{e c iter elt:Aq}{i n j k:Ag}{U:L2.St}{pI:Pn}{s:An}{its zk:Ac Aj}{ys us:A3 Aj}{h h' h2:AC}{es ifs:Ac Aq}{fs:Rho->R (Ac D)}{p pos:AH}{α:Type}{as:D->Rho->R Rho}{w:AD}{o:CD}{ts:Ac Ag}
noncomputable def LX:Ag->Ah
 |0 => "Triple"
 |1 => "Point"
 |2 => "Line"
 |_ => ""
def OC(K:Fg)(c:Ag):Am Ak:=if c<3 then (match A1 K AJ (LX c) with
  |some (Aa (.ref C))=>Aa C
  | _=>Ae) else Ae
noncomputable def Gk:Ac (Ah×Ag×Ah):=[("0.told",0, "told"),("1.told",1, "told"),("2.told",2, "told"),("0.shown",0, "shown"),("1.shown",1, "shown"),("2.shown",2, "shown")]
def JL(K:Fg)(mg:Ah->Am Aj)(x:Ah):Am Aj:=match Gk.lookup x with
  |some (c,m)=>(OC K c).bind λC=>(Ap K (.ref C) m).join
  |none=>mg x
theorem Tp{v:Am Aj}(h:JL K mg x=v)(e:Gk.lookup x=Ae):mg x=v:=by
 unfold JL at h
 rwa [e]at h
theorem Tn{c:Ag}{v:Aj}(h:JL K mg x=Aa v)(e:Gk.lookup x=Aa (c,m))(hC:OC K c=Aa C):Ap K (.ref C) m=Aa (Aa v):=by
 unfold JL at h;rw[e]at h;dsimp only at h;rw[hC]at h;have h':(Ap K (.ref C) m).join=Aa v:=h;cases q:Ap K (.ref C) m with
 |none=>rw[q]at h';cases h'
 |some u=>rw[q]at h';have:u=Aa v:=h';rw[this]
abbrev ClA:=Ag->Am Ak
def KL(K:Fg)(a:Ak)(xs:Ac V):Prop:=∃(o:CD)(its:A3 Aj)(n:Ag),K.lookup a=Aa o/\o.cls=.type "list"/\o.dict=Ae/\o.data=.seq its n/\its.size<=sizeLine/\AZ xs its.toList
def KT(K:Fg)(a:Ak)(xs:Ac V):Prop:=∃(o:CD)(its:A3 Aj)(n:Ag),K.lookup a=Aa o/\o.cls=.type "tuple"/\o.data=.seq its n/\its.size<=sizeLine/\AZ xs its.toList
section
variable(K:Fg)(CL:ClA)(H:Hp)(A:Ak->Prop)
mutual
def Y6:V->D->Prop
 |v,.O=>v=.O
 |v,.bl b=>v=.bl b
 |v,.int i=>v=.int i
 |v,.str x=>v=.str x
 |v,.H ds=>∃ a xs,v=.ref a/\(¬ A a\/KT K a xs)/\yg K H a xs/\Y9 xs ds
 |v,.L ds=>∃ a xs,v=.ref a/\(¬ A a\/KL K a xs)/\zr K H a xs/\Y9 xs ds
 |v,.obj c fs=>∃ a C dx vs,v=.ref a/\¬ A a/\OC K c=Aa C/\H a=Aa (.ins C dx vs)/\zq vs fs
 |_,.dic _=>AN
 |v,.exc c fs=>∃ a C φ,v=.ref a/\¬ A a/\CL c=Aa C/\H a=Aa (.ext φ)/\(∀ h,φ h->∃ o,h.get? a=Aa o/\o.cls=.ref C)/\(fs=[]\/∃ dx vs,¬ A dx/\H dx=Aa (.xd vs)/\zq vs fs/\∀ h,φ h->∃ o,h.get? a=Aa o/\o.dict=Aa dx/\∃ us,o.data=.fields us)
def Y9:Ac V->Ac D->Prop
 |[],[]=>HV
 |v::vs,d::ds=>Y6 v d/\Y9 vs ds
 |_,_=>AN
def zq:Ac (Ah×V)->Ac (Ah×D)->Prop
 |[],[]=>HV
 |v::vs,d::ds=>xq v d/\zq vs ds
 |_,_=>AN
def xq:Ah×V->Ah×D->Prop
 |v,(n,d)=>v.1=n/\Y6 v.2 d
end
def CG(v:V)(d:D):Prop:=Y6 K CL H A v d\/∃ a xs ds,v=.ref a/\d=.L ds/\H a=Aa (.L xs)/\Y9 K CL H A xs ds
end
def Kp(A:Ak->Prop)(H H':Hp):Prop:=∀ b o,H b=Aa o->¬ A b->H' b=Aa o
def ZP:HO->Prop
 |.L _=>HV
 |.ins _ _ _=>HV
 |_=>AN
def J4(H:Hp)(A:Ak->Prop):Prop:=∀ a,A a->∃ o,H a=Aa o/\ZP o
theorem Kp.of(h:Aw H H'):Kp A H H':=λb o e _=>h b o e
theorem J4.same(h:J4 H A)(s:Aw H H'):J4 H' A:=λa ha=>let ⟨o,e,w⟩:=h a ha;⟨o,s _ _ e,w⟩
theorem J4.new{p:Ak}(h:J4 H A)(e:H p=Ae):¬ A p:=λha=>by
 obtain⟨o,q,_⟩:=h p ha;rw[e]at q;cases q
section
variable{K:Fg}{CL:ClA}{H H':Hp}{A B:Ak->Prop}
theorem VJ(k:Kp A H H')(na:¬ A a)(h:Rd H a u):Rd H' a u:=by
 rcases h with h|⟨o,h⟩
 .exact .inl (k _ _ h na)
 .exact .inr ⟨o,k _ _ h na⟩
theorem Oz(k:Kp A H H')(na:¬ A a\/KL K a xs)(h:zr K H a xs):zr K H' a xs:=na.elim (λna=>h.imp (VJ k na) id) .inr
theorem Oy(k:Kp A H H')(na:¬ A a\/KT K a xs)(h:yg K H a xs):yg K H' a xs:=na.elim (λna=>h.imp (VJ k na) id) .inr
mutual
theorem Y6.kp(k:Kp A H H'):∀{v:V}(d:D),Y6 K CL H A v d->Y6 K CL H' A v d
 |_,.O,h=>h
 |_,.bl _,h=>h
 |_,.int _,h=>h
 |_,.str _,h=>h
 |_,.dic _,h=>h.elim
 |_,.H ds,h=>by
  obtain⟨a,xs,e,na,s,r⟩:=h;exact⟨a,xs,e,na,by first|exact Oy k na s|exact Oz k na s,Y9.kp k ds r⟩
 |_,.L ds,h=>by
  obtain⟨a,xs,e,na,s,r⟩:=h;exact⟨a,xs,e,na,by first|exact Oy k na s|exact Oz k na s,Y9.kp k ds r⟩
 |_,.obj c fs,h=>by
  obtain⟨a,C,dx,vs,e,na,c,s,r⟩:=h;exact⟨a,C,dx,vs,e,na,c,k _ _ s na,zq.kp k fs r⟩
 |_,.exc c fs,h=>by
  obtain⟨a,C,φ,e,na,c,s,p,q⟩:=h;refine⟨a,C,φ,e,na,c,k _ _ s na,p,q.imp id ?_⟩;rintro⟨dx,vs,nx,s2,r,z⟩;exact⟨dx,vs,nx,k _ _ s2 nx,zq.kp k fs r,z⟩
theorem Y9.kp(k:Kp A H H'):∀{vs:Ac V}(ds:Ac D),Y9 K CL H A vs ds->Y9 K CL H' A vs ds
 |[],[],h=>h
 |_::_,d::ds,h=>⟨Y6.kp k d h.1,Y9.kp k ds h.2⟩
 |[],_::_,h=>h.elim
 |_::_,[],h=>h.elim
theorem zq.kp(k:Kp A H H'):∀{vs:Ac (Ah×V)}(ds:Ac (Ah×D)),zq K CL H A vs ds->zq K CL H' A vs ds
 |[],[],h=>h
 |_::_,d::ds,h=>⟨xq.kp k d h.1,zq.kp k ds h.2⟩
 |[],_::_,h=>h.elim
 |_::_,[],h=>h.elim
theorem xq.kp(k:Kp A H H'):∀{v:Ah×V}(d:Ah×D),xq K CL H A v d->xq K CL H' A v d
 |_,(_,d),h=>⟨h.1,Y6.kp k d h.2⟩
end
mutual
theorem Y6.sub(k:∀ a,B a->A a):∀{v:V}(d:D),Y6 K CL H A v d->Y6 K CL H B v d
 |_,.O,h=>h
 |_,.bl _,h=>h
 |_,.int _,h=>h
 |_,.str _,h=>h
 |_,.dic _,h=>h.elim
 |_,.H ds,h=>by
  obtain⟨a,xs,e,na,s,r⟩:=h;exact⟨a,xs,e,na.imp (λna z=>na (k _ z)) id,s,Y9.sub k ds r⟩
 |_,.L ds,h=>by
  obtain⟨a,xs,e,na,s,r⟩:=h;exact⟨a,xs,e,na.imp (λna z=>na (k _ z)) id,s,Y9.sub k ds r⟩
 |_,.obj c fs,h=>by
  obtain⟨a,C,dx,vs,e,na,c,s,r⟩:=h;exact⟨a,C,dx,vs,e,λz=>na (k _ z),c,s,zq.sub k fs r⟩
 |_,.exc c fs,h=>by
  obtain⟨a,C,φ,e,na,c,s,p,q⟩:=h;refine⟨a,C,φ,e,λz=>na (k _ z),c,s,p,q.imp id ?_⟩
  rintro⟨dx,vs,nx,s2,r,z⟩;exact⟨dx,vs,λz=>nx (k _ z),s2,zq.sub k fs r,z⟩
theorem Y9.sub(k:∀ a,B a->A a):∀{vs:Ac V}(ds:Ac D),Y9 K CL H A vs ds->Y9 K CL H B vs ds
 |[],[],h=>h
 |_::_,d::ds,h=>⟨Y6.sub k d h.1,Y9.sub k ds h.2⟩
 |[],_::_,h=>h.elim
 |_::_,[],h=>h.elim
theorem zq.sub(k:∀ a,B a->A a):∀{vs:Ac (Ah×V)}(ds:Ac (Ah×D)),zq K CL H A vs ds->zq K CL H B vs ds
 |[],[],h=>h
 |_::_,d::ds,h=>⟨xq.sub k d h.1,zq.sub k ds h.2⟩
 |[],_::_,h=>h.elim
 |_::_,[],h=>h.elim
theorem xq.sub(k:∀ a,B a->A a):∀{v:Ah×V}(d:Ah×D),xq K CL H A v d->xq K CL H B v d
 |_,(_,d),h=>⟨h.1,Y6.sub k d h.2⟩
end
mutual
theorem Y6.wide(hp:∀ a,B a->A a\/H a=Ae):∀{v:V}(d:D),Y6 K CL H A v d->Y6 K CL H B v d
 |_,.O,h=>h
 |_,.bl _,h=>h
 |_,.int _,h=>h
 |_,.str _,h=>h
 |_,.dic _,h=>h.elim
 |_,.H ds,h=>by
  obtain⟨a,xs,e,na,s,r⟩:=h;refine⟨a,xs,e,?_,s,Y9.wide hp ds r⟩;rcases s with s|s
  .refine na.imp (λna z=>(hp _ z).elim na λe=>?_) id
   rcases s with s|⟨o,s⟩<;>rw[e]at s<;>cases s
  .exact .inr s
 |_,.L ds,h=>by
  obtain⟨a,xs,e,na,s,r⟩:=h;refine⟨a,xs,e,?_,s,Y9.wide hp ds r⟩;rcases s with s|s
  .refine na.imp (λna z=>(hp _ z).elim na λe=>?_) id
   rcases s with s|⟨o,s⟩<;>rw[e]at s<;>cases s
  .exact .inr s
 |_,.obj c fs,h=>by
  obtain⟨a,C,dx,vs,e,na,c,s,r⟩:=h;exact⟨a,C,dx,vs,e,(λz=>(hp _ z).elim na λe=>by rw[e]at s;cases s),c,s,zq.wide hp fs r⟩
 |_,.exc c fs,h=>by
  obtain⟨a,C,φ,e,na,c,s,p,q⟩:=h;refine⟨a,C,φ,e,(λz=>(hp _ z).elim na λe=>by rw[e]at s;cases s),c,s,p,q.imp id ?_⟩
  rintro⟨dx,vs,nx,s2,r,z⟩;exact⟨dx,vs,(λz=>(hp _ z).elim nx λe=>by rw[e]at s2;cases s2),s2,zq.wide hp fs r,z⟩
theorem Y9.wide(hp:∀ a,B a->A a\/H a=Ae):∀{vs:Ac V}(ds:Ac D),Y9 K CL H A vs ds->Y9 K CL H B vs ds
 |[],[],h=>h
 |_::_,d::ds,h=>⟨Y6.wide hp d h.1,Y9.wide hp ds h.2⟩
 |[],_::_,h=>h.elim
 |_::_,[],h=>h.elim
theorem zq.wide(hp:∀ a,B a->A a\/H a=Ae):∀{vs:Ac (Ah×V)}(ds:Ac (Ah×D)),zq K CL H A vs ds->zq K CL H B vs ds
 |[],[],h=>h
 |_::_,d::ds,h=>⟨xq.wide hp d h.1,zq.wide hp ds h.2⟩
 |[],_::_,h=>h.elim
 |_::_,[],h=>h.elim
theorem xq.wide(hp:∀ a,B a->A a\/H a=Ae):∀{v:Ah×V}(d:Ah×D),xq K CL H A v d->xq K CL H B v d
 |_,(_,d),h=>⟨h.1,Y6.wide hp d h.2⟩
end
theorem Y6.same(s:Aw H H')(h:Y6 K CL H A v d):Y6 K CL H' A v d:=Y6.kp (Kp.of s) d h
theorem Y9.same{v:Ac V}{d:Ac D}(s:Aw H H')(h:Y9 K CL H A v d):Y9 K CL H' A v d:=Y9.kp (Kp.of s) d h
theorem CG.same{v:V}{d:D}(s:Aw H H')(h:CG K CL H A v d):CG K CL H' A v d:=by
 rcases h with h|⟨a,xs,ds,e,e2,q,r⟩
 .exact .inl (h.same s)
 .exact .inr ⟨a,xs,ds,e,e2,s _ _ q,r.same s⟩
theorem Y9.length:∀{vs:Ac V}{ds:Ac D},Y9 K CL H A vs ds->vs.length=ds.length
 |[],[],_=>rfl
 |_::_,_::_,h=>congrArg (· + 1) (Y9.length h.2)
 |[],_::_,h=>h.elim
 |_::_,[],h=>h.elim
theorem Y9.append:∀{vs ws:Ac V}{ds es:Ac D},Y9 K CL H A vs ds->Y9 K CL H A ws es->Y9 K CL H A (vs++ws) (ds++es)
 |[],_,[],_,_,h=>h
 |_::_,_,_::_,_,h,g=>⟨h.1,Y9.append h.2 g⟩
 |[],_,_::_,_,h,_=>h.elim
 |_::_,_,[],_,h,_=>h.elim
theorem Y9.get:∀{vs:Ac V}{ds:Ac D}{i:Ag}{d:D},Y9 K CL H A vs ds->ds[i]?=Aa d->∃ v,vs[i]?=Aa v/\Y6 K CL H A v d
 |[],[],_,_,_,e=>by simp at e
 |v::_,_::_,0,_,h,e=>by simp at e;subst e;exact⟨v,rfl,h.1⟩
 |_::_,_::_,i+1,_,h,e=>by
  obtain⟨v,q,r⟩:=Y9.get (i:=i) h.2 (by simpa using e)
  exact⟨v,by simpa using q,r⟩
 |[],_::_,_,_,h,_=>h.elim
 |_::_,[],_,_,h,_=>h.elim
theorem Y9.take:∀{vs:Ac V}{ds:Ac D}(n:Ag),Y9 K CL H A vs ds->Y9 K CL H A (vs.take n) (ds.take n)
 |_,_,0,_=>trivial
 |[],[],_+1,_=>trivial
 |_::_,_::_,n+1,h=>⟨h.1,Y9.take n h.2⟩
 |[],_::_,_+1,h=>h.elim
 |_::_,[],_+1,h=>h.elim
theorem Y9.drop:∀{vs:Ac V}{ds:Ac D}(n:Ag),Y9 K CL H A vs ds->Y9 K CL H A (vs.drop n) (ds.drop n)
 |_,_,0,h=>h
 |[],[],_+1,_=>trivial
 |_::_,_::_,n+1,h=>Y9.drop n h.2
 |[],_::_,_+1,h=>h.elim
 |_::_,[],_+1,h=>h.elim
end
structure U9 (K:Fg) (CL:ClA) (A:Ak->Prop) (Y:Rho) (U:L2.St) (H:Hp):Prop where
 sh:∀(i:Ag)(d:D),Y[i]?=Aa (Aa (d,Ad))->∃ v,U[i]?=Aa (Aa v)/\Y6 K CL H A v d
 ow:∀(i:Ag)(d:D),Y[i]?=Aa (Aa (d,Ab))->d≠.O->∃ a xs ds,U[i]?=Aa (Aa (.ref a))/\d=.L ds/\A a/\H a=Aa (.L xs)/\Y9 K CL H A xs ds
 len:Y.length=U.length
theorem U9.same{K:Fg}{A:Ak->Prop}{U:L2.St}{H:Hp}(g:U9 K CL A Y U H)(s:Aw H H'):U9 K CL A Y U H':=
 ⟨λi d e=>let ⟨v,q,r⟩:=g.sh i d e;⟨v,q,r.same s⟩,λi d e hn=>let ⟨a,xs,ds,q,z,na,h,r⟩:=g.ow i d e hn;⟨a,xs,ds,q,z,na,s _ _ h,r.same s⟩,g.len⟩
abbrev XW:=Ex->Hp->Prop
def AX(Rp:Hp->V->D->Prop)(W:XW)(H:Hp)(r:R D)(Q:VK):Prop:=match r with
  |.ok d=>∀ v H',Aw H H'->Rp H' v d->Q v H'
  |.exn x=>∀ H',Aw H H'->W x H'
  |.bad=>AN
def Ji(Rp:Hp->Ac V->Ac D->Prop)(W:XW)(H:Hp)(r:R (Ac D))(Q:Ac V->Hp->Prop):Prop:=match r with
  |.ok d=>∀ v H',Aw H H'->Rp H' v d->Q v H'
  |.exn x=>∀ H',Aw H H'->W x H'
  |.bad=>AN
def Dx(W:XW)(H:Hp)(r:R Ao)(Q:Ao->Hp->Prop):Prop:=match r with
  |.ok b=>∀ H',Aw H H'->Q b H'
  |.exn x=>∀ H',Aw H H'->W x H'
  |.bad=>AN
theorem AX.same(s:Aw H H')(h:AX Rp W H r Q):AX Rp W H' r Q:=by
 cases r with
 |ok d=>exact λv H2 s2 q=>h v H2 (s.trans s2) q
 |exn x=>exact λH2 s2=>h H2 (s.trans s2)
 |bad=>exact h
theorem Dx.same{r:R Ao}(s:Aw H H')(h:Dx W H r Q):Dx W H' r Q:=by
 cases r with
 |ok d=>exact λH2 s2=>h H2 (s.trans s2)
 |exn x=>exact λH2 s2=>h H2 (s.trans s2)
 |bad=>exact h
theorem AX.bind(h:AX Rq W H (r.bind f) Q)(k:∀ d v H',r=.ok d->Aw H H'->Rp H' v d->AX Rq W H' (f d) Q->Q' v H'):AX Rp W H r Q':=by
 cases r with
 |ok d=>exact λv H2 s2 q=>k d v H2 rfl s2 q (AX.same s2 h)
 |exn x=>exact h
 |bad=>exact h
section
variable(X:Cx)(CL:ClA)(W:XW)
def SE(e:Aq)(f:Rho->R D):Prop:=∀ A,PE X e (λU H Q=>J4 H A/\∃ Y,U9 X.K CL A Y U H/\AX (λH=>Y6 X.K CL H A) W H (f Y) Q)
def ST(e:Aq)(f:Rho->R D):Prop:=∀ A,PE X e (λU H Q=>J4 H A/\∃ Y,U9 X.K CL A Y U H/\AX (λH=>CG X.K CL H A) W H (f Y) Q)
def SB(e:Aq)(f:Rho->R Ao):Prop:=∀ A,PT X e (λU H Q=>J4 H A/\∃ Y,U9 X.K CL A Y U H/\Dx W H (f Y) Q)
def SA(es:Ac Aq)(f:Rho->R (Ac D)):Prop:=∀ A,PA X es (λU H Q=>J4 H A/\∃ Y,U9 X.K CL A Y U H/\Ji (λH=>Y9 X.K CL H A) W H (f Y) Q)
end
theorem PE.weak(h:PE X e t)(k:∀ U H Q,t' U H Q->t U H Q):PE X e t':=λpI s U H Q I q=>h pI s U H Q I (k _ _ _ q)
theorem PT.weak(h:PT X e t)(k:∀ U H Q,t' U H Q->t U H Q):PT X e t':=λpI s U H Q I q=>h pI s U H Q I (k _ _ _ q)
theorem PA.weak{e:Ac Aq}(h:PA X e t)(k:∀ U H Q,t' U H Q->t U H Q):PA X e t':=λpos pI s U H Q I q=>h pos pI s U H Q I (k _ _ _ q)
def ua(X:Cx)(CL:ClA)(W:XW)(f:Aj->Aj->FQ Aj)(g:D->D->R D):Prop:=
 ∀ A,xw X f (λx y H Q=>J4 H A/\∃ dx dy,CG X.K CL H A x dx/\CG X.K CL H A y dy/\AX (λH=>Y6 X.K CL H A) W H (g dx dy) Q)
section
variable{a b:Aq}{fa fb:Rho->R D}
theorem SE.st(h:SE X CL W a fa):ST X CL W a fa:=λA=>PE.weak (h A) λU H Q ⟨hA,Y,g,p⟩=>⟨hA,Y,g,by
 cases e:fa Y with
 |ok d=>rw[e]at p;exact λv H' s r=>p v H' s (.inl r)
 |exn x=>rw[e]at p;exact p
 | bad=>rw[e]at p;exact p⟩
theorem SE.congr(h:SE X CL W a f)(e:∀ Y,g Y=f Y):SE X CL W a g:=λA=>PE.weak (h A) λU H Q ⟨hA,Y,q,p⟩=>⟨hA,Y,q,by rw[<-e];exact p⟩
theorem OO(h:PE X a (tC v))(r:∀ H A,J4 H A->Y6 X.K CL H A v d):SE X CL W a (λ_=>.ok d):=λA=>PE.weak h λU H Q ⟨hA,Y,g,p⟩=>p v H (Aw.refl H) (r H A hA)
theorem sT{i j}:SE X CL W (.Constant (.int i) j pos) (λ_=>.ok (.int i)):=OO QM λ_ _ _=>rfl
theorem VM{b j}:SE X CL W (.Constant (.bool b) j pos) (λ_=>.ok (.bl b)):=OO zE λ_ _ _=>rfl
theorem qC{j}:SE X CL W (.Constant .none j pos) (λ_=>.ok .O):=OO On λ_ _ _=>rfl
theorem QR{x j}:SE X CL W (.Constant (.str x) j pos) (λ_=>.ok (.str x)):=OO Mu λ_ _ _=>rfl
theorem jC(h:GO Y i=.ok d):Y[i]?=Aa (Aa (d,Ad)):=by
 unfold GO at h;split at h
 .rename_i e;cases h;exact e
 .cases h
theorem TU(h:EC Y i=.ok d):∃ o,Y[i]?=Aa (Aa (d,o))/\(o=Ab->d≠.O):=by
 unfold EC at h;split at h
 .rename_i e;cases h;exact⟨_,e,λz=>nomatch z⟩
 .rename_i x e;cases x with
  |L xs=>cases h;exact⟨_,e,λ_ z=>nomatch z⟩
  |_=>cases h
 .cases h
theorem gE{x:Ex}(h:GO Y i=.exn x):AN:=by
 unfold GO at h;split at h<;>cases h
theorem TJ{x:Ex}(h:EC Y i=.exn x):AN:=by
 unfold EC at h;split at h
 .cases h
 .rename_i y _;cases y<;>cases h
 .cases h
theorem pY(h:PE X a (BS i)):SE X CL W a (λY=>GO Y i):=λA=>PE.weak h λU H Q ⟨hA,Y,g,p⟩=>by
 dsimp only at p;cases e:GO Y i with
 |ok d=>
  rw[e]at p;obtain⟨v,q,r⟩:=g.sh i d (jC e);exact⟨v,q,p v H (Aw.refl H) r⟩
 |exn x=>exact(gE e).elim
 |bad=>rw[e]at p;exact p.elim
theorem qP(h:PE X a (BS i)):ST X CL W a (λY=>EC Y i):=λA=>PE.weak h λU H Q ⟨hA,Y,g,p⟩=>by
 dsimp only at p;cases e:EC Y i with
 |ok d=>
  rw[e]at p;obtain⟨o,e,hn⟩:=TU e;cases o with
  |false=>
   obtain⟨v,q,r⟩:=g.sh i d e;exact⟨v,q,p v H (Aw.refl H) (.inl r)⟩
  |true=>
   obtain⟨x,xs,ds,q,rfl,ha,hh,r⟩:=g.ow i d e (hn rfl);exact⟨_,q,p _ H (Aw.refl H) (.inr ⟨x,xs,ds,rfl,rfl,hh,r⟩)⟩
 |exn x=>exact(TJ e).elim
 |bad=>rw[e]at p;exact p.elim
theorem op2{g:D->D->R D}{X:Cx}(h:J4 H A/\∃ Y,U9 X.K CL A Y U H/\AX Rq W H ((fa Y).bind λx=>(fb Y).bind λy=>g x y) Q):J4 H A/\∃ Y,U9 X.K CL A Y U H/\AX (λH=>CG X.K CL H A) W H (fa Y) (λx H1=>J4 H1 A/\∃ Y,U9 X.K CL A Y U H1/\AX (λH=>CG X.K CL H A) W H1 (fb Y) (λy H2=>J4 H2 A/\∃ dx dy,CG X.K CL H2 A x dx/\CG X.K CL H2 A y dy/\AX Rq W H2 (g dx dy) Q)):=by
 obtain⟨hA,Y,gd,p⟩:=h;refine⟨hA,Y,gd,AX.bind p λdx x H1 _ s1 r1 p1=>⟨hA.same s1,Y,gd.same s1,AX.bind p1 λdy y H2 _ s2 r2 p2=>⟨(hA.same s1).same s2,dx,dy,r1.same s2,r2,p2⟩⟩⟩
theorem UQ(ho:ua X CL W (Cb op) g)(ha:ST X CL W a fa)(hb:ST X CL W b fb):SE X CL W (.BinOp a op b pos) (λY=>(fa Y).bind λx=>(fb Y).bind λy=>g x y):=
 λA=>PE.weak (VL (ho A) (ha A) (hb A)) λU H Q h=>op2 h
theorem sW(ho:ua X CL W (DB op) g)(ha:ST X CL W a fa)(hb:ST X CL W b fb)(hm:DQ op b=Ad):SE X CL W (.Compare a [op] [b] pos) (λY=>(fa Y).bind λx=>(fb Y).bind λy=>g x y):=
 λA=>PE.weak (Qo (ho A) (ha A) (hb A) hm) λU H Q h=>op2 h
theorem CG.int_of{i:Ai}(h:CG K CL H A v (.int i)):v=.int i:=by
 rcases h with h|⟨_,_,_,_,e,_⟩
 .exact h
 .cases e
theorem CG.str_of{i:Ah}(h:CG K CL H A v (.str i)):v=.str i:=by
 rcases h with h|⟨_,_,_,_,e,_⟩
 .exact h
 .cases e
theorem CG.bl_of{i:Ao}(h:CG K CL H A v (.bl i)):v=.bl i:=by
 rcases h with h|⟨_,_,_,_,e,_⟩
 .exact h
 .cases e
theorem CG.non_of(h:CG K CL H A v .O):v=.O:=by
 rcases h with h|⟨_,_,_,_,e,_⟩
 .exact h
 .cases e
theorem CG.lst_of(h:CG K CL H A v (.L ds)):∃ a xs,v=.ref a/\zr K H a xs/\Y9 K CL H A xs ds:=by
 rcases h with ⟨a,xs,e,_,s,r⟩|⟨a,xs,es,rfl,e,s,r⟩
 .exact⟨a,xs,e,s,r⟩
 .cases e;exact⟨a,xs,rfl,zr.of s,r⟩
theorem CG.tup_of(h:CG K CL H A v (.H ds)):∃ a xs,v=.ref a/\(¬ A a\/KT K a xs)/\yg K H a xs/\Y9 K CL H A xs ds:=by
 rcases h with ⟨a,xs,e,n,s,r⟩|⟨_,_,_,_,e,_⟩
 .exact⟨a,xs,e,n,s,r⟩
 .cases e
theorem nM{i j:Ai}(h:FX i j=Ab):Pb i j:=by
 unfold FX at h;simp only[Ca,As,Bh]at h;unfold Pb;omega
theorem UB{a:Ai}(h:a.natAbs<2 ^ 2000):Xz a<=2 ^ 20:=by
 unfold Xz;split
 .omega
 .rename_i hz;have h0:a.natAbs≠0:=by intro z;exact hz (by rw[Int.natAbs_eq_zero.mp z];rfl)
  have:=(Nat.log2_lt h0).mpr h;omega
theorem nL{i j:Ai}(h:(FX i j||OR i j)=Ab):M2 i j:=by
 rcases Bool.or_eq_true_iff.mp h with h|h
 .exact(nM h).ok
 .unfold OR at h;rw[As,Bh,Bh]at h;exact .of_bits (UB h.1) (UB h.2)
theorem nF:xw X (Cb .Mult) (rI M2 λi j=>.int (i*j)):=ż λ_ _ _ _ _ _ _ hc q=>mul_int q hc
theorem K8(h:Dd n=Ab):n<=sizeLine:=by
 unfold Dd at h;rw[BE];have:=AK h;omega
theorem Ub{p:Ak}(hA:J4 H A)(hp:H p=Ae)(r:Y9 K CL H A xs ds):Y6 K CL (upd H p (.L xs)) A (.ref p) (.L ds):=
 ⟨p,xs,rfl,.inl (hA.new hp),zr.of B1,r.same λb o e=>by rw[AW (Fe e hp)];exact e⟩
theorem Nh{p:Ak}(hA:J4 H A)(hp:H p=Ae)(r:Y9 K CL H A xs ds):Y6 K CL (upd H p (.H xs)) A (.ref p) (.H ds):=
 ⟨p,xs,rfl,.inl (hA.new hp),yg.of B1,r.same λb o e=>by rw[AW (Fe e hp)];exact e⟩
theorem FW{p:Ak}(h:H p=Ae)(o:HO):Aw H (upd H p o):=λb u q=>by rw[AW (Fe q h)];exact q
def yX(K:Fg):R2:=λx y H Q=>∃ l b xs zs,x=.ref l/\y=.ref b/\zr K H l xs/\zr K H b zs/\xs.length+zs.length<=sizeLine/\∀ p,H p=Ae->Q (.ref p) (upd H p (.L (xs++zs)))
end
section
variable{X:Cx}{CL:ClA}
theorem T9:xw X (Cb .Add) (yX X.K):=by
 intro pI s U H x y v u Q I rx ry h;obtain⟨l,b,xs,zs,rfl,rfl,hH,hB,hz,q⟩:=h;cases rx;cases ry;obtain⟨its,r,⟨o,n,e,c,dd,dt⟩,z⟩:=I.list hH;obtain⟨zk,r2,⟨o2,n2,e2,c2,π,dt2⟩,z2⟩:=I.list hB;have hl:=r.length;have nk:=r2.length;obtain⟨cls,dd0,data,sl⟩:=o;obtain⟨cls2,dd02,data2,Ι⟩:=o2;simp only at c dd dt c2 π dt2;subst c dd dt c2 π dt2;have ea:its.toArray++zk.toArray=(its++zk).toArray:=by simp
 refine K5 ⟨_,e,rfl⟩ ⟨_,e2,rfl⟩ noFill_list_add seq_list_add PySem.F.slot_list_add PySem.F.entry_list_add (PySem.F.args_list_add_2 _ _) (list_addW l b its.toArray zk.toArray n n2 Ae Ae sl Ι (by simp;omega)) ⟨e,e2,?_⟩
 rw[ea];exact⟨.ref _,_,I.lnew (t':=s.toks) (r.append r2) (by rw[Cy];omega),rfl,q _ I.fresh⟩
theorem T8:ua X CL W (Cb .Add) (Cw .Add):=by
 intro A pI s U H x y v u Q I rx ry ⟨hA,dx,dy,hx,hy,p⟩;cases dx with
 |int i=>
  cases dy with
  |int j=>
   have ex:=hx.int_of;have ey:=hy.int_of
   subst ex ey;exact rS pI s U H _ _ v u Q I rx ry ⟨i,j,rfl,rfl,p _ H (Aw.refl H) rfl⟩
  |_=>exact p.elim
 |str i=>
  cases dy with
  |str j=>
   have ex:=hx.str_of;have ey:=hy.str_of
   subst ex ey;simp only[JD]at p;split at p
   .rename_i h;exact cO pI s U H _ _ v u Q I rx ry ⟨i,j,rfl,rfl,K8 h,p _ H (Aw.refl H) rfl⟩
   .exact p.elim
  |_=>exact p.elim
 |L ds=>
  cases dy with
  |L es=>
   obtain⟨a,xs,rfl,s1,r1⟩:=hx.lst_of;obtain⟨b,ys,rfl,s2,r2⟩:=hy.lst_of;simp only[Vp]at p;split at p
   .rename_i h;refine T9 pI s U H _ _ v u Q I rx ry ⟨a,b,xs,ys,rfl,rfl,s1,s2,by rw[r1.length,r2.length];exact K8 h,λq hq=>?_⟩
    exact p _ _ (FW hq _) (Ub hA hq (r1.append r2))
   .exact p.elim
  |_=>exact p.elim
 |H ds=>
  cases dy with
  |H es=>
   obtain⟨a,xs,rfl,na1,s1,r1⟩:=hx.tup_of;obtain⟨b,ys,rfl,_,s2,r2⟩:=hy.tup_of;simp only[Vo]at p;split at p
   .rename_i h;simp only[As]at h;refine nI pI s U H _ _ v u Q I rx ry ⟨a,b,xs,ys,rfl,rfl,s1,s2,?_,by rw[r1.length,r2.length];exact K8 h.2,λhy0=>?_,λ_ q hq=>?_⟩
    .rintro rfl;cases ds with
     |nil=>cases h.1
     |cons _ _=>exact r1.elim
    .subst hy0;cases es with
     |nil=>rw[Bp]at p;exact p _ H (Aw.refl H) ⟨a,xs,rfl,na1,s1,r1⟩
     |cons _ _=>exact r2.elim
    .exact p _ _ (FW hq _) (Nh hA hq (r1.append r2))
   .exact p.elim
  |_=>exact p.elim
 |_=>exact p.elim
theorem Od{g:Ai->Ai->Ai}(ho:xw X (Cb op) (rI C λi j=>.int (g i j)))(hg:∀ dx dy,(∃ i j,dx=.int i/\dy=.int j/\((C i j/\Cw op dx dy=.ok (.int (g i j)))\/Cw op dx dy=.bad))\/Cw op dx dy=.bad):ua X CL W (Cb op) (Cw op):=by
 intro A pI s U H x y v u Q I rx ry ⟨hA,dx,dy,hx,hy,p⟩;rcases hg dx dy with ⟨i,j,rfl,rfl,⟨c,e⟩|e⟩|e
 .have ex:=hx.int_of;have ey:=hy.int_of
  subst ex ey;rw[e]at p;exact ho pI s U H _ _ v u Q I rx ry ⟨i,j,rfl,rfl,c,p _ H (Aw.refl H) rfl⟩
 .rw[e]at p;exact p.elim
 .rw[e]at p;exact p.elim
theorem jS:ua X CL W (Cb .Sub) (Cw .Sub):=by
 intro A pI s U H x y v u Q I rx ry ⟨hA,dx,dy,hx,hy,p⟩;cases dx with
 |int i=>
  cases dy with
  |int j=>
   have ex:=hx.int_of;have ey:=hy.int_of
   subst ex ey;exact rN pI s U H _ _ v u Q I rx ry ⟨i,j,rfl,rfl,p _ H (Aw.refl H) rfl⟩
  |_=>exact p.elim
 |_=>exact p.elim
theorem jU:ua X CL W (Cb .Mult) (Cw .Mult):=Od nF λdx dy=>by
 cases dx with
 |int i=>
  cases dy with
  |int j=>
   refine .inl ⟨i,j,rfl,rfl,?_⟩;rw[uW];split
   .rename_i h;exact .inl ⟨nL h,rfl⟩
   .exact .inr rfl
  |_=>exact .inr rfl
 |_=>exact .inr rfl
theorem fJ:ua X CL W (Cb .FloorDiv) (Cw .FloorDiv):=Od nG λdx dy=>by
 cases dx with
 |int i=>
  cases dy with
  |int j=>
   refine .inl ⟨i,j,rfl,rfl,?_⟩;rw[mP];split
   .rename_i h;exact .inl ⟨h,rfl⟩
   .exact .inr rfl
  |_=>exact .inr rfl
 |_=>exact .inr rfl
theorem jV:ua X CL W (Cb .Mod) (Cw .Mod):=Od rQ λdx dy=>by
 cases dx with
 |int i=>
  cases dy with
  |int j=>
   refine .inl ⟨i,j,rfl,rfl,?_⟩;rw[uY];split
   .rename_i h;exact .inl ⟨h,rfl⟩
   .exact .inr rfl
  |_=>exact .inr rfl
 |_=>exact .inr rfl
theorem jT:ua X CL W (Cb .Pow) (Cw .Pow):=Od rO λdx dy=>by
 cases dx with
 |int i=>
  cases dy with
  |int j=>
   refine .inl ⟨i,j,rfl,rfl,?_⟩;rw[sP];split
   .rename_i h;exact .inl ⟨⟨h.1.1,h.1.2,by omega⟩,rfl⟩
   .exact .inr rfl
  |_=>exact .inr rfl
 |_=>exact .inr rfl
theorem T7(op:HP):ua X CL W (Cb op) (Cw op):=by
 cases op with
 |Add=>exact T8
 |Sub=>exact jS
 |Mult=>exact jU
 |FloorDiv=>exact fJ
 |Mod=>exact jV
 |Pow=>exact jT
 |_=>
  intro A pI s U H x y v u Q I rx ry ⟨hA,dx,dy,hx,hy,p⟩;exact p.elim
abbrev A0:Ak->Prop:=λ_=>AN
theorem CG.plain(h:CG K CL H A v d):Y6 K CL H A0 v d:=by
 rcases h with h|⟨a,xs,ds,rfl,rfl,e,r⟩
 .exact Y6.sub (λ_ z=>z.elim) d h
 .exact⟨a,xs,rfl,.inl λz=>z.elim,zr.of e,Y9.sub (λ_ z=>z.elim) ds r⟩
mutual
theorem fC:∀(n:Ag)(d:D),J8 n d=Ab->J0 d d=Ab
 |_,.O,_=>rfl
 |_,.bl b,_=>by simp
 |_,.int i,_=>by simp
 |_,.str x,_=>by simp
 |n+1,.H ds,h=>by
  show zw ds ds=Ab;exact yz n ds h
 |n+1,.L ds,h=>by
  show zw ds ds=Ab;exact yz n ds h
 |0,.H ds,h=>by cases h
 |0,.L ds,h=>by cases h
 |n,.obj _ _,h=>by cases n<;>cases h
 |n,.exc _ _,h=>by cases n<;>cases h
 |n,.dic _,h=>by cases n<;>cases h
theorem yz:∀(n:Ag)(ds:Ac D),ds.all (J8 n)=Ab->zw ds ds=Ab
 |_,[],_=>rfl
 |n,d::ds,h=>by
  simp only[DO,As]at h;simp only[PX,As];exact⟨fC n d h.1,yz n ds h.2⟩
end
theorem Su{ys:Ac V}(I:Y8 X pI U H s)(h:zr X.K H a xs)(h':yg X.K H a ys):AN:=by
 obtain⟨its,r,⟨o,n,e,c,_,_⟩,_⟩:=I.list h;obtain⟨its',r',⟨o',e',c',_⟩,_⟩:=I.tuple h';rw[e]at e';cases e';rw[c]at c'
 injection c' with z
 exact absurd z (by decide)
mutual
theorem M9{pI:Pn}{U:L2.St}{H:Hp}{s:An}(I:Y8 X pI U H s):∀(n:Ag)(d e:D){v:V},J8 n d=Ab->J8 n e=Ab->Y6 X.K CL H A0 v d->Y6 X.K CL H A0 v e->d=e
 |n,.H ds,e,v,hd,he,r,q=>by
  obtain⟨a,xs,rfl,_,s1,r1⟩:=r;cases e with
  |H es=>
   obtain⟨b,ys,e,_,s2,r2⟩:=q;cases e;have z:=I.tuple_inj s1 s2;subst z;cases n with
   |zero=>cases hd
   |succ n=>rw[xa I n ds es hd he r1 r2]
  |L es=>
   obtain⟨b,ys,e,_,s2,r2⟩:=q;cases e;exact(Su I s2 s1).elim
  |obj=>cases n<;>cases he
  |exc=>cases n<;>cases he
  |dic=>cases n<;>cases he
  |_=>cases q
 |n,.L ds,e,v,hd,he,r,q=>by
  obtain⟨a,xs,rfl,_,s1,r1⟩:=r;cases e with
  |L es=>
   obtain⟨b,ys,e,_,s2,r2⟩:=q;cases e;have z:=I.list_inj s1 s2;subst z;cases n with
   |zero=>cases hd
   |succ n=>rw[xa I n ds es hd he r1 r2]
  |H es=>
   obtain⟨b,ys,e,_,s2,r2⟩:=q;cases e;exact(Su I s1 s2).elim
  |obj=>cases n<;>cases he
  |exc=>cases n<;>cases he
  |dic=>cases n<;>cases he
  |_=>cases q
 |n,.obj _ _,e,v,hd,he,r,q=>by cases n<;>cases hd
 |n,.exc _ _,e,v,hd,he,r,q=>by cases n<;>cases hd
 |n,.dic _,e,v,hd,he,r,q=>by cases n<;>cases hd
 |n,.O,e,v,hd,he,r,q=>by
  cases r;cases e with
  |H=>obtain⟨_,_,z,_⟩:=q;cases z
  |L=>obtain⟨_,_,z,_⟩:=q;cases z
  |obj=>cases n<;>cases he
  |exc=>cases n<;>cases he
  |dic=>cases n<;>cases he
  |_=>cases q<;>rfl
 |n,.bl b,e,v,hd,he,r,q=>by
  cases r;cases e with
  |H=>obtain⟨_,_,z,_⟩:=q;cases z
  |L=>obtain⟨_,_,z,_⟩:=q;cases z
  |obj=>cases n<;>cases he
  |exc=>cases n<;>cases he
  |dic=>cases n<;>cases he
  |_=>cases q<;>rfl
 |n,.int b,e,v,hd,he,r,q=>by
  cases r;cases e with
  |H=>obtain⟨_,_,z,_⟩:=q;cases z
  |L=>obtain⟨_,_,z,_⟩:=q;cases z
  |obj=>cases n<;>cases he
  |exc=>cases n<;>cases he
  |dic=>cases n<;>cases he
  |_=>cases q<;>rfl
 |n,.str b,e,v,hd,he,r,q=>by
  cases r;cases e with
  |H=>obtain⟨_,_,z,_⟩:=q;cases z
  |L=>obtain⟨_,_,z,_⟩:=q;cases z
  |obj=>cases n<;>cases he
  |exc=>cases n<;>cases he
  |dic=>cases n<;>cases he
  |_=>cases q<;>rfl
theorem xa{pI:Pn}{U:L2.St}{H:Hp}{s:An}(I:Y8 X pI U H s):∀(n:Ag)(ds es:Ac D){xs:Ac V},ds.all (J8 n)=Ab->es.all (J8 n)=Ab->Y9 X.K CL H A0 xs ds->Y9 X.K CL H A0 xs es->ds=es
 |_,[],[],_,_,_,_,_=>rfl
 |n,d::ds,e::es,x::xs,hd,he,r,q=>by
  simp only[DO,As]at hd he;rw[M9 I n d e hd.1 he.1 r.1 q.1,xa I n ds es hd.2 he.2 r.2 q.2]
 |_,[],_::_,[],_,_,_,q=>q.elim
 |_,[],_::_,_::_,_,_,r,_=>r.elim
 |_,_::_,[],[],_,_,r,_=>r.elim
 |_,_::_,[],_::_,_,_,_,q=>q.elim
 |_,_::_,_::_,[],_,_,r,_=>r.elim
end
theorem Nb:∀{ds es:Ac D},ds.length≠es.length->zw ds es=Ad
 |[],[],h=>absurd rfl h
 |[],_::_,_=>rfl
 |_::_,[],_=>rfl
 |d::ds,e::es,h=>by
  simp only[PX,Nb (ds:=ds) (es:=es) (by simpa using h),HN]
theorem RE(n:Ag)(f:Ag->Ao):(B2 (n+1)).all f=(f 0&&(B2 n).all λj=>f (j+1)):=by
 rw[Xg,DO,E5];rfl
theorem Nc:∀{ds es:Ac D},ds.length=es.length->zw ds es=(B2 ds.length).all λj=>J0 (ds.getD j .O) (es.getD j .O)
 |[],[],_=>rfl
 |d::ds,e::es,h=>by
  rw[PX,Nc (ds:=ds) (es:=es) (by simpa using h),Ba,RE]
  rfl
 |[],_::_,h=>by cases h
 |_::_,[],h=>by cases h
theorem Km(r:Y9 K CL H A0 xs ds)(rv:AZ xs its)(h:j<its.length):∃ x,Y6 K CL H A0 x (ds.getD j .O)/\BB x its[j]:=by
 have e1:=rv.length;have e2:=r.length;have hd:ds[j]?=Aa (ds.getD j .O):=by
  rw[Du,Cr (by omega)];rfl
 obtain⟨x,hx,q⟩:=r.get hd;obtain⟨u,hu,ru⟩:=rv.get hx;refine⟨x,q,?_⟩;rw[Cr h]at hu;cases hu;exact ru
theorem JA{ds:Ac D}(h:ds.all (J8 n)=Ab)(j:Ag):J8 n (ds.getD j .O)=Ab:=by
 rw[Du];cases e:ds[j]? with
 |none=>cases n<;>rfl
 |some d=>exact A6.mp h d (De e)
def CU(B:AY)(s:An)(u t:Aj)(k:Ao):Prop:=L9 B s u t k/\EI B s u t k/\K0 B s u t (!k)
section
open SeqAt
theorem zQ:CU B s .none .none Ab:=⟨RcAt.none_none,EqAt.same _,RcNeAt.none_none⟩
theorem aq(a b:Ao):CU B s (.bool a) (.bool b) (a==b):=⟨RcAt.bool_bool _ _,EqAt.bool_bool _ _,RcNeAt.bool_bool _ _⟩
theorem zT(b:Ao):CU B s .none (.bool b) Ad:=⟨RcAt.none_bool _,EqAt.none_bool _,RcNeAt.none_bool _⟩
theorem ak(b:Ao):CU B s (.bool b) .none Ad:=⟨RcAt.bool_none _,EqAt.bool_none _,RcNeAt.bool_none _⟩
theorem ag(a:Ai)(t:Ch)(b:Ai)(u:Ch):CU B s (.int a t) (.int b u) (a==b):=⟨RcAt.int_int _ _ _ _,EqAt.int_int _ _ _ _,RcNeAt.int_int _ _ _ _⟩
theorem xB(a:Ah)(t:Ch)(b:Ah)(u:Ch):CU B s (.str a t) (.str b u) (a==b):=⟨RcAt.str_str _ _ _ _,EqAt.str_str _ _ _ _,RcNeAt.str_str _ _ _ _⟩
theorem aa(a:Ai)(t:Ch)(b:Ah)(u:Ch):CU B s (.int a t) (.str b u) Ad:=⟨RcAt.int_str _ _ _ _,EqAt.int_str _ _ _ _,RcNeAt.int_str _ _ _ _⟩
theorem xE(a:Ah)(t:Ch)(b:Ai)(u:Ch):CU B s (.str a t) (.int b u) Ad:=⟨RcAt.str_int _ _ _ _,EqAt.str_int _ _ _ _,RcNeAt.str_int _ _ _ _⟩
theorem zS(b:Ai)(u:Ch):CU B s .none (.int b u) Ad:=⟨RcAt.none_int _ _,EqAt.none_int _ _,RcNeAt.none_int _ _⟩
theorem ac(b:Ai)(u:Ch):CU B s (.int b u) .none Ad:=⟨RcAt.int_none _ _,EqAt.int_none _ _,RcNeAt.int_none _ _⟩
theorem zP(b:Ah)(u:Ch):CU B s .none (.str b u) Ad:=⟨RcAt.none_str _ _,EqAt.none_str _ _,RcNeAt.none_str _ _⟩
theorem xC(b:Ah)(u:Ch):CU B s (.str b u) .none Ad:=⟨RcAt.str_none _ _,EqAt.str_none _ _,RcNeAt.str_none _ _⟩
theorem ao(a:Ao)(b:Ai)(u:Ch):CU B s (.bool a) (.int b u) (ν a==b):=⟨RcAt.bool_int _ _ _,EqAt.bool_int _ _ _,RcNeAt.bool_int _ _ _⟩
theorem ah(a:Ao)(b:Ai)(u:Ch):CU B s (.int b u) (.bool a) (b==ν a):=⟨RcAt.int_bool _ _ _,EqAt.int_bool _ _ _,RcNeAt.int_bool _ _ _⟩
theorem aj(a:Ao)(b:Ah)(u:Ch):CU B s (.bool a) (.str b u) Ad:=⟨RcAt.bool_str _ _ _,EqAt.bool_str _ _ _,RcNeAt.bool_str _ _ _⟩
theorem xF(a:Ao)(b:Ah)(u:Ch):CU B s (.str b u) (.bool a) Ad:=⟨RcAt.str_bool _ _ _,EqAt.str_bool _ _ _,RcNeAt.str_bool _ _ _⟩
theorem zW(h:s.heap.IsList l items)(hu:B.units<BD):CU B s (.ref l) .none Ad:=⟨RcAt.list_none h hu,EqAt.list_none h hu,RcNeAt.list_none h hu⟩
theorem zR(h:s.heap.IsList l items)(hu:B.units<BD):CU B s .none (.ref l) Ad:=⟨RcAt.none_list h hu,EqAt.none_list h hu,RcNeAt.none_list h hu⟩
theorem zY(b:Ao)(h:s.heap.IsList l items)(hu:B.units<BD):CU B s (.ref l) (.bool b) Ad:=⟨RcAt.list_bool b h hu,EqAt.list_bool b h hu,RcNeAt.list_bool b h hu⟩
theorem al(b:Ao)(h:s.heap.IsList l items)(hu:B.units<BD):CU B s (.bool b) (.ref l) Ad:=⟨RcAt.bool_list b h hu,EqAt.bool_list b h hu,RcNeAt.bool_list b h hu⟩
theorem zX(b:Ai)(u:Ch)(h:s.heap.IsList l items)(hu:B.units<BD):CU B s (.ref l) (.int b u) Ad:=⟨RcAt.list_int b u h hu,EqAt.list_int b u h hu,RcNeAt.list_int b u h hu⟩
theorem af(b:Ai)(u:Ch)(h:s.heap.IsList l items)(hu:B.units<BD):CU B s (.int b u) (.ref l) Ad:=⟨RcAt.int_list b u h hu,EqAt.int_list b u h hu,RcNeAt.int_list b u h hu⟩
theorem zV(b:Ah)(u:Ch)(h:s.heap.IsList l items)(hu:B.units<BD):CU B s (.ref l) (.str b u) Ad:=⟨RcAt.list_str b u h hu,EqAt.list_str b u h hu,RcNeAt.list_str b u h hu⟩
theorem xD(b:Ah)(u:Ch)(h:s.heap.IsList l items)(hu:B.units<BD):CU B s (.str b u) (.ref l) Ad:=⟨RcAt.str_list b u h hu,EqAt.str_list b u h hu,RcNeAt.str_list b u h hu⟩
theorem xW(h:s.heap.IsTuple l items)(hu:B.units<BD):CU B s (.ref l) .none Ad:=⟨RcAt.tuple_none h hu,EqAt.tuple_none h hu,RcNeAt.tuple_none h hu⟩
theorem xG(h:s.heap.IsTuple l items)(hu:B.units<BD):CU B s .none (.ref l) Ad:=⟨RcAt.none_tuple h hu,EqAt.none_tuple h hu,RcNeAt.none_tuple h hu⟩
theorem wZ(b:Ao)(h:s.heap.IsTuple l items)(hu:B.units<BD):CU B s (.ref l) (.bool b) Ad:=⟨RcAt.tuple_bool b h hu,EqAt.tuple_bool b h hu,RcNeAt.tuple_bool b h hu⟩
theorem ai(b:Ao)(h:s.heap.IsTuple l items)(hu:B.units<BD):CU B s (.bool b) (.ref l) Ad:=⟨RcAt.bool_tuple b h hu,EqAt.bool_tuple b h hu,RcNeAt.bool_tuple b h hu⟩
theorem wY(b:Ai)(u:Ch)(h:s.heap.IsTuple l items)(hu:B.units<BD):CU B s (.ref l) (.int b u) Ad:=⟨RcAt.tuple_int b u h hu,EqAt.tuple_int b u h hu,RcNeAt.tuple_int b u h hu⟩
theorem zZ(b:Ai)(u:Ch)(h:s.heap.IsTuple l items)(hu:B.units<BD):CU B s (.int b u) (.ref l) Ad:=⟨RcAt.int_tuple b u h hu,EqAt.int_tuple b u h hu,RcNeAt.int_tuple b u h hu⟩
theorem xV(b:Ah)(u:Ch)(h:s.heap.IsTuple l items)(hu:B.units<BD):CU B s (.ref l) (.str b u) Ad:=⟨RcAt.tuple_str b u h hu,EqAt.tuple_str b u h hu,RcNeAt.tuple_str b u h hu⟩
theorem xA(b:Ah)(u:Ch)(h:s.heap.IsTuple l items)(hu:B.units<BD):CU B s (.str b u) (.ref l) Ad:=⟨RcAt.str_tuple b u h hu,EqAt.str_tuple b u h hu,RcNeAt.str_tuple b u h hu⟩
theorem zU(h:s.heap.IsList l items)(h2:s.heap.IsTuple b items2)(hu:B.units<BD):CU B s (.ref l) (.ref b) Ad:=⟨RcAt.list_tuple h h2 hu,EqAt.list_tuple h h2 hu,RcNeAt.list_tuple h h2 hu⟩
theorem wX(h:s.heap.IsTuple l items)(h2:s.heap.IsList b items2)(hu:B.units<BD):CU B s (.ref l) (.ref b) Ad:=⟨RcAt.tuple_list h h2 hu,EqAt.tuple_list h h2 hu,RcNeAt.tuple_list h h2 hu⟩
end
end
section
variable{CL:ClA}
theorem Ld{its:A3 Aj}(x:PlainL h a its):h.IsList a its:=let ⟨o,n,e,c,_,d⟩:=x;⟨o,e,c,n,d⟩
def Zc(X:Cx)(CL:ClA)(H:Hp)(s:An)(d:D)(u:Aj):Prop:=match d with
  |.O=>u=.none
  |.bl b=>u=.bool b
  |.int i=>∃ t,u=.int i t
  |.str x=>∃ t,u=.str x t
  |.H ds=>∃ a xs its,u=.ref a/\Y9 X.K CL H A0 xs ds/\AZ xs its/\s.heap.IsTuple a its.toArray
  |.L ds=>∃ a xs its,u=.ref a/\Y9 X.K CL H A0 xs ds/\AZ xs its/\s.heap.IsList a its.toArray
  |_=>AN
theorem Uj(I:Y8 X pI U H s)(hd:J8 n d=Ab)(r:Y6 X.K CL H A0 v d)(q:BB v u):Zc X CL H s d u:=by
 cases d with
 |O=>cases r;exact q
 |bl b=>cases r;exact q
 |int b=>cases r;exact q
 |str b=>cases r;exact q
 |H ds=>
  obtain⟨a,xs,rfl,_,sq,r⟩:=r;obtain⟨its,rv,p,_⟩:=I.tuple sq;cases q;exact⟨a,xs,its,rfl,r,rv,p⟩
 |L ds=>
  obtain⟨a,xs,rfl,_,sq,r⟩:=r;obtain⟨its,rv,p,_⟩:=I.list sq;cases q;exact⟨a,xs,its,rfl,r,rv,Ld p⟩
 |obj=>cases n<;>cases hd
 |exc=>cases n<;>cases hd
 |dic=>cases n<;>cases hd
theorem kC{es:Ac D}(hl:s.heap.IsList l its.toArray)(hb:s.heap.IsList b zk.toArray)(e1:its.length=ds.length)(e2:zk.length=es.length)(hu:B.units<BD)(hs:l=b->zw ds es=Ab)(he:∀ j (h1:j<its.length) (h2:j<zk.length),EI B.in1 s its[j] zk[j] (J0 (ds.getD j .O) (es.getD j .O))):CU B s (.ref l) (.ref b) (zw ds es):=by
 have rc:L9 B s (.ref l) (.ref b) (zw ds es):=by
  by_cases hz:its.length=zk.length
  .have q:=SeqAt.RcAt.lists (e:=λj=>J0 (ds.getD j .O) (es.getD j .O)) hl hb (by simpa using hz) hu (λj h1 h2=>by simpa using he j (by simpa using h1) (by simpa using h2))
   rw[Nc (by omega)]
   have e:its.toArray.size=ds.length:=by simpa using e1
   rwa [e]at q
  .rw[Nb (by omega)]
   exact SeqAt.RcAt.lists_lengths hl hb (by simpa using hz) hu
 have ne:K0 B s (.ref l) (.ref b) (!zw ds es):=by
  by_cases hz:its.length=zk.length
  .have q:=SeqAt.RcNeAt.lists (e:=λj=>J0 (ds.getD j .O) (es.getD j .O)) hl hb (by simpa using hz) hu (λj h1 h2=>by simpa using he j (by simpa using h1) (by simpa using h2))
   rw[Nc (by omega)]
   have e:its.toArray.size=ds.length:=by simpa using e1
   rwa [e]at q
  .rw[Nb (by omega)]
   exact SeqAt.RcNeAt.lists_lengths hl hb (by simpa using hz) hu
 refine⟨rc,?_,ne⟩;by_cases hlb:l=b
 .rw[hs hlb,hlb];exact Yq _
 .exact Yp hlb rc
theorem kB{es:Ac D}(hl:s.heap.IsTuple l its.toArray)(hb:s.heap.IsTuple b zk.toArray)(e1:its.length=ds.length)(e2:zk.length=es.length)(hu:B.units<BD)(hs:l=b->zw ds es=Ab)(he:∀ j (h1:j<its.length) (h2:j<zk.length),EI B.in1 s its[j] zk[j] (J0 (ds.getD j .O) (es.getD j .O))):CU B s (.ref l) (.ref b) (zw ds es):=by
 have rc:L9 B s (.ref l) (.ref b) (zw ds es):=by
  have q:=SeqAt.RcAt.tuples (e:=λj=>J0 (ds.getD j .O) (es.getD j .O)) hl hb hu (λj h1 h2=>by simpa using he j (by simpa using h1) (by simpa using h2))
  have e:its.toArray.size=ds.length:=by simpa using e1
  have e':zk.toArray.size=es.length:=by simpa using e2
  rw[e,e']at q;by_cases hz:ds.length=es.length
  .rw[Nc hz];rw[hz,Xo,Ck,Ix]at q;rw[hz];exact q
  .rw[Nb hz]
   rwa [BO.mpr hz,HN]at q
 have ne:K0 B s (.ref l) (.ref b) (!zw ds es):=by
  have q:=SeqAt.RcNeAt.tuples (e:=λj=>J0 (ds.getD j .O) (es.getD j .O)) hl hb hu (λj h1 h2=>by simpa using he j (by simpa using h1) (by simpa using h2))
  have e:its.toArray.size=ds.length:=by simpa using e1
  have e':zk.toArray.size=es.length:=by simpa using e2
  rw[e,e']at q;by_cases hz:ds.length=es.length
  .rw[Nc hz];rw[hz,Xo,Ck,Ix]at q;rw[hz];exact q
  .rw[Nb hz]
   rwa [BO.mpr hz,HN]at q
 refine⟨rc,?_,ne⟩;by_cases hlb:l=b
 .rw[hs hlb,hlb];exact Yq _
 .exact Yp hlb rc
theorem Mw{pI:Pn}{U:L2.St}{H:Hp}{s:An}(I:Y8 X pI U H s):∀(n:Ag)(d e:D)(v w':V)(u t:Aj)(B:AY),J8 n d=Ab->J8 n e=Ab->Y6 X.K CL H A0 v d->Y6 X.K CL H A0 w' e->BB v u->BB w' t->B.units+n<BD->CU B s u t (J0 d e)
  |n,d,e,v,w',u,t,B,hd,he,r,q,rv,wk,hu=>by
    have wo:B.units<BD:=by omega
    have sd:=Uj I hd r rv;have se:=Uj I he q wk
    match d,e,sd,se with
    |.O,.O,s1,s2=>cases s1;cases s2;exact zQ
    |.O,.bl b,s1,s2=>cases s1;cases s2;exact zT b
    |.O,.int b,s1,s2=>cases s1;obtain⟨_,rfl⟩:=s2;exact zS b _
    |.O,.str b,s1,s2=>cases s1;obtain⟨_,rfl⟩:=s2;exact zP b _
    |.O,.H es,s1,s2=>cases s1;obtain⟨_,_,_,rfl,_,_,p⟩:=s2;exact xG p wo
    |.O,.L es,s1,s2=>cases s1;obtain⟨_,_,_,rfl,_,_,p⟩:=s2;exact zR p wo
    |.bl a,.O,s1,s2=>cases s1;cases s2;exact ak a
    |.bl a,.bl b,s1,s2=>cases s1;cases s2;exact aq a b
    |.bl a,.int b,s1,s2=>cases s1;obtain⟨_,rfl⟩:=s2;exact ao a b _
    |.bl a,.str b,s1,s2=>cases s1;obtain⟨_,rfl⟩:=s2;exact aj a b _
    |.bl a,.H es,s1,s2=>cases s1;obtain⟨_,_,_,rfl,_,_,p⟩:=s2;exact ai a p wo
    |.bl a,.L es,s1,s2=>cases s1;obtain⟨_,_,_,rfl,_,_,p⟩:=s2;exact al a p wo
    |.int a,.O,s1,s2=>obtain⟨_,rfl⟩:=s1;cases s2;exact ac a _
    |.int a,.bl b,s1,s2=>obtain⟨_,rfl⟩:=s1;cases s2;exact ah b a _
    |.int a,.int b,s1,s2=>obtain⟨_,rfl⟩:=s1;obtain⟨_,rfl⟩:=s2;exact ag a _ b _
    |.int a,.str b,s1,s2=>obtain⟨_,rfl⟩:=s1;obtain⟨_,rfl⟩:=s2;exact aa a _ b _
    |.int a,.H es,s1,s2=>obtain⟨_,rfl⟩:=s1;obtain⟨_,_,_,rfl,_,_,p⟩:=s2;exact zZ a _ p wo
    |.int a,.L es,s1,s2=>obtain⟨_,rfl⟩:=s1;obtain⟨_,_,_,rfl,_,_,p⟩:=s2;exact af a _ p wo
    |.str a,.O,s1,s2=>obtain⟨_,rfl⟩:=s1;cases s2;exact xC a _
    |.str a,.bl b,s1,s2=>obtain⟨_,rfl⟩:=s1;cases s2;exact xF b a _
    |.str a,.int b,s1,s2=>obtain⟨_,rfl⟩:=s1;obtain⟨_,rfl⟩:=s2;exact xE a _ b _
    |.str a,.str b,s1,s2=>obtain⟨_,rfl⟩:=s1;obtain⟨_,rfl⟩:=s2;exact xB a _ b _
    |.str a,.H es,s1,s2=>obtain⟨_,rfl⟩:=s1;obtain⟨_,_,_,rfl,_,_,p⟩:=s2;exact xA a _ p wo
    |.str a,.L es,s1,s2=>obtain⟨_,rfl⟩:=s1;obtain⟨_,_,_,rfl,_,_,p⟩:=s2;exact xD a _ p wo
    |.H ds,.O,s1,s2=>cases s2;obtain⟨_,_,_,rfl,_,_,p⟩:=s1;exact xW p wo
    |.H ds,.bl b,s1,s2=>cases s2;obtain⟨_,_,_,rfl,_,_,p⟩:=s1;exact wZ b p wo
    |.H ds,.int b,s1,s2=>obtain⟨_,rfl⟩:=s2;obtain⟨_,_,_,rfl,_,_,p⟩:=s1;exact wY b _ p wo
    |.H ds,.str b,s1,s2=>obtain⟨_,rfl⟩:=s2;obtain⟨_,_,_,rfl,_,_,p⟩:=s1;exact xV b _ p wo
    |.H ds,.L es,s1,s2=>obtain⟨_,_,_,rfl,_,_,p⟩:=s1;obtain⟨_,_,_,rfl,_,_,p2⟩:=s2;exact wX p p2 wo
    |.L ds,.O,s1,s2=>cases s2;obtain⟨_,_,_,rfl,_,_,p⟩:=s1;exact zW p wo
    |.L ds,.bl b,s1,s2=>cases s2;obtain⟨_,_,_,rfl,_,_,p⟩:=s1;exact zY b p wo
    |.L ds,.int b,s1,s2=>obtain⟨_,rfl⟩:=s2;obtain⟨_,_,_,rfl,_,_,p⟩:=s1;exact zX b _ p wo
    |.L ds,.str b,s1,s2=>obtain⟨_,rfl⟩:=s2;obtain⟨_,_,_,rfl,_,_,p⟩:=s1;exact zV b _ p wo
    |.L ds,.H es,s1,s2=>obtain⟨_,_,_,rfl,_,_,p⟩:=s1;obtain⟨_,_,_,rfl,_,_,p2⟩:=s2;exact zU p p2 wo
    |.H ds,.H es,s1,s2=>
      match n,hd,he,hu with
      |n+1,hd,he,hu=>
        obtain⟨a,xs,its,rfl,r1,v1,p1⟩:=s1;obtain⟨b,ys,zk,rfl,r2,v2,p2⟩:=s2;have l1:=v1.length;have l2:=r1.length;have l3:=v2.length;have l4:=r2.length
        refine kB p1 p2 (by omega) (by omega) wo (λhab=>?_) λj h1 h2=>?_
        · have e1:v=.ref a:=BB.inj rv rfl;have e2:w'=.ref b:=BB.inj wk rfl;subst e1 e2 hab;have z:=M9 I (n+1) _ _ hd he r q
          injection z with z
          rw[z];exact yz n es he
        · obtain⟨x,rx,qx⟩:=Km r1 v1 h1;obtain⟨y,ry,qy⟩:=Km r2 v2 h2;exact(Mw I n _ _ x y _ _ B.in1 (JA hd j) (JA he j) rx ry qx qy (by show B.units+1+n<BD;omega)).2.1
    |.L ds,.L es,s1,s2=>
      match n,hd,he,hu with
      |n+1,hd,he,hu=>
        obtain⟨a,xs,its,rfl,r1,v1,p1⟩:=s1;obtain⟨b,ys,zk,rfl,r2,v2,p2⟩:=s2;have l1:=v1.length;have l2:=r1.length;have l3:=v2.length;have l4:=r2.length
        refine kC p1 p2 (by omega) (by omega) wo (λhab=>?_) λj h1 h2=>?_
        · have e1:v=.ref a:=BB.inj rv rfl;have e2:w'=.ref b:=BB.inj wk rfl;subst e1 e2 hab;have z:=M9 I (n+1) _ _ hd he r q
          injection z with z
          rw[z];exact yz n es he
        · obtain⟨x,rx,qx⟩:=Km r1 v1 h1;obtain⟨y,ry,qy⟩:=Km r2 v2 h2;exact(Mw I n _ _ x y _ _ B.in1 (JA hd j) (JA he j) rx ry qx qy (by show B.units+1+n<BD;omega)).2.1
    |.obj _ _,_,s1,_=>exact s1.elim
    |.exc _ _,_,s1,_=>exact s1.elim
    |.dic _,_,s1,_=>exact s1.elim
    |_,.obj _ _,_,s2=>exact s2.elim
    |_,.exc _ _,_,s2=>exact s2.elim
    |_,.dic _,_,s2=>exact s2.elim
end
theorem Os(I:Y8 X pI U H s)(B:AY)(hd:J8 n d=Ab)(hs:ds.all (J8 n)=Ab)(r:Y9 X.K CL H A0 xs ds)(rv:AZ xs its)(q:Y6 X.K CL H A0 v d)(qv:BB v u)(hu:B.units+n<BD):∃ e:Aj->Ao,(∀ y,y∈its.toArray->EI B s y u (e y))/\its.toArray.any e=ds.any λy=>J0 y d:=by
 have l1:=rv.length;have l2:=r.length
 have key:∀ y,y∈its->∃ k:Ao,EI B s y u k/\∀ j (h:j<its.length),its[j]=y->J0 (ds.getD j .O) d=k:=λy hy=>by
  obtain⟨j,hj,rfl⟩:=FM hy;obtain⟨x,rx,qx⟩:=Km r rv hj;refine⟨J0 (ds.getD j .O) d,(Mw I n _ _ x v _ _ B (JA hs j) hd rx q qx qv hu).2.1,λj' qm e=>?_⟩
  obtain⟨x',ø,À⟩:=Km r rv qm;rw[e]at À;have z:=BB.inj qx À;subst z;rw[M9 I n _ _ (JA hs j') (JA hs j) ø rx]
 have vz:∀ y,∃ k:Ao,y∈its->EI B s y u k/\∀ j (h:j<its.length),its[j]=y->J0 (ds.getD j .O) d=k:=λy=>by
  by_cases hy:y∈its
  .obtain⟨k,hk⟩:=key y hy;exact⟨k,λ_=>hk⟩
  .exact⟨Ab,λh=>absurd h hy⟩
 refine⟨λy=>IX (vz y),λy hy=>(Ea (vz y) (by simpa using hy)).1,?_⟩
 rw[EF];simp only[List.any_toArray,IY];constructor
 .rintro⟨y,hy,hk⟩;obtain⟨j,hj,rfl⟩:=FM hy;have z:=(Ea (vz its[j]) hy).2 j hj rfl;rw[hk]at z;refine⟨ds.getD j .O,?_,z⟩;rw[Du,Cr (by omega)]
  exact DR _
 .rintro⟨y,hy,hk⟩;obtain⟨j,hj,rfl⟩:=FM hy;have qm:j<its.length:=by omega
  refine⟨its[j],DR _,?_⟩;have z:=(Ea (vz its[j]) (DR _)).2 j qm rfl;rw[<-z,Du,Cr hj];exact hk
theorem N8{g:Ai->Ai->Ao}(ho:xw X (DB op) (n9 λi j=>.bl (g i j)))(hg:∀ dx dy,(∃ i j,dx=.int i/\dy=.int j/\BZ op dx dy=.ok (.bl (g i j)))\/BZ op dx dy=.bad):ua X CL W (DB op) (BZ op):=by
 intro A pI s U H x y v u Q I rx ry ⟨hA,dx,dy,hx,hy,p⟩;rcases hg dx dy with ⟨i,j,rfl,rfl,e⟩|e
 .have ex:=hx.int_of;have ey:=hy.int_of
  subst ex ey;rw[e]at p;exact ho pI s U H _ _ v u Q I rx ry ⟨i,j,rfl,rfl,p _ H (Aw.refl H) rfl⟩
 .rw[e]at p;exact p.elim
theorem UE{X:Cx}{x:V}(h:CG X.K CL H A x d)(hd:d≠.O):x≠.O:=by
 rintro rfl;have h:=h.plain;cases d with
 |O=>exact hd rfl
 |H=>obtain⟨_,_,e,_⟩:=h;cases e
 |L=>obtain⟨_,_,e,_⟩:=h;cases e
 |obj=>obtain⟨_,_,_,_,e,_⟩:=h;cases e
 |exc=>obtain⟨_,_,_,e,_⟩:=h;cases e
 |dic=>exact h.elim
 |_=>cases h
theorem Kh(hu:X.A.units+64<BD)(op:Hk):ua X CL W (DB op) (BZ op):=by
 cases op with
 |Eq=>
  intro A pI s U H x y v u Q I rx ry ⟨hA,dx,dy,hx,hy,p⟩;rw[ax]at p;split at p
  .rename_i h;simp only[As]at h;exact(Mw I 5 dx dy x y v u X.A h.1 h.2 hx.plain hy.plain rx ry (by omega)).1 X.prog X.w X.xe _ ⟨.bl _,H,I,rfl,p _ H (Aw.refl H) rfl⟩
  .exact p.elim
 |NotEq=>
  intro A pI s U H x y v u Q I rx ry ⟨hA,dx,dy,hx,hy,p⟩;rw[bj]at p;split at p
  .rename_i h;simp only[As]at h;exact(Mw I 5 dx dy x y v u X.A h.1 h.2 hx.plain hy.plain rx ry (by omega)).2.2 X.prog X.w X.xe _ ⟨.bl _,H,I,rfl,p _ H (Aw.refl H) rfl⟩
  .exact p.elim
 |Lt=>
  refine N8 zG λdx dy=>?_
  cases dx with
  |int i=>
   cases dy with
   |int j=>exact .inl ⟨i,j,rfl,rfl,rfl⟩
   |_=>exact .inr rfl
  |_=>exact .inr rfl
 |LtE=>
  refine N8 zH λdx dy=>?_
  cases dx with
  |int i=>
   cases dy with
   |int j=>exact .inl ⟨i,j,rfl,rfl,rfl⟩
   |_=>exact .inr rfl
  |_=>exact .inr rfl
 |Gt=>
  refine N8 zJ λdx dy=>?_
  cases dx with
  |int i=>
   cases dy with
   |int j=>exact .inl ⟨i,j,rfl,rfl,rfl⟩
   |_=>exact .inr rfl
  |_=>exact .inr rfl
 |GtE=>
  refine N8 zK λdx dy=>?_
  cases dx with
  |int i=>
   cases dy with
   |int j=>exact .inl ⟨i,j,rfl,rfl,rfl⟩
   |_=>exact .inr rfl
  |_=>exact .inr rfl
 |In=>
  intro A pI s U H x y v u Q I rx ry ⟨hA,dx,dy,hx,hy,p⟩;cases dy with
  |L es=>
   rw[RB]at p;split at p
   .rename_i h;simp only[As]at h;obtain⟨a,xs,e,_,sq,r⟩:=hy.plain;subst e;cases ry;obtain⟨its,rv,pl,_⟩:=I.list sq;obtain⟨e,he,ha⟩:=Os I (n:=5) X.A.in1 h.1 h.2 r rv hx.plain rx (by show X.A.units+1+5<BD;omega)
    refine SeqAt.in_listAt e (Ld pl) he ?_;rw[ha];exact⟨.bl _,H,I,rfl,p _ H (Aw.refl H) rfl⟩
   .exact p.elim
  |H es=>
   rw[Zf]at p;split at p
   .rename_i h;simp only[As]at h;obtain⟨a,xs,e,_,sq,r⟩:=hy.plain;subst e;cases ry;obtain⟨its,rv,pl,_⟩:=I.tuple sq;obtain⟨e,he,ha⟩:=Os I (n:=5) X.A.in1 h.1 h.2 r rv hx.plain rx (by show X.A.units+1+5<BD;omega)
    refine SeqAt.in_tupleAt e pl he ?_;rw[ha];exact⟨.bl _,H,I,rfl,p _ H (Aw.refl H) rfl⟩
   .exact p.elim
  |dic kvs=>exact hy.plain.elim
  |_=>exact p.elim
 |NotIn=>
  intro A pI s U H x y v u Q I rx ry ⟨hA,dx,dy,hx,hy,p⟩;cases dy with
  |L es=>
   rw[yP]at p;split at p
   .rename_i h;simp only[As]at h;obtain⟨a,xs,e,_,sq,r⟩:=hy.plain;subst e;cases ry;obtain⟨its,rv,pl,_⟩:=I.list sq;obtain⟨e,he,ha⟩:=Os I (n:=5) X.A.in1 h.1 h.2 r rv hx.plain rx (by show X.A.units+1+5<BD;omega)
    refine SeqAt.notIn_listAt e (Ld pl) he ?_;rw[ha];exact⟨.bl _,H,I,rfl,p _ H (Aw.refl H) rfl⟩
   .exact p.elim
  |H es=>
   rw[yO]at p;split at p
   .rename_i h;simp only[As]at h;obtain⟨a,xs,e,_,sq,r⟩:=hy.plain;subst e;cases ry;obtain⟨its,rv,pl,_⟩:=I.tuple sq;obtain⟨e,he,ha⟩:=Os I (n:=5) X.A.in1 h.1 h.2 r rv hx.plain rx (by show X.A.units+1+5<BD;omega)
    refine SeqAt.notIn_tupleAt e pl he ?_;rw[ha];exact⟨.bl _,H,I,rfl,p _ H (Aw.refl H) rfl⟩
   .exact p.elim
  |_=>exact p.elim
 |Is=>
  intro A pI s U H x y v u Q I rx ry ⟨hA,dx,dy,hx,hy,p⟩;cases dy with
  |O=>
   have ey:=hy.non_of;subst ey;refine rR pI s U H _ _ v u Q I rx ry ⟨rfl,?_⟩;cases dx with
   |O=>
    have ex:=hx.non_of;subst ex;exact p _ H (Aw.refl H) rfl
   |exc=>exact p.elim
   |dic=>exact p.elim
   |_=>rw[Bq (UE hx (by simp))];exact p _ H (Aw.refl H) rfl
  |bl b=>
   cases dx with
   |bl a=>
    have ey:=hy.bl_of;have ex:=hx.bl_of;subst ex ey;cases rx;cases ry;refine wpAny_is_plain rfl ⟨.bl (a==b),H,I,?_,p _ H (Aw.refl H) rfl⟩;cases a<;>cases b<;>rfl
   |_=>exact p.elim
  |_=>cases dx<;>exact p.elim
 |IsNot=>
  intro A pI s U H x y v u Q I rx ry ⟨hA,dx,dy,hx,hy,p⟩;cases dy with
  |O=>
   have ey:=hy.non_of;subst ey;refine jW pI s U H _ _ v u Q I rx ry ⟨rfl,?_⟩;cases dx with
   |O=>
    have ex:=hx.non_of;subst ex;exact p _ H (Aw.refl H) rfl
   |exc=>exact p.elim
   |dic=>exact p.elim
   |_=>rw[Bq (UE hx (by simp))];exact p _ H (Aw.refl H) rfl
  |bl b=>
   cases dx with
   |bl a=>
    have ey:=hy.bl_of;have ex:=hx.bl_of;subst ex ey;cases rx;cases ry;refine wpAny_isNot_plain rfl ⟨.bl (!(a==b)),H,I,?_,p _ H (Aw.refl H) rfl⟩;cases a<;>cases b<;>rfl
   |_=>exact p.elim
  |_=>cases dx<;>exact p.elim
section
variable{a b:Aq}
theorem Dx.bind(h:Dx W H (r.bind f) Q)(k:∀ d v H',r=.ok d->Aw H H'->Rp H' v d->Dx W H' (f d) Q->Q' v H'):AX Rp W H r Q':=by
 cases r with
 |ok d=>exact λv H2 s2 q=>k d v H2 rfl s2 q (Dx.same s2 h)
 |exn x=>exact h
 |bad=>exact h
theorem Dx.bindB{r:R Ao}(h:Dx W H (r.bind f) Q)(k:∀ b H',r=.ok b->Aw H H'->Dx W H' (f b) Q->Q' b H'):Dx W H r Q':=by
 cases r with
 |ok d=>exact λH2 s2=>k d H2 rfl s2 (Dx.same s2 h)
 |exn x=>exact h
 |bad=>exact h
theorem Ji.bind{r:R (Ac D)}(h:AX Rq W H (r.bind f) Q)(k:∀ d v H',r=.ok d->Aw H H'->Rp H' v d->AX Rq W H' (f d) Q->Q' v H'):Ji Rp W H r Q':=by
 cases r with
 |ok d=>exact λv H2 s2 q=>k d v H2 rfl s2 q (AX.same s2 h)
 |exn x=>exact h
 |bad=>exact h
theorem qD(ha:ST X CL W a fa):SE X CL W (.UnaryOp .USub a pos) (λY=>(fa Y).bind λx=>Χ .USub x):=λA=>PE.weak (zB rF (ha A)) λU H Q ⟨hA,Y,g,p⟩=>⟨hA,Y,g,AX.bind p λd v H1 _ s1 r1 p1=>by
 cases d with
 |int i=>
  have e:=r1.int_of;subst e;exact⟨i,rfl,p1 _ H1 (Aw.refl H1) rfl⟩
 | _=>exact p1.elim⟩
theorem eE(h:AX Rq W H ((Fx d).bind f) Q):∃ c,d=.bl c/\AX Rq W H (f c) Q:=by
 cases d with
 |bl c=>exact⟨c,rfl,h⟩
 |_=>exact h.elim
theorem qA(ha:SE X CL W a fa):SE X CL W (.BoolOp op [a] pos) fa:=λA=>UZ (ha A)
theorem sX{rest:Ac Aq}(ha:SE X CL W a fa)(hb:SE X CL W (.BoolOp .And (b::rest) pos) fb):SE X CL W (.BoolOp .And (a::b::rest) pos) (λY=>(fa Y).bind λx=>(Fx x).bind λc=>if c=Ab then fb Y else .ok (.bl Ad)):=
 λA=>PE.weak (U_3 (ha A) (hb A)) λU H Q ⟨hA,Y,g,p⟩=>⟨hA,Y,g,AX.bind p λd v H1 _ s1 r1 p1=>by
  obtain⟨c,rfl,p2⟩:=eE p1;refine⟨c,r1,?_⟩;cases c with
  |true=>exact⟨hA.same s1,Y,g.same s1,p2⟩
  | false=>exact p2 _ H1 (Aw.refl H1) rfl⟩
theorem TX{xs:Ac D}{i:Ai}(h:Ee xs i=.ok d):∃ k,pz xs.length i=Aa k/\xs[k]?=Aa d:=by
 unfold Ee at h;split at h
 .rename_i k e;split at h
  .rename_i d' e';cases h;exact⟨k,e,e'⟩
  .cases h
 .cases h
theorem P7{xs:Ac D}{i:Ai}{x:Ex}(h:Ee xs i=.exn x):AN:=by
 unfold Ee at h;split at h
 .split at h<;>cases h
 .cases h
theorem Up{i:Ai}(r:Y9 K CL H A xs ds)(h:Ee ds i=.ok d):∃ v,u7 xs i=Aa v/\Y6 K CL H A v d:=by
 obtain⟨k,e,q⟩:=TX h;obtain⟨v,hv,rv⟩:=r.get q;refine⟨v,?_,rv⟩;unfold u7;have:ó xs.length i=Aa k:=by rw[r.length];exact e
 rw[this];exact hv
theorem oK{i:Ai}(h:Ee (NP z) i=.ok d):∃ c,u7 z.cps.toList i=Aa c/\d=.str ⟨#[c]⟩:=by
 obtain⟨k,e,q⟩:=TX h;unfold NP at e q;rw[Bb]at e;rw[Ef]at q;cases hc:z.cps.toList[k]? with
 |none=>rw[hc]at q;cases q
 |some c=>
  rw[hc]at q;refine⟨c,?_,(Bj q).symm⟩;unfold u7;have:ó z.cps.toList.length i=Aa k:=e;rw[this];exact hc
theorem RV(h:Dd n=Ab):n<=sizeLine:=by
 unfold Dd at h;have:=AK h;rw[BE];omega
theorem sU(hs:Oc b)(ha:ST X CL W a fa)(hb:ST X CL W b fb):SE X CL W (.Subscript a b pos) (λY=>(fa Y).bind λx=>(fb Y).bind λy=>D4 x y):=
 λA=>PE.weak (Q6 (r:=rIx X.K) uB (ha A) (hb A) hs) λU H Q h=>by
  obtain⟨hA,Y,g,h⟩:=op2 h;refine⟨hA,Y,g,?_⟩;cases e:fa Y with
  |bad=>rw[e]at h;exact h
  |exn x=>rw[e]at h;exact h
  |ok dx0=>
   rw[e]at h;intro x H1 s1 r1;obtain⟨je,Y1,g1,h1⟩:=h x H1 s1 r1;refine⟨je,Y1,g1,?_⟩;cases e1:fb Y1 with
   |bad=>rw[e1]at h1;exact h1
   |exn x=>rw[e1]at h1;exact h1
   |ok dy0=>
    rw[e1]at h1;intro y H2 s2 r2;obtain⟨Ϟ,dx,dy,rx,ry,p⟩:=h1 y H2 s2 r2;cases dy with
    |int i=>
     have ey:=ry.int_of;subst ey;cases dx with
     |L ds=>
      obtain⟨q,xs,rfl,sq,r⟩:=rx.lst_of;rw[az]at p;cases e2:Ee ds i with
      |ok d=>
       rw[e2]at p;obtain⟨v,hv,rv⟩:=Up r e2;exact .inl ⟨q,xs,i,v,rfl,rfl,sq,hv,p v H2 (Aw.refl H2) rv⟩
      |exn x=>exact(P7 e2).elim
      |bad=>rw[e2]at p;exact p.elim
     |H ds=>
      obtain⟨q,xs,rfl,_,sq,r⟩:=rx.tup_of;rw[ay]at p;cases e2:Ee ds i with
      |ok d=>
       rw[e2]at p;obtain⟨v,hv,rv⟩:=Up r e2;exact .inr (.inl ⟨q,xs,i,v,rfl,rfl,sq,hv,p v H2 (Aw.refl H2) rv⟩)
      |exn x=>exact(P7 e2).elim
      |bad=>rw[e2]at p;exact p.elim
     |str z=>
      have ex:=rx.str_of;subst ex;have p':AX (λH=>Y6 X.K CL H A) W H2 (if Dd z.length=Ab then Ee (NP z) i else .bad) Q:=p
      split at p'
      .rename_i hz;cases e2:Ee (NP z) i with
       |ok d=>
        rw[e2]at p';obtain⟨c,hc,rfl⟩:=oK e2;exact .inr (.inr ⟨z,i,c,rfl,rfl,RV hz,hc,p' _ H2 (Aw.refl H2) rfl⟩)
       |exn x=>exact(P7 e2).elim
       |bad=>rw[e2]at p';exact p'.elim
      .exact p'.elim
     |dic=>exact rx.plain.elim
     |_=>exact p.elim
    |_=>cases dx<;>first|exact p.elim|exact rx.plain.elim
theorem tI:SA X CL W [] (λ_=>.ok []):=λA=>PA.weak B9 λU H Q ⟨hA,Y,g,p⟩=>p [] H (Aw.refl H) trivial
theorem lV(ha:SE X CL W a fa)(hs:SA X CL W es fs)(xm:At (a::es) X.env=(Ad,eval a X.env)::At es X.env):SA X CL W (a::es) (λY=>(fa Y).bind λx=>(fs Y).bind λxs=>.ok (x::xs)):=
 λA=>PA.weak (Bm (ha A) (hs A) xm) λU H Q ⟨hA,Y,g,p⟩=>by
  dsimp only at p;refine⟨hA,Y,g,?_⟩;cases e:fa Y with
  |bad=>rw[e]at p;exact p
  |exn x=>rw[e]at p;exact p
  |ok d=>
   rw[e]at p;intro v H1 s1 r1;refine⟨hA.same s1,Y,g.same s1,?_⟩;cases e1:fs Y with
   |bad=>rw[R.bind_ok,e1]at p;exact p
   |exn x=>rw[R.bind_ok,e1]at p;exact λH2 s2=>p H2 (s1.trans s2)
   |ok ds=>
    rw[R.bind_ok,e1]at p;exact λvs H2 s2 r2=>p (v::vs) H2 (s1.trans s2) ⟨r1.same s2,r2⟩
theorem pZ(hs:SA X CL W es fs)(hz:∀ Y ds,fs Y=.ok ds->ds.length<=100000):SE X CL W (.Tuple es k pos) (λY=>(fs Y).bind λxs=>.ok (.H xs)):=
 λA=>PE.weak (QL (hs A)) λU H Q ⟨hA,Y,g,p⟩=>⟨hA,Y,g,Ji.bind p λds vs H1 e s1 r1 p1=>⟨by
  rw[r1.length,BE];have:=hz Y ds e;omega,λq hq=>p1 _ _ (FW hq _) (Nh (hA.same s1) hq r1)⟩⟩
def Nz(W:XW)(H:Hp)(r:R (Am Ai))(Q:Am Ai->Hp->Prop):Prop:=match r with
  |.ok o=>∀ H',Aw H H'->Q o H'
  |.exn x=>∀ H',Aw H H'->W x H'
  |.bad=>AN
def SO(X:Cx)(CL:ClA)(W:XW)(e:Am Aq)(f:Rho->R (Am Ai)):Prop:=∀ A,PO X e (λU H Q=>J4 H A/\∃ Y,U9 X.K CL A Y U H/\Nz W H (f Y) Q)
theorem PO.weak{e:Am Aq}(h:PO X e t)(k:∀ U H Q,t' U H Q->t U H Q):PO X e t':=λpI s U H Q I q=>h pI s U H Q I (k _ _ _ q)
theorem lB:SO X CL W Ae (λ_=>.ok Ae):=λA=>PO.weak kR λU H Q ⟨hA,Y,g,p⟩=>p H (Aw.refl H)
theorem lA(ha:ST X CL W a fa):SO X CL W (Aa a) (λY=>(fa Y).bind λd=>(Gh d).bind λi=>.ok (Aa i)):=λA=>PO.weak (kQ (ha A)) λU H Q ⟨hA,Y,g,p⟩=>by
 dsimp only at p;refine⟨hA,Y,g,?_⟩;cases e:fa Y with
 |bad=>rw[e]at p;exact p
 |exn x=>rw[e]at p;exact p
 |ok d=>
  rw[e]at p;intro v H1 s1 r1;cases d with
  |int i=>exact⟨i,r1.int_of,p H1 s1⟩
  |_=>exact p.elim
theorem Uw(lo hi:Am Ai)(r:Y9 K CL H A xs ds):Y9 K CL H A (Lr xs lo hi) (Kx ds lo hi):=by
 unfold Lr Kx;have e:∀ d o,HT.sIx xs.length d o=JQ ds.length d o:=λd o=>by rw[r.length];cases o<;>rfl
 rw[e,e,r.length];exact(r.drop _).take _
end
section
variable{a:Aq}
def Jj(K:Fg)(CL:ClA)(H:Hp)(A:Ak->Prop):Ac V->Ac D->Prop
 |[],[]=>HV
 |v::vs,d::ds=>CG K CL H A v d/\Jj K CL H A vs ds
 |_,_=>AN
theorem Jj.one(h:Jj K CL H A vs [d]):∃ v,vs=[v]/\CG K CL H A v d:=by
 cases vs with
 |nil=>exact h.elim
 |cons v vs=>
  cases vs with
  |nil=>exact⟨v,rfl,h.1⟩
  |cons=>exact h.2.elim
theorem Jj.two{e:D}(h:Jj K CL H A vs [d,e]):∃ v w',vs=[v,w']/\CG K CL H A v d/\CG K CL H A w' e:=by
 cases vs with
 |nil=>exact h.elim
 |cons v vs=>
  cases vs with
  |nil=>exact h.2.elim
  |cons w' vs=>
   cases vs with
   |nil=>exact⟨v,w',rfl,h.1,h.2.1⟩
   |cons=>exact h.2.2.elim
def oq(X:Cx)(CL:ClA)(W:XW)(es:Ac Aq)(f:Rho->R (Ac D)):Prop:=∀ A,PA X es (λU H Q=>J4 H A/\∃ Y,U9 X.K CL A Y U H/\Ji (λH=>Jj X.K CL H A) W H (f Y) Q)
theorem lT:oq X CL W [] (λ_=>.ok []):=λA=>PA.weak B9 λU H Q ⟨hA,Y,g,p⟩=>p [] H (Aw.refl H) trivial
theorem gQ(ha:ST X CL W a fa)(hs:oq X CL W es fs)(xm:At (a::es) X.env=(Ad,eval a X.env)::At es X.env):oq X CL W (a::es) (λY=>(fa Y).bind λx=>(fs Y).bind λxs=>.ok (x::xs)):=
 λA=>PA.weak (Bm (ha A) (hs A) xm) λU H Q ⟨hA,Y,g,p⟩=>by
  dsimp only at p;refine⟨hA,Y,g,?_⟩;cases e:fa Y with
  |bad=>rw[e]at p;exact p
  |exn x=>rw[e]at p;exact p
  |ok d=>
   rw[e]at p;intro v H1 s1 r1;refine⟨hA.same s1,Y,g.same s1,?_⟩;cases e1:fs Y with
   |bad=>rw[R.bind_ok,e1]at p;exact p
   |exn x=>rw[R.bind_ok,e1]at p;exact λH2 s2=>p H2 (s1.trans s2)
   |ok ds=>
    rw[R.bind_ok,e1]at p;exact λvs H2 s2 r2=>p (v::vs) H2 (s1.trans s2) ⟨r1.same s2,r2⟩
def Kn(X:Cx)(CL:ClA)(W:XW)(f:Aj)(g:Ac D->R D):Prop:=∀ A,GN X f (λxs H Q=>J4 H A/\∃ ds,Jj X.K CL H A xs ds/\AX (λH=>Y6 X.K CL H A) W H (g ds) Q)
theorem Oi{id:Da}(hc:Kn X CL W (.builtin id) g)(hg:Gl X x)(hm:X.mg x=Ae)(hv:Ds x=Aa (.builtin id))(ha:oq X CL W (e::es) fs)(hn:x≠"__name__")(zh:(x==("__debug__" : Ah))=Ad)(he:At (e::es) X.env=(Ad,eval e X.env)::At es X.env)(zj:∀ pos,(Br pos (At es X.env)).any (·.1)=Ad):SE X CL W (.Call (.Name x p) (e::es) [] pos) (λY=>(fs Y).bind g):=λA=>PE.weak (Mj (hc A) hg hm hv (ha A) hn zh he (zj _)) λU H Q ⟨hA,Y,gd,q⟩=>⟨hA,Y,gd,Ji.bind q λds vs H1 _ s1 r1 p1=>⟨hA.same s1,ds,r1,p1⟩⟩
theorem QS(hc:Kn X CL W (.type T) g)(hg:Gl X x)(hm:X.mg x=Ae)(hv:Ds x=Aa (.type T))(ha:oq X CL W (e::es) fs)(hn:x≠"__name__")(zh:(x==("__debug__" : Ah))=Ad)(he:At (e::es) X.env=(Ad,eval e X.env)::At es X.env)(zj:∀ pos,(Br pos (At es X.env)).any (·.1)=Ad):SE X CL W (.Call (.Name x p) (e::es) [] pos) (λY=>(fs Y).bind g):=λA=>PE.weak (PM (hc A) hg hm hv (ha A) hn zh he (zj _)) λU H Q ⟨hA,Y,gd,q⟩=>⟨hA,Y,gd,Ji.bind q λds vs H1 _ s1 r1 p1=>⟨hA.same s1,ds,r1,p1⟩⟩
theorem vK:Kn X CL W (.builtin "len") (zm .len):=by
  intro A pI s U H xs us Q I r ⟨hA,ds,rs,p⟩
  match ds,rs,p with
  |[.L es],rs,p=>
    obtain⟨v,rfl,rv⟩:=rs.one;obtain⟨q,ys,rfl,sq,ry⟩:=rv.lst_of;exact N3 pI s U H _ us Q I r ⟨q,ys,rfl,.inl sq,p _ H (Aw.refl H) (by rw[ry.length];rfl)⟩
  |[.H es],rs,p=>
    obtain⟨v,rfl,rv⟩:=rs.one;obtain⟨q,ys,rfl,_,sq,ry⟩:=rv.tup_of;exact N3 pI s U H _ us Q I r ⟨q,ys,rfl,.inr sq,p _ H (Aw.refl H) (by rw[ry.length];rfl)⟩
  |[.str x],rs,p=>
    obtain⟨v,rfl,rv⟩:=rs.one;have e:=rv.str_of;subst e;have p':AX (λH=>Y6 X.K CL H A) W H (if Dd x.length=Ab then .ok (.int x.length) else .bad) Q:=p
    split at p'
    · rename_i h;exact aW pI s U H _ us Q I r ⟨x,rfl,K8 h,p' _ H (Aw.refl H) rfl⟩
    · exact p'.elim
  |[],_,p=>exact p.elim
  |[.O],_,p=>exact p.elim
  |[.bl _],_,p=>exact p.elim
  |[.int _],_,p=>exact p.elim
  |[.obj _ _],_,p=>exact p.elim
  |[.exc _ _],_,p=>exact p.elim
  |[.dic _],rs,p=>first|exact p.elim|(obtain⟨v,rfl,rv⟩:=rs.one;exact rv.plain.elim)
  |x::_::_,_,p=>cases x<;>exact p.elim
theorem SM:∀(is:Ac Ai)(i:Ai),JU i is∈i::is/\∀ a∈i::is,JU i is<=a
 |[],i=>⟨AR,λa h=>by rw[List.mem_singleton]at h;rw[h];exact WT _⟩
 |j::r,i=>by
  obtain⟨h1,h2⟩:=SM r (if j<i then j else i)
  refine⟨?_,λa h=>?_⟩
  .show JU (if j<i then j else i) r∈_
   rcases AE.mp h1 with e|e
   .rw[e];split
    .exact Ay _ AR
    .exact AR
   .exact Ay _ (Ay _ e)
  .show JU (if j<i then j else i) r<=a
   have h0:=h2 _ AR;rcases AE.mp h with e|e
   .subst e;refine WU h0 ?_;split<;>omega
   .rcases AE.mp e with e|e
    .subst e;refine WU h0 ?_;split<;>omega
    .exact h2 a (Ay _ e)
theorem RP:∀{is:Ac Ai}{its:Ac Aj},AZ (is.map V.int) its->∃ xs:A3 (Ai×Ch),its.toArray=M4 xs/\xs.toList.map (·.1)=is
 |[],_,h=>by cases h;exact⟨#[],by simp[M4],rfl⟩
 |i::is,_,h=>by
  cases h with
  |cons h1 h2=>
   obtain⟨t,rfl⟩:=h1;obtain⟨xs,e1,e2⟩:=RP h2;refine⟨((i,t)::xs.toList).toArray,?_,?_⟩
   .apply Array.toList_inj.mp
    have Ũ:=congrArg KM e1;simp[M4]at Ũ ⊢;exact Ũ
   .simp[e2]
theorem eO(hc:X.calm=Ab):GN X (.builtin "min") (λxs H Q=>∃ a i is,xs=[.ref a]/\zr X.K H a ((i::is).map V.int)/\Q (.int (JU i is)) H):=by
 intro pI s U H xs us Q I r h;obtain⟨a,i,is,rfl,sq,q⟩:=h;obtain⟨u,rfl,ru⟩:=IG r;cases ru;obtain⟨its,rv,pl,hz⟩:=I.list sq;obtain⟨ys,e1,e2⟩:=RP rv;have hsz:0<ys.size:=by
  have:=congrArg Xa e2;simp at this;omega
 have hl:=pl.isList;rw[e1]at hl;refine min_intList (I.ok.hd hc) hl hsz λv h' tk hv hk=>?_
 obtain⟨t,rfl⟩:=intItems_at hv;obtain⟨h1,h2⟩:=argBest_lt (Kd ys) (ys.size-1);have nm:∀ j,j<ys.size->Kd ys j∈i::is:=λj hj=>by
  rw[<-e2];unfold Kd;rw[BP hj];simp only[Xr,Option.getD_some];exact List.mem_map.mpr ⟨ys[j],by simp,rfl⟩
 have nx:∀ x∈i::is,∃ j,j<ys.size/\Kd ys j=x:=λx hx=>by
  rw[<-e2]at hx;obtain⟨y,hy,rfl⟩:=F8.mp hx;obtain⟨j,hj,ej⟩:=Array.mem_iff_getElem.mp (WN.mp hy);refine⟨j,hj,?_⟩;unfold Kd;rw[BP hj,ej];rfl
 obtain⟨m1,m2⟩:=SM is i;have em:Kd ys (argBest (λi j=>decide (Kd ys i<Kd ys j)) (ys.size-1))=JU i is:=by
  refine Int.le_antisymm ?_ (m2 _ (nm _ (by omega)))
  obtain⟨j,hj,ej⟩:=nx _ m1;rw[<-ej];exact h2 j (by omega)
 rw[em];exact⟨.int (JU i is),H,I.kept hk,⟨_,rfl⟩,q⟩
theorem RQ{K:Fg}{H:Hp}{A:Ak->Prop}:∀{es:Ac D}{is:Ac Ai}{ys:Ac V},Kr es=Aa is->Y9 K CL H A ys es->ys=is.map V.int
 |[],_,[],h,_=>by cases h;rfl
 |[],_,_::_,_,r=>r.elim
 |_::_,_,[],_,r=>r.elim
 |e::es,is,y::ys,h,r=>by
  cases e with
  |int i=>
   have h':(Kr es).map (i :: ·)=Aa is:=h;cases e2:Kr es with
   |none=>rw[e2]at h';cases h'
   |some js=>
    rw[e2]at h';cases h';have ih:=RQ e2 r.2;have e1:y=.int i:=r.1;rw[ih,e1];rfl
  |_=>cases h
theorem dC(ds:Ac D)(hl:∀ es,ds≠[.L es]):(∃ i j,ds=[.int i,.int j])\/zm .min ds=.bad:=by
 have mn:∀ {ds},zm .min ds=.bad->(∃ i j,ds=[D.int i,.int j])\/zm .min ds=.bad:=.inr;rcases ds with _|⟨x,_|⟨y,_|⟨z,r⟩⟩⟩
 .exact mn rfl
 .cases x with
  |L es=>exact absurd rfl (hl es)
  |_=>exact mn rfl
 .cases x with
  |int i=>
   cases y with
   |int j=>exact .inl ⟨i,j,rfl⟩
   |_=>exact mn rfl
  |_=>exact mn rfl
 .cases x with
  |int i=>cases y<;>exact mn rfl
  |_=>exact mn rfl
theorem vJ(hc:X.calm=Ab):Kn X CL W (.builtin "min") (zm .min):=by
  intro A pI s U H xs us Q I r ⟨hA,ds,rs,p⟩;by_cases hls:∃ es,ds=[.L es]
  · obtain⟨es,rfl⟩:=hls;obtain⟨v,rfl,rv⟩:=rs.one;obtain⟨a,ys,rfl,sq,ry⟩:=rv.lst_of;have p':AX (Y6 X.K CL · A) W H (match Kr es with
      |some (i::is)=>R.ok (.int (JU i is))
      | _=>.bad) Q:=p
    cases e1:Kr es with
    |none=>rw[e1]at p';exact p'.elim
    |some is=>
      cases is with
      |nil=>rw[e1]at p';exact p'.elim
      |cons i is=>
        rw[e1]at p';have ey:=RQ e1 ry;subst ey;exact eO hc pI s U H _ us Q I r ⟨a,i,is,rfl,sq,p' _ H (Aw.refl H) rfl⟩
  rcases dC ds (λes z=>hls ⟨es,z⟩) with ⟨i,j,rfl⟩|e
  · obtain⟨v,w',rfl,rv,wk⟩:=rs.two;have e1:=rv.int_of;have e2:=wk.int_of
    subst e1 e2;exact eP hc pI s U H _ us Q I r ⟨i,j,rfl,p _ H (Aw.refl H) rfl⟩
  · rw[e]at p;exact p.elim
theorem vL:Kn X CL W (.type "int") (zm .int):=by
  intro A pI s U H xs us Q I r ⟨hA,ds,rs,p⟩
  match ds,rs,p with
  |[.int i],rs,p=>
    obtain⟨v,rfl,rv⟩:=rs.one;have e:=rv.int_of;subst e;exact Sv pI s U H _ us Q I r (.inl ⟨i,rfl,p _ H (Aw.refl H) rfl⟩)
  |[.bl i],rs,p=>
    obtain⟨v,rfl,rv⟩:=rs.one;have e:=rv.bl_of;subst e;exact Sv pI s U H _ us Q I r (.inr ⟨i,rfl,p _ H (Aw.refl H) rfl⟩)
  |[],_,p=>exact p.elim
  |[.O],_,p=>exact p.elim
  |[.str _],_,p=>exact p.elim
  |[.H _],_,p=>exact p.elim
  |[.L _],_,p=>exact p.elim
  |[.obj _ _],_,p=>exact p.elim
  |[.exc _ _],_,p=>exact p.elim
  |[.dic _],rs,p=>first|exact p.elim|(obtain⟨v,rfl,rv⟩:=rs.one;exact rv.plain.elim)
  |x::_::_,_,p=>cases x<;>exact p.elim
theorem iC:Kn X CL W (.type "tuple") (zm .tuple):=by
  intro A pI s U H xs us Q I r ⟨hA,ds,rs,p⟩
  match ds,rs,p with
  |[.L es],rs,p=>
    obtain⟨v,rfl,rv⟩:=rs.one;obtain⟨q,ys,rfl,sq,ry⟩:=rv.lst_of;exact RM pI s U H _ us Q I r ⟨q,ys,rfl,.inl ⟨sq,λl hl=>p _ _ (FW hl _) (Nh hA hl ry)⟩⟩
  |[.H es],rs,p=>
    obtain⟨v,rfl,rv⟩:=rs.one;obtain⟨q,ys,rfl,na,sq,ry⟩:=rv.tup_of;exact RM pI s U H _ us Q I r ⟨q,ys,rfl,.inr ⟨sq,p _ H (Aw.refl H) ⟨q,ys,rfl,na,sq,ry⟩⟩⟩
  |[],_,p=>exact p.elim
  |[.O],_,p=>exact p.elim
  |[.bl _],_,p=>exact p.elim
  |[.int _],_,p=>exact p.elim
  |[.str _],_,p=>exact p.elim
  |[.obj _ _],_,p=>exact p.elim
  |[.exc _ _],_,p=>exact p.elim
  |[.dic _],rs,p=>first|exact p.elim|(obtain⟨v,rfl,rv⟩:=rs.one;exact rv.plain.elim)
  |x::_::_,_,p=>cases x<;>exact p.elim
end
section
variable{a b:Aq}
theorem tG(ha:SB X CL W a f):SB X CL W (.UnaryOp .Not a pos) (λY=>(f Y).bind λb=>.ok (!b)):=λA=>PT.weak (sL (ha A)) λU H Q ⟨hA,Y,g,p⟩=>⟨hA,Y,g,Dx.bindB p λb H1 _ s1 p1=>p1 H1 (Aw.refl H1)⟩
def SW(X:Cx)(CL:ClA)(W:XW)(e:Aq)(f:Rho->R Ao):Prop:=∀ A,PW X e (λU H Q=>J4 H A/\∃ Y,U9 X.K CL A Y U H/\Dx W H (f Y) Q)
theorem PW.weak(h:PW X e t)(k:∀ U H Q,t' U H Q->t U H Q):PW X e t':=λwh pI s U H Q I q=>h wh pI s U H Q I (k _ _ _ q)
theorem SW.sb(h:SW X CL W a f):SB X CL W a f:=λA=>PW.pt (h A)
theorem jK(ha:SB X CL W a f):SW X CL W (.BoolOp .And [a] pos) f:=λA=>TY (ha A)
theorem qL(ha:SB X CL W a f):SW X CL W (.BoolOp .Or [a] pos) f:=λA=>UV (ha A)
theorem qM{rest:Ac Aq}(ha:SB X CL W a f)(hb:SW X CL W (.BoolOp .And (b::rest) pos) g):SW X CL W (.BoolOp .And (a::b::rest) pos) (λY=>(f Y).bind λc=>if c=Ab then g Y else .ok Ad):=
 λA=>PW.weak (UW (ha A) (hb A)) λU H Q ⟨hA,Y,gd,p⟩=>⟨hA,Y,gd,Dx.bindB p λc H1 _ s1 p1=>by
  cases c with
  |true=>exact⟨hA.same s1,Y,gd.same s1,p1⟩
  | false=>exact p1 H1 (Aw.refl H1)⟩
theorem yH{rest:Ac Aq}(ha:SB X CL W a f)(hb:SW X CL W (.BoolOp .Or (b::rest) pos) g):SW X CL W (.BoolOp .Or (a::b::rest) pos) (λY=>(f Y).bind λc=>if c=Ab then .ok Ab else g Y):=
 λA=>PW.weak (Q9 (ha A) (hb A)) λU H Q ⟨hA,Y,gd,p⟩=>⟨hA,Y,gd,Dx.bindB p λc H1 _ s1 p1=>by
  cases c with
  |false=>exact⟨hA.same s1,Y,gd.same s1,p1⟩
  | true=>exact p1 H1 (Aw.refl H1)⟩
theorem tH(ho:ua X CL W (DB op) g)(ha:ST X CL W a fa)(hb:ST X CL W b fb)(hm:DQ op b=Ad):SB X CL W (.Compare a [op] [b] pos) (λY=>(fa Y).bind λx=>(fb Y).bind λy=>(g x y).bind Fx):=
 λA=>PT.weak (LF (ho A) (ha A) (hb A) hm) λU H Q ⟨hA,Y,gd,p⟩=>⟨hA,Y,gd,Dx.bind p λdx x H1 _ s1 r1 p1=>⟨hA.same s1,Y,gd.same s1,Dx.bind p1 λdy y H2 _ s2 r2 p2=>
  ⟨(hA.same s1).same s2,dx,dy,r1.same s2,r2,Dx.bind p2 λdz z H3 _ s3 r3 p3=>by
   cases dz with
   |bl k=>exact⟨k,r3,p3 H3 (Aw.refl H3)⟩
   | _=>exact p3.elim⟩⟩⟩
theorem UT(ha:ST X CL W a fa)(he:∀ whole,J_5 a X.env whole=(do let v <-whole;standAt a.pos;holding [v] (truthy v))):SB X CL W a (λY=>(fa Y).bind Ci):=
 λA=>PT.weak (gX (ha A) he) λU H Q ⟨hA,Y,g,p⟩=>⟨hA,Y,g,Dx.bind p λd v H1 _ s1 r1 p1=>by
  cases d with
  |O=>
   have e:=r1.non_of;subst e;exact⟨Ad,rfl,p1 H1 (Aw.refl H1)⟩
  |bl b=>
   have e:=r1.bl_of;subst e;exact⟨b,rfl,p1 H1 (Aw.refl H1)⟩
  |int i=>
   have e:=r1.int_of;subst e;exact⟨_,rfl,p1 H1 (Aw.refl H1)⟩
  |str x=>
   have e:=r1.str_of;subst e;have p2:Dx W H1 (if Dd x.length=Ab then .ok (x.length != 0) else .bad) Q:=p1
   split at p2
   .rename_i h;refine⟨_,⟨K8 h,rfl⟩,?_⟩;have e:((x.length:Ai) != 0)=(x.length != 0):=by
     rw[EF];simp
    rw[e];exact p2 H1 (Aw.refl H1)
   .exact p2.elim
  |H ds=>
   obtain⟨q,xs,rfl,_,sq,r⟩:=r1.tup_of;refine⟨_,.inr (.inl ⟨xs,sq,rfl⟩),?_⟩;have e:xs.isEmpty=ds.isEmpty:=by
    have:=r.length;cases xs<;>cases ds<;>first|rfl|cases this
   rw[e];exact p1 H1 (Aw.refl H1)
  |L ds=>
   obtain⟨q,xs,rfl,sq,r⟩:=r1.lst_of;refine⟨_,.inl ⟨xs,sq,rfl⟩,?_⟩;have e:xs.isEmpty=ds.isEmpty:=by
    have:=r.length;cases xs<;>cases ds<;>first|rfl|cases this
   rw[e];exact p1 H1 (Aw.refl H1)
  | _=>exact p1.elim⟩
def Za(K:Fg)(CL:ClA)(H:Hp)(A:Ak->Prop)(cls:Aj)(dx:Am Ak)(x:Ex):Prop:=
 ∃ C,CL x.c=Aa C/\cls=.ref C/\(x.fs=[]\/∃ d vs,dx=Aa d/\¬ A d/\H d=Aa (.xd vs)/\zq K CL H A vs x.fs)
def Db(K:Fg)(CL:ClA)(H:Hp)(cls:Aj)(dx:Am Ak)(x:Ex):Prop:=∀ A,J4 H A->Za K CL H A cls dx x
end
structure Fr where
 f:Ak->HO->Prop
 pin:Ag->Ak->HO->Prop
instance:CoeFun Fr λ_=>Ak->HO->Prop:=⟨Fr.f⟩
def Bf(B:Ak->Prop)(Y:Rho)(U:L2.St):Ak->Prop:=λa=>B a\/∃(j:Ag)(d:D),Y[j]?=Aa (Aa (d,Ab))/\U[j]?=Aa (Aa (.ref a))
structure Sx (K:Fg) (CL:ClA) (Fz:Fr) (B:Ak->Prop) (Y:Rho) (U:L2.St) (H:Hp):Prop where
 good:U9 K CL (Bf B Y U) Y U H
 aok:J4 H (Bf B Y U)
 new:∀(j:Ag)(d:D)(a:Ak),Y[j]?=Aa (Aa (d,Ab))->U[j]?=Aa (Aa (.ref a))->(∀ o,¬ Fz a o)/\¬ B a
 dis:∀(i j:Ag)(d e:D)(a:Ak),Y[i]?=Aa (Aa (d,Ab))->Y[j]?=Aa (Aa (e,Ab))->U[i]?=Aa (Aa (.ref a))->U[j]?=Aa (Aa (.ref a))->i=j
 same:∀ b o,Fz b o->H b=Aa o
 len:Y.length=U.length
 pin:∀ j:Ag,Y[j]?=Aa (Aa (.O,Ab))->∃ a o,Fz.pin j a o/\U[j]?=Aa (Aa (.ref a))/\H a=Aa o
def B6(K:Fg)(CL:ClA)(Fz:Fr)(B:Ak->Prop)(W:XW)(o:O)(D:wf):Prop:=match o with
  |.next Y=>∀ U H,Sx K CL Fz B Y U H->D.nx U H
  |.brk Y=>∀ U H,Sx K CL Fz B Y U H->D.bk U H
  |.cont Y=>∀ U H,Sx K CL Fz B Y U H->D.ct U H
  |.ret d fr=>∀ v H,(∀ b o,Fz b o->H b=Aa o)->Y6 K CL H B v d->(fr=Ab->∀ ds,d=.L ds->∃ a xs,v=.ref a/\(∀ o,¬ Fz a o)/\H a=Aa (.L xs)/\Y9 K CL H (λb=>B b\/b=a) xs ds)->D.rt v H
  |.exn x _=>∀ H,(∀ b o,Fz b o->H b=Aa o)->W x H
  |.bad=>AN
theorem Sx.mono(k:∀ b o,Fz b o->Fy b o)(kp:∀ j a xs,Fy.pin j a xs->Fz.pin j a xs)(x:Sx K CL Fy B Y U H):Sx K CL Fz B Y U H:=⟨x.good,x.aok,λj d a h1 h2=>⟨λo z=>(x.new j d a h1 h2).1 o (k _ _ z),(x.new j d a h1 h2).2⟩,x.dis,λb o z=>x.same b o (k _ _ z),x.len,λj h=>let ⟨a,xs,h1,h2⟩:=x.pin j h;⟨a,xs,kp _ _ _ h1,h2⟩⟩
theorem Sx.grow(x:Sx K CL Fz B Y U H)(s:Aw H H'):Sx K CL Fz B Y U H':=⟨x.good.same s,x.aok.same s,x.new,x.dis,λb o z=>s _ _ (x.same b o z),x.len,λj h=>let ⟨a,xs,h1,h2,h3⟩:=x.pin j h;⟨a,xs,h1,h2,s _ _ h3⟩⟩
theorem Cc{l:Ac α}{v:α}(h:i≠j):(l.set i v)[j]?=l[j]?:=by rw[Hf h]
theorem HX{l:Ac α}{v w':α}(h:(l.set i v)[i]?=Aa w'):w'=v:=by
 rw[GE]at h;cases e:l[i]? with
 |none=>rw[e]at h;cases h
 |some x=>rw[e]at h;cases h;rfl
theorem Sx.set(x:Sx K CL Fz B Y U H){v:V}{d:D}(i:Ag)(r:Y6 K CL H (Bf B Y U) v d):Sx K CL Fz B (Y.set i (Aa (d,Ad))) (U.set i (Aa v)) H:=by
 have own:∀(j:Ag)(e:D),(Y.set i (Aa (d,Ad)))[j]?=Aa (Aa (e,Ab))->i≠j/\Y[j]?=Aa (Aa (e,Ab)):=λj e h=>by
  by_cases hj:i=j
  .subst hj;have:=HX h;cases this
  .exact⟨hj,by rw[Cc hj]at h;exact h⟩
 have sub:∀ a,Bf B (Y.set i (Aa (d,Ad))) (U.set i (Aa v)) a->Bf B Y U a:=λa h=>by
  rcases h with h|⟨j,e,h1,h2⟩
  .exact .inl h
  .obtain⟨hj,h1⟩:=own j e h1;rw[Cc hj]at h2;exact .inr ⟨j,e,h1,h2⟩
 refine⟨⟨λj e h=>?_,λj e h hn=>?_,by rw[Bc,Bc];exact x.len⟩,λa h=>x.aok a (sub a h),λj e a h1 h2=>?_,λj k e f a h1 h2 h3 h4=>?_,x.same,by rw[Bc,Bc];exact x.len,λj h=>?_⟩
 .by_cases hj:i=j
  .subst hj;have e1:=HX h;cases e1;refine⟨v,?_,Y6.sub sub _ r⟩;have hl:i<U.length:=by
    rw[<-x.len];have:=(A8.mp h).1;simpa using this
   rw[Dr hl]
  .rw[Cc hj]at h;obtain⟨w',q,wk⟩:=x.good.sh j e h;exact⟨w',by rw[Cc hj];exact q,Y6.sub sub _ wk⟩
 .obtain⟨hj,h1⟩:=own j e h;obtain⟨a,xs,ds,q,z,ha,hh,rr⟩:=x.good.ow j e h1 hn;exact⟨a,xs,ds,by rw[Cc hj];exact q,z,.inr ⟨j,e,h,by rw[Cc hj];exact q⟩,hh,Y9.sub sub _ rr⟩
 .obtain⟨hj,h1⟩:=own j e h1;rw[Cc hj]at h2;exact x.new j e a h1 h2
 .obtain⟨hj,h1⟩:=own j e h1;obtain⟨hk,h2⟩:=own k f h2;rw[Cc hj]at h3;rw[Cc hk]at h4;exact x.dis j k e f a h1 h2 h3 h4
 .obtain⟨hj,h1⟩:=own j _ h;obtain⟨a,xs,p1,p2,p3⟩:=x.pin j h1;exact⟨a,xs,p1,by rw[Cc hj];exact p2,p3⟩
section
variable{X:Cx}
def SS(X:Cx)(CL:ClA)(W:XW)(st:AT)(f:Rho->O):Prop:=∀ Fz B,PS X st (λD U H=>∃ Y,Sx X.K CL Fz B Y U H/\B6 X.K CL Fz B W (f Y) D)
def ou(X:Cx)(CL:ClA)(W:XW)(st:Ac AT)(f:Rho->O):Prop:=∀ Fz B,zc X st (λD U H=>∃ Y,Sx X.K CL Fz B Y U H/\B6 X.K CL Fz B W (f Y) D)
theorem PS.weak{e:AT}(h:PS X e t)(k:∀ D U H,t' D U H->t D U H):PS X e t':=λpI s U H D I q=>h pI s U H D I (k _ _ _ q)
theorem zc.weak{e:Ac AT}(h:zc X e t)(k:∀ D U H,t' D U H->t D U H):zc X e t':=λpI s U H D I q=>h pI s U H D I (k _ _ _ q)
theorem B6.ex(x:Sx X.K CL Fz B Y U H)(h:B6 X.K CL Fz B W (O.of Y r f) D')(k:∀ d v H',r=.ok d->Aw H H'->Rp H' v d->Sx X.K CL Fz B Y U H'->B6 X.K CL Fz B W (f d) D'->Q v H'):AX Rp W H r Q:=by
 cases r with
 |ok d=>exact λv H' s r=>k d v H' rfl s r (x.grow s) h
 |exn y=>exact λH' s=>h H' λb o z=>s _ _ (x.same b o z)
 |bad=>exact h
theorem B6.exB{r:R Ao}(x:Sx X.K CL Fz B Y U H)(h:B6 X.K CL Fz B W (O.of Y r f) D')(k:∀ b H',r=.ok b->Aw H H'->Sx X.K CL Fz B Y U H'->B6 X.K CL Fz B W (f b) D'->Q b H'):Dx W H r Q:=by
 cases r with
 |ok d=>exact λH' s=>k d H' rfl s (x.grow s) h
 |exn y=>exact λH' s=>h H' λb o z=>s _ _ (x.same b o z)
 |bad=>exact h
theorem iK(he:SE X CL W e fe)(hs:Dp e Ae pos.line X.env=pure Ad):SS X CL W (.Expr e pos) (λY=>O.of Y (fe Y) λ_=>.next Y):=λFz B pI s U H D I ⟨Y,x,p⟩=>
 K9 (he (Bf B Y U)) hs pI s U H D I ⟨x.aok,Y,x.good,B6.ex x p λd v H' _ s r x' q=>q U H' x'⟩
theorem iI(he:SE X CL W e fe):SS X CL W (.Return (Aa e) pos) (λY=>O.of Y (fe Y) λd=>.ret d Ad):=λFz B pI s U H D I ⟨Y,x,p⟩=>
 Ft (he (Bf B Y U)) pI s U H D I ⟨x.aok,Y,x.good,B6.ex x p λd v H' _ s r x' q=>q v H' x'.same (Y6.sub (λa h=>.inl h) _ r) λz=>nomatch z⟩
theorem yJ{a b:Ac AT}(hc:SB X CL W c fc)(ha:ou X CL W a fa)(hb:ou X CL W b fb):SS X CL W (.If c a b pos) (λY=>O.of Y (fc Y) λk=>if k=Ab then fa Y else fb Y):=λFz B pI s U H D I ⟨Y,x,p⟩=>
 Fw (hc (Bf B Y U)) (ha Fz B) (hb Fz B) pI s U H D I ⟨x.aok,Y,x.good,B6.exB x p λk H' _ s x' q=>by
  cases k with
  |true=>exact⟨Y,x',q⟩
  | false=>exact⟨Y,x',q⟩⟩
theorem iG:ou X CL W [] (λY=>.next Y):=λFz B=>zc.weak Gf λD U H ⟨Y,x,p⟩=>p U H x
theorem gJ{st:AT}{rest:Ac AT}(h1:SS X CL W st f)(h2:ou X CL W rest g):ou X CL W (st::rest) (λY=>(f Y).seq g):=λFz B=>zc.weak (CF (h1 Fz B) (h2 Fz B)) λD U H ⟨Y,x,p⟩=>⟨Y,x,by
 dsimp only at p;cases e:f Y with
 |next Y'=>rw[e]at p;exact λU' H' x'=>⟨Y',x',p⟩
 |ret d b=>rw[e]at p;exact p
 |brk Y'=>rw[e]at p;exact p
 |cont Y'=>rw[e]at p;exact p
 |exn y Y'=>rw[e]at p;exact p
 | bad=>rw[e]at p;exact p⟩
end
def Ls(K:Fg)(CL:ClA)(A:Ak->Prop)(ds:Ac D)(J_:It)(H1:Hp):Prop:=∀ H,Kp A H1 H->∀ i:Ag,(ds.length<=i->J_.stop i H)/\∀ d,ds[i]?=Aa d->J_.go i H/\∀ x H',J_.yld i H x H'->Aw H H'/\∀ B,(∀ a,B a->A a\/H1 a=Ae)->J4 H B->Y6 K CL H' B x d
def Gi(K:Fg)(CL:ClA)(A:Ak->Prop)(W:XW)(H:Hp)(r:R (Ac D))(Q:It->Hp->Prop):Prop:=match r with
  |.ok ds=>∀ J_ H',Aw H H'->Ls K CL A ds J_ H'->ds.length<=sizeLine->Q J_ H'
  |.exn x=>∀ H',Aw H H'->W x H'
  |.bad=>AN
def SI(X:Cx)(CL:ClA)(W:XW)(tg iter:Aq)(f:Rho->R (Ac D)):Prop:=∀ A,PI X tg iter (λU H R=>J4 H A/\∃ Y,U9 X.K CL A Y U H/\Gi X.K CL A W H (f Y) R)
theorem PI.weak(h:PI X tg e t)(k:∀ U H Q,t' U H Q->t U H Q):PI X tg e t':=λpI s U H Q I q=>h pI s U H Q I (k _ _ _ q)
section
variable{X:Cx}{CL:ClA}{a b:Aq}
theorem Gi.ex(h:Gi X.K CL A W H (r.bind f) Q)(k:∀ d v H',r=.ok d->Aw H H'->Rp H' v d->Gi X.K CL A W H' (f d) Q->Q' v H'):AX Rp W H r Q':=by
  cases r with
  | ok d=>exact λv H' s q=>k d v H' rfl s q (by
      have h':Gi X.K CL A W H (f d) Q:=h;cases e:f d with
      |ok ds=>rw[e]at h';exact λJ_ H2 s2 y z=>h' J_ H2 (s.trans s2) y z
      |exn y=>rw[e]at h';exact λH2 s2=>h' H2 (s.trans s2)
      | bad=>rw[e]at h';exact h')
  |exn y=>exact h
  |bad=>exact h
theorem Pz{x:V}(r:Y6 K CL H1 A x d)(k:Kp A H1 H)(hB:∀ a,B a->A a\/H1 a=Ae):Y6 K CL H B x d:=by
 have r1:Y6 K CL H1 (λa=>A a\/B a) x d:=Y6.wide (λa ha=>ha.elim .inl (hB a)) _ r
 have r2:Y6 K CL H (λa=>A a\/B a) x d:=Y6.kp (λb o e na=>k b o e λz=>na (.inl z)) _ r1
 exact Y6.sub (λa ha=>.inr ha) _ r2
theorem bA(na:¬ A q\/KL K q xs)(s:zr K H q xs)(r:Y9 K CL H A xs ds):Ls K CL A ds (Itl K q) H:=λH' k i=>by
 have s':=Oz k na s;refine⟨λh=>⟨xs,s',by rw[r.length];exact h⟩,λd hd=>?_⟩
 obtain⟨v,hv,rv⟩:=r.get hd;exact⟨⟨xs,v,s',hv⟩,λx H2 ⟨e,y⟩=>by
  subst e;have:=y xs s';rw[hv]at this;cases this;exact⟨Aw.refl _,λB hB _=>Pz rv k hB⟩⟩
theorem dW(na:¬ A q\/KT K q xs)(s:yg K H q xs)(r:Y9 K CL H A xs ds):Ls K CL A ds (Itt K q) H:=λH' k i=>by
 have s':=Oy k na s;refine⟨λh=>⟨xs,s',by rw[r.length];exact h⟩,λd hd=>?_⟩
 obtain⟨v,hv,rv⟩:=r.get hd;exact⟨⟨xs,v,s',hv⟩,λx H2 ⟨e,y⟩=>by
  subst e;have:=y xs s';rw[hv]at this;cases this;exact⟨Aw.refl _,λB hB _=>Pz rv k hB⟩⟩
theorem TH(lo:Ai)(n:Ag):Ls K CL A (Jl lo n) (kq lo n) H:=λH' k i=>by
 refine⟨λh=>by rw[PJ]at h;exact h,λd hd=>?_⟩
 obtain⟨h1,rfl⟩:=gA hd;exact⟨h1,λx H2 ⟨e,y⟩=>by
  subst e y;exact⟨Aw.refl _,λ_ _ _=>rfl⟩⟩
theorem sQ(hl:PE X l tl):PI X tg l (λU H R=>tl U H λx H1=>(∃ a,x=.ref a/\(∃ xs,zr X.K H1 a xs/\(xs.length<=sizeLine->R (Itl X.K a) H1)))\/∃ a,x=.ref a/\(∃ xs,yg X.K H1 a xs/\(xs.length<=sizeLine->R (Itt X.K a) H1))):=by
 intro pI s U H R I h;refine J5 (hl pI s U H _ I h) λv s1 ⟨x,H1,I1,r1,q1⟩=>?_
 rcases q1 with ⟨a,e,xs,hq,q⟩|⟨a,e,xs,hq,q⟩
 .subst e;cases r1;obtain⟨its,rv,p,hz⟩:=I1.list hq;refine E4 p.isList ?_;refine⟨s1.heap.objs.size,[s1.heap.objs.size],_,_,H1,rfl,I1.kept (t':=s1.toks) λb o e=>Ar _ e,bK a _,⟨_,AI _ rfl,rfl,rfl⟩,λb hb=>?_,q hz⟩
  have e:b=s1.heap.objs.size:=by simpa using hb
  subst e;exact I1.fpOk (AQ _) (I1.hok.fresh (AQ _))
 .subst e;cases r1;obtain⟨its,rv,p,hz⟩:=I1.tuple hq;refine Iw (show s1.heap.IsTuple a its.toArray from p) ?_
  refine⟨s1.heap.objs.size,[s1.heap.objs.size],_,_,H1,rfl,I1.kept (t':=s1.toks) λb o e=>Ar _ e,cH a _,⟨_,AI _ rfl,rfl,rfl⟩,λb hb=>?_,q hz⟩
  have e:b=s1.heap.objs.size:=by simpa using hb
  subst e;exact I1.fpOk (AQ _) (I1.hok.fresh (AQ _))
theorem ZH(he:SE X CL W e fe):SI X CL W tg e (λY=>(fe Y).bind DD):=λA=>PI.weak (sQ (he A)) λU H R ⟨hA,Y,g,p⟩=>⟨hA,Y,g,Gi.ex p λd v H1 _ s1 r1 p1=>by
 cases d with
 |L ds=>
  obtain⟨q,xs,rfl,na,sq,r⟩:=r1;exact .inl ⟨q,rfl,xs,sq,λhz=>p1 _ H1 (Aw.refl H1) (bA na sq r) (by rw[<-r.length];exact hz)⟩
 |H ds=>
  obtain⟨q,xs,rfl,na,sq,r⟩:=r1;exact .inr ⟨q,rfl,xs,sq,λhz=>p1 _ H1 (Aw.refl H1) (dW na sq r) (by rw[<-r.length];exact hz)⟩
 | _=>exact p1.elim⟩
theorem Se{lo:Ai}(h:Fp lo hi=.ok ds):(-(2 ^ 62)<=lo/\lo<2 ^ 62)/\(-(2 ^ 62)<=hi/\hi<2 ^ 62)/\ds=Jl lo (hi-lo).toNat/\(Jl lo (hi-lo).toNat).length<=sizeLine:=by
 unfold Fp at h;split at h
 .rename_i q;cases h;exact⟨by omega,by omega,rfl,by rw[PJ,BE];omega⟩
 .cases h
theorem RX{lo:Ai}{x:Ex}(h:Fp lo hi=.exn x):AN:=by
 unfold Fp at h;split at h<;>cases h
theorem qZ(ha:ST X CL W a fa)(hg:Gl X "range")(hm:X.mg "range" = Ae)(hs:At [a] X.env=[(Ad,eval a X.env)]):SI X CL W tg (.Call (.Name "range" p) [a] [] pos) (λY=>(fa Y).bind λx=>(Gh x).bind λj=>Fp 0 j):=
 λA=>PI.weak (SJ hg hm (Bm (ha A) B9 hs) hs) λU H R ⟨hA,Y,g,q⟩=>⟨hA,Y,g,Gi.ex q λd v H1 _ s1 r1 p1=>by
  cases d with
  |int j=>
   have e:=r1.int_of;subst e;have p2:Gi X.K CL A W H1 (Fp 0 j) R:=p1;cases e2:Fp 0 j with
   |ok ds=>
    rw[e2]at p2;obtain⟨_,h2,rfl,hz⟩:=Se e2;exact⟨j,rfl,h2.1,h2.2,p2 _ H1 (Aw.refl H1) (by rw[KO];exact TH 0 j.toNat) hz⟩
   |exn y=>exact(RX e2).elim
   |bad=>rw[e2]at p2;exact p2.elim
  | _=>exact p1.elim⟩
theorem lE(ha:ST X CL W a fa)(hb:ST X CL W b fb)(hg:Gl X "range")(hm:X.mg "range" = Ae)(hs:At [a,b] X.env=[(Ad,eval a X.env),(Ad,eval b X.env)])(vk:At [b] X.env=[(Ad,eval b X.env)]):
  SI X CL W tg (.Call (.Name "range" p) [a,b] [] pos) (λY=>(fa Y).bind λx=>(fb Y).bind λy=>(Gh x).bind λi=>(Gh y).bind λj=>Fp i j):=
 λA=>PI.weak (Si hg hm (Bm (ha A) (Bm (hb A) B9 vk) (by rw[hs,vk])) hs vk) λU H R ⟨hA,Y,g,q⟩=>⟨hA,Y,g,Gi.ex q λd v H1 _ s1 r1 p1=>⟨hA.same s1,Y,g.same s1,Gi.ex p1 λd2 v2 H2 _ s2 r2 p2=>by
  cases d with
  |int i=>
   cases d2 with
   |int j=>
    have e:=r1.int_of;have e':=r2.int_of
    subst e e';have p3:Gi X.K CL A W H2 (Fp i j) R:=p2;cases e2:Fp i j with
    |ok ds=>
     rw[e2]at p3;obtain⟨h1,h2,rfl,hz⟩:=Se e2;exact⟨i,j,rfl,⟨h1.1,h1.2,h2.1,h2.2⟩,p3 _ H2 (Aw.refl H2) (TH _ _) hz⟩
    |exn y=>exact(RX e2).elim
    |bad=>rw[e2]at p3;exact p3.elim
   |_=>exact p2.elim
  | _=>exact p2.elim⟩⟩
theorem B6.exI{r:R (Ac D)}(x:Sx X.K CL Fz B Y U H)(h:B6 X.K CL Fz B W (O.of Y r f) D')(k:∀ ds J_ H',r=.ok ds->Aw H H'->Ls X.K CL A ds J_ H'->ds.length<=sizeLine->Sx X.K CL Fz B Y U H'->B6 X.K CL Fz B W (f ds) D'->Q J_ H'):Gi X.K CL A W H r Q:=by
 cases r with
 |ok d=>exact λJ_ H' s y z=>k d J_ H' rfl s y z (x.grow s) h
 |exn y=>exact λH' s=>h H' λb o z=>s _ _ (x.same b o z)
 |bad=>exact h
theorem B6.turn{o:O}(hf:∀ b q,Fz b q->Fy b q)(hp:∀ j a xs,Fy.pin j a xs->Fz.pin j a xs)(h:B6 K CL Fz B W (o.turn g) D')(k:∀ Y' U' H',Sx K CL Fy B Y' U' H'->B6 K CL Fz B W (g Y') D'->N U' H'):B6 K CL Fy B W o {D' with nx:=N,ct:=N,bk:=D'.nx}:=by
 cases o with
 |next Y'=>exact λU' H' x=>k Y' U' H' x h
 |cont Y'=>exact λU' H' x=>k Y' U' H' x h
 |brk Y'=>exact λU' H' x=>h U' H' (x.mono hf hp)
 |ret d b=>exact λv H' s r n=>h v H' (λb o z=>s b o (hf b o z)) r λz ds e=>let ⟨a,xs,h1,h2,h3⟩:=n z ds e;⟨a,xs,h1,λo q=>h2 o (hf a o q),h3⟩
 |exn y Y'=>exact λH' s=>h H' (λb o z=>s b o (hf b o z))
 |bad=>exact h
noncomputable def Hu(ts:Ac Ag)(Y:Rho):Rho:=ts.foldl (λY t=>Y.set t Ae) Y
def GT(K:Fg)(CL:ClA)(as:D->Rho->R Rho)(g:TG):Prop:=∀ Fz B Y U H v d Y' Q,Sx K CL Fz B Y U H->Y6 K CL H (Bf B Y U) v d->as d Y=.ok Y'->(∀ U',Sx K CL Fz B Y' U' H->Q U' H)->g v U H Q
theorem mK(i:Ag):GT K CL (λd Y=>.ok (Y.set i (Aa (d,Ad)))) (Gg i):=λFz B Y U H v d Y' Q x r e k=>by
 cases e;exact k _ (x.set i r)
theorem QH{K:Fg}{H:Hp}:∀(ts:Ac Ag)(ds:Ac D)(vs:Ac V)(Y Y':Rho)(U:L2.St)(Q:L2.St->Hp->Prop),Sx K CL Fz B Y U H->Y9 K CL H (Bf B Y U) vs ds->HY ts ds Y=Aa Y'->(∀ U',Sx K CL Fz B Y' U' H->Q U' H)->(ts.foldr (λt u=>LP (Gg t) u) LV) vs U H Q
 |[],[],[],Y,Y',U,Q,x,_,e,k=>by
  cases e;exact⟨rfl,k U x⟩
 |t::ts,d::ds,v::vs,Y,Y',U,Q,x,r,e,k=>by
  refine⟨v,vs,rfl,QH ts ds vs _ Y' _ Q (x.set t r.1) (Y9.sub (λa ha=>?_) ds r.2) e k⟩
  rcases ha with ha|⟨j,c,h1,h2⟩
  .exact .inl ha
  .by_cases hj:t=j
   .subst hj;have:=HX h1;cases this
   .rw[Cc hj]at h1 h2;exact .inr ⟨j,c,h1,h2⟩
 |[],_::_,_,_,_,_,_,_,_,e,_=>by cases e
 |_::_,[],_,_,_,_,_,_,_,e,_=>by cases e
 |[],[],_::_,_,_,_,_,_,r,_,_=>r.elim
 |_::_,_::_,[],_,_,_,_,_,r,_,_=>r.elim
theorem PK:∀(ts:Ac Ag)(ds:Ac D)(Y Y':Rho),HY ts ds Y=Aa Y'->ds.length=ts.length
 |[],[],_,_,_=>rfl
 |_::ts,_::ds,_,_,e=>congrArg (· + 1) (PK ts ds _ _ e)
 |[],_::_,_,_,e=>by cases e
 |_::_,[],_,_,e=>by cases e
theorem UH(ts:Ac Ag):GT K CL (IF ts) (Pj K ts.length (ts.foldr (λt u=>LP (Gg t) u) LV)):=λFz B Y U H v d Y' Q x r e k=>by
 cases d with
 |H ds=>
  obtain⟨a,xs,rfl,na,sq,rs⟩:=r;rw[bR]at e;cases e2:HY ts ds Y with
  |none=>rw[e2]at e;cases e
  |some Y2=>
   rw[e2]at e;cases e;exact⟨a,xs,rfl,sq,by rw[rs.length];exact PK _ _ _ _ e2,QH ts ds xs Y _ U Q x rs e2 k⟩
 |_=>cases e
theorem UO(hp:Gd (model X.prog X.w) X.A X.env X.xe)(hc:X.calm=Ab)(hGT:GT X.K CL as g)(hg:PG X tg g)(hit:SI X CL W tg iter fi)(hb:ou X CL W body fbd)(hs:∀ x,Dl iter X.env x=pure x)(hax:∀ d Y x,as d Y≠.exn x):SS X CL W (.For tg iter body [] pos) (λY=>O.of Y (fi Y) λxs=>El (λx Y'=>O.of Y' (as x Y') fbd) xs Y):=λFz B pI s U H D I ⟨Y,x,p⟩=>by
 refine QJ hp hc (hit (Bf B Y U)) hg (tb:=λD U H=>∃ Fy,(λD U H=>∃ Y,Sx X.K CL Fy B Y U H/\B6 X.K CL Fy B W (fbd Y) D) D U H) (λpI s U H D I ⟨Fy,q⟩=>hb Fy B pI s U H D I q) hs pI s U H D I ⟨x.aok,Y,x.good,B6.exI x p λds J_ H1 _ s1 y _ x1 q=>?_⟩
 let Fy:Fr:=⟨λb o=>H1 b=Aa o/\¬ ∃(j:Ag)(d:Ov.D),Y[j]?=Aa (Aa (d,Ab))/\U[j]?=Aa (Aa (.ref b)),Fz.pin⟩
 have hfy:∀ b o,Fz b o->Fy b o:=λb o z=>⟨x1.same b o z,λ⟨j,d,h1,h2⟩=>(x1.new j d b h1 h2).1 o z⟩
 have xy:Sx X.K CL Fy B Y U H1:=⟨x1.good,x1.aok,λj d a h1 h2=>⟨λo z=>z.2 ⟨j,d,h1,h2⟩,(x1.new j d a h1 h2).2⟩,x1.dis,λb o z=>z.1,x1.len,x1.pin⟩
 refine⟨λk m U' H'=>m=ds.length-k/\k<=ds.length/\∃ Y',Sx X.K CL Fy B Y' U' H'/\B6 X.K CL Fz B W (El (λx Y'=>O.of Y' (as x Y') fbd) (ds.drop k) Y') D,⟨ds.length,by simp,D5 _,Y,xy,q⟩,?_⟩
 rintro k m U' H' ⟨rfl,hk,Y',x',q'⟩;have kp:Kp (Bf B Y U) H1 H':=λb o e na=>x'.same b o ⟨e,λz=>na (.inr z)⟩
 obtain⟨yst,ygo⟩:=y H' kp k;by_cases xu:k<ds.length
 .have hd:ds[k]?=Aa ds[k]:=Cr xu;obtain⟨hgo,hyl⟩:=ygo _ hd;refine .inr ⟨hgo,λU'' H''=>∃ uy,Sx X.K CL Fy B uy U'' H''/\B6 X.K CL Fz B W (El (λx Y'=>O.of Y' (as x Y') fbd) (ds.drop (k+1)) uy) D,λU'' H'' z=>⟨ds.length-(k+1),by omega,rfl,xu,z⟩,λv H2 hv=>?_⟩
  obtain⟨e2,rv⟩:=hyl v H2 hv;rw[Eh xu]at q';have q2:B6 X.K CL Fz B W ((O.of Y' (as ds[k] Y') fbd).turn (El (λx Y'=>O.of Y' (as x Y') fbd) (ds.drop (k+1)))) D:=q'
  have rv':Y6 X.K CL H2 (Bf B Y' U') v ds[k]:=rv _ (λa ha=>by
    rcases ha with ha|⟨j,d,h1,h2⟩
    .exact .inl (.inl ha)
    .cases e:H1 a with
     |none=>exact .inr rfl
     |some o=>
      by_cases ho:∃(j:Ag)(d:Ov.D),Y[j]?=Aa (Aa (d,Ab))/\U[j]?=Aa (Aa (.ref a))
      .exact .inl (.inr ho)
      .exact absurd ⟨e,ho⟩ ((x'.new j d a h1 h2).1 o)) x'.aok
  cases ea:as ds[k] Y' with
  |bad=>rw[ea]at q2;exact q2.elim
  |exn z=>exact absurd ea (hax _ _ z)
  |ok Y2=>
   rw[ea,O.of_ok]at q2;exact hGT Fy B Y' U' H2 v ds[k] Y2 _ (x'.grow e2) rv' ea λU3 x3=>⟨Fy,Y2,x3,B6.turn hfy (λ_ _ _ z=>z) q2 λY3 U3 H3 x3 q3=>⟨Y3,x3,q3⟩⟩
 .have nj:ds.length<=k:=by omega
  rw[GP nj]at q';exact .inl ⟨yst nj,q' U' H' (x'.mono hfy λ_ _ _ z=>z)⟩
end
section
variable{X:Cx}{a b c:Aq}
noncomputable def rl:Ki->Am Da
 |.int=>Aa "int"
 |.bool=>Aa "bool"
 |.str=>Aa "str"
 |.list=>Aa "list"
 |.tuple=>Aa "tuple"
 |_=>Ae
noncomputable def QK:D->Ao
 |.obj _ _=>Ad
 |.exc _ _=>Ad
 |.dic _=>Ad
 |_=>Ab
theorem uD{k:Ki}{Q:Vq}{E:Vq}(I:Y8 X pI U H s)(r:CG X.K CL H A v d)(q:BB v u)(hT:rl k=Aa T)(hd:QK d=Ab)(h:∀ s',Y8 X pI U H s'->Q (.bool (w9 up k d)) s'):
  Av (model X.prog X.w) X.A (call (.builtin "isinstance") [u,.type T]) Q E s:=by
 have r':=r.plain;have it:=λt=>h _ (I.tok t)
 cases d with
 |obj=>cases hd
 |exc=>cases hd
 |dic=>cases hd
 |O=>
  cases r';cases q;cases k<;>simp only[rl]at hT<;>cases hT
  .exact IsiPair.NoneType_int (it _)
  .exact IsiPair.NoneType_bool (it _)
  .exact IsiPair.NoneType_str (it _)
  .exact IsiPair.NoneType_list (it _)
  .exact IsiPair.NoneType_tuple (it _)
 |bl b=>
  cases r';cases q;cases k<;>simp only[rl]at hT<;>cases hT
  .exact IsiPair.bool_int (h _ I)
  .exact IsiPair.bool_bool (h _ I)
  .exact IsiPair.bool_str (it _)
  .exact IsiPair.bool_list (it _)
  .exact IsiPair.bool_tuple (it _)
 |int i=>
  cases r';obtain⟨t,rfl⟩:=q;cases k<;>simp only[rl]at hT<;>cases hT
  .exact IsiPair.int_int (h _ I)
  .exact IsiPair.int_bool (it _)
  .exact IsiPair.int_str (it _)
  .exact IsiPair.int_list (it _)
  .exact IsiPair.int_tuple (it _)
 |str x=>
  cases r';obtain⟨t,rfl⟩:=q;cases k<;>simp only[rl]at hT<;>cases hT
  .exact IsiPair.str_int (it _)
  .exact IsiPair.str_bool (it _)
  .exact IsiPair.str_str (h _ I)
  .exact IsiPair.str_list (it _)
  .exact IsiPair.str_tuple (it _)
 |H ds=>
  obtain⟨p,xs,rfl,_,sq,rr⟩:=r';obtain⟨its,rv,pt,_⟩:=I.tuple sq;cases q;have ya:s.heap.IsTuple p its.toArray:=pt;cases k<;>simp only[rl]at hT<;>cases hT
  .exact IsiPair.isTuple_int ya (λ_ _ e=>e) (it _)
  .exact IsiPair.isTuple_bool ya (λ_ _ e=>e) (it _)
  .exact IsiPair.isTuple_str ya (λ_ _ e=>e) (it _)
  .exact IsiPair.isTuple_list ya (λ_ _ e=>e) (it _)
  .exact IsiPair.isTuple_tuple ya (λ_ _ e=>e) (h _ I)
 |L ds=>
  obtain⟨p,xs,rfl,_,sq,rr⟩:=r';obtain⟨its,rv,pl,_⟩:=I.list sq;cases q;have ya:s.heap.IsList p its.toArray:=Ld pl;cases k<;>simp only[rl]at hT<;>cases hT
  .exact IsiPair.isList_int ya (λ_ _ e=>e) (it _)
  .exact IsiPair.isList_bool ya (λ_ _ e=>e) (it _)
  .exact IsiPair.isList_str ya (λ_ _ e=>e) (it _)
  .exact IsiPair.isList_list ya (λ_ _ e=>e) (h _ I)
  .exact IsiPair.isList_tuple ya (λ_ _ e=>e) (it _)
theorem dE{k:Ki}(hT:rl k=Aa T)(p:AX Rp W H (EV up [k] d) Q):QK d=Ab/\AX Rp W H (.ok (.bl (w9 up k d))) Q:=by
 cases k<;>simp only[rl]at hT<;>cases hT<;>cases d<;>first|exact p.elim|exact⟨rfl,by simpa using p⟩
theorem qF{k:Ki}(hT:rl k=Aa T)(hg:Gl X "isinstance")(hm:X.mg "isinstance" = Ae)(va:Gl X x)(jv:X.mg x=Ae)(hv:Ds x=Aa (.type T))(hn:x≠"__name__")(zh:(x==("__debug__" : Ah))=Ad)(ha:ST X CL W a fa)(he:At [a,.Name x p2] X.env=(Ad,eval a X.env)::At [.Name x p2] X.env):SE X CL W (.Call (.Name "isinstance" p) [a,.Name x p2] [] pos) (λY=>(fa Y).bind λx=>EV up [k] x):=λA=>
 PE.weak (Mj (r:=λxs H Q=>∃ y d,xs=[y,.ty T]/\CG X.K CL H A y d/\QK d=Ab/\Q (.bl (w9 up k d)) H) (λpI s U H xs us Q I r ⟨y,d,e,ry,hd,q⟩=>by
   subst e;obtain⟨u,w',rfl,r1,r2⟩:=Nt r;cases r2;exact uD I ry r1 hT hd λs' I'=>⟨.bl _,H,I',rfl,q⟩)
  hg hm Jq (Bm (ha A) (Bm (T4 (v:=.ty T) va jv hv rfl hn zh) B9 rfl) he) (by decide) (by decide) he rfl) λU H Q ⟨hA,Y,g,q⟩=>⟨hA,Y,g,AX.bind q λd v H1 _ s1 r1 p1=>by
   obtain⟨hd,p2⟩:=dE hT p1;exact⟨v,d,rfl,r1,hd,p2 _ H1 (Aw.refl H1) rfl⟩⟩
theorem Qu{b:Ao}{E:Vq}(r:Y6 X.K CL H A v d)(q:BB v u)(h:FA d=.ok b)(hq:Q b s):Av (model prog w) A' (truthy u) Q E s:=by
 cases d with
 |O=>
  cases r;cases q;cases h;exact truthy_none hq
 |bl k=>
  cases r;cases q;cases h;exact GJ hq
 |int i=>
  cases r;obtain⟨t,rfl⟩:=q;cases h;exact truthy_int hq
 |_=>cases h
theorem R9:∀{ds:Ac D}{b:Ao},Hy ds=.ok b->(∀ j,j<ds.length->∃ c,FA (ds.getD j .O)=.ok c)/\b=(B2 ds.length).all λj=>match FA (ds.getD j .O) with
  |.ok c=>c
  |_=>Ad
 |[],b,h=>by cases h;exact⟨λj hj=>absurd hj (Jp _),rfl⟩
 |d::ds,b,h=>by
  rw[Sr]at h;cases e:FA d with
  |bad=>rw[e]at h;cases h
  |exn x=>rw[e]at h;cases h
  |ok c=>
   rw[e,R.bind_ok]at h;cases e2:Hy ds with
   |bad=>rw[e2]at h;cases h
   |exn x=>rw[e2]at h;cases h
   |ok c2=>
    rw[e2,R.bind_ok]at h;cases h;obtain⟨h1,h2⟩:=R9 e2;refine⟨λj hj=>?_,?_⟩
    .cases j with
     |zero=>exact⟨c,e⟩
     |succ j=>exact h1 j (by simpa using hj)
    .rw[Ba,RE,h2];show (c&&_)=((match FA d with | .ok c=>c|_=>Ad)&&_)
     rw[e];rfl
theorem R8:∀{ds:Ac D}{b:Ao},II ds=.ok b->(∀ j,j<ds.length->∃ c,FA (ds.getD j .O)=.ok c)/\b=(B2 ds.length).any λj=>match FA (ds.getD j .O) with
  |.ok c=>c
  |_=>Ad
 |[],b,h=>by cases h;exact⟨λj hj=>absurd hj (Jp _),rfl⟩
 |d::ds,b,h=>by
  rw[Sq]at h;cases e:FA d with
  |bad=>rw[e]at h;cases h
  |exn x=>rw[e]at h;cases h
  |ok c=>
   rw[e,R.bind_ok]at h;cases e2:II ds with
   |bad=>rw[e2]at h;cases h
   |exn x=>rw[e2]at h;cases h
   |ok c2=>
    rw[e2,R.bind_ok]at h;cases h;obtain⟨h1,h2⟩:=R8 e2;refine⟨λj hj=>?_,?_⟩
    .cases j with
     |zero=>exact⟨c,e⟩
     |succ j=>exact h1 j (by simpa using hj)
    .rw[Ba,Xg,Iz,KP,h2];show (c||_)=((match FA d with | .ok c=>c|_=>Ad)||_)
     rw[e];rfl
theorem QB(r:Y9 X.K CL H A0 xs ds)(rv:AZ xs its){v:Aj}(h:its.toArray[j]?=Aa v):j<ds.length/\∃ x,Y6 X.K CL H A0 x (ds.getD j .O)/\BB x v:=by
 have h':its[j]?=Aa v:=by simpa using h
 obtain⟨hj,e⟩:=A8.mp h';obtain⟨x,rx,q⟩:=Km r rv hj;have l1:=rv.length;have l2:=r.length
 exact⟨by omega,x,rx,by rw[<-e];exact q⟩
theorem Rl(k:∀ b q,b∉[h.objs.size]->(h.push o).get? b=Aa q->h'.get? b=Aa q):∀ b q,h.get? b=Aa q->h'.get? b=Aa q:=λb q e=>k b q (by
 intro z;have:=BH.mp z;rw[this]at e;exact absurd (AF e) (Bl _)) (Ar _ e)
theorem vN(hc:X.calm=Ab):Kn X CL W (.builtin "all") (zm .all):=by
  intro A pI s U H xs us Q I r ⟨hA,ds,rs,p⟩
  match ds,rs,p with
  |[.L es],rs,p=>
    obtain⟨v,rfl,rv⟩:=rs.one;obtain⟨q,ys,e,_,sq,ry⟩:=rv.plain;subst e;obtain⟨u,rfl,ru⟩:=IG r;cases ru;rw[dn]at p;cases e1:Hy es with
    |bad=>rw[e1]at p;exact p.elim
    |exn x=>
      exfalso
      have:∀(es:Ac D) x,Hy es≠.exn x:=by
        intro es
        induction es with
        |nil=>intro x h;cases h
        |cons d ds ih=>
          intro x h;rw[Sr]at h;cases e:FA d with
          |bad=>rw[e]at h;cases h
          |exn y=>cases d<;>cases e
          |ok c=>
            rw[e,R.bind_ok]at h;cases e2:Hy ds with
            |bad=>rw[e2]at h;cases h
            |exn y=>exact ih y e2
            |ok c2=>rw[e2]at h;cases h
      exact this es x e1
    |ok b=>
      rw[e1,R.bind_ok]at p;obtain⟨h1,h2⟩:=R9 e1;obtain⟨its,lr,pl,_⟩:=I.list sq;have xu:q<s.heap.objs.size:=by obtain⟨o,n,e,_⟩:=pl;exact AF e
      have hl:its.toArray.size=es.length:=by rw[AL,<-lr.length,ry.length]
      refine call_all_walk (E4 (Ld pl) ⟨s.heap.objs.size,_,_,_,_,_,(λj=>match FA (es.getD j .O) with | .ok c=>c|_=>Ad),rfl,YI (A:=X.A.in1) (I.ok.hd hc) s.heap.objs.size q (A5 xu) its.toArray,⟨⟨_,AI _ rfl,rfl,rfl⟩,(Ld pl).push _⟩,λj v s' Q' E' hv hQ=>?_,λh' tk k=>?_⟩)
      · obtain⟨hj,x,rx,qx⟩:=QB ry lr hv;obtain⟨c,ec⟩:=h1 j hj;exact Qu rx qx ec (by dsimp only at hQ;rw[ec]at hQ;exact hQ)
      · rw[hl,<-h2];exact⟨.bl b,H,I.kept (Rl k),rfl,p _ H (Aw.refl H) rfl⟩
  |[],_,p=>exact p.elim
  |[.O],_,p=>exact p.elim
  |[.bl _],_,p=>exact p.elim
  |[.int _],_,p=>exact p.elim
  |[.str _],_,p=>exact p.elim
  |[.H _],_,p=>exact p.elim
  |[.obj _ _],_,p=>exact p.elim
  |[.exc _ _],_,p=>exact p.elim
  |[.dic _],_,p=>exact p.elim
  |x::_::_,_,p=>cases x<;>exact p.elim
theorem Uq(hc:X.calm=Ab){ys:Ac V}{es:Ac D}(I:Y8 X pI U H s)(sq:zr X.K H q ys\/yg X.K H q ys)(ry:Y9 X.K CL H A0 ys es)(p:AX (λH=>Y6 X.K CL H A) W H ((II es).bind λb=>.ok (.bl b)) Q):Av (model X.prog X.w) X.A (call (.builtin "any") [.ref q]) (EP X pI U Q) X.xe s:=by
 cases e1:II es with
 |bad=>rw[e1]at p;exact p.elim
 |exn x=>
  exfalso
  clear p
  have:∀(es:Ac D) x,II es≠.exn x:=by
   intro es
   induction es with
   |nil=>intro x h;cases h
   |cons d ds ih=>
    intro x h;rw[Sq]at h;cases e:FA d with
    |bad=>rw[e]at h;cases h
    |exn y=>cases d<;>cases e
    |ok c=>
     rw[e,R.bind_ok]at h;cases e2:II ds with
     |bad=>rw[e2]at h;cases h
     |exn y=>exact ih y e2
     |ok c2=>rw[e2]at h;cases h
  exact this es x e1
 |ok b=>
  rw[e1,R.bind_ok]at p;obtain⟨h1,h2⟩:=R8 e1;rcases sq with sq|sq
  .obtain⟨its,lr,pl,_⟩:=I.list sq;have xu:q<s.heap.objs.size:=by obtain⟨o,n,e,_⟩:=pl;exact AF e
   have hl:its.toArray.size=es.length:=by rw[AL,<-lr.length,ry.length]
   refine call_any_walk (E4 (Ld pl) ⟨s.heap.objs.size,_,_,_,_,_,(λj=>match FA (es.getD j .O) with | .ok c=>c|_=>Ad),rfl,YI (A:=X.A.in1) (I.ok.hd hc) s.heap.objs.size q (A5 xu) its.toArray,⟨⟨_,AI _ rfl,rfl,rfl⟩,(Ld pl).push _⟩,λj v s' Q' E' hv hQ=>?_,λh' tk k=>?_⟩)
   .obtain⟨hj,x,rx,qx⟩:=QB ry lr hv;obtain⟨c,ec⟩:=h1 j hj;exact Qu rx qx ec (by dsimp only at hQ;rw[ec]at hQ;exact hQ)
   .rw[hl,<-h2];exact⟨.bl b,H,I.kept (Rl k),rfl,p _ H (Aw.refl H) rfl⟩
  .obtain⟨its,lr,pl,_⟩:=I.tuple sq;have pl':s.heap.IsTuple q its.toArray:=pl;have xu:q<s.heap.objs.size:=by obtain⟨o,e,_⟩:=pl';exact AF e
   have hl:its.toArray.size=es.length:=by rw[AL,<-lr.length,ry.length]
   refine call_any_walk (Iw pl' ⟨s.heap.objs.size,_,_,_,_,_,(λj=>match FA (es.getD j .O) with | .ok c=>c|_=>Ad),rfl,Walks.tuple (A:=X.A.in1) (I.ok.hd hc) s.heap.objs.size q (A5 xu) its.toArray,⟨⟨_,AI _ rfl,rfl,rfl⟩,pl'.push _⟩,λj v s' Q' E' hv hQ=>?_,λh' tk k=>?_⟩)
   .obtain⟨hj,x,rx,qx⟩:=QB ry lr hv;obtain⟨c,ec⟩:=h1 j hj;exact Qu rx qx ec (by dsimp only at hQ;rw[ec]at hQ;exact hQ)
   .rw[hl,<-h2];exact⟨.bl b,H,I.kept (Rl k),rfl,p _ H (Aw.refl H) rfl⟩
theorem vM(hc:X.calm=Ab):Kn X CL W (.builtin "any") (zm .any):=by
  intro A pI s U H xs us Q I r ⟨hA,ds,rs,p⟩
  match ds,rs,p with
  |[.L es],rs,p=>
    obtain⟨v,rfl,rv⟩:=rs.one;obtain⟨q,ys,e,_,sq,ry⟩:=rv.plain;subst e;obtain⟨u,rfl,ru⟩:=IG r;cases ru;exact Uq hc I (.inl sq) ry p
  |[.H es],rs,p=>
    obtain⟨v,rfl,rv⟩:=rs.one;obtain⟨q,ys,e,_,sq,ry⟩:=rv.plain;subst e;obtain⟨u,rfl,ru⟩:=IG r;cases ru;exact Uq hc I (.inr sq) ry p
  |[],_,p=>exact p.elim
  |[.O],_,p=>exact p.elim
  |[.bl _],_,p=>exact p.elim
  |[.int _],_,p=>exact p.elim
  |[.str _],_,p=>exact p.elim
  |[.obj _ _],_,p=>exact p.elim
  |[.exc _ _],_,p=>exact p.elim
  |[.dic _],_,p=>exact p.elim
  |x::_::_,_,p=>cases x<;>exact p.elim
end
section
variable(K:Fg)(CL:ClA)
def ek(H0:Hp)(A:Ak->Prop)(H:Hp)(v:V)(d:D):Prop:=∀ ds,d=.L ds->∃ a xs,v=.ref a/\H0 a=Ae/\H a=Aa (.L xs)/\Y9 K CL H (λb=>A b\/b=a) xs ds
def B0(fr:Ao)(H0:Hp)(A:Ak->Prop)(H:Hp)(v:V)(d:D):Prop:=Y6 K CL H A v d/\(fr=Ab->ek K CL H0 A H v d)
end
section
variable{CL:ClA}{a b:Aq}
def SC(X:Cx)(CL:ClA)(W:XW)(fr:Ao)(e:Aq)(f:Rho->R D):Prop:=∀ A,PE X e (λU H Q=>J4 H A/\∃ Y,U9 X.K CL A Y U H/\AX (B0 X.K CL fr H A) W H (f Y) Q)
theorem SC.se(h:SC X CL W fr a fa):SE X CL W a fa:=λA=>PE.weak (h A) λU H Q ⟨hA,Y,g,p⟩=>⟨hA,Y,g,by
 cases e:fa Y with
 |ok d=>rw[e]at p;exact λv H' s r=>p v H' s r.1
 |exn x=>rw[e]at p;exact p
 | bad=>rw[e]at p;exact p⟩
theorem SE.sc(h:SE X CL W a fa):SC X CL W Ad a fa:=λA=>PE.weak (h A) λU H Q ⟨hA,Y,g,p⟩=>⟨hA,Y,g,by
 cases e:fa Y with
 |ok d=>rw[e]at p;exact λv H' s r=>p v H' s ⟨r,λz=>nomatch z⟩
 |exn x=>rw[e]at p;exact p
 | bad=>rw[e]at p;exact p⟩
theorem SC.congr(h:SC X CL W fr a f)(e:∀ Y,g Y=f Y):SC X CL W fr a g:=λA=>PE.weak (h A) λU H Q ⟨hA,Y,q,p⟩=>⟨hA,Y,q,by rw[<-e];exact p⟩
theorem LG{p:Ak}(s:Aw H0 H)(hA:J4 H A)(hp:H p=Ae)(r:Y9 K CL H A xs ds):B0 K CL Ab H0 A (upd H p (.L xs)) (.ref p) (.L ds):=
 ⟨Ub hA hp r,λ_ vg e=>by
  cases e;exact⟨p,xs,rfl,s.free hp,B1,(Y9.wide (λa ha=>ha.imp id λe=>by rw[e];exact hp) _ r).same (FW hp _)⟩⟩
theorem Qm(r:Y6 K CL H A v d)(h:∀ ds,d≠.L ds):B0 K CL fr H0 A H v d:=⟨r,λ_ ds e=>absurd e (h ds)⟩
theorem qU(hs:SA X CL W es fs)(hz:∀ Y ds,fs Y=.ok ds->ds.length<=100000):SC X CL W Ab (.List es pos) (λY=>(fs Y).bind λxs=>.ok (.L xs)):=
 λA=>PE.weak (Nn (hs A)) λU H Q ⟨hA,Y,g,p⟩=>⟨hA,Y,g,Ji.bind p λds vs H1 e s1 r1 p1=>⟨by
  rw[r1.length,BE];have:=hz Y ds e;omega,λq hq=>p1 _ _ (FW hq _) (LG s1 (hA.same s1) hq r1)⟩⟩
theorem AX.bindF(h:AX (B0 K CL fr H A) W H (r.bind f) Q)(k:∀ d v H',r=.ok d->Aw H H'->Rp H' v d->AX (B0 K CL fr H A) W H' (f d) Q->Q' v H'):AX Rp W H r Q':=by
 cases r with
 |ok d=>exact λv H2 s2 q=>k d v H2 rfl s2 q (AX.same s2 h)
 |exn x=>exact h
 |bad=>exact h
theorem Ji.bindF{r:R (Ac D)}(h:AX Rq W H (r.bind f) Q)(k:∀ d v H',r=.ok d->Aw H H'->Rp H' v d->AX Rq W H' (f d) Q->Q' v H'):Ji Rp W H r Q':=by
 cases r with
 |ok d=>exact λv H2 s2 q=>k d v H2 rfl s2 q (AX.same s2 h)
 |exn x=>exact h
 |bad=>exact h
theorem Nz.bindF{r:R (Am Ai)}(h:AX Rq W H (r.bind f) Q)(k:∀ o H',r=.ok o->Aw H H'->AX Rq W H' (f o) Q->Q' o H'):Nz W H r Q':=by
 cases r with
 |ok d=>exact λH2 s2=>k d H2 rfl s2 (AX.same s2 h)
 |exn x=>exact h
 |bad=>exact h
def Wy:V->Am Ai->Am Ai->Hp->VK->Prop:=λx l h H Q=>∃ z,x=.str z/\(Kw z l h).length<=sizeLine/\Q (.str (Kw z l h)) H
theorem T5{v:Aj}{o:Am Ai}(h:Io v o):∃ p:Am (Ai×Ch),v=partValue p/\p.map (·.1)=o:=by
 cases h with
 |none=>exact⟨Ae,rfl,rfl⟩
 |int i t=>exact⟨Aa (i,t),rfl,rfl⟩
theorem qY:ox X Wy:=by
 intro pI s U H x v vl vu lo hi sl Q I rx hs pl pu h;obtain⟨z,rfl,hz,q⟩:=h;obtain⟨t,rfl⟩:=rx;obtain⟨l,rfl,el⟩:=T5 pl;obtain⟨u,rfl,eu⟩:=T5 pu;refine⟨"str",_,PySem.F.slot_str_getitem.lookup,Gv _ _ _,?_⟩;refine wpAny_getItem_str_slice (l:=l) (u:=u) (st:=Ae) hs rfl ?_;subst el eu;unfold sliceMade slicePicked;unfold Kw at hz q;by_cases c:((Fk (l.map (·.1)) (u.map (·.1)) 1 z.length).length==z.length)=Ab
 .rw[Au c]at q;rw[Au (by rw[As];exact⟨rfl,c⟩)]
  exact⟨.str z,H,I,⟨t,rfl⟩,q⟩
 .rw[AA c]at q hz;rw[AA (by rw[As];exact λh=>c h.2)]
  exact⟨hz,.str _,H,I.tok _,⟨_,rfl⟩,q⟩
theorem xL{lo:Am Aq}(ha:ST X CL W a fa)(hl:SO X CL W lo fl)(hh:SO X CL W hi fh):SC X CL W Ab (.Subscript a (.Slice lo hi Ae p2) pos) (λY=>(fa Y).bind λx=>(fl Y).bind λl=>(fh Y).bind λh=>ú x l h):=
 λA=>PE.weak (hJ (r:=λx l h H Q=>Wz X.K x l h H Q\/(Wx X.K x l h H Q\/Wy x l h H Q)) (ox.or lD (ox.or qX qY)) (ha A) (hl A) (hh A)) λU H Q ⟨hA,Y,g,p⟩=>⟨hA,Y,g,AX.bindF p λdx x H1 _ s1 r1 p1=>⟨hA.same s1,Y,g.same s1,Nz.bindF p1 λl H2 _ s2 p2=>⟨(hA.same s1).same s2,Y,(g.same s1).same s2,Nz.bindF p2 λh H3 _ s3 p3=>by
  cases dx with
  |L ds=>
   obtain⟨q,xs,rfl,sq,r⟩:=((r1.same s2).same s3).lst_of;exact .inl ⟨q,xs,rfl,sq,λt ht=>p3 _ _ (FW ht _) (LG ((s1.trans s2).trans s3) (((hA.same s1).same s2).same s3) ht (Uw l h r))⟩
  |H ds=>
   obtain⟨q,xs,rfl,_,sq,r⟩:=((r1.same s2).same s3).tup_of;rw[ZF]at p3;split at p3
   .exact p3.elim
   .rename_i hw;refine .inr (.inl ⟨q,xs,rfl,sq,?_,λt ht=>p3 _ _ (FW ht _) (Qm (Nh (((hA.same s1).same s2).same s3) ht (Uw l h r)) (by intro _ z;cases z))⟩)
    rintro⟨h1,h2⟩;refine hw ?_;have e:∀ d o,HT.sIx xs.length d o=JQ ds.length d o:=λd o=>by rw[r.length];cases o<;>rfl
    rw[e]at h1 h2;rw[r.length]at h2;simp[h1,h2]
  |str z=>
   have e:=((r1.same s2).same s3).str_of;subst e;have p4:AX (B0 X.K CL Ab H A) W H3 (if (Dd z.length&&Dd (Kw z l h).length)=Ab then .ok (.str (Kw z l h)) else .bad) Q:=p3
   split at p4
   .rename_i hk;rw[As]at hk;exact .inr (.inr ⟨z,rfl,RV hk.2,p4 _ H3 (Aw.refl H3) (Qm rfl (by intro _ z;cases z))⟩)
   .exact p4.elim
  | _=>exact p3.elim⟩⟩⟩
def OpN(X:Cx)(CL:ClA)(W:XW)(f:Aj->Aj->FQ Aj)(g:D->D->R D):Prop:=
 ∀ A H0,xw X f (λx y H Q=>Aw H0 H/\J4 H A/\∃ dx dy,CG X.K CL H A x dx/\CG X.K CL H A y dy/\AX (B0 X.K CL Ab H0 A) W H (g dx dy) Q)
theorem jR:OpN X CL W (Cb .Add) (Cw .Add):=by
 intro A H0 pI s U H x y v u Q I rx ry ⟨s0,hA,dx,dy,hx,hy,p⟩;have key:(∀ ds,dx≠.L ds)->EP X pI U Q=EP X pI U Q->Av (model X.prog X.w) X.A (Cb .Add v u) (EP X pI U Q) X.xe s:=λhd _=>by
  refine T8 (W:=W) A pI s U H x y v u Q I rx ry ⟨hA,dx,dy,hx,hy,?_⟩;cases e:Cw .Add dx dy with
  |bad=>rw[e]at p;exact p
  |exn x=>rw[e]at p;exact p
  |ok d=>
   rw[e]at p;refine λv' H' s' r'=>p v' H' s' (Qm r' λds z=>?_)
   subst z;cases dx with
   |L ds=>exact hd _ rfl
   |H xs=>
    cases dy with
    |H ys=>rw[Vo]at e;split at e<;>cases e
    |_=>cases e
   |str xs=>
    cases dy with
    |str ys=>rw[JD]at e;split at e<;>cases e
    |_=>cases e
   |int i=>cases dy<;>cases e
   |_=>cases e
 cases dx with
 |L ds=>
  cases dy with
  |L es=>
   obtain⟨a,xs,rfl,s1,r1⟩:=hx.lst_of;obtain⟨b,ys,rfl,s2,r2⟩:=hy.lst_of;simp only[Vp]at p;split at p
   .rename_i h;refine T9 pI s U H _ _ v u Q I rx ry ⟨a,b,xs,ys,rfl,rfl,s1,s2,by rw[r1.length,r2.length];exact K8 h,λq hq=>?_⟩
    exact p _ _ (FW hq _) (LG s0 hA hq (r1.append r2))
   .exact p.elim
  |_=>exact p.elim
 |_=>exact key (by intro _ z;cases z) rfl
theorem qW(ha:ST X CL W a fa)(hb:ST X CL W b fb):SC X CL W Ab (.BinOp a .Add b pos) (λY=>(fa Y).bind λx=>(fb Y).bind λy=>Cw .Add x y):=
 λA pI s U H Q I h=>by
  obtain⟨hA,Y,g,p⟩:=h;exact VL (jR (W:=W) A H) (ha A) (hb A) pI s U H Q I ⟨hA,Y,g,AX.bindF p λdx x H1 _ s1 r1 p1=>⟨hA.same s1,Y,g.same s1,AX.bind (Rq:=B0 X.K CL Ab H A) p1 λdy y H2 _ s2 r2 p2=>⟨s1.trans s2,(hA.same s1).same s2,dx,dy,r1.same s2,r2,p2⟩⟩⟩
def V7(X:Cx)(CL:ClA)(W:XW)(f:Aj)(g:Ac D->R D):Prop:=∀ A H0,GN X f (λxs H Q=>Aw H0 H/\J4 H A/\∃ ds,Jj X.K CL H A xs ds/\AX (B0 X.K CL Ab H0 A) W H (g ds) Q)
theorem lW:V7 X CL W (.type "list") (zm .list):=by
  intro A H0 pI s U H xs us Q I r ⟨s0,hA,ds,rs,p⟩
  match ds,rs,p with
  |[.L es],rs,p=>
    obtain⟨v,rfl,rv⟩:=rs.one;obtain⟨q,ys,rfl,sq,ry⟩:=rv.lst_of;exact RJ pI s U H _ us Q I r ⟨q,ys,rfl,.inl sq,λl hl=>p _ _ (FW hl _) (LG s0 hA hl ry)⟩
  |[.H es],rs,p=>
    obtain⟨v,rfl,rv⟩:=rs.one;obtain⟨q,ys,rfl,_,sq,ry⟩:=rv.tup_of;exact RJ pI s U H _ us Q I r ⟨q,ys,rfl,.inr sq,λl hl=>p _ _ (FW hl _) (LG s0 hA hl ry)⟩
  |[],_,p=>exact p.elim
  |[.O],_,p=>exact p.elim
  |[.bl _],_,p=>exact p.elim
  |[.int _],_,p=>exact p.elim
  |[.str _],_,p=>exact p.elim
  |[.obj _ _],_,p=>exact p.elim
  |[.exc _ _],_,p=>exact p.elim
  |[.dic _],_,p=>exact p.elim
  |x::_::_,_,p=>cases x<;>exact p.elim
theorem qV(hc:V7 X CL W (.type T) g)(hg:Gl X x)(hm:X.mg x=Ae)(hv:Ds x=Aa (.type T))(ha:oq X CL W (e::es) fs)(hn:x≠"__name__")(zh:(x==("__debug__" : Ah))=Ad)(he:At (e::es) X.env=(Ad,eval e X.env)::At es X.env)(zj:∀ pos,(Br pos (At es X.env)).any (·.1)=Ad):SC X CL W Ab (.Call (.Name x p) (e::es) [] pos) (λY=>(fs Y).bind g):=λA pI s U H Q I ⟨hA,Y,gd,q⟩=>
 PM (hc A H) hg hm hv (ha A) hn zh he (zj _) pI s U H Q I ⟨hA,Y,gd,Ji.bindF q λds vs H1 _ s1 r1 p1=>⟨s1,hA.same s1,ds,r1,p1⟩⟩
mutual
theorem Rj{K:Fg}{H:Hp}{A:Ak->Prop}(hA:J4 H A):∀(n:Ag)(d:D){v:V},wq n d=Ab->Y6 K CL H A0 v d->Y6 K CL H A v d
 |_,.O,_,_,h=>h
 |_,.bl _,_,_,h=>h
 |_,.int _,_,_,h=>h
 |_,.str _,_,_,h=>h
 |0,.H _,_,hn,_=>by cases hn
 |n+1,.H ds,_,hn,h=>by
  obtain⟨a,xs,e,_,s,r⟩:=h;refine⟨a,xs,e,?_,s,vd hA n ds hn r⟩;rcases s with s|s
  .refine .inl λz=>?_
   obtain⟨ys,q,w⟩:=hA a z;rcases s with s|⟨o,s⟩<;>rw[q]at s<;>cases s<;>exact w
  .exact .inr s
 |n,.L _,_,hn,_=>by cases n<;>cases hn
 |n,.obj _ _,_,hn,_=>by cases n<;>cases hn
 |n,.exc _ _,_,hn,_=>by cases n<;>cases hn
 |n,.dic _,_,hn,_=>by cases n<;>cases hn
theorem vd{K:Fg}{H:Hp}{A:Ak->Prop}(hA:J4 H A):∀(n:Ag)(ds:Ac D){vs:Ac V},ds.all (wq n)=Ab->Y9 K CL H A0 vs ds->Y9 K CL H A vs ds
 |_,[],[],_,h=>h
 |n,d::ds,_::_,hn,h=>by
  simp only[DO,As]at hn;exact⟨Rj hA n d hn.1 h.1,vd hA n ds hn.2 h.2⟩
 |_,[],_::_,_,h=>h.elim
 |_,_::_,[],_,h=>h.elim
end
theorem Vl(hA0:J4 H0 A)(s:Aw H0 H)(hc:Ky fr d=Ab)(r:B0 K CL fr H0 A0 H v d):B0 K CL fr H0 A H v d:=by
 have hA:=hA0.same s;cases d with
 |L ds=>
  have lh:(fr&&ds.all (wq 5))=Ab:=hc;rw[As]at lh;obtain⟨a,xs,e,h0,h1,rs⟩:=r.2 lh.1 ds rfl;have Ϟ:J4 H (λb=>A b\/b=a):=λb hb=>hb.elim (hA b) λe=>by rw[e];exact⟨_,h1,trivial⟩
  have uu:=vd Ϟ 5 ds lh.2 (Y9.sub (λ_ z=>z.elim) _ rs)
  refine⟨⟨a,xs,e,.inl (hA0.new h0),zr.of h1,Y9.sub (λ_ z=>.inl z) _ uu⟩,λ_ vg e'=>?_⟩
  cases e';exact⟨a,xs,e,h0,h1,uu⟩
 |_=>exact⟨Rj hA 5 _ hc r.1,λ_ _ z=>nomatch z⟩
def spD(K:Fg)(CL:ClA)(n:Ag)(fr:Ao)(F:Ac D->R D):Sp:=λvs H Q E=>∃(ds:Ac D)(A:Ak->Prop),vs.length=n/\J4 H A/\Y9 K CL H A vs ds/\(match F ds with
  |.ok d=>∀ v H',Aw H H'->B0 K CL fr H A H' v d->Q v H'
  |.exn x=>∀ cls dx H',Aw H H'->Db K CL H' cls dx x->E cls dx H'
  | .bad=>AN)
def EKW(K:Fg)(CL:ClA)(A:Ak->Prop)(W:XW):XK:=λcls dx H'=>∃ x,Db K CL H' cls dx x/\W x H'
theorem Jj.plain{K:Fg}{H:Hp}{A:Ak->Prop}:∀{vs:Ac V}{ds:Ac D},Jj K CL H A vs ds->Y9 K CL H A0 vs ds
 |[],[],h=>trivial
 |_::_,_::_,h=>⟨h.1.plain,Jj.plain h.2⟩
 |[],_::_,h=>h.elim
 |_::_,[],h=>h.elim
theorem lQ{sh:Rho->Ao}(G:Y0 X.prog X.w X.K X.mg X.base CX k f fd ps (spD X.K CL n fr F))(hr:PP k X.A)(hg:Gl X x)(hm:X.mg x=Aa (.ref f))(hk:AM X.K (.ref f)=Ab)(hb:Cv X.K fd ps [])(hx:∀ A,G7 CX X (EKW X.K CL A W))(ha:SA X CL W (e::es) fs)(hat:oq X CL W (e::es) ft)(xm:∀ Y,sh Y=Ab->ft Y=fs Y)(hn:∀ Y ds,ft Y=.ok ds->ds.length=n)(zh:(x==("__debug__" : Ah))=Ad)(he:At (e::es) X.env=(Ad,eval e X.env)::At es X.env)(zj:∀ pos,(Br pos (At es X.env)).any (·.1)=Ad):SC X CL W fr (.Call (.Name x p) (e::es) [] pos) (λY=>(ft Y).bind λds=>(F ds).bind λd=>if sh Y=Ab then .ok d else if Ky fr d=Ab then .ok d else .bad):=λA pI s U H Q I ⟨hA,Y,gd,q⟩=>by
 dsimp only at q;by_cases hs:sh Y=Ab
 .rw[xm Y hs]at q;refine Ng G hr hg hm hk hb .nil (hx A) (ha A) zh he (zj _) pI s U H Q I ⟨hA,Y,gd,?_⟩;cases e1:fs Y with
  |bad=>rw[e1]at q;exact q
  |exn y=>rw[e1]at q;exact q
  |ok ds=>
   rw[e1]at q;intro vs H1 s1 r1;refine⟨ds,A,by rw[Bp,r1.length];exact hn Y ds (by rw[xm Y hs];exact e1),hA.same s1,by rw[Bp];exact r1,?_⟩
   have q':AX (B0 X.K CL fr H A) W H ((F ds).bind λd=>if sh Y=Ab then .ok d else if Ky fr d=Ab then .ok d else .bad) Q:=q
   cases e2:F ds with
   |ok d=>
    rw[e2,R.bind_ok,Au hs]at q';exact λv H2 s2 r2=>q' v H2 (s1.trans s2) ⟨r2.1,λz vg e'=>let ⟨a,xs,z1,z2,z3⟩:=r2.2 z vg e';⟨a,xs,z1,s1.free z2,z3⟩⟩
   |exn y=>rw[e2]at q';exact λcls dx H2 s2 xr=>⟨y,xr,q' H2 (s1.trans s2)⟩
   |bad=>rw[e2]at q';exact q'.elim
 .refine Ng G hr hg hm hk hb .nil (hx A0) (hat A) zh he (zj _) pI s U H Q I ⟨hA,Y,gd,?_⟩;cases e1:ft Y with
  |bad=>rw[e1]at q;exact q
  |exn y=>rw[e1]at q;exact q
  |ok ds=>
   rw[e1]at q;intro vs H1 s1 r1;refine⟨ds,A0,by rw[Bp,r1.plain.length];exact hn Y ds e1,λ_ z=>z.elim,by rw[Bp];exact r1.plain,?_⟩
   have q':AX (B0 X.K CL fr H A) W H ((F ds).bind λd=>if sh Y=Ab then .ok d else if Ky fr d=Ab then .ok d else .bad) Q:=q
   cases e2:F ds with
   |ok d=>
    rw[e2,R.bind_ok,AA hs]at q';split at q'
    .rename_i hc;exact λv H2 s2 r2=>q' v H2 (s1.trans s2) (Vl hA (s1.trans s2) hc ⟨r2.1,λz vg e'=>let ⟨a,xs,z1,z2,z3⟩:=r2.2 z vg e';⟨a,xs,z1,s1.free z2,z3⟩⟩)
    .exact q'.elim
   |exn y=>rw[e2]at q';exact λcls dx H2 s2 xr=>⟨y,xr,q' H2 (s1.trans s2)⟩
   |bad=>rw[e2]at q';exact q'.elim
end
theorem PC(env:B8):∀(ns:Ac (Ah×Ev))(U4:Ac (Ah×Ak)),(∀ x∈ns,x.2=.free->∃ c,env.cells.lookup x.1=Aa c)->(∀ x c,U4.lookup x=Aa c->env.cells.lookup x=Aa c) ->
  ∃ cl,(forIn ns U4 fun(x:Ah×Ev)(cs:Ac (Ah×Ak))=>(if (x.2==.free)=Ab then do let c <-cellOf env x.1;pure (EG ((x.1,c)::cs)) else pure (EG cs):FQ (ForInStep (Ac (Ah×Ak)))))=pure cl /\
   (∀ x c,cl.lookup x=Aa c->env.cells.lookup x=Aa c)/\(∀ x,((x,Ed)∈ns\/∃ c,U4.lookup x=Aa c)->∃ c,cl.lookup x=Aa c)
 |[],U4,_,h2=>⟨U4,by rw[E6],h2,λx hx=>hx.elim (λz=>nomatch z) id⟩
 |(n,k)::r,U4,h1,h2=>by
  rw[FZ];by_cases hk:k=.free
  .subst hk;obtain⟨c,hc⟩:=h1 (n,.free) AR rfl;obtain⟨cl,e,p,q⟩:=PC env r ((n,c)::U4) (λx hx=>h1 x (Ay _ hx)) (λx d hd=>by
    rw[BQ]at hd;split at hd
    .rename_i hx;cases hd;rw[eq_of_beq hx];exact hc
    .exact h2 x d hd)
   refine⟨cl,?_,p,λx hx=>q x ?_⟩
   .have e1:cellOf env n=pure c:=by unfold cellOf;dsimp only at hc;rw[hc]
    rw[Au (by rfl),e1]
    exact e
   .rcases hx with hx|⟨d,hd⟩
    .rcases AE.mp hx with z|z
     .cases z;exact .inr ⟨c,by simp[BQ]⟩
     .exact .inl z
    .by_cases tf:x=n
     .exact .inr ⟨c,by subst tf;simp[BQ]⟩
     .exact .inr ⟨d,by rw[BQ];rw[BO.mpr tf];exact hd⟩
  .obtain⟨cl,e,p,q⟩:=PC env r U4 (λx hx=>h1 x (Ay _ hx)) h2
   refine⟨cl,?_,p,λx hx=>q x ?_⟩
   .rw[AA (by simpa using hk)]
    exact e
   .rcases hx with hx|hx
    .rcases AE.mp hx with z|z
     .cases z;exact absurd rfl hk
     .exact .inl z
    .exact .inr hx
theorem Sn(h:∀ x∈scope.names,x.2=.free->∃ c,env.cells.lookup x.1=Aa c):∃ cl,closureFor scope env=pure cl/\(∀ x c,cl.lookup x=Aa c->env.cells.lookup x=Aa c)/\∀ x,(x,Ed)∈scope.names->∃ c,cl.lookup x=Aa c:=by
 obtain⟨cl,e,p,q⟩:=PC env scope.names [] h (λx c z=>by simp at z)
 refine⟨cl,?_,p,λx hx=>q x (.inl hx)⟩
 unfold closureFor
 first
  |exact e
  |(simp only[bind_pure];exact e)
  |(rw[show (forIn scope.names ([]:Ac (Ah×Ak)) _:FQ _)=pure cl from e];rfl)
theorem PZ:∀(names:Ac (Ah×Ev))(h:AC)(U4:Ac (Ah×Ak))(x:Ah)(c:Ak),(C9 h.objs.size names U4).lookup x=Aa c->U4.lookup x=Aa c\/((x,B4)∈names/\h.objs.size<=c/\(Ir h names).IsCell c Ae)
 |[],_,_,_,_,e=>.inl e
 |(n,k)::r,h,U4,x,c,e=>by
  unfold C9 at e;unfold Ir;by_cases hk:(k==B4)=Ab
  .rw[Au hk]at e ⊢;have hs:h.objs.size+1=(h.push { cls:=.type "cell",data:=.cell Ae }).objs.size:=(BR ..).symm;rw[hs]at e;rcases PZ r _ _ x c e with q|⟨q1,q2,q3⟩
   .rw[BQ]at q;cases hx:x==n with
    |true=>
     rw[hx]at q;cases q;refine .inr ⟨?_,AQ _,?_⟩
     .rw[eq_of_beq hx,eq_of_beq hk];exact AR
     .exact⟨_,Jv r _ _ _ (AI _ rfl),rfl⟩
    |false=>rw[hx]at q;exact .inl q
   .exact .inr ⟨Ay _ q1,by lia,q3⟩
  .rw[AA hk]at e ⊢;rcases PZ r h U4 x c e with q|⟨q1,q2,q3⟩
   .exact .inl q
   .exact .inr ⟨Ay _ q1,q2,q3⟩
theorem P0:∀(names:Ac (Ah×Ev))(h:AC)(U4:Ac (Ah×Ak)),(∀ x y c,U4.lookup x=Aa c->U4.lookup y=Aa c->x=y)->(∀ x c,U4.lookup x=Aa c->c<h.objs.size)->∀ x y c,(C9 h.objs.size names U4).lookup x=Aa c->(C9 h.objs.size names U4).lookup y=Aa c->x=y
 |[],_,_,i,_,x,y,c,e1,e2=>i x y c e1 e2
 |(n,k)::r,h,U4,i,b,x,y,c,e1,e2=>by
  unfold C9 at e1 e2;by_cases hk:(k==B4)=Ab
  .rw[Au hk]at e1 e2;have hs:h.objs.size+1=(h.push { cls:=.type "cell",data:=.cell Ae }).objs.size:=(BR ..).symm;rw[hs]at e1 e2;have look:∀ z d,BM z ((n,h.objs.size)::U4)=Aa d->(z=n/\d=h.objs.size)\/(z≠n/\U4.lookup z=Aa d):=λz d q=>by
    rw[BQ]at q;cases hx:z==n with
    |true=>rw[hx]at q;cases q;exact .inl ⟨eq_of_beq hx,rfl⟩
    |false=>rw[hx]at q;exact .inr ⟨λe=>by rw[e]at hx;simp at hx,q⟩
   refine P0 r _ _ (λz z' d q q'=>?_) (λz d q=>?_) x y c e1 e2
   .rcases look z d q with ⟨rfl,q1⟩|⟨_,q1⟩<;>rcases look z' d q' with ⟨rfl,q2⟩|⟨_,q2⟩
    .rfl
    .exact absurd (b _ _ q2) (by rw[q1];exact Bl _)
    .exact absurd (b _ _ q1) (by rw[q2];exact Bl _)
    .exact i _ _ _ q1 q2
   .rw[<-hs];rcases look z d q with ⟨_,q1⟩|⟨_,q1⟩
    .rw[q1];exact G4 _
    .exact IP (b _ _ q1)
  .rw[AA hk]at e1 e2;exact P0 r h U4 i b x y c e1 e2
theorem PD:∀(names:Ac (Ah×Ev))(n:Ag)(U4:Ac (Ah×Ak))(x:Ah),(x,B4)∉names->(C9 n names U4).lookup x=U4.lookup x
 |[],_,_,_,_=>rfl
 |(m,k)::r,n,U4,x,hx=>by
  unfold C9;have hr:(x,B4)∉r:=λz=>hx (Ay _ z)
  by_cases hk:(k==B4)=Ab
  .rw[Au hk,PD r _ _ x hr,BQ];cases q:x==m with
   |true=>exact absurd (by rw[eq_of_beq q,eq_of_beq hk];exact AR) hx
   |false=>rfl
  .rw[AA hk];exact PD r n U4 x hr
theorem P5(n0:Ag):∀(names:Ac (Ah×Ev))(n:Ag)(U4:Ac (Ah×Ak))(x:Ah),n0<=n->((x,B4)∈names\/∃ c,U4.lookup x=Aa c/\n0<=c)->∃ c,(C9 n names U4).lookup x=Aa c/\n0<=c
 |[],_,_,_,_,h=>h.elim (λz=>nomatch z) id
 |(m,k)::r,n,U4,x,hn,h=>by
  unfold C9;by_cases hk:(k==B4)=Ab
  .rw[Au hk];refine P5 n0 r _ _ x (by lia) ?_
   by_cases hx:(x==m)=Ab
   .exact .inr ⟨n,by rw[BQ,hx],hn⟩
   .rcases h with h|⟨c,h,hc⟩
    .rcases AE.mp h with z|z
     .cases z;simp at hx
     .exact .inl z
    .exact .inr ⟨c,by rw[BQ];simp only[hx];exact h,hc⟩
  .rw[AA hk];refine P5 n0 r _ _ x hn (h.imp (λh=>?_) id)
   rcases AE.mp h with z|z
   .cases z;simp at hk
   .exact z
theorem ZZ{A:AY}{E:Vq}(hQ:Q (newEnv scope s.heap.objs.size globals (C9 (s.heap.objs.size+1) scope.names cl) qual Ae .none (Aa env) Kb) { s with heap:=Ir (s.heap.push { cls:=.type "dict",data:=.dict #[] }) scope.names }):Av M A (J_6 scope globals cl [] qual Ae .none (Aa env)) Q E s:=by
 simp only[J_6,Option.isSome_some,Fj];refine Al (wpAny_alloc ?_);refine Al (wpAny_layCells _ (λname kind cells=>by cases hkc:kind==B4<;>simp[hkc]) _ _ _ _ ?_)
 rw[show ({ s with heap:=s.heap.push { cls:=.type "dict",data:=.dict #[] } }:An).heap.objs.size=s.heap.objs.size+1 from BR ..]
 rw[E6];exact Al (Ax (Ax hQ))
noncomputable def ye(X:Cx)(scope:Cf)(cl:Ac (Ah×Ak))(C:Ak)(N':Ac Ah)(s₀:An)(H₀:Hp)(fp:Ac Ak):Cx where
 prog:=X.prog
 w:=X.w
 K:=X.K
 mg:=X.mg
 base:=X.base
 A:=X.A
 N:=N'
 s₀:=s₀
 H₀:=H₀
 env:=compEnvC scope cl C X.env
 outer:=X.stack
 stack:=X.stack
 ex:=fp
 fn:=λx=>scope.names.lookup x==Aa B4
 calm:=X.calm
 pn:=[]
 xe:=λ_ _=>AN
theorem NV{env:B8}:∀{names:Ac (Ah×Ev)}{x:Ah}{k:Ev},(names.map λ(n,k)=>if (k==Ed&&env.scope.kind==.function&&env.kindOf n==Aa .cell) then (n,B4) else (n,k)).lookup x=Aa k->names.lookup x=Aa k\/(k=.cell/\names.lookup x=Aa .free)
 |[],_,_,h=>by simp at h
 |(n,j)::r,x,k,h=>by
  have ih:=@NV env r x k;have h':BM x ((if (j==Ed&&env.scope.kind==.function&&env.kindOf n==Aa .cell)=Ab then (n,B4) else (n,j))::(r.map λ(n,k)=>if (k==Ed&&env.scope.kind==.function&&env.kindOf n==Aa .cell) then (n,B4) else (n,k)))=Aa k:=h
  by_cases hc:(j==Ed&&env.scope.kind==.function&&env.kindOf n==Aa .cell)=Ab
  .rw[Au hc]at h';rw[BQ]at h' ⊢;cases hx:x==n with
   |true=>
    rw[hx]at h';cases h';simp only[As]at hc;exact .inr ⟨rfl,by rw[eq_of_beq hc.1.1]⟩
   |false=>rw[hx]at h';exact ih h'
  .rw[AA hc]at h';rw[BQ]at h' ⊢;cases hx:x==n with
   |true=>rw[hx]at h';exact .inl h'
   |false=>rw[hx]at h';exact ih h'
structure zd (X:Cx) (scope:Cf) (N':Ac Ah) (ts:Ac Ag):Prop where
 kind:scope.kind=.function
 uniq:∀ y∈scope.names,scope.names.lookup y.1=Aa y.2
 names:∀ y∈scope.names,y.2=.local->scope.names.lookup y.1=Aa .local
 free:∀ y∈scope.names,y.2=.free->X.env.scope.names.lookup y.1=Aa .cell\/X.env.scope.names.lookup y.1=Aa .free
 len:N'.length=X.N.length
 same:∀ i x,N'[i]?=Aa x->scope.names.lookup x=Aa .free->i∉ts->X.N[i]?=Aa x
 loc:∀ i x,N'[i]?=Aa x->(scope.names.lookup x=Aa .local\/scope.names.lookup x=Aa .cell)->i∈ts
structure qb (X:Cx) (scope:Cf) (cl:Ac (Ah×Ak)) (C:Ak) (h:AC):Prop where
 own:∀ x c,cl.lookup x=Aa c->X.env.cells.lookup x=Aa c\/(scope.names.lookup x=Aa .cell/\C<c/\h.IsCell c Ae)
 inj:∀ x y c,cl.lookup x=Aa c->cl.lookup y=Aa c->x=y
 has:∀ x,scope.names.lookup x=Aa .cell->∃ c,cl.lookup x=Aa c/\C<c
 fr:∀ x,(x,Ed)∈scope.names->∃ c,cl.lookup x=Aa c/\X.env.cells.lookup x=Aa c
section
variable{U:L2.St}
noncomputable def hideT(ts:Ac Ag)(U:L2.St):L2.St:=ts.foldl (λU t=>U.set t Ae) U
theorem PR:∀(ts:Ac Ag)(U:L2.St),(hideT ts U).length=U.length
 |[],_=>rfl
 |t::ts,U=>by show (hideT ts (U.set t Ae)).length=_;rw[PR ts,Bc]
theorem SV:∀(ts:Ac Ag)(U:L2.St){i:Ag}{v:V},(hideT ts U)[i]?=Aa (Aa v)->U[i]?=Aa (Aa v)/\i∉ts
 |[],_,_,_,h=>⟨h,by simp⟩
 |t::ts,U,i,v,h=>by
  obtain⟨h1,h2⟩:=SV ts (U.set t Ae) (i:=i) (v:=v) h;by_cases e:t=i
  .subst e;have:=HX h1;cases this
  .rw[Cc e]at h1;exact⟨h1,by simp only[AE,HB];exact⟨λz=>e z.symm,h2⟩⟩
theorem bH{fp:Ac Ak}(I:Y8 X pI U H s)(B:zd X scope N' ts)(hf:∀ b∈fp,IM X pI H b)(jj:∀ b∈fp,b<s.heap.objs.size)(hb:qb X scope cl C h')(hk:∀ b o,s.heap.get? b=Aa o->h'.get? b=Aa o)(hC:s.heap.objs.size<=C)(hn:h'.Ns C m):Y8 (ye X scope cl C N' s H fp) [] (hideT ts U) H {s with heap:=h',toks:=tk}:=by
 have stf:∀ b∈fp,b∉xx X.stack:=λb hb z=>by
  rcases AE.mp (I.stkSub b z) with e|e
  .exact(hf b hb).2.1 e
  .exact(hf b hb).2.2.1 e
 have Ϗ:∀ x,((relabel scope X.env).names.lookup x=Aa .cell\/(relabel scope X.env).names.lookup x=Aa .free)->scope.names.lookup x=Aa .free\/scope.names.lookup x=Aa .cell:=λx hx=>by
  rcases hx with z|z
  .rcases NV z with z|⟨_,z⟩
   .exact .inr z
   .exact .inl z
  .rcases NV z with z|⟨z,_⟩
   .exact .inl z
   .cases z
 have gtC:∀ c:Ak,C<c->s.heap.objs.size<=c:=λc z=>BF hC (E7 z)
 have cellK:∀ c v,s.heap.IsCell c v->h'.IsCell c v:=λc v ⟨o,ho,hd⟩=>⟨o,hk _ _ ho,hd⟩
 refine⟨⟨I.ok.mod,B.kind,I.ok.glob,I.ok.blt,hC,hb.inj,λx hx=>?_,λx c h e=>?_,I.ok.hd,I.ok.frames,.inl rfl,λb jh=>⟨?_,λx c e=>?_⟩,I.bs,BF I.ok.bsz I.sz,λb o e jh=>?_,stf,I.stack,I.stkFree⟩,rfl,I.bare,Un.kept hk,⟨m,hn,λi x v h1 h2 h3=>?_⟩,λx c e=>?_,I.hok.fresh hC,λx c e=>(hb.own x c e).elim (I.freeC x c) (λz=>I.hok.fresh (gtC c z.2.1)),λp hp=>absurd (show p∈([]:Pn) from hp) (by simp),I.hok.kept hk,?_⟩
 .rcases Ϗ x hx with z|z
  .obtain⟨c,q,_⟩:=hb.fr x (CT z);exact⟨c,q⟩
  .obtain⟨c,q,_⟩:=hb.has x z;exact⟨c,q⟩
 .obtain⟨c',q,z⟩:=hb.has x (eq_of_beq h);have e':cl.lookup x=Aa c:=e;rw[q]at e';cases e';exact gtC _ z
 .intro z;have z':b=C:=z;have:=jj b jh;rw[z']at this;exact absurd (AS this hC) (Bl _)
 .rcases hb.own x c e with z|z
  .exact(hf b jh).2.2.2.2.1 x c z
  .intro q;have:=jj b jh;have:=gtC c z.2.1;rw[q]at this;exact absurd ‹b<_› (Gq.mpr this)
 .rcases (hf b jh).2.2.2.1 with z|z
  .exact I.ok.noex b o e z
  .exact absurd (AS (AF e) (BF I.ok.bsz z)) (Bl _)
 .obtain⟨h2,hts⟩:=SV ts U h2;have h3':(relabel scope X.env).names.lookup x=Aa .local\/(relabel scope X.env).names.lookup x=Aa .cell\/(relabel scope X.env).names.lookup x=Aa .free:=h3;have pj:N'[i]?=Aa x:=h1;rcases h3' with z|z
  .rcases NV z with z|⟨z,_⟩
   .exact absurd (B.loc i x pj (.inl z)) hts
   .cases z
  .have fr:=(Ϗ x z).resolve_right λq=>hts (B.loc i x pj (.inr q))
   have hm:=CT fr;have hX:=B.same i x pj fr hts;obtain⟨m0,hn0,hl0⟩:=I.loc;obtain⟨u,ru,lk⟩:=hl0 i x v hX h2 (by
    rcases B.free _ hm rfl with q|q
    .exact .inr (.inl q)
    .exact .inr (.inr q))
   refine⟨u,ru,?_⟩;obtain⟨c,hc,hcX⟩:=hb.fr x hm;rcases lk with ⟨q,_⟩|⟨_,c',lh,ul⟩
   .have q':X.env.scope.names.lookup x=Aa .local:=q;rcases B.free _ hm rfl with p|p
    .rw[show X.env.scope.names.lookup x=_ from p]at q';cases q'
    .rw[show X.env.scope.names.lookup x=_ from p]at q';cases q'
   .have e:=hcX;rw[lh]at e;cases e;exact .inr ⟨z,c,hc,cellK _ _ ul⟩
 .rcases hb.own x c e with z|z
  .obtain⟨v,q⟩:=I.cell x c z;exact⟨v,cellK _ _ q⟩
  .exact⟨_,z.2.2⟩
 .show (hideT ts U).length=N'.length;rw[PR,I.len,B.len]
theorem Sw{D:Ak}{U':L2.St}{ys:Ac Aj}(I:Y8 X pI U H s)(hf:∀ b∈fp,IM X pI H b)(I':Y8 (ye X scope cl C N' s H fp) zo U' H' s')(hD:s.heap.objs.size<=D)(m9:D≠C)(hC:s.heap.objs.size<=C)(hd:s'.heap.get? D=Aa { cls:=.type "list",data:=.seq ys.toArray n })(ï:H' D=Ae)(rv:AZ xs ys)(hz:xs.length<=sizeLine)(hs:D6 C s'.heap u9):Y8 X pI U (upd H' D (.L xs)) {s' with heap:=u9}:=by
  have u:Un (xx X.stack) fp H H' s.heap s'.heap:=I'.base;have lt:∀ b o,s.heap.get? b=Aa o->b≠C/\b≠D:=λb o e=>⟨λz=>absurd (AS (AF e) (z ▸ hC)) (Bl _),λz=>absurd (AS (AF e) (z ▸ hD)) (Bl _)⟩
  have HD:H D=Ae:=I.hok.fresh hD;have ŭ:H' C=Ae:=I'.free;have kb:∀ b o,b≠C->s'.heap.get? b=Aa o->u9.get? b=Aa o:=λb o hb e=>(hs.2 b hb).trans e
  have u2:Un (xx X.stack) fp H (upd H' D (.L xs)) s.heap u9:=⟨λb o e q hb hx=>kb b o (lt b o e).1 (u.keep b o e q hb hx),λb o e q hb hx=>by
      obtain⟨sl,e1⟩:=u.slot b o e q hb hx;exact⟨sl,kb b _ (lt b o e).1 e1⟩,λb o e q hx=>by rw[AW (lt b o e).2];exact u.free b o e q hx,λb o e hx=>by
      obtain⟨o',e1⟩:=u.there b o e hx;exact⟨o',kb b _ (lt b o e).1 e1⟩,λb zs q=>by rw[AW (Fe q HD)];exact u.tups b zs q,λb o zs q=>by rw[AW (Fe q HD)];exact u.frzs b o zs q,λb ps q=>by rw[AW (Fe q HD)];exact u.tbls b ps q⟩
  have hok:yj X.prog X.w (upd H' D (.L xs)) u9:=λb o e=>by
    by_cases hb:b=D
    · subst hb;rw[B1]at e;cases e;exact⟨hz,ys,n,rv,kb _ _ m9 hd⟩
    · rw[AW hb]at e;refine(I'.hok b o e).stay (λc v hc q=>kb c v ?_ q) (λc q=>by rw[AW (Fe q ï)];exact q) λc zs q=>by rw[AW (Fe q ï)];exact q
      rcases hc with rfl|hc
      · exact Fe e ŭ
      · exact Fe hc ŭ
  exact I.call' (s':={s' with heap:=u9}) (ch:=fp) I'.os u2 hok I'.bare λb hb=>⟨(hf b hb).2.2.2.1,(hf b hb).2.1,(hf b hb).2.2.2.2.1,(hf b hb).2.2.2.2.2⟩
end
def ß(X:Cx)(ifs:Ac Aq)(tt:TT):Prop:=∀(pI:Pn)(s:An)(U:L2.St)(H:Hp)(Q:Ao->Hp->Prop),Y8 X pI U H s->tt U H Q ->
 Av (model X.prog X.w) X.A (forIn ifs Ab λc r=>if r=Ab then do let ok <-J_5 c X.env (eval c X.env);pure (EG ok) else pure (EG r)) (TP X pI U Q) X.xe s
theorem kK:ß X [] (λU H Q=>Q Ab H):=λpI s U H Q I h=>wpAny_tests_nil ⟨H,I,h⟩
theorem kJ(h:PT X c t):ß X [c] t:=λpI s U H Q I q=>wpAny_tests_one (h pI s U H Q I q)
theorem bV{D:Ak}{ys:Ac Aj}{E:Vq}{Q:Vq}(I:Y8 X ((D,{ cls:=.type "list",data:=.seq ys.toArray n })::pI) U H s)(hD:X.s₀.heap.objs.size<=D)(hp:∀ p∈X.pn++pI,p.1≠D)(hc:∀ x c,X.env.cells.lookup x=Aa c->c≠D)(hz:ys.length<=sizeLine)(h:∀ s',Y8 X ((D,{ cls:=.type "list",data:=.seq (ys++[y]).toArray (n+1) })::pI) U H s'->(∀ b o,b≠D->s.heap.get? b=Aa o->s'.heap.get? b=Aa o)->Q .none s'):Av (model X.prog X.w) X.A (call (.builtin "list.append") [.ref D,y]) Q E s:=by
 obtain⟨e,hn,hL,hfs,_⟩:=I.pin (D,{ cls:=.type "list",data:=.seq ys.toArray n }) (By _ AR);refine append_at (hsz:=by rw[AL];exact hz) e λh' hs hd=>?_
 have Ϣ:h'.get? D=Aa { cls:=.type "list",data:=.seq (ys++[y]).toArray (n+1) }:=by rw[hd];simp
 have kb:∀ b o,b≠D->s.heap.get? b=Aa o->h'.get? b=Aa o:=λb o hb q=>(hs.2 b hb).trans q
 have I0:Y8 X pI U H s:=I.pins_of λp hp=>I.pin p (By _ (Ay _ hp))
 have I1:Y8 X pI U H {s with heap:=h'}:=I0.turned (t':=s.toks) kb hn hL (.inr hD) hc hp
 refine h _ (I1.pins_of λp hp=>?_) kb
 rcases AE.mp hp with rfl|hp
 .exact⟨Ϣ,hn,hL,hfs,λv z=>by
   have z':M1 _ _=MX v:=z;cases z'⟩
 .exact I1.pin p (By _ hp)
theorem bC{scope:Cf}{env:B8}{prog:AG}{w:AD}{A:AY}{R:Jf->An->Prop}{s:An}{target:Aq}{it U4:Aj}(I:Ag->An->Prop)(turn:∀ n s,I n s->Av (model prog w) A (Fb it) (λr s₁=>match r with
      |none=>R (.ok .next) s₁
      | some v=>Av (model prog w) A (Hl target it v) (λ_ s₁'=>Av (model prog w) A (assign target env v) (λ_ s₂=>
          Av (model prog w) A (forIn ifs Ab λc r=>if r=Ab then do let ok <-J_5 c env (eval c env);pure (EG ok) else pure (EG r)) (λok s₃=>
            if ok=Ab then Av (model prog w) A (eval elt env) (λx s₄=>
              Av (model prog w) A (call (.builtin "list.append") [U4,x]) (λ_ s₅=>∃ m,m<n/\I m s₅) (J_7 (model prog w) A env λe s'=>R (.error e) s') s₄) (J_7 (model prog w) A env λe s'=>R (.error e) s') s₃
            else ∃ m,m<n/\I m s₃) (J_7 (model prog w) A env λe s'=>R (.error e) s') s₂) (J_7 (model prog w) A env λe s'=>R (.error e) s') s₁') (J_7 (model prog w) A env λe s'=>R (.error e) s') s₁) (J_7 (model prog w) A env λe s'=>R (.error e) s') s)(n:Ag)(h:I n s):Er (model prog w) A (.compLoop (.ListComp elt [⟨target,iter,ifs,0⟩] scope pos) 0 it U4 env) R s:=by
  refine codeAny_loop rfl I (λn s hI=>?_) n h
  show Av _ A ((compTurn (.ListComp elt [⟨target,iter,ifs,0⟩] scope pos) 0 it U4 env).onRaise (λx=>do Hd x env;theTreesLotGoes x)) _ _ s
  refine wpAny_noted ?_;rw[compTurn_list];refine Al (CJ (Al (Bg (turn n s hI) (λr s₁ h₁=>?_) λ_ _ h'=>h')))
  cases r with
  |none=>exact Ax h₁
  |some v=>
    refine Al (Bg h₁ (λ_ s₁' h₁'=>?_) λ_ _ h'=>h')
    refine Al (Bg h₁' (λ_ s₂ h₂=>Al (Bg h₂ (λok s₃ h₃=>?_) λ_ _ h'=>h')) λ_ _ h'=>h')
    cases ok with
    |false=>exact Ax ⟨rfl,h₃⟩
    |true=>
      exact Al (Al (Bg h₃ (λx s₄ h₄=>Al (Bg h₄ (λ_ s₅ h₅=>Ax (Ax ⟨rfl,h₅⟩)) λ_ _ h'=>h')) λ_ _ h'=>h'))
def Nf(J_:It)(ts:Ac Ag)(g:TG)(tt:TT)(te:TE)(U:L2.St)(H:Hp)(Q:VK):Prop:=∃ W:Ag->Ag->Ac V->L2.St->Hp->Prop,(∃ m,W 0 m [] (hideT ts U) H)/\∀ i m xs U H,W i m xs U H ->
 (J_.stop i H/\∀ p,H p=Ae->Q (.ref p) (upd H p (.L xs))) \/
 (J_.go i H/\xs.length<sizeLine/\∀ x H',J_.yld i H x H'->g x U H' λU2 H2=>tt U2 H2 λb H3=>if b=Ab then te U2 H3 λy H4=>∃ m',m'<m/\W (i+1) m' (xs++[y]) U2 H4 else ∃ m',m'<m/\W (i+1) m' xs U2 H3)
theorem TC{E:Vq}{RR:Aj->Ak->Jf->An->Prop}(hc:X.calm=Ab)(B:zd X scope N' ts)(I:Y8 X pI U H s)(T:uc X.prog X.w X.K tg J_ fp it tn)(st:tn 0 s.heap)(hf:∀ b∈fp,IM X pI H b)(wt:∀ x c,cl.lookup x=Aa c->X.env.cells.lookup x=Aa c)(qj:∀ x,(x,Ed)∈scope.names->∃ c,cl.lookup x=Aa c)(hg:∀ cl C s H,PG (ye X scope cl C N' s H fp) tg g)(ht:∀ cl C s H,ß (ye X scope cl C N' s H fp) ifs tt)(he:∀ cl C s H,PE (ye X scope cl C N' s H fp) elt te)(h:Nf J_ ts g tt te U H Q)(hRR:∀ cl D C s' H' U' zo xs ys n m,Y8 (ye X scope cl C N' s H fp) zo U' H' s'->s'.heap.get? D=Aa { cls:=.type "list",data:=.seq (Hj ys) n }->H' D=Ae->AZ xs ys->xs.length<=sizeLine->s.heap.objs.size<=D->D≠C->s.heap.objs.size<=C->s'.heap.Ns C m->Q (.ref D) (upd H' D (.L xs))->RR (.ref D) C (.ok .next) s'):Av (model X.prog X.w) X.A (newList []) (λU4 s₃=>Av (model X.prog X.w) X.A (J_6 scope X.env.globals cl [] X.env.qual Ae .none (Aa X.env)) (λο s₄=>Er (model X.prog X.w) X.A (.compStart (.ListComp elt [⟨tg,iter,ifs,0⟩] scope pos) 0 (.ref it) U4 {ο with scope:=relabel scope X.env}) (RR U4 ο.locals) s₄) E s₃) E s:=by
 refine Cp (ZZ ?_);dsimp only;generalize hH2:s.heap.push { cls:=.type "list",dict:=Ae,data:=.seq ([]:Ac Aj).toArray }=H2;have Ϫ:(Ir (H2.push { cls:=.type "dict",data:=.dict #[] }) scope.names).Ns H2.objs.size (λ_=>Ae):=(Heap.Ns.new H2 (.type "dict")).keeps (Jv _ _)
 have jp:∀ b o,H2.get? b=Aa o->(Ir (H2.push { cls:=.type "dict",data:=.dict #[] }) scope.names).get? b=Aa o:=λb o e=>Jv _ _ b o (Ar _ e)
 have nq:=PZ scope.names (H2.push { cls:=.type "dict",data:=.dict #[] }) cl;have jl:=P0 scope.names (H2.push { cls:=.type "dict",data:=.dict #[] }) cl;rw[BR]at nq jl;generalize hcl':C9 (H2.objs.size+1) scope.names cl=wm at nq jl;have hcf:∀ x,(x,B4)∉scope.names->wm.lookup x=cl.lookup x:=λx hx=>by rw[<-hcl'];exact PD _ _ _ x hx
 have sk:∀ x,(x,B4)∈scope.names->∃ c,wm.lookup x=Aa c/\H2.objs.size+1<=c:=λx hx=>by rw[<-hcl'];exact P5 _ _ _ _ x (AQ _) (.inl hx)
 generalize hh₁:Ir (H2.push { cls:=.type "dict",data:=.dict #[] }) scope.names=h₁ at Ϫ jp nq;have hC:H2.objs.size=s.heap.objs.size+1:=by rw[<-hH2,BR]
 have qi:s.heap.objs.size<=H2.objs.size:=by rw[hC];exact Jx _
 have m9:s.heap.objs.size≠H2.objs.size:=by rw[hC];exact A5 (G4 _)
 have below:∀ b,b<s.heap.objs.size->b≠H2.objs.size:=λb hb=>by rw[hC];exact A5 (IP hb)
 have old:∀ b o,s.heap.get? b=Aa o->h₁.get? b=Aa o:=λb o e=>jp b o (hH2 ▸ Ar _ e)
 have hacc:h₁.get? s.heap.objs.size=Aa { cls:=.type "list",data:=.seq ([]:Ac Aj).toArray 0 }:=jp _ _ (hH2 ▸ AI _ rfl);have clt:∀ x c,cl.lookup x=Aa c->c<s.heap.objs.size:=λx c e=>by
  obtain⟨v,q⟩:=I.cell x c (wt x c e);exact q.lt
 have bc:qb X scope wm H2.objs.size h₁:=by
  refine⟨λx c e=>?_,jl (λx y c e1 e2=>I.ok.inj x y c (wt x c e1) (wt y c e2)) (λx c e=>IP (AS (clt x c e) qi)),λx hx=>?_,λx hx=>?_⟩
  .rcases nq x c e with q|⟨q1,q2,q3⟩
   .exact .inl (wt x c q)
   .exact .inr ⟨B.uniq _ q1,q2,q3⟩
  .have hm:=CT hx;obtain⟨c,e,hc⟩:=sk x hm;exact⟨c,e,hc⟩
  .have hno:(x,B4)∉scope.names:=λz=>by
    have e1:=B.uniq _ hx;have e2:=B.uniq _ z;rw[show scope.names.lookup x=_ from e1]at e2
    cases e2
   obtain⟨c,e⟩:=qj x hx;exact⟨c,by rw[hcf x hno];exact e,wt x c e⟩
 have jj:∀ b∈fp,b<s.heap.objs.size:=λb hb=>by
  obtain⟨o,e,_⟩:=T.obj 0 _ st b hb;exact AF e
 generalize hD:s.heap.objs.size=D,hC':H2.objs.size=C at *;have I0:Y8 (ye X scope wm C N' s H fp) [] (hideT ts U) H {s with heap:=h₁,toks:=s.toks+([]:Ac (Ah×Aj)).length}:=bH (tk:=s.toks+([]:Ac (Ah×Aj)).length) I B hf (λb hb=>by rw[hD];exact jj b hb) bc old (by rw[hD];exact qi) Ϫ
 have nD:H D=Ae:=I.hok.fresh (by rw[hD];exact AQ _)
 have noD:∀ b∈fp,b≠D:=λb hb=>A5 (jj b hb)
 have noC:∀ b∈fp,b≠C:=λb hb=>below b (jj b hb)
 have stfs:D∉xx X.stack:=λz=>by
  obtain⟨_,o,ho,_⟩:=I.stack.mem z;exact absurd (AF ho) (by rw[hD];exact Bl _)
 have cD:∀ x c,wm.lookup x=Aa c->c≠D:=λx c e z=>by
  rcases bc.own x c e with q|⟨_,q,_⟩
  .obtain⟨v,q⟩:=I.cell x c q;exact absurd q.lt (by rw[z,hD];exact Bl _)
  .rw[z]at q;exact absurd (AS q qi) (Bl _)
 have I1:Y8 (ye X scope wm C N' s H fp) [(D,{ cls:=.type "list",data:=.seq ([]:Ac Aj).toArray 0 })] (hideT ts U) H {s with heap:=h₁,toks:=s.toks+([]:Ac (Ah×Aj)).length}:=I0.pins_of λp hp=>by
  have e:=BH.mp hp;subst e;exact⟨hacc,nD,m9,stfs,λv z=>by
   have z':M1 _ _=MX v:=z;cases z'⟩
 have st1:tn 0 h₁:=T.keep _ _ _ st λb _ o e=>old b o e
 obtain⟨W,⟨m0,w0⟩,turn⟩:=h;have fpk:∀{pl:Pn}{H':Hp},(∀ p∈pl,p.1=D)->(∀ b∈fp,H' b=Ae)->∀ b∈fp,IM (ye X scope wm C N' s H fp) pl H' b:=λ{pl H'} hp hn b hb=>
  ⟨hn b hb,noC b hb,λz=>by
   rcases AE.mp (I.stkSub b z) with e|e
   .exact(hf b hb).2.1 e
   .exact(hf b hb).2.2.1 e,.inl hb,λx c e=>(bc.own x c e).elim ((hf b hb).2.2.2.2.1 x c) (λz q=>absurd (CV qi z.2.1) (Gq.mpr (by rw[q];exact E7 (jj b hb)))),λp hp'=>by
   have zp:p∈pl:=hp';rw[hp p zp];exact(noD b hb).symm⟩
 have loop:∀ s₃:An,s₃={s with heap:=h₁,toks:=s.toks+([]:Ac (Ah×Aj)).length} ->
   Er (model X.prog X.w) X.A (.compLoop (.ListComp elt [⟨tg,iter,ifs,0⟩] scope pos) 0 (.ref it) (.ref D) (compEnvC scope wm C X.env)) (RR (.ref D) C) s₃:=by
  rintro s₃ rfl;refine bC (λk s'=>∃ i U' H' xs ys n,Y8 (ye X scope wm C N' s H fp) [(D,{ cls:=.type "list",data:=.seq (Hj ys) n })] U' H' s'/\tn i s'.heap/\(∀ b∈fp,H' b=Ae)/\AZ xs ys/\xs.length<=sizeLine/\W i k xs U' H') ?_ m0
   ⟨0,_,H,[],[],0,I1,st1,λb hb=>(hf b hb).1,.nil,D5 _,w0⟩
  rintro k s' ⟨i,U',H',xs,ys,n,I',rj,Ū,rv,hz,w'⟩;have one:∀ p∈[((D,{ cls:=.type "list",data:=.seq (Hj ys) n }):Ak×CD)],p.1=D:=λp hp=>by rw[BH.mp hp]
  rcases turn i k xs U' H' w' with ⟨stop,q⟩|⟨go,xu,step⟩
  .refine Bg (T.done (ye X scope wm C N' s H fp) rfl rfl rfl hc i _ s' U' H' (λ_ _=>AN) I' (fpk one Ū) rj stop) (λr s1 ⟨hr,ε⟩=>?_) λ_ _ f=>f.elim
   subst hr;obtain⟨e,hn,_⟩:=ε.pin _ (By _ AR);obtain⟨m,hm,_⟩:=ε.loc;exact hRR wm D C s1 H' U' _ xs ys n m ε e hn rv hz (AQ _) m9 qi hm (q D hn)
  .refine Bg (T.item (ye X scope wm C N' s H fp) rfl rfl rfl hc i _ s' U' H' (λ_ _=>AN) I' (fpk one Ū) rj go) (λr s1 ⟨u,hr,h4⟩=>?_) λ_ _ f=>f.elim
   subst hr;refine Bg h4 (λ_ s5 ⟨x,H5,I5,r5,y5,kh,fr5⟩=>?_) λ_ _ f=>f.elim
   have Ú:=I5.pinned (fpk one fr5) (T.obj _ _ kh);refine Bg (hg wm C s H _ s5 U' H5 x u _ Ú r5 (step x H5 y5)) (λ_ s6 ⟨U6,H6,I6,q6⟩=>?_) λ_ _ f=>f.elim
   refine Bg (ht wm C s H _ s6 U6 H6 _ I6 q6) (λok s7 ⟨H7,I7,q7⟩=>?_) λ_ _ f=>f.elim
   have again:∀{s8:An}{H8:Hp}{ys':Ac Aj}{n':Ag},Y8 (ye X scope wm C N' s H fp) ((D,{ cls:=.type "list",data:=.seq (Hj ys') n' })::LJ fp s5.heap) U6 H8 s8->Y8 (ye X scope wm C N' s H fp) [(D,{ cls:=.type "list",data:=.seq (Hj ys') n' })] U6 H8 s8/\tn (i+1) s8.heap/\∀ b∈fp,H8 b=Ae:=λ{s8 H8 ys' n'} I8=>
    ⟨I8.pins_of λp hp=>I8.pin p (By _ (by rw[BH.mp hp];exact AR)),T.keep _ _ _ kh λb hb o e=>(I8.pin (b,o) (By _ (Ay _ (NW hb e)))).1,λb hb=>by
     obtain⟨o,e,d⟩:=T.obj _ _ kh b hb;exact(I8.pin (b,o) (By _ (Ay _ (NW hb e)))).2.1⟩
   cases ok with
   |false=>
    rw[AA (by decide)]at q7
    obtain⟨m',hm,w7⟩:=q7;obtain⟨a1,a2,a3⟩:=again I7;rw[AA (by decide)]
    exact⟨m',hm,i+1,U6,H7,xs,ys,n,a1,a2,a3,rv,hz,w7⟩
   |true=>
    rw[Au rfl]at q7;rw[Au rfl];refine Bg (he wm C s H _ s7 U6 H7 _ I7 q7) (λval s8 ⟨y,H8,I8,r8,m',hm,w8⟩=>?_) λ_ _ f=>f.elim
    have hl:=rv.length;refine bV (X:=ye X scope wm C N' s H fp) (ys:=ys) (n:=n) (pI:=LJ fp s5.heap) I8 (by show s.heap.objs.size<=D;rw[hD];exact AQ _) (λp hp=>?_) cD (by lia) λs9 I9 kb=>?_
    .have zp:p∈LJ fp s5.heap:=hp;exact noD _ (SK zp).1
    .obtain⟨a1,a2,a3⟩:=again I9;exact⟨m',hm,i+1,U6,H8,xs++[y],ys++[val],n+1,a1,a2,a3,rv.append (.cons r8 .nil),by rw[Cy];exact xu,w8⟩
 exact codeAny_compStart_list (loop _ rfl) (T.self _ 0 _ _ _ st1 (loop _ rfl))
theorem jQ(hc:X.calm=Ab)(B:zd X scope N' ts)(hi:PI X tg iter wi)(hg:∀ cl C s H fp,PG (ye X scope cl C N' s H fp) tg g)(ht:∀ cl C s H fp,ß (ye X scope cl C N' s H fp) ifs tt)(he:∀ cl C s H fp,PE (ye X scope cl C N' s H fp) elt te)(hs:∀ x,Dl iter X.env x=pure x):PE X (.ListComp elt [⟨tg,iter,ifs,0⟩] scope pos) (λU H Q=>wi U H λJ_ H1=>Nf J_ ts g tt te U H1 Q):=by
 intro pI s U H Q I h;obtain⟨cl,qk,wt,qj⟩:=Sn (scope:=scope) (env:=X.env) λx hx hk=>I.ok.has x.1 ((B.free x hx hk).imp id id)
 rw[eval_ListComp];refine YV (use:=Ae) rfl hs qk B.kind B.names (J5 (hi pI s U H _ I h) λv s1 h1=>J5 h1 λŵ s2 h2=>?_)
 obtain⟨it,fp,tn,J_,H2,e,I2,T,st2,f2,h3⟩:=h2;subst e;refine TC (RR:=λU4 C=>compPost (model X.prog X.w) X.A X.xe Ae (EP X pI U Q) U4 C) hc B I2 T st2 f2 wt qj (λcl C s H=>hg cl C s H fp) (λcl C s H=>ht cl C s H fp) (λcl C s H=>he cl C s H fp) h3 λwm D C s' H' U' zo xs ys n m I' hd ï rv hz hD m9 hC hm q=>?_
 exact⟨m,hm,λu9 j6=>⟨.ref D,_,Sw I2 f2 I' hD m9 hC hd ï rv hz j6,rfl,q⟩⟩
theorem kO{n:Ah}(hc:X.calm=Ab)(B:zd X scope N' ts)(hi:PI X tg iter wi)(hg:∀ cl C s H fp,PG (ye X scope cl C N' s H fp) tg g)(ht:∀ cl C s H fp,ß (ye X scope cl C N' s H fp) ifs tt)(he:∀ cl C s H fp,PE (ye X scope cl C N' s H fp) elt te)(hs:∀ x,Dl iter X.env x=pure x)(hN:X.N.Nodup)(qo:X.N[i]?=Aa n)(hx:X.env.scope.names.lookup n=Aa .local)(nu:Dp (.ListComp elt [⟨tg,iter,ifs,0⟩] scope pos) (Aa (.Name n pos')) pos2.line X.env=pure Ab):PS X (.Assign [.Name n pos'] (.ListComp elt [⟨tg,iter,ifs,0⟩] scope pos) pos2) (OZ (λU H Q=>wi U H λJ_ H1=>Nf J_ ts g tt te U H1 Q) (Gg i)):=by
 intro pI s U H Dn I h;obtain⟨cl,qk,wt,qj⟩:=Sn (scope:=scope) (env:=X.env) λx hx hk=>I.ok.has x.1 ((B.free x hx hk).imp id id)
 rw[exec_Assign_Name_used _ _ _ _ nu];refine Al (CJ (Al ?_));show Av _ X.A (do let _ <-comprehension (.ListComp elt [⟨tg,iter,ifs,0⟩] scope pos) scope X.env _ (newList []) Ad (eval iter X.env) (Aa (assign (.Name n pos') X.env))) _ _ s
 refine Al (Bg (YV (use:=Aa (assign (.Name n pos') X.env)) (Q:=λ_ s'=>SP X pI Dn .next s') rfl hs qk B.kind B.names
  (J5 (hi pI s U H _ I h) λv s1 h1=>J5 h1 λŵ s2 h2=>?_)) (λ_ s' hq=>Ax (Ax hq)) λ_ _ e=>e)
 obtain⟨it,fp,tn,J_,H2,e,I2,T,st2,f2,h3⟩:=h2;subst e;refine TC (RR:=λU4 C=>compPost (model X.prog X.w) X.A X.xe (Aa (assign (.Name n pos') X.env)) (λ_ s'=>SP X pI Dn .next s') U4 C) hc B I2 T st2 f2 wt qj (λcl C s H=>hg cl C s H fp) (λcl C s H=>ht cl C s H fp) (λcl C s H=>he cl C s H fp) h3 λwm D C s' H' U' zo xs ys n' m I' hd ï rv hz hD m9 hC hm q=>?_
 have J_0:Y8 X pI U (upd H' D (.L xs)) s':=Sw I2 f2 I' hD m9 hC hd ï rv hz (Yg ..);refine YU (Sb J_0 hN qo (.inl hx) (show BB (.ref D) (.ref D) from rfl) (λÃ ε ⟨a,sb,ha⟩=>?_) (.inr hx))
 have hC0:X.s₀.heap.objs.size<=C:=BF I2.sz hC;have hL:C≠X.env.locals:=λz=>absurd (AS I2.lt (z ▸ hC)) (Bl _)
 have hcC:∀ x c,X.env.cells.lookup x=Aa c->c≠C:=λx c e z=>by
  obtain⟨v,q'⟩:=I2.cell x c e;exact absurd (AS q'.lt (by rw[z];exact hC)) (Bl _)
 have hp:∀ p∈X.pn++pI,p.1≠C:=λp hp z=>absurd (AS (AF (I2.pin p hp).1) (by rw[z];exact hC)) (Bl _)
 have ŭ:upd H' D (.L xs) C=Ae:=by rw[AW m9.symm];exact I'.free
 have hCa:C≠a:=by
  rcases ha with rfl|ha
  .exact hL
  .exact λz=>hcC n a ha z.symm
 refine⟨m,hm.sameBut sb hCa,λu9 j6=>⟨_,_,ε.turned (t':=Ã.toks) (λb o hb e=>(j6.2 b hb).trans e) ŭ hL (.inr hC0) hcC hp,q⟩⟩
theorem PV:∀(ts:Ac Ag)(Y:Rho)(j:Ag),(Hu ts Y)[j]?=if j∈ts then (Y[j]?).map (λ_=>Ae) else Y[j]?
 |[],Y,j=>by simp[Hu]
 |t::ts,Y,j=>by
  show (Hu ts (Y.set t Ae))[j]?=_;rw[PV ts];by_cases h1:j∈ts
  .rw[Au h1,Au (Ay _ h1)];by_cases h2:t=j
   .subst h2;rw[GE];cases Y[t]?<;>rfl
   .rw[Cc h2]
  .rw[AA h1];by_cases h2:t=j
   .subst h2;rw[Au AR,GE];cases Y[t]?<;>rfl
   .rw[Cc h2,AA (by simp only[AE,HB];exact⟨λz=>h2 z.symm,h1⟩)]
theorem PU:∀(ts:Ac Ag)(Y:Rho),(Hu ts Y).length=Y.length
 |[],_=>rfl
 |t::ts,Y=>by show (Hu ts (Y.set t Ae)).length=_;rw[PU ts,Bc]
theorem PL:∀(ts:Ac Ag)(U:L2.St){i:Ag},i∉ts->(hideT ts U)[i]?=U[i]?
 |[],_,_,_=>rfl
 |t::ts,U,i,h=>by
  simp only[AE,HB]at h;show (hideT ts (U.set t Ae))[i]?=_;rw[PL ts _ h.2,Cc (λz=>h.1 z.symm)]
section
variable{Y':Rho}
theorem U9.less(g:U9 K CL A Y U H)(hl:Y'.length=Y.length)(h:∀(i:Ag)(d:D)(o:Ao),Y'[i]?=Aa (Aa (d,o))->Y[i]?=Aa (Aa (d,o))):U9 K CL A Y' U H:=⟨λi d e=>g.sh i d (h i d Ad e),λi d e hn=>g.ow i d (h i d Ab e) hn,hl.trans g.len⟩
theorem U9.put(g:U9 K CL A Y U H)(t:Ag)(r:Y6 K CL H A v d):U9 K CL A (Y.set t (Aa (d,Ad))) (U.set t (Aa v)) H:=by
 refine⟨λj e h=>?_,λj e h hn=>?_,by rw[Bc,Bc];exact g.len⟩
 .by_cases hj:t=j
  .subst hj;have e1:=HX h;cases e1;have hl:t<U.length:=by
    rw[<-g.len];have:=(A8.mp h).1;simpa using this
   exact⟨v,by rw[Dr hl],r⟩
  .rw[Cc hj]at h;obtain⟨w',q,wk⟩:=g.sh j e h;exact⟨w',by rw[Cc hj];exact q,wk⟩
 .have hj:t≠j:=by
   rintro rfl;have:=HX h;cases this
  rw[Cc hj]at h;obtain⟨a,xs,ds,q,z⟩:=g.ow j e h hn;exact⟨a,xs,ds,by rw[Cc hj];exact q,z⟩
theorem U9.hide(g:U9 K CL A Y U H)(ts:Ac Ag):U9 K CL A (Hu ts Y) U H:=g.less (PU _ _) λi d o e=>by
 rw[PV]at e;split at e
 .cases q:Y[i]? with
  |none=>rw[q]at e;cases e
  |some x=>rw[q]at e;cases e
 .exact e
theorem U9.hideT(g:U9 K CL A Y U H)(ts:Ac Ag):U9 K CL A (Hu ts Y) (hideT ts U) H:=by
 have key:∀ i x,(Hu ts Y)[i]?=Aa (Aa x)->Y[i]?=Aa (Aa x)/\i∉ts:=λi x e=>by
  rw[PV]at e;split at e
  .cases q:Y[i]? with
   |none=>rw[q]at e;cases e
   |some x=>rw[q]at e;cases e
  .exact⟨e,by assumption⟩
 refine⟨λi d e=>?_,λi d e hn=>?_,by rw[PU,PR];exact g.len⟩
 .obtain⟨e1,e2⟩:=key i _ e;obtain⟨v,q,r⟩:=g.sh i d e1;exact⟨v,by rw[PL _ _ e2];exact q,r⟩
 .obtain⟨e1,e2⟩:=key i _ e;obtain⟨a,xs,ds,q,r⟩:=g.ow i d e1 hn;exact⟨a,xs,ds,by rw[PL _ _ e2];exact q,r⟩
end
def GG(K:Fg)(CL:ClA)(ts:Ac Ag)(as:D->Rho->R Rho)(g:TG):Prop:=∀ A Y U H v d Y' Q,U9 K CL A (Hu ts Y) U H->Y6 K CL H A v d->as d Y=.ok Y'->(∀ U',U9 K CL A Y' U' H->U9 K CL A (Hu ts Y) U' H->Q U' H)->g v U H Q
theorem mL(i:Ag):GG K CL [i] (λd Y=>.ok (Y.set i (Aa (d,Ad)))) (Gg i):=λA Y U H v d Y' Q g r e k=>by
 cases e;have g2:=g.put i r;have e1:(Hu [i] Y).set i (Aa (d,Ad))=Y.set i (Aa (d,Ad)):=by
  show (Y.set i Ae).set i (Aa (d,Ad))=_;rw[Xj]
 rw[e1]at g2;refine k _ g2 ?_;have:=g2.hide [i];have e2:Hu [i] (Y.set i (Aa (d,Ad)))=Hu [i] Y:=by
  show (Y.set i _).set i Ae=Y.set i Ae;rw[Xj]
 rwa [e2]at this
noncomputable abbrev W0:XW:=λ_ _=>AN
def â(X:Cx)(CL:ClA)(ifs:Ac Aq)(f:Rho->R Ao):Prop:=∀ A,ß X ifs (λU H Q=>J4 H A/\∃ Y,U9 X.K CL A Y U H/\Dx W0 H (f Y) Q)
theorem iF:â X CL [] (λ_=>.ok Ab):=λA pI s U H Q I ⟨hA,Y,g,p⟩=>kK pI s U H Q I (p H (Aw.refl H))
theorem iE(h:SB X CL W0 c f):â X CL [c] f:=λA pI s U H Q I q=>kJ (h A) pI s U H Q I q
theorem Z8{x:D}{xs ys:Ac D}(h:Cu g f (x::xs)=.ok ys):(g x=.ok Ad/\Cu g f xs=.ok ys)\/∃ y r,g x=.ok Ab/\f x=.ok y/\Cu g f xs=.ok r/\ys=y::r:=by
 unfold Cu at h;cases e:g x with
 |bad=>rw[e]at h;cases h
 |exn z=>rw[e]at h;cases h
 |ok b=>
  rw[e,R.bind_ok]at h;cases b with
  |false=>exact .inl ⟨rfl,h⟩
  |true=>
   rw[Au rfl]at h;cases e2:f x with
   |bad=>rw[e2]at h;cases h
   |exn z=>rw[e2]at h;cases h
   |ok y=>
    rw[e2,R.bind_ok]at h;cases e3:Cu g f xs with
    |bad=>rw[e3]at h;cases h
    |exn z=>rw[e3]at h;cases h
    |ok r=>
     rw[e3,R.bind_ok]at h;cases h;exact .inr ⟨y,r,rfl,rfl,rfl,rfl⟩
theorem Ly{r:R α}{f:α->R β}{b:β}(h:r.bind f=.ok b):∃ a,r=.ok a/\f a=.ok b:=by
 cases r with
 |ok a=>exact⟨a,rfl,h⟩
 |exn x=>cases h
 |bad=>cases h
theorem eN{ys:Ac D}(sj:GG K CL ts as g)(hA:J4 H1 A)(gd:U9 K CL A Y U H1)(yl:Ls K CL A ds J_ H1)(hz:ds.length<=sizeLine)(hcp:Cu (λx=>(as x Y).bind fc) (λx=>(as x Y).bind fe) ds=.ok ys)(q:∀ xs H2,Aw H1 H2->Y9 K CL H2 A xs ys->∀ p,H2 p=Ae->Q (.ref p) (upd H2 p (.L xs))):Nf J_ ts g (λU H Q=>J4 H A/\∃ Y,U9 K CL A Y U H/\Dx W0 H (fc Y) Q) (λU H Q=>J4 H A/\∃ Y,U9 K CL A Y U H/\AX (λH=>Y6 K CL H A) W0 H (fe Y) Q) U H1 Q:=by
 refine⟨λi m xs U' H'=>m=ds.length-i/\i<=ds.length/\xs.length<=i/\Aw H1 H'/\U9 K CL A (Hu ts Y) U' H'/\∃ outs rest,Y9 K CL H' A xs outs/\Cu (λx=>(as x Y).bind fc) (λx=>(as x Y).bind fe) (ds.drop i)=.ok rest/\ys=outs++rest,
  ⟨ds.length,by simp,D5 _,AQ _,Aw.refl _,gd.hideT ts,[],ys,trivial,hcp,rfl⟩,?_⟩
 rintro i m xs U' H' ⟨rfl,hi,hxl,sm,g',outs,rest,rs,hc,e⟩;obtain⟨yst,ygo⟩:=yl H' (Kp.of sm) i;by_cases xu:i<ds.length
 .have hd:ds[i]?=Aa ds[i]:=Cr xu;obtain⟨hgo,hyl⟩:=ygo _ hd;refine .inr ⟨hgo,by omega,λx H2 hx=>?_⟩
  obtain⟨s2,rx⟩:=hyl x H2 hx;have ø:=rx A (λa ha=>.inl ha) (hA.same sm)
  rw[Eh xu]at hc;have yy:=sm.trans s2;rcases Z8 hc with ⟨h1,h2⟩|⟨y,r,h1,h2,h3,h4⟩
  .obtain⟨Y',ea,ec⟩:=Ly h1;refine sj A Y U' H2 x ds[i] Y' _ (g'.same s2) ø ea λU3 g3 g4=>⟨hA.same yy,Y',g3,?_⟩
   rw[ec];exact λH3 s3=>by
    dsimp only;rw[AA (by decide)]
    exact⟨ds.length-(i+1),by omega,rfl,xu,by omega,yy.trans s3,g4.same s3,outs,rest,(rs.same s2).same s3,h2,e⟩
  .obtain⟨Y',ea,ec⟩:=Ly h1;obtain⟨Y2,ea2,ee⟩:=Ly h2;rw[ea]at ea2;cases ea2;refine sj A Y U' H2 x ds[i] Y' _ (g'.same s2) ø ea λU3 g3 g4=>⟨hA.same yy,Y',g3,?_⟩
   rw[ec];exact λH3 s3=>by
    dsimp only;rw[Au rfl];refine⟨(hA.same yy).same s3,Y',g3.same s3,?_⟩;rw[ee];exact λv H4 s4 r4=>⟨ds.length-(i+1),by omega,rfl,xu,by rw[Cy,G9];omega,(yy.trans s3).trans s4,(g4.same s3).same s4,outs++[y],r,(((rs.same s2).same s3).same s4).append ⟨r4,trivial⟩,h3,by rw[e,h4];simp⟩
 .have nj:ds.length<=i:=by omega
  rw[GP nj]at hc;have hr:rest=[]:=by cases hc;rfl
  subst hr;rw[Bp]at e;subst e;exact .inl ⟨yst nj,λp hp=>q xs H' sm rs p hp⟩
theorem Gi.ok_of{r:R (Ac D)}(h:AX Rq W H (r.bind f) Q)(k:∀ ds J_ H',r=.ok ds->Aw H H'->Ls K CL A ds J_ H'->ds.length<=sizeLine->AX Rq W H' (f ds) Q->Q' J_ H'):Gi K CL A W H r Q':=by
 cases r with
 |ok d=>exact λJ_ H2 s2 y z=>k d J_ H2 rfl s2 y z (AX.same s2 h)
 |exn x=>exact h
 |bad=>exact h
theorem uV{r:R α}{a:α}(h:yu r=.ok a):r=.ok a:=by
 cases r with
 |ok b=>exact h
 |exn x=>cases h
 |bad=>cases h
theorem S6{X:Cx}{fi:Rho->R (Ac D)}(sj:GG X.K CL ts as g)(hA:J4 H A)(gd:U9 X.K CL A Y U H)(p:AX (B0 X.K CL Ab H A) W H ((fi Y).bind λxs=>(yu (Cu (λx=>(as x Y).bind fc) (λx=>(as x Y).bind fe) xs)).bind λys=>.ok (.L ys)) Q):Gi X.K CL A W H (fi Y) (λJ_ H1=>Nf J_ ts g (λU H Q=>J4 H A/\∃ Y,U9 X.K CL A Y U H/\Dx W0 H (fc Y) Q) (λU H Q=>J4 H A/\∃ Y,U9 X.K CL A Y U H/\AX (λH=>Y6 X.K CL H A) W0 H (fe Y) Q) U H1 Q):=
 Gi.ok_of p λds J_ H1 e1 s1 yl hz p1=>by
  cases e2:yu (Cu (λx=>(as x Y).bind fc) (λx=>(as x Y).bind fe) ds) with
  |ok ys=>
   rw[e2]at p1;exact eN sj (hA.same s1) (gd.same s1) yl hz (uV e2) λxs H2 s2 rs q hq=>p1 _ _ (s2.trans (FW hq _)) (LG (s1.trans s2) ((hA.same s1).same s2) hq rs)
  |exn x=>rw[e2]at p1;cases hq:Cu (λx=>(as x Y).bind fc) (λx=>(as x Y).bind fe) ds<;>rw[hq]at e2<;>cases e2
  |bad=>rw[e2]at p1;exact p1.elim
theorem lP(hc:X.calm=Ab)(B:zd X scope N' ts)(hi:SI X CL W tg iter fi)(sj:GG X.K CL ts as g)(hg:∀ cl C s H fp,PG (ye X scope cl C N' s H fp) tg g)(ht:∀ cl C s H fp,â (ye X scope cl C N' s H fp) CL ifs fc)(he:∀ cl C s H fp,SE (ye X scope cl C N' s H fp) CL W0 elt fe)(hs:∀ x,Dl iter X.env x=pure x):SC X CL W Ab (.ListComp elt [⟨tg,iter,ifs,0⟩] scope pos) (λY=>(fi Y).bind λxs=>(yu (Cu (λx=>(as x Y).bind fc) (λx=>(as x Y).bind fe) xs)).bind λys=>.ok (.L ys)):=λA pI s U H Q I ⟨hA,Y,gd,p⟩=>
 jQ hc B (hi A) hg (λcl C s H fp=>ht cl C s H fp A) (λcl C s H fp=>he cl C s H fp A) hs pI s U H Q I ⟨hA,Y,gd,S6 sj hA gd p⟩
theorem Sx.setF(x:Sx K CL Fz B Y U H)(s:Aw H H')(h0:H a=Ae)(h1:H' a=Aa (.L xs))(r:Y9 K CL H' (λb=>Bf B Y U b\/b=a) xs ds):Sx K CL Fz B (Y.set i (Aa (.L ds,Ab))) (U.set i (Aa (.ref a))) H':=by
 have nA:¬ Bf B Y U a:=x.aok.new h0;have own:∀(j:Ag)(e:D),(Y.set i (Aa (.L ds,Ab)))[j]?=Aa (Aa (e,Ab))->(i=j/\e=.L ds)\/(i≠j/\Y[j]?=Aa (Aa (e,Ab))):=λj e h=>by
  by_cases hj:i=j
  .subst hj;have:=HX h;cases this;exact .inl ⟨rfl,rfl⟩
  .exact .inr ⟨hj,by rw[Cc hj]at h;exact h⟩
 have u7:∀{j:Ag}{y:Sl},(Y.set i (Aa (.L ds,Ab)))[j]?=Aa y->i=j->(U.set i (Aa (.ref a)))[j]?=Aa (Aa (.ref a)):=λ{j y} h e=>by
  subst e;have hl:i<U.length:=by
   rw[<-x.len];have:=(A8.mp h).1;simpa using this
  rw[Dr hl]
 have sub:∀ b,Bf B (Y.set i (Aa (.L ds,Ab))) (U.set i (Aa (.ref a))) b->Bf B Y U b\/b=a:=λb h=>by
  rcases h with h|⟨j,e,h1,h2⟩
  .exact .inl (.inl h)
  .rcases own j e h1 with ⟨hj,_⟩|⟨hj,pj⟩
   .rw[u7 h1 hj]at h2;cases h2;exact .inr rfl
   .rw[Cc hj]at h2;exact .inl (.inr ⟨j,e,pj,h2⟩)
 have wide:∀{v:V}{d:D},Y6 K CL H (Bf B Y U) v d->Y6 K CL H' (Bf B (Y.set i (Aa (.L ds,Ab))) (U.set i (Aa (.ref a)))) v d:=λr=>(Y6.wide (λb hb=>(sub b hb).imp id λe=>by rw[e];exact h0) _ r).same s
 have Ô:∀{v:Ac V}{d:Ac D},Y9 K CL H (Bf B Y U) v d->Y9 K CL H' (Bf B (Y.set i (Aa (.L ds,Ab))) (U.set i (Aa (.ref a)))) v d:=λr=>(Y9.wide (λb hb=>(sub b hb).imp id λe=>by rw[e];exact h0) _ r).same s
 refine⟨⟨λj e h=>?_,λj e h hn=>?_,by rw[Bc,Bc];exact x.len⟩,λb h=>?_,λj e b g1 g2=>?_,λj k e f b g1 g2 g3 g4=>?_,λb o z=>s _ _ (x.same b o z),by rw[Bc,Bc];exact x.len,λj h=>?_⟩
 .have hj:i≠j:=by
   rintro rfl;have:=HX h;cases this
  rw[Cc hj]at h;obtain⟨w',q,wk⟩:=x.good.sh j e h;exact⟨w',by rw[Cc hj];exact q,wide wk⟩
 .rcases own j e h with ⟨hj,rfl⟩|⟨hj,h'⟩
  .have q:=u7 h hj;exact⟨a,xs,ds,q,rfl,.inr ⟨j,_,h,q⟩,h1,Y9.sub sub _ r⟩
  .obtain⟨b,ys,es,q,z,ha,hh,rr⟩:=x.good.ow j e h' hn;have q':(U.set i (Aa (.ref a)))[j]?=Aa (Aa (.ref b)):=by rw[Cc hj];exact q
   exact⟨b,ys,es,q',z,.inr ⟨j,e,h,q'⟩,s _ _ hh,Ô rr⟩
 .rcases sub b h with z|z
  .obtain⟨ys,q,w⟩:=x.aok b z;exact⟨ys,s _ _ q,w⟩
  .rw[z];exact⟨_,h1,trivial⟩
 .rcases own j e g1 with ⟨hj,_⟩|⟨hj,h'⟩
  .rw[u7 g1 hj]at g2;cases g2;refine⟨λo z=>?_,λz=>nA (.inl z)⟩
   have:=x.same a o z;rw[h0]at this;cases this
  .rw[Cc hj]at g2;exact x.new j e b h' g2
 .rcases own j e g1 with ⟨hj,_⟩|⟨hj,h'⟩
  .rw[u7 g1 hj]at g3;cases g3;rcases own k f g2 with ⟨hk,_⟩|⟨hk,u9⟩
   .exact hj.symm.trans hk
   .rw[Cc hk]at g4;exact absurd (.inr ⟨k,f,u9,g4⟩) nA
  .rw[Cc hj]at g3;rcases own k f g2 with ⟨hk,_⟩|⟨hk,u9⟩
   .rw[u7 g2 hk]at g4;cases g4;exact absurd (.inr ⟨j,e,h',g3⟩) nA
   .rw[Cc hk]at g4;exact x.dis j k e f b h' u9 g3 g4
 .rcases own j _ h with ⟨_,z⟩|⟨hj,h'⟩
  .cases z
  .obtain⟨b,ys,p1,p2,p3⟩:=x.pin j h';exact⟨b,ys,p1,by rw[Cc hj];exact p2,s _ _ p3⟩
theorem Sx.upd(x:Sx K CL Fz B Y U H){i:Ag}{d:D}{a:Ak}{xs:Ac V}(hi:Y[i]?=Aa (Aa (d,Ab)))(ha:U[i]?=Aa (Aa (.ref a)))(r:Y9 K CL H (Bf B Y U) xs ds):Sx K CL Fz B (Y.set i (Aa (.L ds,Ab))) U (L2.upd H a (.L xs)):=by
 have oa:Bf B Y U a:=.inr ⟨i,d,hi,ha⟩;have hil:i<Y.length:=(A8.mp hi).1;have get:∀(j:Ag)(e:D),(Y.set i (Aa (.L ds,Ab)))[j]?=Aa (Aa (e,Ab))↔(i=j/\e=.L ds)\/(i≠j/\Y[j]?=Aa (Aa (e,Ab))):=λj e=>by
  by_cases hj:i=j
  .subst hj;rw[Dr hil];simp;exact⟨λz=>z.symm,λz=>z.symm⟩
  .rw[Cc hj];simp[hj]
 have same:∀ b,Bf B (Y.set i (Aa (.L ds,Ab))) U b↔Bf B Y U b:=λb=>by
  constructor
  .rintro (h|⟨j,e,h1,h2⟩)
   .exact .inl h
   .rcases (get j e).mp h1 with ⟨rfl,_⟩|⟨_,h1⟩
    .exact .inr ⟨i,d,hi,h2⟩
    .exact .inr ⟨j,e,h1,h2⟩
  .rintro (h|⟨j,e,h1,h2⟩)
   .exact .inl h
   .by_cases hj:i=j
    .subst hj;exact .inr ⟨i,.L ds,(get i _).mpr (.inl ⟨rfl,rfl⟩),h2⟩
    .exact .inr ⟨j,e,(get j e).mpr (.inr ⟨hj,h1⟩),h2⟩
 have kp:Kp (Bf B Y U) H (L2.upd H a (.L xs)):=λb o e na=>by
  have td:b≠a:=by
   rintro rfl;exact na oa
  rw[AW td];exact e
 refine⟨⟨λj e h=>?_,λj e h hn=>?_,by rw[Bc];exact x.len⟩,λb h=>?_,λj e b g1 g2=>?_,λj k e f b g1 g2 g3 g4=>?_,λb o z=>?_,by rw[Bc];exact x.len,λj h=>?_⟩
 .have hj:i≠j:=by
   rintro rfl;have:=HX h;cases this
  rw[Cc hj]at h;obtain⟨w',q,wk⟩:=x.good.sh j e h;exact⟨w',q,Y6.sub (λb hb=>(same b).mp hb) _ (Y6.kp kp _ wk)⟩
 .rcases (get j e).mp h with ⟨rfl,rfl⟩|⟨hj,h'⟩
  .exact⟨a,xs,ds,ha,rfl,(same a).mpr oa,B1,Y9.sub (λb hb=>(same b).mp hb) _ (Y9.kp kp _ r)⟩
  .obtain⟨b,ys,es,q,z,hb,hh,rr⟩:=x.good.ow j e h' hn;have td:b≠a:=λz=>hj (x.dis i j d e a hi h' ha (z ▸ q))
   exact⟨b,ys,es,q,z,(same b).mpr hb,by rw[AW td];exact hh,Y9.sub (λb hb=>(same b).mp hb) _ (Y9.kp kp _ rr)⟩
 .obtain⟨ys,q,w⟩:=x.aok b ((same b).mp h);by_cases e:b=a
  .rw[e];exact⟨_,B1,trivial⟩
  .exact⟨ys,by rw[AW e];exact q,w⟩
 .rcases (get j e).mp g1 with ⟨rfl,_⟩|⟨_,h'⟩
  .exact x.new i d b hi g2
  .exact x.new j e b h' g2
 .rcases (get j e).mp g1 with ⟨rfl,_⟩|⟨hj,h'⟩
  .rcases (get k f).mp g2 with ⟨rfl,_⟩|⟨hk,u9⟩
   .rfl
   .exact x.dis i k d f b hi u9 g3 g4
  .rcases (get k f).mp g2 with ⟨rfl,_⟩|⟨hk,u9⟩
   .exact x.dis j i e d b h' hi g3 g4
   .exact x.dis j k e f b h' u9 g3 g4
 .have td:b≠a:=λe=>(x.new i d a hi ha).1 o (e ▸ z)
  rw[AW td];exact x.same b o z
 .rcases (get j _).mp h with ⟨_,z⟩|⟨hj,h'⟩
  .cases z
  .obtain⟨b,ys,p1,p2,p3⟩:=x.pin j h';have td:b≠a:=λz=>hj (x.dis i j d _ a hi h' ha (z ▸ p2))
   exact⟨b,ys,p1,p2,by rw[AW td];exact p3⟩
section
theorem B6.exC{X:Cx}(x:Sx X.K CL Fz B Y U H)(h:B6 X.K CL Fz B W (O.of Y r f) D')(k:∀ d v H',r=.ok d->Aw H H'->B0 X.K CL fr H A H' v d->Sx X.K CL Fz B Y U H'->B6 X.K CL Fz B W (f d) D'->Q v H'):AX (B0 X.K CL fr H A) W H r Q:=by
 cases r with
 |ok d=>exact λv H' s r=>k d v H' rfl s r (x.grow s) h
 |exn y=>exact λH' s=>h H' λb o z=>s _ _ (x.same b o z)
 |bad=>exact h
def à(X:Cx)(CL:ClA)(W:XW)(fr:Ao)(i:Ag)(st:AT)(f:Rho->R D):Prop:=∀ A,PS X st (OZ (λU H Q=>J4 H A/\∃ Y,U9 X.K CL A Y U H/\AX (B0 X.K CL fr H A) W H (f Y) Q) (Gg i))
theorem SC.sas{n:Ah}(hN:X.N.Nodup)(hi:X.N[i]?=Aa n)(hx:þ X.env.scope n)(he:SC X CL W fr e fe)(hs:Dp e (Aa (.Name n pos')) pos.line X.env=pure Ad)(hf:X.fn n=Ab\/X.env.scope.names.lookup n=Aa .local):à X CL W fr i (.Assign [.Name n pos'] e pos) fe:=
 λA=>G6 hN hi hx (he A) hs hf
theorem gR{n:Ah}(hc:X.calm=Ab)(B:zd X scope N' ts)(hi:SI X CL W tg iter fi)(sj:GG X.K CL ts as g)(hg:∀ cl C s H fp,PG (ye X scope cl C N' s H fp) tg g)(ht:∀ cl C s H fp,â (ye X scope cl C N' s H fp) CL ifs fc)(he:∀ cl C s H fp,SE (ye X scope cl C N' s H fp) CL W0 elt fe)(hs:∀ x,Dl iter X.env x=pure x)(hN:X.N.Nodup)(qo:X.N[i]?=Aa n)(hx:X.env.scope.names.lookup n=Aa .local)(nu:Dp (.ListComp elt [⟨tg,iter,ifs,0⟩] scope pos) (Aa (.Name n pos')) pos2.line X.env=pure Ab):à X CL W Ab i (.Assign [.Name n pos'] (.ListComp elt [⟨tg,iter,ifs,0⟩] scope pos) pos2) (λY=>(fi Y).bind λxs=>(yu (Cu (λx=>(as x Y).bind fc) (λx=>(as x Y).bind fe) xs)).bind λys=>.ok (.L ys)):=λA pI s U H Dn I ⟨hA,Y,gd,p⟩=>
 kO hc B (hi A) hg (λcl C s H fp=>ht cl C s H fp A) (λcl C s H fp=>he cl C s H fp A) hs hN qo hx nu pI s U H Dn I ⟨hA,Y,gd,S6 sj hA gd p⟩
theorem UP{st:AT}(h:à X CL W fr i st fe):SS X CL W st (λY=>O.of Y (fe Y) λd=>.next (Y.set i (Aa (d,Ad)))):=λFz B pI s U H D I ⟨Y,x,p⟩=>
 h (Bf B Y U) pI s U H D I ⟨x.aok,Y,x.good,B6.exC x p λd v H' _ s r x' q=>q _ H' (x'.set i r.1)⟩
theorem iM{st:AT}(h:à X CL W Ab i st fe):SS X CL W st (λY=>O.of Y (fe Y) λd=>setF Y i d):=λFz B pI s U H D I ⟨Y,x,p⟩=>
 h (Bf B Y U) pI s U H D I ⟨x.aok,Y,x.good,B6.exC x p λd v H' _ s r x' q=>by
  cases d with
  |L ds=>
   obtain⟨a,xs,rfl,h0,h1,rs⟩:=r.2 rfl ds rfl;exact q _ H' (x.setF s h0 h1 rs)
  |dic ds=>exact r.1.elim
  | _=>exact q.elim⟩
theorem iJ(he:SC X CL W Ab e fe):SS X CL W (.Return (Aa e) pos) (λY=>O.of Y (fe Y) λd=>.ret d Ab):=λFz B pI s U H D I ⟨Y,x,p⟩=>
 Ft (he (Bf B Y U)) pI s U H D I ⟨x.aok,Y,x.good,B6.exC x p λd v H' _ s r x' q=>q v H' x'.same (Y6.sub (λa h=>.inl h) _ r.1) λ_ ds e=>by
  obtain⟨a,xs,h0,h1,h2,h3⟩:=r.2 rfl ds e;refine⟨a,xs,h0,λo z=>?_,h2,Y9.sub (λb hb=>hb.imp .inl id) _ h3⟩
  have:=x.same a o z;rw[h1]at this;cases this⟩
noncomputable def Rz(Y:Rho)(i:Ag):Ao:=match Y[i]? with
  |some (Aa (_,o))=>o
  |_=>Ad
theorem iH(he:PE X e (BS i)):SS X CL W (.Return (Aa e) pos) (λY=>O.of Y (EC Y i) λd=>.ret d (Rz Y i)):=λFz B pI s U H D I ⟨Y,x,p⟩=>
 Ft he pI s U H D I (by
  dsimp only at p;cases e:EC Y i with
  |bad=>rw[e]at p;exact p.elim
  |exn z=>exact(TJ e).elim
  |ok d=>
   rw[e]at p;obtain⟨o,e,hn⟩:=TU e;have eo:Rz Y i=o:=by unfold Rz;rw[e]
   rw[O.of_ok,eo]at p;cases o with
   |false=>
    obtain⟨v,q,r⟩:=x.good.sh i d e;exact⟨v,q,p v H x.same (Y6.sub (λa h=>.inl h) _ r) λz=>nomatch z⟩
   |true=>
    obtain⟨a,xs,ds,q,rfl,ha,hh,r⟩:=x.good.ow i d e (hn rfl);obtain⟨n1,n2⟩:=x.new i _ a e q;refine⟨_,q,p _ H x.same ⟨a,xs,rfl,.inl n2,zr.of hh,Y9.sub (λa h=>.inl h) _ r⟩ λ_ vg e'=>?_⟩
    cases e';exact⟨a,xs,rfl,n1,hh,Y9.sub (λb hb=>hb.elim .inl λz=>z ▸ ha) _ r⟩)
theorem T6(h:FC Y i=.ok ds):Y[i]?=Aa (Aa (.L ds,Ab)):=by
 unfold FC at h;split at h
 .rename_i e;cases h;exact e
 .cases h
theorem Tg{x:Ex}(h:FC Y i=.exn x):AN:=by
 unfold FC at h;split at h<;>cases h
variable{o:Aq}
theorem qS(ho:PE X o (BS i))(he:SE X CL W e fe)(My:BW o "append" X.env (eval o X.env)=eval o X.env)(w6:((Br cpos (At [e] X.env)).all (λx=>!x.1)&&(DY cpos (CO [] X.env)).all (λx=>x.1.isSome)&&decide ([e].length+([]:Ac CK).length+(if ([]:Ac CK).isEmpty then 0 else 1)<30))=Ab)(J7:(apos.endLine==cpos.line)=Ab)(hs:At [e] X.env=[(Ad,eval e X.env)])(nu:Dp (.Call (.Attribute o "append" apos) [e] [] cpos) Ae pos.line X.env=pure Ad):
  SS X CL W (.Expr (.Call (.Attribute o "append" apos) [e] [] cpos) pos) (λY=>O.of Y (FC Y i) λxs=>O.of Y (fe Y) λd=>if Dd (xs.length+1)=Ab then .next (Y.set i (Aa (.L (xs++[d]),Ab))) else .bad):=λFz B pI s U H D I ⟨Y,x,p⟩=>by
 refine K9 (LN Dj X5 Yd SL ho (Bm (he (Bf B Y U)) B9 hs) My w6 J7 hs rfl) nu pI s U H D I ?_;dsimp only at p;cases e1:FC Y i with
 |bad=>rw[e1]at p;exact p.elim
 |exn z=>exact(Tg e1).elim
 |ok ds=>
  rw[e1,O.of_ok]at p;have hi:=T6 e1;obtain⟨a,xs,vg,q,e2,ha,hh,r⟩:=x.good.ow i _ hi (λz=>nomatch z)
  cases e2;refine⟨_,q,.inl ⟨rfl,xs,zr.of hh⟩,x.aok,Y,x.good,B6.ex x p λd v H' _ s rv x' q'=>?_⟩
  split at q'
  .rename_i hz;refine⟨a,xs,v,rfl,rfl,s _ _ hh,?_,q' _ _ (x'.upd hi q ((r.same s).append ⟨rv,trivial⟩))⟩;have:=K8 hz;rw[r.length];omega
  .exact q'.elim
theorem qQ(ho:PE X o (BS i))(he:SC X CL W Ab e fe)(My:BW o "extend" X.env (eval o X.env)=eval o X.env)(w6:((Br cpos (At [e] X.env)).all (λx=>!x.1)&&(DY cpos (CO [] X.env)).all (λx=>x.1.isSome)&&decide ([e].length+([]:Ac CK).length+(if ([]:Ac CK).isEmpty then 0 else 1)<30))=Ab)(J7:(apos.endLine==cpos.line)=Ab)(hs:At [e] X.env=[(Ad,eval e X.env)])(nu:Dp (.Call (.Attribute o "extend" apos) [e] [] cpos) Ae pos.line X.env=pure Ad):
  SS X CL W (.Expr (.Call (.Attribute o "extend" apos) [e] [] cpos) pos) (λY=>O.of Y (FC Y i) λxs=>O.of Y (fe Y) λd=>O.of Y (Rn d) λys=>if Dd (xs.length+ys.length)=Ab then .next (Y.set i (Aa (.L (xs++ys),Ab))) else .bad):=λFz B pI s U H D I ⟨Y,x,p⟩=>by
 refine K9 (LN Dj PySem.F.slot_list_extend PySem.F.type_list_extend dA ho (Bm (he (Bf B Y U)) B9 hs) My w6 J7 hs rfl) nu pI s U H D I ?_;dsimp only at p;cases e1:FC Y i with
 |bad=>rw[e1]at p;exact p.elim
 |exn z=>exact(Tg e1).elim
 |ok ds=>
  rw[e1,O.of_ok]at p;have hi:=T6 e1;obtain⟨a,xs,vg,q,e2,ha,hh,r⟩:=x.good.ow i _ hi (λz=>nomatch z)
  cases e2;refine⟨_,q,.inl ⟨rfl,xs,zr.of hh⟩,x.aok,Y,x.good,B6.exC x p λd v H' _ s rv x' q'=>?_⟩
  cases d with
  |L es=>
   obtain⟨b,ys,rfl,h0,h1,rs⟩:=rv.2 rfl es rfl;rw[eB,O.of_ok]at q';split at q'
   .rename_i hz;refine⟨a,b,xs,ys,rfl,rfl,s _ _ hh,h1,?_,q' _ _ (x'.upd hi q ((r.same s).append (Y9.sub (λc hc=>.inl hc) _ rs)))⟩
    rw[r.length,rs.length];exact K8 hz
   .exact q'.elim
  |_=>exact q'.elim
theorem iL{as:Ov.D->Rho->R Rho}(hGT:GT X.K CL as g)(hg:PG X tg g)(he:SE X CL W e fe)(hs:KJ [tg] e pos.line X.env=pure Ad)(hw:IB [tg] e X.env=pure Ae)(h1:(Co [tg] X.env).map (·.2)=[assign tg X.env])(hax:∀ d Y x,as d Y≠.exn x):SS X CL W (.Assign [tg] e pos) (λY=>O.of Y (fe Y) λd=>O.of Y (as d Y) λY'=>.next Y'):=λFz B pI s U H D I ⟨Y,x,p⟩=>
 sN (he (Bf B Y U)) hg hs hw h1 pI s U H D I ⟨x.aok,Y,x.good,B6.ex x p λd v H' _ s rv x' q'=>by
  cases ea:as d Y with
  |bad=>rw[ea]at q';exact q'.elim
  |exn z=>exact absurd ea (hax _ _ z)
  |ok Y2=>
   rw[ea,O.of_ok]at q';exact hGT Fz B Y U H' v d Y2 _ x' rv ea λU' x3=>q' U' H' x3⟩
end
theorem AZ.take(r:AZ xs its):∀ n,AZ (xs.take n) (its.take n):=by
 induction r with
 |nil=>intro n;simp;exact .nil
 |cons h _ ih=>
  intro n;cases n with
  |zero=>exact .nil
  |succ n=>exact .cons h (ih n)
theorem AZ.drop(r:AZ xs its):∀ n,AZ (xs.drop n) (its.drop n):=by
 induction r with
 |nil=>intro n;simp;exact .nil
 |cons h t ih=>
  intro n;cases n with
  |zero=>exact .cons h t
  |succ n=>exact ih n
section
variable{A:AY}{E:Vq}
theorem uT{j:Ak}{its:A3 Aj}{x:Aj}{Q:Vq}(st:s.heap.IsTupleIter j t k)(sq:s.heap.IsTuple t its)(at_:its[k]?=Aa x)(go:∀ h2,h2.IsTupleIter j t (k+1)->D6 j s.heap h2->Q x {s with heap:=h2}):Av (model prog w) A (Bk (.ref j)) Q E s:=by
 obtain⟨oj,gj,cj,dj⟩:=id st;obtain⟨ot,gt,_,nt,dt⟩:=sq;show Av _ _ (K3 _ _ >>= _) _ _ _;refine Al (CC st.typeIs Ec (Dv Ec st.typeIs X1 ?_ (XX _)));show Av _ _ (field (.ref j) 0 >>= _) _ _ _;refine Al (Bx gj dj (x:=.ref t) rfl ?_);show Av _ _ (field (.ref j) 1 >>= _) _ _ _;refine Al (Bx gj dj (x:=.int k 0) rfl ?_);refine Al (Dh gt dt ?_);simp only[W1,at_];exact Al (Gy gj dj (by simp) (Ax ⟨x,rfl,Ax (go _ ⟨_,B3 _ gj (E8 (Dy dj _)),(Yj ..).trans cj,by rw[Dy dj];simp[Cm]⟩ (HI ..))⟩))
theorem cZ{j:Ak}{its:A3 Aj}{Q:Vq}(calm:A.handled=Ae)(st:s.heap.IsTupleIter j t k)(sq:s.heap.IsTuple t its)(at_:its[k]?=Ae)(up:∀ h2 e,Jy j s.heap h2->(∃ o,h2.get? e=Aa o/\o.cls=.type "StopIteration")->E (.ref e) {s with heap:=h2}):Av (model prog w) A (Bk (.ref j)) Q E s:=by
 obtain⟨oj,gj,cj,dj⟩:=id st;obtain⟨ot,gt,_,nt,dt⟩:=sq;show Av _ _ (K3 _ _ >>= _) _ _ _;refine Al (CC st.typeIs Ec (Dv Ec st.typeIs X1 ?_ (XX _)));show Av _ _ (field (.ref j) 0 >>= _) _ _ _;refine Al (Bx gj dj (x:=.ref t) rfl ?_);show Av _ _ (field (.ref j) 1 >>= _) _ _ _;refine Al (Bx gj dj (x:=.int k 0) rfl ?_);refine Al (Dh gt dt ?_);simp only[W1,at_];refine Al (Kf (Al (Gy gj dj (by simp) ?_)))
 refine Al ?_;simp only[newExc,newTuple];refine Al (Cp ?_ (by size_fits))
 refine Al (m:=YL _ _) (Eo (a:=.none) (by first|rfl|(simp only[YL];rfl)) (Cp ?_ (by size_fits)))
 simp only[raiseNew];refine Al (wpAny_handled ?_)
 first|rw[show A.in1.handled=Ae from calm]|rw[calm]
 exact Al (Ax (wpAny_throw (up _ _ (((HI ..).extBut.push _).push _) ⟨_,AI _ rfl,rfl⟩)))
end
structure Dw (prog:AG) (w:AD) (A:AY) (j:Ak) (fp:Ac Ak) (n:Ag) (P:Ag->Aj->Prop) (S:Ag->AC->Prop):Prop where
 frame:∀ i h h2,S i h->(∀ c∈fp,∀ o,h.get? c=Aa o->h2.get? c=Aa o)->S i h2
 item:∀ i (s:An) (Q:Vq) (E:Vq),i<n->S i s.heap->(∀ x h2 tk,P i x->S (i+1) h2->D6 j s.heap h2->Q x {s with heap:=h2,toks:=tk})->Av (model prog w) A (Bk (.ref j)) Q E s
 done:∀ i (s:An) (Q:Vq) (E:Vq),n<=i->S i s.heap->(∀ h2 e,Jy j s.heap h2->(∃ o,h2.get? e=Aa o/\o.cls=.type "StopIteration")->E (.ref e) {s with heap:=h2})->Av (model prog w) A (Bk (.ref j)) Q E s
def Gj(t:Ao)(h:AC)(j l:Ak)(i:Ag):Prop:=match t with
  |true=>h.IsTupleIter j l i
  |false=>h.IsListIter j l i
def Ct(t:Ao)(h:AC)(l:Ak)(its:A3 Aj):Prop:=match t with
  |true=>h.IsTuple l its
  |false=>h.IsList l its
theorem Mz{A:AY}(calm:A.handled=Ae)(t:Ao)(j l:Ak)(ne:l≠j)(its:A3 Aj):Dw prog w A j [j,l] its.size (λi v=>its[i]?=Aa v) (λi h=>Gj t h j l i/\Ct t h l its):=by
 cases t with
 |true=>exact⟨λ_ _ _ z k=>⟨z.1.at λo e=>k j (by simp) o e,z.2.at λo e=>k l (by simp) o e⟩,λi s Q E hi z q=>uT z.1 z.2 (x:=its[i]) (by simp[hi]) λh2 z2 sb=>q _ h2 s.toks (by simp[hi]) ⟨z2,z.2.extBut sb.extBut ne⟩ sb,λi s Q E hi z q=>cZ calm z.1 z.2 (by simp[hi]) q⟩
 |false=>exact⟨λ_ _ _ z k=>⟨z.1.at λo e=>k j (by simp) o e,z.2.at λo e=>k l (by simp) o e⟩,λi s Q E hi z q=>wpAny_nextOf_list_item z.1 z.2 (x:=its[i]) (by simp[hi]) λh2 z2 sb=>q _ h2 s.toks (by simp[hi]) ⟨z2,z.2.extBut sb.extBut ne⟩ sb,λi s Q E hi z q=>wpAny_nextOf_list_end calm z.1 z.2 (by simp[hi]) q⟩
theorem nb2{I c:Ag}(b:l<I)(h:c∈[I+1,l]):c≠I/\c≠I+3/\c≠I+4:=by
 have h':c=I+1\/c=l:=by simpa using h
 omega
theorem vc{I i j:Ag}(h:i≠j):I+i≠I+j:=by omega
theorem ni0{I i:Ag}(h:i≠0):I+i≠I:=by omega
def sf(t:Ao)(K:Fg)(H:Hp)(a:Ak)(xs:Ac V):Prop:=match t with
  |true=>yg K H a xs
  |false=>zr K H a xs
theorem Mq(I:Y8 X pI U H s)(h:sf t X.K H a xs):∃ its:Ac Aj,AZ xs its/\Ct t s.heap a its.toArray/\xs.length<=sizeLine:=by
 cases t with
 |true=>
  obtain⟨its,rv,p,z⟩:=I.tuple h;exact⟨its,rv,p,z⟩
 |false=>
  obtain⟨its,rv,p,z⟩:=I.list h;exact⟨its,rv,p.isList,z⟩
theorem cS{ys:Ac V}(I:Y8 X pI U H s)(h:sf t X.K H a xs)(h2:sf t X.K H a ys):xs=ys:=by
 cases t with
 |true=>exact I.tuple_inj h h2
 |false=>exact I.list_inj h h2
theorem Y8.turnedL(ch:Ac Ak)(I:Y8 X pI U H s)(k:∀ b o,b∉ch->s.heap.get? b=Aa o->h'.get? b=Aa o)(hf:∀ b∈ch,IM X pI H b):Y8 X pI U H {s with heap:=h',toks:=t'}:=by
 have ϴ:∀ b u,H b=Aa u->b∉ch:=λb u e z=>by rw[(hf b z).1]at e;cases e
 refine I.step (g':=s.gens) (d':=s.drawn) (ch:=ch) (λb hb=>⟨(hf b hb).2.2.2.1,(hf b hb).2.1,(hf b hb).2.2.2.2.1,(hf b hb).2.2.2.2.2⟩) (λb o _ _ hc e _=>k b o hc e) (λb o _ _ hc e _=>⟨o.slots,k b o hc e⟩) (λ_ _ _ _ n=>n)
  (λb o hc e=>⟨o,k b o hc e⟩) (λ_ _ e=>e) (λ_ _ _ e=>e) (λb ps e=>⟨#[],by rw[e];simp⟩) (λm ⟨o,es,ep,ho,r⟩=>⟨o,es,ep,k _ o (λz=>(hf _ z).2.1 rfl) ho,r⟩) (λb u e=>(I.hok b u e).stay (λc v hc q=>k c v ?_ q) (λ_ q=>q) λ_ _ q=>q) I.bare
 rcases hc with z|z
 .rw[z];exact ϴ b u e
 .exact ϴ c _ z
theorem Gj.at'{j:Ak}(z:Gj t h j l i)(k:∀ o,h.get? j=Aa o->h2.get? j=Aa o):Gj t h2 j l i:=by
 cases t with
 |true=>exact PySem.Heap.IsTupleIter.at z k
 |false=>exact PySem.Heap.IsListIter.at z k
def xo(t:Ao)(l:Ak):CD:=match t with
  |true=>{ cls:=.type "tuple_iterator",data:=.fields #[.ref l,.int 0 0] }
  |false=>{ cls:=.type "list_iterator",data:=.fields #[.ref l,.int 0 0] }
theorem MJ{A:AY}{E:Vq}{its:A3 Aj}{Q:Vq}(h:Ct t s.heap l its)(q:Q (.ref s.heap.objs.size) {s with heap:=s.heap.push (xo t l)}):Av (model prog w) A (Md (.ref l)) Q E s:=by
 cases t with
 |true=>exact Iw h q
 |false=>exact E4 h q
theorem Ct.push{its:A3 Aj}(z:Ct t h l its)(o:CD):Ct t (h.push o) l its:=by
 cases t with
 |true=>exact PySem.Heap.IsTuple.at z λ_ e=>Ar _ e
 |false=>exact PySem.Heap.IsList.at z λ_ e=>Ar _ e
theorem Oq{j:Ak}(e:h.get? j=Aa (xo t l)):Gj t h j l 0:=by
 cases t with
 |true=>exact⟨_,e,rfl,rfl⟩
 |false=>exact⟨_,e,rfl,rfl⟩
theorem N5(t:Ao)(l:Ak):(xo t l).isFreed=Ad:=by cases t<;>rfl
theorem Ct.lt{its:A3 Aj}(z:Ct t h a its):a<h.objs.size:=by
 cases t with
 |true=>obtain⟨o,e,_⟩:=z;exact AF e
 |false=>obtain⟨o,e,_⟩:=z;exact AF e
theorem ON(r:Y6 K CL H A v d)(e:DD d=.ok ds):∃ t a xs,v=.ref a/\(∀ H2,Kp A H H2->sf t K H2 a xs)/\Y9 K CL H A xs ds:=by
 cases d with
 |L es=>
  cases e;obtain⟨q,xs,rfl,na,sq,r⟩:=r;exact⟨Ad,q,xs,rfl,λH2 k=>Oz k na sq,r⟩
 |H es=>
  cases e;obtain⟨q,xs,rfl,na,sq,r⟩:=r;exact⟨Ab,q,xs,rfl,λH2 k=>Oy k na sq,r⟩
 |_=>cases e
theorem Gj.live{l:Ag}(z:Gj t h j l i):∃ o,h.get? j=Aa o/\∀ v,o.data≠.cell v:=by
 cases t with
 |true=>obtain⟨o,e,c,d⟩:=z;exact⟨o,e,λv z=>by rw[d]at z;cases z⟩
 |false=>obtain⟨o,e,c,d⟩:=z;exact⟨o,e,λv z=>by rw[d]at z;cases z⟩
theorem Gj.keep{l:Ag}(z:Gj t h j l i)(k:∀ o,h.get? j=Aa o->h2.get? j=Aa o):Gj t h2 j l i:=by
 cases t with
 |true=>exact PySem.Heap.IsTupleIter.at z k
 |false=>exact PySem.Heap.IsListIter.at z k
theorem wA{A:AY}(calm:A.handled=Ae)(t:Ao)(j l:Ak)(ne:l≠j)(its:A3 Aj):Draws prog w A j [j,l] its.size (λi v=>its[i]?=Aa v) (λi h=>Gj t h j l i/\Ct t h l its):=
 have d:=Mz (prog:=prog) (w:=w) calm t j l ne its
 ⟨λi h z=>let ⟨o,e,_⟩:=z.1.live;⟨o,e⟩,d.frame,d.item,λs Q E h q=>d.done _ s Q E (AQ _) h q⟩
theorem nB{A:AY}(calm:A.handled=Ae)(t:Ao)(j l:Ak)(ne:l≠j)(its:A3 Aj)(i:Ag)(hi:its.size<=i):Draws prog w A j [j,l] i (λ_ _=>AN) (λk h=>k=i/\Gj t h j l i/\Ct t h l its):=
 have d:=Mz (prog:=prog) (w:=w) calm t j l ne its
 ⟨λ_ h z=>let ⟨o,e,_⟩:=z.2.1.live;⟨o,e⟩,λk h h' z q=>⟨z.1,d.frame i h h' z.2 q⟩,λk s Q E lt z=>absurd z.1 (A5 lt),λs Q E h q=>d.done i s Q E hi h.2 q⟩
def Ite(K:Fg)(t:Ao)(a:Ak):It:=
 ⟨λi H=>∃ xs x,sf t K H a xs/\xs[i]?=Aa x,λi H v H'=>∃ p x,H p=Ae/\v=.ref p/\(∀ xs,sf t K H a xs->xs[i]?=Aa x)/\H'=upd H p (.H [.int i,x]),λi H=>∃ xs,sf t K H a xs/\xs.length<=i⟩
def eTn(t:Ao)(I l:Ag)(i:Ag)(h:AC):Prop:=(∃ old,IsEnum h (I+1) I i old)/\Gj t h I l i
theorem bL(t:Ao)(I l:Ag)(b:l<I):uc P w K (.Tuple es n pos) (Ite K t l) [I,I+1] (I+1) (eTn t I l) where
  mem:=by simp
  obj:=λi h ⟨⟨old,z1⟩,z2⟩ c hc=>by
    simp only[AE,Bo,Dm]at hc;rcases hc with rfl|rfl
    · exact z2.live
    · exact⟨_,z1,λv z=>by cases z⟩
  keep:=λi h h2 ⟨⟨old,z1⟩,z2⟩ k=>⟨⟨old,k _ (by simp) _ z1⟩,z2.keep λo e=>k _ (by simp) o e⟩
  item:=by
    intro X hP hw hK hc i pI s U H E Iv hf ⟨⟨old,z1⟩,z2⟩ ⟨xs,x,q1,hx⟩;subst hP hw hK;obtain⟨us,rx,px,_⟩:=Mq Iv q1;obtain⟨u,hu,ru⟩:=rx.get hx;have lu:i<us.toArray.size:=by
      have:=(A8.mp hu).1;simpa using this
    refine wpAny_pyNext_enum_itemD (wA (A:=X.A.in1) (Iv.ok.hd hc) t I l (A5 b) us.toArray) z1 ⟨z2,px⟩ lu (ni0 (by decide)) (by simp only[AE,Bo,Dm,HB];exact⟨ni0 (by decide),Et (AS b (DU _ _))⟩) λu' h2 tk hu' ho it2 hT sz kp=>⟨_,rfl,wpAny_letOwnedTupleGo_enum ho λh3 d1 sb=>?_⟩
    have eu:u'=u:=by
      rw[W9,hu]at hu';exact(Bj hu').symm
    subst eu;have lt:I+1<s.heap.objs.size:=AF z1;have kp3:∀ c o,c∉[I,I+1]->s.heap.get? c=Aa o->h3.get? c=Aa o:=λc o nc q=>by
      simp only[AE,Bo,Dm,HB]at nc;exact sb.extBut c o nc.2 (kp c o nc.2 nc.1 q)
    have nT:∀ c∈[I,I+1],c≠s.heap.objs.size:=λc hc z=>by
      have:c<=I+1:=by
        simp only[AE,Bo,Dm]at hc;rcases hc with z|z<;>rw[z]<;>simp
      exact absurd (z ▸ CV this lt) (Bl _)
    have I1:Y8 X pI U (upd H s.heap.objs.size (.H [.int i,x])) { s with heap:=s.heap.push { cls:=.type "tuple",data:=.seq #[.int i tk,u'] },toks:=s.toks }:=
      Iv.laid (λ_ _ q=>Ar _ q) (AQ _) ⟨(by decide:2<=sizeLine),[.int i tk,u'],.cons ⟨_,rfl⟩ (.cons ru .nil),⟨_,AI _ rfl,rfl,_,rfl⟩⟩
    have hf':∀ b∈[I,I+1],IM X pI (upd H s.heap.objs.size (.H [.int i,x])) b:=λb hb=>⟨by rw[AW (nT b hb)];exact(hf b hb).1,(hf b hb).2⟩
    have I2:Y8 X pI U (upd H s.heap.objs.size (.H [.int i,x])) {s with heap:=h3,toks:=tk+1}:=Y8.turnedL (s:={ s with heap:=s.heap.push { cls:=.type "tuple",data:=.seq #[.int i tk,u'] },toks:=s.toks }) [I,I+1] I1 (λc o nc q=>by
      rcases Heap.get?_push_cases q with ⟨e1,e2⟩|e1
      · subst e1 e2;exact sb.extBut _ _ (Et lt) hT
      · exact kp3 c o nc e1) hf'
    exact⟨.ref s.heap.objs.size,_,I2,rfl,⟨s.heap.objs.size,x,Iv.fresh,rfl,λzs hz=>by rw[cS Iv hz q1];exact hx,rfl⟩,⟨⟨u',by simpa using d1⟩,it2.1.keep λo q=>sb.extBut _ o (CB (ni0 (by decide))) q⟩,λb hb=>(hf' b hb).1⟩
  done:=by
    intro X hP hw hK hc i pI s U H E Iv hf ⟨⟨old,z1⟩,z2⟩ ⟨xs,q1,hk⟩;subst hP hw hK;obtain⟨us,rx,px,_⟩:=Mq Iv q1;have e1:=rx.length;have e2:us.toArray.size<=i:=by rw[AL,<-e1];exact hk
    refine wpAny_pyNext_enum_endD (nB (A:=X.A.in1) (Iv.ok.hd hc) t I l (A5 b) us.toArray i e2) z1 ⟨rfl,z2,px⟩ λh2 eb=>⟨rfl,Y8.turnedL [I] Iv (t':=s.toks) (λc o nc q=>eb c o (λz=>nc (by simp[z])) q) λc hc=>hf c ?_⟩
    have:c=I:=by simpa using hc
    subst this;simp
  self:=λ_ _ _ _ _ st h=>Y_0 st.1.choose_spec h
theorem fD(t:Ao)(l:Ak)(xs:A3 Aj):Meets (Builtin.«enumerate.__new__» ⟨[.type "enumerate",.ref l],[]⟩) (λ_ R s=>Ct t s.heap l xs /\
   R (.ok (.ret (.ref (s.heap.push (xo t l)).objs.size))) { s with heap:=(s.heap.push (xo t l)).push { cls:=.type "enumerate",data:=.fields #[.none,.bool Ad,.ref s.heap.objs.size,Cm 0,.none,.none] } }):=
 .of_wp λprog w A R s h=>by
  obtain⟨hp,g,d,tk,os⟩:=s;obtain⟨hl,h⟩:=h;have ϯ:=sub_enumerate;have hL:Ct t (Jz ⟨hp,g,d,tk,os⟩) l xs:=hl
  wp_walk
  refine wpAny_stack_any λst=>Ax ?_
  split
  .rename_i c _ _ _ _ _;cases (c==Gs "enumerate")
   .wp_walk using MJ hL
    exact⟨_,rfl,h⟩
   .wp_walk using MJ hL
    exact⟨_,rfl,h⟩
  .wp_walk using MJ hL
   exact⟨_,rfl,h⟩
theorem eM{A:AY}{E:Vq}{xs:A3 Aj}{Q:Vq}(hL:Ct t s.heap l xs)(h:∀ h',IsEnum h' (s.heap.objs.size+1) s.heap.objs.size 0 .none->Gj t h' s.heap.objs.size l 0->(∀ b o,s.heap.get? b=Aa o->h'.get? b=Aa o)->Q (.ref (s.heap.objs.size+1)) {s with heap:=h'}):
    Av (model prog w) A (call (.type "enumerate") [.ref l]) Q E s:=by
  refine callType_new F.called_enumerate (by decide) (F.typeCall_enumerate_1 _) (F.newCall_enumerate_1 _) (λobj=>XU obj _) F.entry_enumerate_new (fD t l xs) ⟨hL,?_⟩
  have hz:(s.heap.push (xo t l)).objs.size=s.heap.objs.size+1:=BR ..;show _/\_;rw[hz];have he:IsEnum ((s.heap.push (xo t l)).push { cls:=.type "enumerate",data:=.fields #[.none,.bool Ad,.ref s.heap.objs.size,Cm 0,.none,.none] }) (s.heap.objs.size+1) s.heap.objs.size 0 .none:=by
    have:=AI (s.heap.push (xo t l)) (o:={ cls:=.type "enumerate",data:=.fields #[.none,.bool Ad,.ref s.heap.objs.size,Cm 0,.none,.none] }) rfl;rw[hz]at this;exact this
  exact⟨⟨_,he,rfl⟩,h _ he (Oq (Ar _ (AI _ (N5 _ _)))) λb o x=>Ar _ (Ar _ x)⟩
def Zg(K:Fg)(ta:TA):TI:=λU H R=>ta U H λvs H1=>∃ t a xs,vs=[.ref a]/\sf t K H1 a xs/\(xs.length<=sizeLine->R (Ite K t a) H1)
theorem kT{a:Aq}(hg:Gl X "enumerate")(hm:X.mg "enumerate" = Ae)(ha:PA X [a] ta)(hs:At [a] X.env=[(Ad,eval a X.env)]):
  PI X (.Tuple es n tpos) (.Call (.Name "enumerate" p) [a] [] pos) (Zg X.K ta):=by
 intro pI s U H R I h;refine M0 (Lc I hg hm PyProof.Rows.boot_enumerate (Cz (J5 (ha pos pI s U H _ I h) λus s1 ⟨vs,H1,I1,r1,q1⟩=>?_) hs rfl))
 obtain⟨t,c,xs,e,sx,q⟩:=q1;subst e;cases r1 with
 |cons r rr=>
  cases rr;cases r;obtain⟨us,ru,pu,zu⟩:=Mq I1 sx;refine eM pu λh2 z1 z2 kp=>Y_0 z1 ?_
  refine⟨s1.heap.objs.size+1,[s1.heap.objs.size,s1.heap.objs.size+1],_,_,H1,rfl,I1.kept (t':=s1.toks) kp,bL t s1.heap.objs.size c pu.lt,⟨⟨_,z1⟩,z2⟩,λb hb=>?_,q zu⟩
  have lg:s1.heap.objs.size<=b:=by
   simp only[AE,Bo,Dm]at hb;rcases hb with z|z<;>rw[z]<;>simp
  exact I1.fpOk lg (I1.hok.fresh lg)
theorem Qc:∀(j:Ai)(xs:Ac D),(IL j xs).length=xs.length
 |_,[]=>rfl
 |j,x::xs=>by rw[IL,Ba,Qc,Ba]
theorem Tz:∀(xs:Ac D)(j:Ai)(i:Ag)(d:D),(IL j xs)[i]?=Aa d->∃ x,xs[i]?=Aa x/\d=.H [.int (j+i),x]
 |[],j,i,d,h=>by simp[IL]at h
 |x::xs,j,0,d,h=>by
  rw[IL]at h;simp only[GB,IQ]at h;exact⟨x,rfl,by rw[<-h];simp⟩
 |x::xs,j,i+1,d,h=>by
  rw[IL]at h;simp only[Gz]at h ⊢;obtain⟨y,h1,h2⟩:=Tz xs (j+1) i d h;exact⟨y,h1,by rw[h2];congr 3;omega⟩
theorem cA(sq:∀ H2,Kp A H1 H2->sf t K H2 a xs)(r1:Y9 K CL H1 A xs ds):Ls K CL A (IL 0 ds) (Ite K t a) H1:=λH k i=>by
 have s1:=sq H k;refine⟨λhi=>⟨xs,s1,?_⟩,λd hd=>?_⟩
 .rw[Qc]at hi;rw[r1.length];exact hi
 .obtain⟨x,hx,rfl⟩:=Tz _ _ _ _ hd;obtain⟨u,hu,ru⟩:=r1.get hx;refine⟨⟨xs,u,s1,hu⟩,?_⟩;rintro w' H' ⟨p,x',hp,rfl,c1,rfl⟩;have ex:x'=u:=Bj ((c1 xs s1).symm.trans hu);subst ex;rw[Int.zero_add];exact⟨FW hp (.H [.int i,x']),λB hB aB=>Nh aB hp ⟨rfl,Pz ru k hB,trivial⟩⟩
theorem lF{a:Aq}(ha:SE X CL W a fa)(hg:Gl X "enumerate")(hm:X.mg "enumerate" = Ae)(hs:At [a] X.env=[(Ad,eval a X.env)]):
  SI X CL W (.Tuple es n tpos) (.Call (.Name "enumerate" p) [a] [] pos) (λY=>(fa Y).bind λx=>(DD x).bind λxs=>.ok (IL 0 xs)):=
 λA=>PI.weak (kT hg hm (Bm (ha A) B9 hs) hs) λU H R ⟨hA,Y,g,q⟩=>⟨hA,Y,g,Gi.ex q λd v H1 _ s1 r1 p1=>by
  cases e1:DD d with
  |bad=>rw[e1]at p1;exact p1.elim
  |exn z=>exact absurd e1 (by cases d<;>simp[DD])
  |ok ds=>
   rw[e1]at p1;obtain⟨t,c,xs,rfl,k1,rs⟩:=ON r1 e1;exact⟨t,c,xs,rfl,k1 H1 (Kp.of (Aw.refl H1)),λhz=>p1 _ H1 (Aw.refl H1) (cA k1 rs) (by rw[Qc,<-rs.length];exact hz)⟩⟩
abbrev EY(h:AC)(z TI TO:Ak)(f0 f1:Aj):Prop:=h.get? z=Aa { cls:=.type "zip",dict:=Ae,data:=.fields #[f0,f1,.bool Ad,.ref TI,.ref TO],slots:=#[] }
abbrev EE(h:AC)(T:Ak)(a b c:Aj):Prop:=h.get? T=Aa { cls:=.type "tuple",data:=.seq #[a,b,c] }
section
variable{A:AY}{E:Vq}
theorem yi{I c:Ag}(b:l<I)(h:c∈[I+j,l])(i:Ag)(hi:i≠j):c≠I+i:=by
 have h':c=I+j\/c=l:=by simpa using h
 omega
theorem TD{z TI TO T1:Ag}(hz:EY s.heap z TI TO (Cm T1) (.bool f1))(hT:s.heap.get? T1=Aa o1)(go:∀ h1,EY h1 z TI TO (Cm T1) (.bool Ab)->(∀ c o,c≠z->s.heap.get? c=Aa o->h1.get? c=Aa o)->h1.objs.size=s.heap.objs.size->Q Ad {s with heap:=h1}):Av (model prog w) A (Bt (.ref z)) Q E s:=by
 simp only[Bt];refine Al (Bx hz rfl (x:=Cm T1) rfl ?_);show Av _ _ (loadIfAlive T1 >>= _) _ _ _;refine Al (λJ p _=>?_)
 show Av _ _ _ _ _ _;rw[hT];show Av _ _ (field (.ref z) 1 >>= _) _ _ _;refine Al (Bx hz rfl (x:=.bool f1) rfl ?_);cases f1 with
 |true=>exact Ax (go s.heap hz (λ_ _ _ e=>e) rfl)
 |false=>exact Al (D7 hz (by simp) λh1 z1 sb=>Ax (go h1 z1 (λc o nc e=>sb.extBut c o nc e) sb.1))
theorem TF{z TI TO:Ag}(hz:EY s.heap z TI TO f0 f1)(hf:f0=.none\/∃ T1:Ag,f0=Cm T1/\s.heap.get? T1=Ae)(go:Q Ab s):Av (model prog w) A (Bt (.ref z)) Q E s:=by
 simp only[Bt];rcases hf with rfl|⟨T1,rfl,hT⟩
 .exact Al (Bx hz rfl (x:=.none) rfl (Ax go))
 .refine Al (Bx hz rfl (x:=Cm T1) rfl ?_);show Av _ _ (loadIfAlive T1 >>= _) _ _ _;refine Al (λJ p _=>?_)
  show Av _ _ _ _ _ _;rw[hT];exact Ax go
theorem bY{I k T1:Ag}{Q:Vq}(b1:l1<I)(b2:l2<I)(b3:l3<I)(D1:Dw prog w A (I+0) [I+0,l1] n1 P1 S1)(D2:Dw prog w A (I+1) [I+1,l2] n2 P2 S2)(D3:Dw prog w A (I+2) [I+2,l3] n3 P3 S3)(hz:EY s.heap (I+5) (I+3) (I+4) (Cm T1) (.bool f1))(hI:EE s.heap (I+3) (.ref (I+0)) (.ref (I+1)) (.ref (I+2)))(hT:s.heap.get? T1=Aa o1)(g1:S1 k s.heap)(g2:S2 k s.heap)(g3:S3 k s.heap)(k1:k<n1)(k2:k<n2)(k3:k<n3)(go:∀ x y u h2 tk,P1 k x->P2 k y->P3 k u->EY h2 (I+5) (I+3) (I+4) (Cm T1) (.bool Ab)->S1 (k+1) h2->S2 (k+1) h2->S3 (k+1) h2->EE h2 s.heap.objs.size x y u->h2.objs.size=s.heap.objs.size+1 ->
   (∀ c o,c∉[I+0,I+1,I+2,I+5]->s.heap.get? c=Aa o->h2.get? c=Aa o)->Q (.ref s.heap.objs.size) {s with heap:=h2,toks:=tk}):Av (model prog w) A (Builtin.«zip.__next__» ⟨[.ref (I+5)],[]⟩) (λfin s'=>∃ v,fin=.done (.ret v)/\Q v s') E s:=by
 refine Al (m:=field (.ref (I+5)) 2) (Bx hz rfl (x:=.bool Ad) rfl ?_);refine Al (m:=field (.ref (I+5)) 3) (Bx hz rfl (x:=.ref (I+3)) rfl (Al (Dh hI rfl ?_)));refine Al (m:=Bt (.ref (I+5))) (TD hz hT λp1 z1 e1 s1=>?_)
 rw[AA (by decide)]
 refine Al ?_;simp only[<-WL,FZ,E6];have jc:S1 k p1:=D1.frame _ _ _ g1 λc hc o q=>e1 c o (yi b1 hc 5 (by decide)) q
 refine Al (Al (BA (Al (m:=Bk (.ref (I+0))) (D1.item k _ _ _ k1 jc λx p2 t2 px s2 e2=>Ax (Ax ?_)))))
 have υ:S2 k p2:=D2.frame _ _ _ g2 λc hc o q=>e2.extBut c o (yi b2 hc 0 (by decide)) (e1 c o (yi b2 hc 5 (by decide)) q)
 refine Al (Al (BA (Al (m:=Bk (.ref (I+1))) (D2.item k _ _ _ k2 υ λy p3 t3 py s3 e3=>Ax (Ax ?_)))))
 have χ:S3 k p3:=D3.frame _ _ _ g3 λc hc o q=>e3.extBut c o (yi b3 hc 1 (by decide)) (e2.extBut c o (yi b3 hc 0 (by decide)) (e1 c o (yi b3 hc 5 (by decide)) q))
 refine Al (Al (BA (Al (m:=Bk (.ref (I+2))) (D3.item k _ _ _ k3 χ λu p4 t4 pu s4 e4=>Ax (Ax (Ax ?_))))))
 refine Al (YZ (hsz:=by show 3<=sizeLine;decide) (Ax ⟨_,rfl,?_⟩))
 have sz:p4.objs.size=s.heap.objs.size:=by rw[e4.1,e3.1,e2.1,s1]
 have z4:EY p4 (I+5) (I+3) (I+4) (Cm T1) (.bool Ab):=e4.extBut _ _ (vc (by decide)) (e3.extBut _ _ (vc (by decide)) (e2.extBut _ _ (vc (by decide)) z1))
 have a1:S1 (k+1) p4:=D1.frame _ _ _ s2 λc hc o q=>e4.extBut c o (yi b1 hc 2 (by decide)) (e3.extBut c o (yi b1 hc 1 (by decide)) q)
 have a2:S2 (k+1) p4:=D2.frame _ _ _ s3 λc hc o q=>e4.extBut c o (yi b2 hc 2 (by decide)) q
 have ϻ:∀ {c o},p4.get? c=Aa o->(p4.push { cls:=.type "tuple",data:=.seq #[x,y,u] }).get? c=Aa o:=λq=>Ar _ q
 have q:=go x y u (p4.push { cls:=.type "tuple",data:=.seq #[x,y,u] }) t4 px py pu (ϻ z4) (D1.frame _ _ _ a1 λc _ o q=>ϻ q) (D2.frame _ _ _ a2 λc _ o q=>ϻ q) (D3.frame _ _ _ s4 λc _ o q=>ϻ q) (by rw[<-sz];exact AI _ rfl) (by rw[BR,sz]) (λc o nc q=>by
  simp only[AE,Bo,Dm,HB]at nc;exact ϻ (e4.extBut c o nc.2.2.1 (e3.extBut c o nc.2.1 (e2.extBut c o nc.1 (e1 c o nc.2.2.2 q)))))
 rwa [<-sz]at q
theorem bX{I k T1:Ag}(b1:l1<I)(D1:Dw prog w A (I+0) [I+0,l1] n1 P1 S1)(hz:EY s.heap (I+5) (I+3) (I+4) (Cm T1) (.bool f1))(hI:EE s.heap (I+3) (.ref (I+0)) (.ref (I+1)) (.ref (I+2)))(hT:s.heap.get? T1=Aa o1)(g1:S1 k s.heap)(k1:n1<=k)(up:∀ h2 e,(∀ c o,c∉[I+0,I+5]->s.heap.get? c=Aa o->h2.get? c=Aa o)->(∃ o,h2.get? e=Aa o/\o.cls=.type "StopIteration")->E (.ref e) {s with heap:=h2}):Av (model prog w) A (Builtin.«zip.__next__» ⟨[.ref (I+5)],[]⟩) Q E s:=by
 refine Al (m:=field (.ref (I+5)) 2) (Bx hz rfl (x:=.bool Ad) rfl ?_);refine Al (m:=field (.ref (I+5)) 3) (Bx hz rfl (x:=.ref (I+3)) rfl (Al (Dh hI rfl ?_)));refine Al (m:=Bt (.ref (I+5))) (TD hz hT λp1 z1 e1 s1=>?_)
 rw[AA (by decide)]
 refine Al ?_;simp only[<-WL,FZ,E6];have jc:S1 k p1:=D1.frame _ _ _ g1 λc hc o q=>e1 c o (yi b1 hc 5 (by decide)) q
 refine Al (Al (BA (Al (m:=Bk (.ref (I+0))) (D1.done k _ _ _ k1 jc λp2 e e2 he=>up p2 e (λc o nc q=>?_) he))))
 simp only[AE,Bo,Dm,HB]at nc;exact e2 c o nc.1 (e1 c o nc.2 q)
theorem dR{I k:Ag}(b1:l1<I)(D1:Dw prog w A (I+0) [I+0,l1] n1 P1 S1)(hz:EY s.heap (I+5) (I+3) (I+4) f0 f1)(hf:f0=.none\/∃ T1:Ag,f0=Cm T1/\s.heap.get? T1=Ae)(hI:EE s.heap (I+3) (.ref (I+0)) (.ref (I+1)) (.ref (I+2)))(g1:S1 k s.heap)(k1:n1<=k)(up:∀ h2 e,(∀ c o,c∉[I+0,I+5]->s.heap.get? c=Aa o->h2.get? c=Aa o)->(∃ o,h2.get? e=Aa o/\o.cls=.type "StopIteration")->E (.ref e) {s with heap:=h2}):Av (model prog w) A (Builtin.«zip.__next__» ⟨[.ref (I+5)],[]⟩) Q E s:=by
 refine Al (m:=field (.ref (I+5)) 2) (Bx hz rfl (x:=.bool Ad) rfl ?_);refine Al (m:=field (.ref (I+5)) 3) (Bx hz rfl (x:=.ref (I+3)) rfl (Al (Dh hI rfl ?_)));refine Al (m:=Bt (.ref (I+5))) (TF hz hf ?_);rw[Au rfl];refine Al (Kf (Al (Bx hz rfl (x:=.ref (I+4)) rfl (Al (D7 hz (by simp) λp1 z1 e1=>Al ?_)))))
 have z1':EY p1 (I+5) (I+3) (I+4) .ellipsis f1:=z1;simp only[Xl,Xm,FZ,E6];have g1':S1 k p1:=D1.frame _ _ _ g1 λc hc o q=>e1.extBut c o (yi b1 hc 5 (by decide)) q
 refine Al (Al (ID (Al (m:=Bk (.ref (I+0))) (D1.done _ _ _ _ k1 g1' λp2 e e2 he=>?_))))
 obtain⟨oe,hoe,hce⟩:=he;have z2:EY p2 (I+5) (I+3) (I+4) .ellipsis f1:=e2 _ _ (vc (by decide)) z1'
 have ne:e≠I+5:=λx=>by subst x;rw[z2]at hoe;cases hoe;simp at hce
 refine D7 z2 (by simp) λp3 _ e3=>up p3 e (λc o nc q=>?_) ⟨oe,e3.extBut _ _ ne hoe,hce⟩
 simp only[AE,Bo,Dm,HB]at nc;exact e3.extBut c o nc.2 (e2 c o nc.1 (e1.extBut c o nc.2 q))
theorem QD{a b c x:Aj}(h:EE s.heap T a b c)(go:∀ h2,h2.get? T=Aa { cls:=.type "tuple",data:=.seq ((#[a,b,c]:A3 Aj).setIfInBounds k x) }->D6 T s.heap h2->Q () {s with heap:=h2}):Av (model prog w) A (K7 T (·.setIfInBounds k x)) Q E s:=by
 refine Hq h rfl (go _ ?_ (HI ..)) (by show 3<=sizeLine;decide) (by show ((#[a,b,c]:A3 Aj).setIfInBounds k x).size<=sizeLine+1;rw[Array.size_setIfInBounds];show 3<=sizeLine+1;decide)
 rw[B3 _ h rfl];simp[DI]
theorem aY{I k:Ag}{a b c:Aj}{Q:Vq}(b1:l1<I)(b2:l2<I)(b3:l3<I)(D1:Dw prog w A (I+0) [I+0,l1] n1 P1 S1)(D2:Dw prog w A (I+1) [I+1,l2] n2 P2 S2)(D3:Dw prog w A (I+2) [I+2,l3] n3 P3 S3)(hz:EY s.heap (I+5) (I+3) (I+4) f0 f1)(hf:f0=.none\/∃ T1:Ag,f0=Cm T1/\s.heap.get? T1=Ae)(hI:EE s.heap (I+3) (.ref (I+0)) (.ref (I+1)) (.ref (I+2)))(hO:EE s.heap (I+4) a b c)(g1:S1 k s.heap)(g2:S2 k s.heap)(g3:S3 k s.heap)(k1:k<n1)(k2:k<n2)(k3:k<n3)(go:∀ x y u h2 tk,P1 k x->P2 k y->P3 k u->EY h2 (I+5) (I+3) (I+4) (Cm s.heap.objs.size) (.bool Ad)->S1 (k+1) h2->S2 (k+1) h2->S3 (k+1) h2->EE h2 s.heap.objs.size x y u->EE h2 (I+4) x y u->h2.objs.size=s.heap.objs.size+1 ->
   (∀ c o,c∉[I+0,I+1,I+2,I+4,I+5]->s.heap.get? c=Aa o->h2.get? c=Aa o)->Q (.ref s.heap.objs.size) {s with heap:=h2,toks:=tk}):Av (model prog w) A (Builtin.«zip.__next__» ⟨[.ref (I+5)],[]⟩) (λfin s'=>∃ v,fin=.done (.ret v)/\Q v s') E s:=by
 refine Al (m:=field (.ref (I+5)) 2) (Bx hz rfl (x:=.bool Ad) rfl ?_);refine Al (m:=field (.ref (I+5)) 3) (Bx hz rfl (x:=.ref (I+3)) rfl (Al (Dh hI rfl ?_)));refine Al (m:=Bt (.ref (I+5))) (TF hz hf ?_);rw[Au rfl];refine Al (Kf (Al (Bx hz rfl (x:=.ref (I+4)) rfl (Al (D7 hz (by simp) λp1 z1 e1=>Al ?_)))))
 have z1':EY p1 (I+5) (I+3) (I+4) .ellipsis f1:=z1;simp only[Xl,Xm,FZ,E6];have jc:S1 k p1:=D1.frame _ _ _ g1 λc hc o q=>e1.extBut c o (yi b1 hc 5 (by decide)) q
 refine Al (Al (ID (Al (m:=Bk (.ref (I+0))) (D1.item k _ _ _ k1 jc λx p2 t2 px s2 e2=>Ax ?_))))
 have o2:EE p2 (I+4) a b c:=e2.extBut _ _ (vc (by decide)) (e1.extBut _ _ (vc (by decide)) hO)
 refine Al (Dh o2 rfl (Al (QD o2 λp3 o3 e3=>Al (Lw (Ax ?_)))))
 have o3':EE p3 (I+4) x b c:=o3;have υ:S2 k p3:=D2.frame _ _ _ g2 λc hc o q=>e3.extBut c o (yi b2 hc 4 (by decide)) (e2.extBut c o (yi b2 hc 0 (by decide)) (e1.extBut c o (yi b2 hc 5 (by decide)) q))
 refine Al (Al (ID (Al (m:=Bk (.ref (I+1))) (D2.item k _ _ _ k2 υ λy p4 t4 py s4 e4=>Ax ?_))))
 have o4:EE p4 (I+4) x b c:=e4.extBut _ _ (vc (by decide)) o3'
 refine Al (Dh o4 rfl (Al (QD o4 λp5 o5 e5=>Al (Lw (Ax ?_)))))
 have o5':EE p5 (I+4) x y c:=o5;have χ:S3 k p5:=D3.frame _ _ _ g3 λc hc o q=>e5.extBut c o (yi b3 hc 4 (by decide)) (e4.extBut c o (yi b3 hc 1 (by decide)) (e3.extBut c o (yi b3 hc 4 (by decide)) (e2.extBut c o (yi b3 hc 0 (by decide)) (e1.extBut c o (yi b3 hc 5 (by decide)) q))))
 refine Al (Al (ID (Al (m:=Bk (.ref (I+2))) (D3.item k _ _ _ k3 χ λu p6 t6 pu s6 e6=>Ax ?_))))
 have o6:EE p6 (I+4) x y c:=e6.extBut _ _ (vc (by decide)) o5'
 refine Al (Dh o6 rfl (Al (QD o6 λp7 o7 e7=>Al (Lw (Ax (Ax ?_))))))
 have o7':EE p7 (I+4) x y u:=o7;have sz:p7.objs.size=s.heap.objs.size:=by rw[e7.1,e6.1,e5.1,e4.1,e3.1,e2.1,e1.1]
 have z7:EY p7 (I+5) (I+3) (I+4) .ellipsis f1:=e7.extBut _ _ (vc (by decide)) (e6.extBut _ _ (vc (by decide)) (e5.extBut _ _ (vc (by decide)) (e4.extBut _ _ (vc (by decide)) (e3.extBut _ _ (vc (by decide)) (e2.extBut _ _ (vc (by decide)) z1')))))
 refine Al (Dh o7' rfl (Al (YZ (hsz:=by show 3<=sizeLine;decide) ?_)))
 refine Al (m:=XH (.ref (I+5)) (.ref p7.objs.size)) ?_;simp only[XH];have z8:EY (p7.push { cls:=.type "tuple",data:=.seq #[x,y,u] }) (I+5) (I+3) (I+4) .ellipsis f1:=Ar _ z7;refine Al (D7 z8 (by simp) λp9 z9 e9=>?_)
 have z9':EY p9 (I+5) (I+3) (I+4) (Cm p7.objs.size) f1:=z9;refine D7 z9' (by simp) λpa za ea=>Ax ⟨_,rfl,?_⟩
 have za':EY pa (I+5) (I+3) (I+4) (Cm p7.objs.size) (.bool Ad):=za;have Ŷ:I+5<p7.objs.size:=AF z7;have up:∀ c o,c≠I+5->p7.get? c=Aa o->pa.get? c=Aa o:=λc o nc q=>ea.extBut _ _ nc (e9.extBut _ _ nc (Ar _ q))
 have a1:S1 (k+1) pa:=D1.frame _ _ _ s2 λc hc o q=>up c o (yi b1 hc 5 (by decide)) (e7.extBut c o (yi b1 hc 4 (by decide)) (e6.extBut c o (yi b1 hc 2 (by decide)) (e5.extBut c o (yi b1 hc 4 (by decide)) (e4.extBut c o (yi b1 hc 1 (by decide)) (e3.extBut c o (yi b1 hc 4 (by decide)) q)))))
 have a2:S2 (k+1) pa:=D2.frame _ _ _ s4 λc hc o q=>up c o (yi b2 hc 5 (by decide)) (e7.extBut c o (yi b2 hc 4 (by decide)) (e6.extBut c o (yi b2 hc 2 (by decide)) (e5.extBut c o (yi b2 hc 4 (by decide)) q)))
 have a3:S3 (k+1) pa:=D3.frame _ _ _ s6 λc hc o q=>up c o (yi b3 hc 5 (by decide)) (e7.extBut c o (yi b3 hc 4 (by decide)) q)
 have tp:EE pa p7.objs.size x y u:=ea.extBut _ _ (Et Ŷ) (e9.extBut _ _ (Et Ŷ) (AI _ rfl));have q:=go x y u pa t6 px py pu (by rw[<-sz];exact za') a1 a2 a3 (by rw[<-sz];exact tp) (up _ _ (vc (by decide)) o7') (by rw[ea.1,e9.1,BR,sz]) (λc o nc q=>by
  simp only[AE,Bo,Dm,HB]at nc;exact up c o nc.2.2.2.2 (e7.extBut c o nc.2.2.2.1 (e6.extBut c o nc.2.2.1 (e5.extBut c o nc.2.2.2.1 (e4.extBut c o nc.2.1 (e3.extBut c o nc.2.2.2.1 (e2.extBut c o nc.1 (e1.extBut c o nc.2.2.2.2 q))))))))
 rwa [<-sz]at q
def Z3(t1 t2 t3:Ao)(I l1 l2 l3 i:Ag)(h:AC):Prop:=EE h (I+3) (.ref (I+0)) (.ref (I+1)) (.ref (I+2))/\Gj t1 h (I+0) l1 i/\Gj t2 h (I+1) l2 i/\Gj t3 h (I+2) l3 i/\(∃ a b c,EE h (I+4) a b c) /\
 (EY h (I+5) (I+3) (I+4) .none (.bool Ad)\/∃(T1:Ag)(f1:Ao),EY h (I+5) (I+3) (I+4) (Cm T1) (.bool f1))
noncomputable def uh(I:Ag):Ac Ak:=[I+0,I+1,I+2,I+4,I+5]
theorem jL{I i:Ag}{xs:A3 Aj}{x:Aj}(calm:A.handled=Ae)(b1:l1<I)(b2:l2<I)(b3:l3<I)(z:Z3 t1 t2 t3 I l1 l2 l3 i s.heap)(q1:Ct t1 s.heap l1 xs)(q2:Ct t2 s.heap l2 ys)(q3:Ct t3 s.heap l3 us)(hx:xs[i]?=Aa x)(hy:ys[i]?=Aa y)(hu:us[i]?=Aa u)(go:∀ h2 tk,Z3 t1 t2 t3 I l1 l2 l3 (i+1) h2->EE h2 s.heap.objs.size x y u->h2.objs.size=s.heap.objs.size+1->(∀ c o,c∉uh I->s.heap.get? c=Aa o->h2.get? c=Aa o)->Q (Aa (.ref s.heap.objs.size)) {s with heap:=h2,toks:=tk}):Av (model prog w) A (Fb (.ref (I+5))) Q E s:=by
 obtain⟨zI,i1,i2,i3,zz⟩:=z;have xl:A.in1.handled=Ae:=calm;have lt:∀{v:A3 Aj}{k:Ag}{a:Aj},v[k]?=Aa a->k<v.size:=λh=>by
  rw[Array.getElem?_eq_some_iff]at h;exact h.1
 have inj:∀{v:A3 Aj}{k:Ag}{a b:Aj},v[k]?=Aa a->v[k]?=Aa b->b=a:=λh1 h2=>by
  rw[h1]at h2;exact(Bj h2).symm
 have d1:=Mz (prog:=prog) (w:=w) xl t1 (I+0) l1 (A5 b1) xs;have d2:=Mz (prog:=prog) (w:=w) xl t2 (I+1) l2 (A5 (AS b2 (DU _ _))) ys;have d3:=Mz (prog:=prog) (w:=w) xl t3 (I+2) l3 (A5 (AS b3 (DU _ _))) us;obtain⟨⟨a,b,c,hO⟩,zz⟩:=zz;have fst:∀{f0 f1:Aj},EY s.heap (I+5) (I+3) (I+4) f0 f1->(f0=.none\/∃ T1:Ag,f0=Cm T1/\s.heap.get? T1=Ae)->Av (model prog w) A (Fb (.ref (I+5))) Q E s:=λhz hf=>by
  have vb:s.TypeIs (.ref (I+5)) "zip" := ⟨_,hz,rfl⟩;simp only[Fb];refine Al (IC (CC vb DG (Dv DG vb G5 (aY (k:=i) b1 b2 b3 d1 d2 d3 hz hf zI hO ⟨i1,q1⟩ ⟨i2,q2⟩ ⟨i3,q3⟩ (lt hx) (lt hy) (lt hu) λx' y' u' h2 tk px py pu c1 c2 c3 c4 c5 c6 c7 kp=>Ax ?_) (GI _))))
  rw[inj hx px,inj hy py,inj hu pu]at c5;exact go h2 tk ⟨kp _ _ (by simp) zI,c2.1,c3.1,c4.1,⟨_,_,_,c6⟩,.inr ⟨_,_,c1⟩⟩ c5 c7 kp
 rcases zz with hz|⟨T1,f1,hz⟩
 .exact fst hz (.inl rfl)
 .cases hT:s.heap.get? T1 with
  |none=>exact fst hz (.inr ⟨T1,rfl,hT⟩)
  |some o1=>
   have vb:s.TypeIs (.ref (I+5)) "zip" := ⟨_,hz,rfl⟩;simp only[Fb];refine Al (IC (CC vb DG (Dv DG vb G5 (bY (k:=i) b1 b2 b3 d1 d2 d3 hz zI hT ⟨i1,q1⟩ ⟨i2,q2⟩ ⟨i3,q3⟩ (lt hx) (lt hy) (lt hu) λx' y' u' h2 tk px py pu c1 c2 c3 c4 c5 c6 kp=>Ax ?_) (GI _))))
   rw[inj hx px,inj hy py,inj hu pu]at c5;exact go h2 tk ⟨kp _ _ (by simp) zI,c2.1,c3.1,c4.1,⟨a,b,c,kp _ _ (by simp) hO⟩,.inr ⟨T1,Ab,c1⟩⟩ c5 c6 (λc o nc q=>kp c o (λh=>nc (by simp only[uh,AE,Bo,Dm]at h ⊢;rcases h with h|h|h|h<;>simp[h])) q)
theorem rA{I i:Ag}{xs:A3 Aj}(calm:A.handled=Ae)(b1:l1<I)(z:Z3 t1 t2 t3 I l1 l2 l3 i s.heap)(q1:Ct t1 s.heap l1 xs)(hx:xs.size<=i)(go:∀ h2,(∀ c o,c∉uh I->s.heap.get? c=Aa o->h2.get? c=Aa o)->Q Ae {s with heap:=h2}):Av (model prog w) A (Fb (.ref (I+5))) Q E s:=by
 obtain⟨zI,i1,i2,i3,zz⟩:=z;have xl:A.in1.handled=Ae:=calm;have d1:=Mz (prog:=prog) (w:=w) xl t1 (I+0) l1 (A5 b1) xs;have go':∀ h2 e,(∀ c o,c∉[I+0,I+5]->s.heap.get? c=Aa o->h2.get? c=Aa o)->(∃ o,h2.get? e=Aa o/\o.cls=.type "StopIteration")->Av (model prog w) A (IS (.ref e) (.type "StopIteration") >>= λb=>if b=Ab then pure Ae else throw (.ref e)) Q E {s with heap:=h2}:=λh2 e kp ⟨o,ho,wt⟩=>
  Al (wpAny_isInstance (T := "StopIteration") (b:=Ab) ⟨o,ho,wt⟩ isSubtype_stop (Ax (go h2 λc o nc q=>kp c o (λh=>nc (by simp only[uh,AE,Bo,Dm]at h ⊢;rcases h with h|h<;>simp[h])) q)))
 have fin:∀{f0 f1:Aj},EY s.heap (I+5) (I+3) (I+4) f0 f1->(f0=.none\/∃ T1:Ag,f0=Cm T1/\s.heap.get? T1=Ae)->Av (model prog w) A (Fb (.ref (I+5))) Q E s:=λhz hf=>by
  have vb:s.TypeIs (.ref (I+5)) "zip" := ⟨_,hz,rfl⟩;simp only[Fb];exact Al (IC (CC vb DG (Dv DG vb G5 (dR (k:=i) b1 d1 hz hf zI ⟨i1,q1⟩ hx λh2 e kp he=>go' h2 e kp he) (GI _))))
 obtain⟨_,zz⟩:=zz;rcases zz with hz|⟨T1,f1,hz⟩
 .exact fin hz (.inl rfl)
 .cases hT:s.heap.get? T1 with
  |none=>exact fin hz (.inr ⟨T1,rfl,hT⟩)
  |some o1=>
   have vb:s.TypeIs (.ref (I+5)) "zip" := ⟨_,hz,rfl⟩;simp only[Fb];exact Al (IC (CC vb DG (Dv DG vb G5 (bX (k:=i) b1 d1 hz zI hT ⟨i1,q1⟩ hx λh2 e kp he=>go' h2 e kp he) (GI _))))
end
def Mx(I S:Ag)(xs ys us:A3 Aj)(i:Ag)(U4:A3 Aj)(h:AC):Prop:=U4.size=i/\(∀ j,j<i->∃(a:Ag)(x y u:Aj),U4[j]?=Aa (.ref a)/\xs[j]?=Aa x/\ys[j]?=Aa y/\us[j]?=Aa u/\EE h a x y u/\I+5<a/\a≠S)/\∀(j1 j2 a:Ag),U4[j1]?=Aa (Bv a)->U4[j2]?=Aa (Bv a)->j1=j2
theorem Ct.at'{its:A3 Aj}(z:Ct t h l its)(k:∀ o,h.get? l=Aa o->h2.get? l=Aa o):Ct t h2 l its:=by
 cases t with
 |true=>exact PySem.Heap.IsTuple.at z k
 |false=>exact PySem.Heap.IsList.at z k
theorem Pf{I a:Ag}(h:I+5<a):a∉uh I:=by
 intro z;simp only[uh,AE,Bo,Dm]at z;rcases z with z|z|z|z|z<;>· rw[z]at h;exact absurd h (Gq.mpr (HG (by decide) I))
theorem OG{I:Ag}(h:l<I):l∉uh I:=by
 intro z;simp only[uh,AE,Bo,Dm]at z;rcases z with z|z|z|z|z<;>· rw[z]at h;exact absurd h (Gq.mpr (DU I _))
theorem Z3.at'{I i:Ag}{h h2:AC}(z:Z3 t1 t2 t3 I l1 l2 l3 i h)(k:∀ j,j<=5->∀ o,h.get? (I+j)=Aa o->h2.get? (I+j)=Aa o):Z3 t1 t2 t3 I l1 l2 l3 i h2:=by
 obtain⟨zI,i1,i2,i3,⟨a,b,c,hO⟩,zz⟩:=z;exact⟨k 3 (by decide) _ zI,i1.at' λo q=>k 0 (by decide) o q,i2.at' λo q=>k 1 (by decide) o q,i3.at' λo q=>k 2 (by decide) o q,⟨a,b,c,k 4 (by decide) _ hO⟩,zz.imp (k 5 (by decide) _) λ⟨T1,f1,hz⟩=>⟨T1,f1,k 5 (by decide) _ hz⟩⟩
theorem jN{A:AY}{R:Jf->An->Prop}{I n:Ag}{xs:A3 Aj}(calm:A.handled=Ae)(b1:l1<I)(b2:l2<I)(b3:l3<I)(S:Ag)(hS:I+5<S)(n0:0<n)(nn:n<=1000)(e1:xs.size=n)(e2:ys.size=n)(e3:us.size=n):
  ∀(k i:Ag)(s:An)(U4:A3 Aj)(c:Ag),n-i=k->i<=n->Z3 t1 t2 t3 I l1 l2 l3 i s.heap->Ct t1 s.heap l1 xs->Ct t2 s.heap l2 ys->Ct t3 s.heap l3 us ->
  s.heap.get? S=Aa { cls:=.type "list",dict:=Ae,data:=.seq U4 c,slots:=#[] }->Mx I S xs ys us i U4 s.heap ->
  (∀ h2 μ c2 tk,(∀ d o,d∉uh I->d≠S->s.heap.get? d=Aa o->h2.get? d=Aa o)->h2.get? S=Aa { cls:=.type "list",dict:=Ae,data:=.seq μ c2,slots:=#[] }->Mx I S xs ys us n μ h2->R (.ok (.ret res)) {s with heap:=h2,toks:=tk}) ->
  Er (model prog w) A (.builtin "list.extend.loop" ⟨[.ref S,.ref (I+5),res],[]⟩) R s:=by
 have xl:A.in1.handled=Ae:=calm;intro k
 induction k with
 |zero=>
  intro i s U4 c hk hi hz q1 q2 q3 ϟ hd hR;have ein:i=n:=Nat.le_antisymm hi (Nat.le_of_sub_eq_zero hk);subst ein;refine EM XY ?_;rw[Ei FP _];refine Al (m:=Fb (.ref (I+5))) (rA xl b1 hz q1 (KR e1) λh2 kp=>?_)
  exact Ax (hR h2 U4 c s.toks (λd o nd _ q=>kp d o nd q) (kp _ _ (Pf hS) ϟ) ⟨hd.1,λj hj=>by
   obtain⟨a,x,y,u,r1,r2,r3,r4,r5,r6,r7⟩:=hd.2.1 j hj;exact⟨a,x,y,u,r1,r2,r3,r4,kp _ _ (Pf r6) r5,r6,r7⟩,hd.2.2⟩)
 |succ k ih=>
  intro i s U4 c hk hi hz q1 q2 q3 ϟ hd hR;have lt:i<n:=Nat.lt_of_sub_pos (by rw[hk];exact Nat.succ_pos _)
  have lx:i<xs.size:=by rw[e1];exact lt
  have ly:i<ys.size:=by rw[e2];exact lt
  have lu:i<us.size:=by rw[e3];exact lt
  refine EM XY ?_;rw[Ei FP _];refine Al (m:=Fb (.ref (I+5))) (jL xl b1 b2 b3 hz q1 q2 q3 (BP lx) (BP ly) (BP lu) λh2 tk z2 tr sz kp=>?_)
  have hS2:=kp _ _ (Pf hS) ϟ;refine Al (m:=K7 S _) ?_;have ot:∀(f:CD->CD) d o,d≠S->h2.get? d=Aa o->(h2.update S f).get? d=Aa o:=λf d o nd q=>(B7 _ _ (CB nd)).trans q
  have lS:I+5<s.heap.objs.size:=KS hS (AF ϟ);have nT:s.heap.objs.size≠S:=Et (AF ϟ);have hS3:=B3 (DI (·.push (.ref s.heap.objs.size))) hS2 rfl;have lne:∀{l:Ag},l<I->l≠S:=λh e=>by rw[e]at h;exact absurd (KS h (CV (DU I 5) hS)) (Bl _)
  refine Hq hS2 rfl (Ax ⟨IA FP _,ih (i+1) {s with heap:=h2.update S (DI (·.push (.ref s.heap.objs.size))),toks:=tk} _ _ (by lia) lt (z2.at' λj hj o q=>ot _ _ o (λe=>by rw[<-e]at hS;exact absurd hS (Gq.mpr (HG hj I))) q) ?_ ?_ ?_ hS3 ⟨by rw[WO,hd.1],λj hj=>?_,?_⟩ λh4 acc4 c4 tk4 kp4 hS4 hd4=>hR h4 acc4 c4 tk4 (λd o nd ns q=>kp4 d o nd ns (ot _ d o ns (kp d o nd q))) hS4 hd4⟩) ?_ ?_
  .exact q1.at' λo q=>ot _ _ o (lne b1) (kp _ o (OG b1) q)
  .exact q2.at' λo q=>ot _ _ o (lne b2) (kp _ o (OG b2) q)
  .exact q3.at' λo q=>ot _ _ o (lne b3) (kp _ o (OG b3) q)
  .by_cases ej:j=i
   .subst ej;exact⟨s.heap.objs.size,_,_,_,by rw[HC,Au hd.1.symm],BP lx,BP ly,BP lu,ot _ _ _ nT tr,lS,nT⟩
   .obtain⟨a,x,y,u,r1,r2,r3,r4,r5,r6,r7⟩:=hd.2.1 j (Nat.lt_of_le_of_ne (Nat.le_of_lt_succ hj) ej);exact⟨a,x,y,u,by rw[HC,AA (by rw[hd.1];exact ej)];exact r1,r2,r3,r4,ot _ _ _ r7 (kp _ _ (Pf r6) r5),r6,r7⟩
  .have old:∀(j a:Ag),U4[j]?=Aa (Bv a)->a<s.heap.objs.size:=λj a e=>by
    have hj:j<i:=by rw[<-hd.1];exact(FE.mp e).1
    obtain⟨a',x,y,u,r1,r2,r3,r4,r5,r6,r7⟩:=hd.2.1 j hj;rw[e]at r1;cases r1;exact AF r5
   intro j1 j2 a q1 q2;rw[HC]at q1 q2;split at q1
   .split at q2
    .lia
    .cases q1;exact absurd (old _ _ q2) (Bl _)
   .split at q2
    .cases q2;exact absurd (old _ _ q1) (Bl _)
    .exact hd.2.2 _ _ _ q1 q2
  .rw[hd.1];exact BF (BF hi nn) (by decide)
  .show (U4.push _).size<=sizeLine+1;rw[WO,hd.1];exact BF (Nat.succ_le_succ (BF hi nn)) (by decide)
theorem bW(a b c:Aj):checkTypeCall "zip" ⟨[a,b,c],[]⟩=pure ():=by kernel_rfl
theorem dS(a b c:Aj):Ew "zip.__new__" ⟨[.type "zip",a,b,c],[]⟩=pure ():=by kernel_rfl
theorem uF(a b c d:Aj):argsOk "object.__init__" ⟨[a,b,c,d],[]⟩:=by
 unfold argsOk;rw[signature?_of (id := "object.__init__") (n:=['_','_','t','i','n','i','_','_']) (o:=['t','c','e','j','b','o']) (by kernel_rfl) F.owner_object];kernel_rfl
abbrev Õ(t1 t2 t3:Ao)(h:AC)(l1 l2 l3:Ak):AC:=((h.push (xo t1 l1)).push (xo t2 l2)).push (xo t3 l3)
abbrev Ö(t1 t2 t3:Ao)(h:AC)(l1 l2 l3:Ak):AC:=(Õ t1 t2 t3 h l1 l2 l3).push { cls:=.type "tuple",data:=.seq #[.ref h.objs.size,.ref (h.push (xo t1 l1)).objs.size,.ref ((h.push (xo t1 l1)).push (xo t2 l2)).objs.size] }
noncomputable abbrev Ø(t1 t2 t3:Ao)(h:AC)(l1 l2 l3:Ak):AC:=(Ö t1 t2 t3 h l1 l2 l3).push { cls:=.type "tuple",data:=.seq #[.none,.none,.none] }
noncomputable abbrev ug(t1 t2 t3:Ao)(h:AC)(l1 l2 l3:Ak):AC:=(Ø t1 t2 t3 h l1 l2 l3).push { cls:=.type "zip",data:=.fields #[.none,.bool Ad,.bool Ad,.ref (Õ t1 t2 t3 h l1 l2 l3).objs.size,.ref (Ö t1 t2 t3 h l1 l2 l3).objs.size] }
theorem dQ(t1 t2 t3:Ao)(l1 l2 l3:Ak)(xs ys us:A3 Aj):Meets (Builtin.«zip.__new__» ⟨[.type "zip",.ref l1,.ref l2,.ref l3],[]⟩) (λ_ R s=>Ct t1 s.heap l1 xs/\Ct t2 s.heap l2 ys/\Ct t3 s.heap l3 us/\R (.ok (.ret (.ref (Ø t1 t2 t3 s.heap l1 l2 l3).objs.size))) {s with heap:=ug t1 t2 t3 s.heap l1 l2 l3}):=
 .of_wp λprog w A R s h=>by
  obtain⟨hp,g,d,tk,os⟩:=s;obtain⟨a1,a2,a3,q⟩:=h;have ϯ:=sub_zip;have L1:Ct t1 (Jz ⟨hp,g,d,tk,os⟩) l1 xs:=a1;have L2:Ct t2 (Jz ⟨hp.push (xo t1 l1),g,d,tk,os⟩) l2 ys:=a2.push _;have L3:Ct t3 (Jz ⟨(hp.push (xo t1 l1)).push (xo t2 l2),g,d,tk,os⟩) l3 us:=(a3.push _).push _
  wp_walk using MJ L1,MJ L2,MJ L3
  exact⟨_,rfl,q⟩
theorem bZ{A:AY}{E:Vq}{xs:A3 Aj}{Q:Vq}(a1:Ct t1 s.heap l1 xs)(a2:Ct t2 s.heap l2 ys)(a3:Ct t3 s.heap l3 us)(q:∀ h2,Z3 t1 t2 t3 s.heap.objs.size l1 l2 l3 0 h2->h2.objs.size=s.heap.objs.size+6->(∀ c o,s.heap.get? c=Aa o->h2.get? c=Aa o)->Q (.ref (s.heap.objs.size+5)) {s with heap:=h2}):Av (model prog w) A (call (.type "zip") [.ref l1,.ref l2,.ref l3]) Q E s:=by
 refine callType_new F.called_zip (by decide) (bW _ _ _) (dS _ _ _) (λobj=>uF obj _ _ _) F.entry_zip_new (dQ t1 t2 t3 l1 l2 l3 xs ys us) ⟨a1,a2,a3,?_⟩
 have s1:(s.heap.push (xo t1 l1)).objs.size=s.heap.objs.size+1:=BR ..;have s2:((s.heap.push (xo t1 l1)).push (xo t2 l2)).objs.size=s.heap.objs.size+2:=by rw[BR,s1]
 have s3:(Õ t1 t2 t3 s.heap l1 l2 l3).objs.size=s.heap.objs.size+3:=by rw[BR,s2]
 have s4:(Ö t1 t2 t3 s.heap l1 l2 l3).objs.size=s.heap.objs.size+4:=by rw[BR,s3]
 have s5:(Ø t1 t2 t3 s.heap l1 l2 l3).objs.size=s.heap.objs.size+5:=by rw[BR,s4]
 have s6:(ug t1 t2 t3 s.heap l1 l2 l3).objs.size=s.heap.objs.size+6:=by rw[BR,s5]
 have u6:∀ {c o},(Ø t1 t2 t3 s.heap l1 l2 l3).get? c=Aa o->(ug t1 t2 t3 s.heap l1 l2 l3).get? c=Aa o:=λe=>Ar _ e
 have u5:∀ {c o},(Ö t1 t2 t3 s.heap l1 l2 l3).get? c=Aa o->(ug t1 t2 t3 s.heap l1 l2 l3).get? c=Aa o:=λe=>u6 (Ar _ e)
 have u4:∀ {c o},(Õ t1 t2 t3 s.heap l1 l2 l3).get? c=Aa o->(ug t1 t2 t3 s.heap l1 l2 l3).get? c=Aa o:=λe=>u5 (Ar _ e)
 have u3:∀ {c o},((s.heap.push (xo t1 l1)).push (xo t2 l2)).get? c=Aa o->(ug t1 t2 t3 s.heap l1 l2 l3).get? c=Aa o:=λe=>u4 (Ar _ e)
 have u2:∀ {c o},(s.heap.push (xo t1 l1)).get? c=Aa o->(ug t1 t2 t3 s.heap l1 l2 l3).get? c=Aa o:=λe=>u3 (Ar _ e)
 have g6:(ug t1 t2 t3 s.heap l1 l2 l3).get? (Ø t1 t2 t3 s.heap l1 l2 l3).objs.size=Aa _:=AI _ rfl;have g5:(ug t1 t2 t3 s.heap l1 l2 l3).get? (Ö t1 t2 t3 s.heap l1 l2 l3).objs.size=Aa _:=u6 (AI _ rfl);have g4:(ug t1 t2 t3 s.heap l1 l2 l3).get? (Õ t1 t2 t3 s.heap l1 l2 l3).objs.size=Aa _:=u5 (AI _ rfl);have g3:(ug t1 t2 t3 s.heap l1 l2 l3).get? ((s.heap.push (xo t1 l1)).push (xo t2 l2)).objs.size=Aa _:=u4 (AI _ (N5 _ _));have g2:(ug t1 t2 t3 s.heap l1 l2 l3).get? (s.heap.push (xo t1 l1)).objs.size=Aa _:=u3 (AI _ (N5 _ _));have g1:(ug t1 t2 t3 s.heap l1 l2 l3).get? s.heap.objs.size=Aa _:=u2 (AI _ (N5 _ _));show _/\_;rw[s3,s4,s5]at g6;rw[s4]at g5;rw[s1,s2,s3]at g4;rw[s2]at g3;rw[s1]at g2;rw[s5];exact⟨⟨_,g6,rfl⟩,q _ ⟨g4,Oq g1,Oq g2,Oq g3,⟨_,_,_,g5⟩,.inl g6⟩ s6 λc o e=>u2 (Ar _ e)⟩
theorem aX:Ke (.type "zip") "__len__" = pure Ae:=by rw[YS,YJ];kernel_rfl
theorem aV:Ke (.type "zip") "__length_hint__" = pure Ae:=by rw[YS,YJ];kernel_rfl
theorem Z3.ty{I i:Ag}(z:Z3 t1 t2 t3 I l1 l2 l3 i s.heap):s.TypeIs (.ref (I+5)) "zip" := by
 obtain⟨_,_,_,_,_,hz|⟨_,_,hz⟩⟩:=z
 .exact⟨_,hz,rfl⟩
 .exact⟨_,hz,rfl⟩
theorem Z3.lt{I i:Ag}(z:Z3 t1 t2 t3 I l1 l2 l3 i s.heap):I+5<s.heap.objs.size:=by
 obtain⟨o,h,_⟩:=z.ty;exact AF h
theorem jM{I i:Ag}(z:Z3 t1 t2 t3 I l1 l2 l3 i h):Z3 t1 t2 t3 I l1 l2 l3 i (h.push o):=by
 have k:∀ {c u},h.get? c=Aa u->(h.push o).get? c=Aa u:=λq=>Ar _ q
 obtain⟨zI,i1,i2,i3,zz⟩:=z;refine⟨k zI,i1.at' λo q=>k q,i2.at' λo q=>k q,i3.at' λo q=>k q,?_⟩
 obtain⟨⟨a,b,c,hO⟩,zz⟩:=zz;refine⟨⟨a,b,c,k hO⟩,?_⟩;rcases zz with hz|⟨T1,f1,hz⟩
 .exact .inl (k hz)
 .exact .inr ⟨T1,f1,k hz⟩
section
variable{A:AY}{E:Vq}
theorem eI{Q:Vq}(hT:s.TypeIs (.ref z) "zip")(h:Q (.ref z) s):Av (model prog w) A (Md (.ref z)) Q E s:=by
 refine wpAny_pyIter_slot hT Yb (Dv Yb hT F.entry_zip_iter ?_ (F.args_zip_iter_1 _));show Av _ _ (ret (.ref z)) _ _ s;exact Ax ⟨_,rfl, "zip",_,hT,F.slot_zip_next.lookup,h⟩
theorem aZ{I n:Ag}{xs:A3 Aj}(calm:A.handled=Ae)(b1:l1<I)(b2:l2<I)(b3:l3<I)(n0:0<n)(nn:n<=1000)(e1:xs.size=n)(e2:ys.size=n)(e3:us.size=n)(hz:Z3 t1 t2 t3 I l1 l2 l3 0 s.heap)(q1:Ct t1 s.heap l1 xs)(q2:Ct t2 s.heap l2 ys)(q3:Ct t3 s.heap l3 us)(hQ:∀ h2 U4 tk,(∀ d o,d∉uh I->s.heap.get? d=Aa o->h2.get? d=Aa o)->Mx I s.heap.objs.size xs ys us n U4 h2->Q U4.toList {s with heap:=h2,toks:=tk}):Av (model prog w) A (collect (.ref (I+5))) Q E s:=by
  have lt:=hz.lt;have hSI:s.heap.objs.size≠I+5:=Et lt;unfold collect;refine Al (wpAny_runValue (EM F.entry_proto_collect ?_));rw[Ei F.plain_proto_collect _];show Av _ A.in1 (newList [] >>= λl=>again (.builtin "list.__iadd__" ⟨[l,.ref (I+5)],[]⟩)) _ _ s
  refine Al (Cp ?_);refine Ax ⟨IA X3 _,EM F.entry_list_iadd ?_⟩;rw[Ei X3 _];have hz1:Z3 t1 t2 t3 I l1 l2 l3 0 (s.heap.push { cls:=.type "list",data:=.seq ([]:Ac Aj).toArray }):=jM hz;have Φ:Shared.TypeIs { s with heap:=s.heap.push { cls:=.type "list",data:=.seq ([]:Ac Aj).toArray } } (.ref (I+5)) "zip" := Z3.ty (s:={ s with heap:=s.heap.push { cls:=.type "list",data:=.seq ([]:Ac Aj).toArray } }) hz1
  show Av _ A.in1 (XC (.ref s.heap.objs.size) (.ref (I+5)) (.ref s.heap.objs.size)) _ _ _;unfold XC;refine Al (wpAny_typeOf Φ ?_);have h1:XD (.ref s.heap.objs.size) (.ref (I+5))=Ad:=by simp[XD,hSI]
  have h2:(Gs "zip" == Gs "list")=Ad:=by decide
  have h3:(Gs "zip" == Gs "tuple")=Ad:=by decide
  simp only[h1,h2,h3,GX,Ii,Jn];refine Al (eI Φ ?_);refine Al (BA ?_);unfold Builtin.List.listLengthHint;refine Al (Jw Φ aX ?_);show Av _ A.in1 (specialOf (Bv (I+5)) (Af "__length_hint__") >>= _) _ _ _;refine Al (Jw Φ aV ?_);refine Ax ?_;show Av _ A.in1 (rule "list.extend.makes-room" >>= λ_=>Builtin.List.listTouch (.ref s.heap.objs.size) >>= λ_=>
    again (.builtin "list.extend.loop" ⟨[.ref s.heap.objs.size,.ref (I+5),.ref s.heap.objs.size],[]⟩)) _ _ _
  refine Al (Kf ?_);have hS₁:(s.heap.push { cls:=.type "list",data:=.seq ([]:Ac Aj).toArray }).get? s.heap.objs.size=Aa { cls:=.type "list",data:=.seq ([]:Ac Aj).toArray }:=AI _ rfl;refine Al ?_;show Av _ A.in1 (K7 s.heap.objs.size (·.push .none) >>= λ_=>K7 s.heap.objs.size (·.pop)) _ _ _
  refine Al (Hq hS₁ rfl ?_);have hS₂:=B3 (DI (·.push Dg)) hS₁ rfl;refine Hq hS₂ rfl ?_;have hS₃:=B3 (DI (·.pop)) hS₂ rfl;have oth:∀ b o,b≠s.heap.objs.size->(s.heap.push { cls:=.type "list",data:=.seq ([]:Ac Aj).toArray }).get? b=Aa o ->
      (((s.heap.push { cls:=.type "list",data:=.seq ([]:Ac Aj).toArray }).update s.heap.objs.size (DI (·.push Dg))).update s.heap.objs.size (DI (·.pop))).get? b=Aa o:=
    λb o hb e=>(B7 _ _ (CB hb)).trans ((B7 _ _ (CB hb)).trans e)
  have n6:∀ b o,s.heap.get? b=Aa o->(((s.heap.push { cls:=.type "list",data:=.seq ([]:Ac Aj).toArray }).update s.heap.objs.size (DI (·.push Dg))).update s.heap.objs.size (DI (·.pop))).get? b=Aa o:=
    λb o e=>oth b o (A5 (AF e)) (Ar _ e)
  refine Ax ⟨IA FP _,jN calm b1 b2 b3 s.heap.objs.size lt n0 nn e1 e2 e3 n 0 _ _ _ rfl (D5 _) (hz1.at' λj hj o q=>oth _ o (λe=>by rw[<-e]at lt;exact absurd lt (Gq.mpr (HG hj I))) q) (q1.at' λo e=>n6 _ o e) (q2.at' λo e=>n6 _ o e) (q3.at' λo e=>n6 _ o e) hS₃ ⟨rfl,λj hj=>absurd hj (Jp _),λj1 j2 a e=>by simp[DI]at e⟩ λh2 U4 c tk kp hS hd=>?_⟩
  show Av _ A (load s.heap.objs.size >>= _) _ _ _;refine Al (wpAny_load hS ?_);exact Ax (hQ h2 U4 tk (λd o nd e=>kp d o nd (A5 (AF e)) (n6 d o e)) hd)
theorem jO{I n:Ag}{xs:A3 Aj}{Q₁:Vq}(calm:A.handled=Ae)(b1:l1<I)(b2:l2<I)(b3:l3<I)(n0:0<n)(nn:n<=1000)(e1:xs.size=n)(e2:ys.size=n)(e3:us.size=n)(hz:Z3 t1 t2 t3 I l1 l2 l3 0 s.heap)(q1:Ct t1 s.heap l1 xs)(q2:Ct t2 s.heap l2 ys)(q3:Ct t3 s.heap l3 us)(h:∀ h2 U4 tk,(∀ d o,d∉uh I->s.heap.get? d=Aa o->h2.get? d=Aa o)->Mx I s.heap.objs.size xs ys us n U4 h2->Q₁ (.ref h2.objs.size) { s with heap:=h2.push { cls:=.type "tuple",data:=.seq U4 },toks:=tk }):
  Er (model prog w) A (.call (.builtin "tuple.__new__") ⟨[.type "tuple",.ref (I+5)],[]⟩) (wants Q₁ E) s:=by
 refine YK ?_;show Av _ A.in1 (do Ew "tuple.__new__" ⟨[.type "tuple",.ref (I+5)],[]⟩;again (.builtin "tuple.__new__" ⟨[.type "tuple",.ref (I+5)],[]⟩)) _ _ s
 refine Al (Eo (F.newCall_tuple_1 _) (Ax ⟨IA X4 _,EM F.entry_tuple_new ?_⟩));rw[Ei X4 _];have ϯ:=sub_tuple_self;have hinit:=init_tuple_lookup;have hmh:=madeHere_tuple;have hTI:=hz.ty;have ξ:A.in1.handled=Ae:=calm
 wp_walk using wpAny_typeOf hTI,aZ ξ b1 b2 b3 n0 nn e1 e2 e3 hz q1 q2 q3
 intro h2 U4 tk kp hd;show Av _ _ (CY U4.toList.toArray >>= λv=>ret v) _ _ _
 unfold CY;refine Al (Cp ?_ (by show U4.toList.toArray.size<=sizeLine;simp only[WP];rw[hd.1,BE];omega))
 refine Ax ?_;have e:U4.toList.toArray=U4:=by simp
 rw[e];exact h h2 U4 tk kp hd
theorem dU{I n:Ag}{xs:A3 Aj}{Q:Vq}(calm:A.handled=Ae)(b1:l1<I)(b2:l2<I)(b3:l3<I)(n0:0<n)(nn:n<=1000)(e1:xs.size=n)(e2:ys.size=n)(e3:us.size=n)(hz:Z3 t1 t2 t3 I l1 l2 l3 0 s.heap)(q1:Ct t1 s.heap l1 xs)(q2:Ct t2 s.heap l2 ys)(q3:Ct t3 s.heap l3 us)(h:∀ h2 U4 tk,(∀ d o,d∉uh I->s.heap.get? d=Aa o->h2.get? d=Aa o)->Mx I s.heap.objs.size xs ys us n U4 h2->Q (.ref h2.objs.size) { s with heap:=h2.push { cls:=.type "tuple",data:=.seq U4 },toks:=tk }):
  Av (model prog w) A (call (.type "tuple") [.ref (I+5)]) Q E s:=by
 refine callType_codes (Q₁:=λobj s₁=>s₁.TypeIs obj "tuple"/\Q obj s₁) F.called_tuple (F.typeCall_tuple_1 _) F.entry_object_init
  (jO (by exact calm) b1 b2 b3 n0 nn e1 e2 e3 hz q1 q2 q3 λh2 U4 tk kp hd=>⟨⟨_,AI _ rfl,rfl⟩,h h2 U4 tk kp hd⟩) λobj s₁ h₁=>?_
 exact⟨h₁.1,XU obj _,object_init_meets F.called_tuple.init.lookup F.called_tuple.made (by decide) prog w A.in1 _ s₁ ⟨h₁.1,rfl,h₁.2⟩⟩
end
noncomputable def JM(H:Hp)(ps:Ac (Ak×Ac V)):Hp:=λb=>match ps.lookup b with
  |some xs=>Aa (.H xs)
  |none=>H b
theorem U_9{ps:Ac (Ak×Ac V)}(h:ps.lookup a=Aa xs):(a,xs)∈ps:=by
 induction ps with
 |nil=>cases h
 |cons p ps ih=>
  obtain⟨b,ys⟩:=p;rw[BQ]at h;split at h
  .rename_i e;cases h;rw[A2]at e;subst e;exact AR
  .exact Ay _ (ih h)
theorem TK(h:∀ p∈ps,p.1≠b):JM H ps b=H b:=by
 unfold JM;cases e:ps.lookup b with
 |none=>rfl
 |some xs=>exact absurd rfl (h _ (U_9 e))
theorem fW(ps:Ac (Ak×Ac V))(I:Y8 X pI U H s)(k:∀ b u,s.heap.get? b=Aa u->h'.get? b=Aa u)(hp:∀ p∈ps,s.heap.objs.size<=p.1)(new:∀ p∈ps,p.2.length<=sizeLine/\∃ its:Ac Aj,AZ p.2 its/\L7 h' p.1 its.toArray):Y8 X pI U (JM H ps) {s with heap:=h',toks:=t'}:=by
 have old:∀ b,b<s.heap.objs.size->JM H ps b=H b:=λb hb=>TK λp hq e=>by
  have:=hp p hq;rw[e]at this;exact absurd hb (Gq.mpr this)
 have hl:∀ b o,H b=Aa o->JM H ps b=Aa o:=λb o q=>by rw[old b (I.hok.lt q)];exact q
 refine I.un ⟨λb u q _ _ _=>k b u q,λb u q _ _ _=>⟨u.slots,k b u q⟩,λb u q n _=>by rw[old b (AF q)];exact n,λb u q _=>⟨u,k b u q⟩,λb xs q=>hl b _ q,λb u xs q=>hl b _ q,λb xs q=>⟨#[],by rw[hl b _ q];simp⟩⟩ λb u e=>?_
 unfold JM at e;split at e
 .rename_i xs hx;cases e;exact new _ (U_9 hx)
 .exact(I.hok b u e).stay (λc v _ q=>k c v q) (λc q=>hl c _ q) λc xs q=>hl c _ q
noncomputable def Kq:Ac V->Ac V->Ac V->Ac (Ac V)
 |x::xs,y::ys,u::us=>[x,y,u]::Kq xs ys us
 |_,_,_=>[]
theorem Sc:∀(xs ys us:Ac V)(j:Ag)(r:Ac V),(Kq xs ys us)[j]?=Aa r->∃ x y u,xs[j]?=Aa x/\ys[j]?=Aa y/\us[j]?=Aa u/\r=[x,y,u]
 |[],_,_,j,r,h=>nomatch h
 |_::_,[],_,j,r,h=>nomatch h
 |_::_,_::_,[],j,r,h=>nomatch h
 |x::xs,y::ys,u::us,0,r,h=>by
  simp only[Kq,GB,IQ]at h;exact⟨x,y,u,rfl,rfl,rfl,h.symm⟩
 |x::xs,y::ys,u::us,j+1,r,h=>by
  simp only[Kq,Gz]at h ⊢;exact Sc xs ys us j r h
theorem NY{α β:Type}:∀{as:Ac α}{bs:Ac β}{a:α}{b:β},(a,b)∈as.zip bs->∃ j:Ag,as[j]?=Aa a/\bs[j]?=Aa b
 |[],_,_,_,h=>by simp at h
 |_::_,[],_,_,h=>by simp at h
 |x::as,y::bs,a,b,h=>by
  simp only[Il,AE,Xs]at h;rcases h with ⟨rfl,rfl⟩|h
  .exact⟨0,rfl,rfl⟩
  .obtain⟨j,h1,h2⟩:=NY h;exact⟨j+1,h1,h2⟩
def Zy(K:Fg)(ta:TA):TE:=λU H Q=>ta U H λvs H1=>∃ t1 t2 t3 a b c xs ys us,vs=[.ref a,.ref b,.ref c]/\sf t1 K H1 a xs/\sf t2 K H1 b ys/\sf t3 K H1 c us/\0<xs.length/\xs.length<=1000/\ys.length=xs.length/\us.length=xs.length /\
 ∀(as:Ac Ak)(T:Ak),as.length=xs.length->as.Nodup->(∀ p∈as,H1 p=Ae)->T∉as->H1 T=Ae->Q (.ref T) (JM H1 ((T,as.map .ref)::as.zip (Kq xs ys us)))
theorem fE{I S:Ag}{xs:A3 Aj}(d:Mx I S xs ys us n U4 h):∃ as:Ac Ak,U4.toList=as.map Bv/\as.length=n/\as.Nodup/\∀(j:Ag)(a:Ak),as[j]?=Aa a->∃ x y u,xs[j]?=Aa x/\ys[j]?=Aa y/\us[j]?=Aa u/\EE h a x y u/\I+5<a:=by
  obtain⟨hn,hj,inj⟩:=d
  let f:Aj->Ak:=λv=>match v with
    |.ref a=>a
    |_=>0
  have hg:∀ j v,U4.toList[j]?=Aa v->∃(a:Ag)(x y u:Aj),v=Bv a/\xs[j]?=Aa x/\ys[j]?=Aa y/\us[j]?=Aa u/\EE h a x y u/\I+5<a:=λj v e=>by
    rw[WM]at e;have lt:j<n:=by rw[<-hn];exact(FE.mp e).1
    obtain⟨a,x,y,u,r1,r2,r3,r4,r5,r6,_⟩:=hj j lt;rw[e]at r1;cases r1;exact⟨a,x,y,u,rfl,r2,r3,r4,r5,r6⟩
  have hf:∀ v∈U4.toList,Bv (f v)=v:=λv hv=>by
    obtain⟨j,hj⟩:=W8 hv;obtain⟨a,_,_,_,rfl,_⟩:=hg j v hj;rfl
  have hm:U4.toList=(U4.toList.map f).map Bv:=by
    rw[F7]
    conv=>lhs;rw[<-List.map_id U4.toList]
    exact FN λv hv=>(hf v hv).symm
  refine⟨U4.toList.map f,hm,by rw[Bb,Ey,hn],?_,λj a e=>?_⟩
  · rw[List.nodup_iff_pairwise_ne,List.pairwise_iff_getElem];intro i j hi qm lt e;rw[Bb,Ey]at hi qm;have at':∀(k:Ag)(hk:k<U4.size)(nj:k<(U4.toList.map f).length),U4[k]?=Aa (Bv (U4.toList.map f)[k]):=λk hk nj=>by
      rw[BP hk,List.getElem_map,hf _ (DR _),Array.getElem_toList]
    have:=inj i j _ (at' i hi _) (by rw[e];exact at' j qm _)
    omega
  · rw[Ef,Option.map_eq_some_iff]at e;obtain⟨v,hv,rfl⟩:=e;obtain⟨a,x,y,u,rfl,r⟩:=hg j v hv;exact⟨x,y,u,r⟩
theorem rL{a b:Aq}(hc:X.calm=Ab)(hg:Gl X "tuple")(hm:X.mg "tuple" = Ae)(hg':Gl X "zip")(ju:X.mg "zip" = Ae)(ha:PA X [a,b,c] ta)(hs:At [a,b,c] X.env=[(Ad,eval a X.env),(Ad,eval b X.env),(Ad,eval c X.env)])(vk:At [b,c] X.env=[(Ad,eval b X.env),(Ad,eval c X.env)]):
    PE X (.Call (.Name "tuple" p) [.Call (.Name "zip" p') [a,b,c] [] pos'] [] pos) (Zy X.K ta):=by
  intro pI s U H Q I h;refine M0 (Lc I hg hm GF (Cz ?_ rfl rfl));show Av _ _ (spliced ((Ad,eval (.Call (.Name "zip" p') [a,b,c] [] pos') X.env)::Br pos (At [] X.env))) _ _ s;refine XM ?_;refine M0 (Lc I hg' ju PyProof.Rows.boot_zip (Cz (J5 (ha pos' pI s U H _ I h) λus s1 ⟨vs,H1,I1,r1,q1⟩=>?_) (by rw[hs,vk]) (by rw[vk];rfl)))
  obtain⟨t1,t2,t3,l1,l2,l3,xs,ys,zs,e,sx,sy,sz,n0,nn,ey,ez,q⟩:=q1;subst e;cases r1 with
  |cons r rr=>
    cases rr with
    |cons r' rr=>
      cases rr with
      |cons r'' rr=>
        cases rr;cases r;cases r';cases r'';obtain⟨xv,rx,ix,_⟩:=Mq I1 sx;obtain⟨yv,ry,iy,_⟩:=Mq I1 sy;obtain⟨zv,rz,iz,_⟩:=Mq I1 sz;refine bZ ix iy iz λh2 z hsz kp=>XN ?_
        have lx:=rx.length;have ly:=ry.length;have lz:=rz.length;refine dU (s:={s1 with heap:=h2}) (n:=xs.length) (I1.ok.hd hc) ix.lt iy.lt iz.lt n0 nn (by simp[lx]) (by simp[<-ly,ey]) (by simp[<-lz,ez]) z (ix.at' λo e=>kp _ o e) (iy.at' λo e=>kp _ o e) (iz.at' λo e=>kp _ o e) λh3 U4 tk kp3 dr=>?_
        obtain⟨as,e1,e2,nd,each⟩:=fE dr;have nw:∀ b,b<s1.heap.objs.size->b∉uh s1.heap.objs.size:=λb hb=>OG hb
        have kp4:∀ b o,s1.heap.get? b=Aa o->(h3.push { cls:=.type "tuple",data:=.seq U4 }).get? b=Aa o:=λb o e=>Ar _ (kp3 b o (nw b (AF e)) (kp b o e))
        have big:∀ a∈as,s1.heap.objs.size<=a/\a<h3.objs.size:=λa ha=>by
          obtain⟨j,hj⟩:=W8 ha;obtain⟨x,y,u,_,_,_,tr,lt⟩:=each j a hj;exact⟨E7 (CV (DU _ 5) lt),AF tr⟩
        have b3:s1.heap.objs.size<=h3.objs.size:=by
          obtain⟨a,ha⟩:∃ a,a∈as:=List.exists_mem_of_length_pos (by rw[e2];exact n0)
          exact E7 (CV (big a ha).1 (big a ha).2)
        refine⟨.ref h3.objs.size,_,fW (s:=s1) (h':=h3.push { cls:=.type "tuple",data:=.seq U4 }) (t':=tk) ((h3.objs.size,as.map V.ref)::as.zip (Kq xs ys zs)) I1 kp4 (λp hp=>?_) (λp hp=>?_),rfl,q as h3.objs.size e2 nd (λp hp=>I1.hok.fresh (big p hp).1) (λhT=>absurd (big _ hT).2 (Bl _)) (I1.hok.fresh b3)⟩
        · rcases AE.mp hp with rfl|hp
          · exact b3
          · obtain⟨j,h1,h2⟩:=NY (a:=p.1) (b:=p.2) hp;exact(big _ (De h1)).1
        · rcases AE.mp hp with rfl|hp
          · refine⟨by rw[Bb,e2,BE];omega,as.map Bv,?_,?_⟩
            · clear q each big hp e1 e2 nd
              induction as with
              |nil=>exact .nil
              |cons a as ih=>exact .cons rfl ih
            · rw[<-e1,WP];exact KU _ _
          · obtain⟨j,h1,h2⟩:=NY (a:=p.1) (b:=p.2) hp;obtain⟨x,y,u,g1,g2,g3,er⟩:=Sc _ _ _ _ _ h2;obtain⟨x',y',u',k1,k2,k3,tr,_⟩:=each j _ h1;obtain⟨x2,m1,w1⟩:=rx.get g1;obtain⟨y2,m2,w2⟩:=ry.get g2;obtain⟨u2,m3,w3⟩:=rz.get g3;rw[W9]at k1 k2 k3;cases m1.symm.trans k1;cases m2.symm.trans k2;cases m3.symm.trans k3;rw[er];exact⟨by show 3<=sizeLine;decide,[x',y',u'],.cons w1 (.cons w2 (.cons w3 .nil)),⟨_,Ar _ tr,rfl,_,rfl⟩⟩
theorem RU{K:Fg}{H:Hp}{A:Ak->Prop}(hA:J4 H A)(sm:Aw H H3):∀{as:Ac Ak}{xs ys us:Ac V}{ds es fs:Ac D},(∀(j:Ag)(a:Ak)(r:Ac V),as[j]?=Aa a->(Kq xs ys us)[j]?=Aa r->H3 a=Aa (.H r))->(∀ p∈as,H p=Ae)->as.length=xs.length->ys.length=xs.length->us.length=xs.length->Y9 K CL H A xs ds->Y9 K CL H A ys es->Y9 K CL H A us fs->Y9 K CL H3 A (as.map .ref) (Q0 ds es fs)
 |[],[],[],[],[],[],[],_,_,_,_,_,_,_,_=>trivial
 |a::as,x::xs,y::ys,u::us,d::ds,e::es,f::fs,h,hn,l1,l2,l3,r1,r2,r3=>
  ⟨⟨a,[x,y,u],rfl,.inl (hA.new (hn a AR)),yg.of (h 0 a _ rfl rfl),r1.1.same sm,r2.1.same sm,r3.1.same sm,trivial⟩,
   RU hA sm (λj a' r p q=>h (j+1) a' r p q) (λp hp=>hn p (Ay _ hp)) (Jb l1) (Jb l2) (Jb l3) r1.2 r2.2 r3.2⟩
 |[],_::_,_,_,_,_,_,_,_,l,_,_,_,_,_=>nomatch l
 |_::_,[],_,_,_,_,_,_,_,l,_,_,_,_,_=>nomatch l
 |_,[],_::_,_,_,_,_,_,_,_,l,_,_,_,_=>nomatch l
 |_,[],_,_::_,_,_,_,_,_,_,_,l,_,_,_=>nomatch l
 |_,_::_,[],_,_,_,_,_,_,_,l,_,_,_,_=>nomatch l
 |_,_::_,_,[],_,_,_,_,_,_,_,l,_,_,_=>nomatch l
 |_,[],_,_,_::_,_,_,_,_,_,_,_,r,_,_=>r.elim
 |_,_::_,_,_,[],_,_,_,_,_,_,_,r,_,_=>r.elim
 |_,_,[],_,_,_::_,_,_,_,_,_,_,_,r,_=>r.elim
 |_,_,_::_,_,_,[],_,_,_,_,_,_,_,r,_=>r.elim
 |_,_,_,[],_,_,_::_,_,_,_,_,_,_,_,r=>r.elim
 |_,_,_,_::_,_,_,[],_,_,_,_,_,_,_,r=>r.elim
theorem U_8:∀{as:Ac Ak}{rs:Ac (Ac V)}{j:Ag}{a:Ak}{r:Ac V},as.Nodup->as[j]?=Aa a->rs[j]?=Aa r->(as.zip rs).lookup a=Aa r
 |[],_,_,_,_,_,h,_=>by simp at h
 |_::_,[],_,_,_,_,_,h=>by simp at h
 |b::as,q::rs,0,a,r,nd,h1,h2=>by
  simp only[GB,IQ]at h1 h2;subst h1 h2;rw[Il,Xf]
 |b::as,q::rs,j+1,a,r,nd,h1,h2=>by
  simp only[Gz]at h1 h2;have nb:a≠b:=λe=>by subst e;exact(EH.mp nd).1 (De h1)
  rw[Il,BQ,iw nb];exact U_8 (EH.mp nd).2 h1 h2
section
variable{a b:Aq}
theorem sV(ha:SE X CL W a fa)(hb:SE X CL W b fb)(hd:SE X CL W c fc)(hc:X.calm=Ab)(hg:Gl X "tuple")(hm:X.mg "tuple" = Ae)(hg':Gl X "zip")(ju:X.mg "zip" = Ae)(hs:At [a,b,c] X.env=[(Ad,eval a X.env),(Ad,eval b X.env),(Ad,eval c X.env)])(vk:At [b,c] X.env=[(Ad,eval b X.env),(Ad,eval c X.env)])(hs3:At [c] X.env=[(Ad,eval c X.env)]):
  SE X CL W (.Call (.Name "tuple" p) [.Call (.Name "zip" p') [a,b,c] [] pos'] [] pos) (λY=>((fa Y).bind λx=>(fb Y).bind λy=>(fc Y).bind λz=>OB x y z).bind λxs=>.ok (.H xs)):=
 λA=>PE.weak (rL hc hg hm hg' ju (Bm (ha A) (Bm (hb A) (Bm (hd A) B9 hs3) (by rw[vk,hs3])) (by rw[hs,vk])) hs vk) λU H Q ⟨hA,Y,g,q⟩=>by
  simp only[R.bind_assoc]at q;refine⟨hA,Y,g,AX.bind q λd v H1 _ s1 r1 p1=>⟨hA.same s1,Y,g.same s1,AX.bind p1 λd2 v2 H2 _ s2 r2 p2=>⟨(hA.same s1).same s2,Y,(g.same s1).same s2,AX.bind p2 λd3 v3 H3 _ s3 r3 p3=>?_⟩⟩⟩
  unfold OB at p3;cases e1:DD d with
  |bad=>rw[e1]at p3;exact p3.elim
  |exn z=>exact absurd e1 (by cases d<;>simp[DD])
  |ok ds=>
   cases e2:DD d2 with
   |bad=>rw[e1,e2]at p3;exact p3.elim
   |exn z=>exact absurd e2 (by cases d2<;>simp[DD])
   |ok es=>
    cases e3:DD d3 with
    |bad=>rw[e1,e2,e3]at p3;exact p3.elim
    |exn z=>exact absurd e3 (by cases d3<;>simp[DD])
    |ok fs=>
     rw[e1,e2,e3]at p3;simp only[R.bind_ok]at p3;obtain⟨t1,c1,xs,rfl,k1,rs1⟩:=ON ((r1.same s2).same s3) e1;obtain⟨t2,c2,ys,rfl,k2,Β⟩:=ON (r2.same s3) e2;obtain⟨t3,c3,us,rfl,k3,rs3⟩:=ON r3 e3;split at p3
     .rename_i hn;obtain⟨n0,nn,ny,nz⟩:=hn;rw[<-rs1.length]at n0 nn ny nz;rw[<-Β.length]at ny;rw[<-rs3.length]at nz;refine⟨t1,t2,t3,c1,c2,c3,xs,ys,us,rfl,k1 H3 (Kp.of (Aw.refl H3)),k2 H3 (Kp.of (Aw.refl H3)),k3 H3 (Kp.of (Aw.refl H3)),n0,nn,ny,nz,λas T el nd fr hT fT=>?_⟩
      have î:J4 H3 A:=((hA.same s1).same s2).same s3;have Ū:∀ q∈(T,as.map V.ref)::as.zip (Kq xs ys us),H3 q.1=Ae:=λq hq=>by
       rcases AE.mp hq with rfl|hq
       .exact fT
       .obtain⟨j,h1,h2⟩:=NY (a:=q.1) (b:=q.2) hq;exact fr _ (De h1)
      have sm:Aw H3 (JM H3 ((T,as.map V.ref)::as.zip (Kq xs ys us))):=λb o e=>by
       rw[TK λq hq z=>by rw[<-z,Ū q hq]at e;cases e]
       exact e
      refine p3 _ _ sm ⟨T,as.map V.ref,rfl,.inl (î.new fT),yg.of ?_,RU î sm (λj a r h1 h2=>?_) fr el ny nz rs1 Β rs3⟩
      .unfold JM;rw[Xf]
      .have na:a≠T:=λe=>by subst e;exact hT (De h1)
       unfold JM;rw[BQ,iw na,U_8 nd h1 h2]
     .exact p3.elim
end
theorem Uy{e:Aj->Ao}:∀{its:Ac Aj}{ds:Ac D},its.length=ds.length->(∀ j (h:j<its.length),e its[j]=f (ds.getD j .O))->its.countP e=(ds.filter f).length
 |[],[],_,_=>rfl
 |y::its,d::ds,hl,h=>by
  have h0:e y=f d:=h 0 (by simp)
  have ih:=Uy (its:=its) (ds:=ds) (by simpa using hl) λj hj=>by
   have:=h (j+1) (by simpa using hj)
   simpa using this
  rw[List.countP_cons,List.filter_cons,ih,h0];cases f d<;>simp
 |[],_::_,hl,_=>by simp at hl
 |_::_,[],hl,_=>by simp at hl
theorem Vn(I:Y8 X pI U H s)(B:AY)(hd:J8 n d=Ab)(hs:ds.all (J8 n)=Ab)(r:Y9 X.K CL H A0 xs ds)(rv:AZ xs its)(q:Y6 X.K CL H A0 v d)(qv:BB v u)(hu:B.units+n<BD):∃ e:Aj->Ao,(∀ y,y∈its.toArray->EI B s y u (e y))/\∀ j (h:j<its.length),e its[j]=J0 (ds.getD j .O) d:=by
 have l1:=rv.length;have l2:=r.length
 have key:∀ y,y∈its->∃ k:Ao,EI B s y u k/\∀ j (h:j<its.length),its[j]=y->J0 (ds.getD j .O) d=k:=λy hy=>by
  obtain⟨j,hj,rfl⟩:=FM hy;obtain⟨x,rx,qx⟩:=Km r rv hj;refine⟨J0 (ds.getD j .O) d,(Mw I n _ _ x v _ _ B (JA hs j) hd rx q qx qv hu).2.1,λj' qm e=>?_⟩
  obtain⟨x',ø,À⟩:=Km r rv qm;rw[e]at À;have z:=BB.inj qx À;subst z;rw[M9 I n _ _ (JA hs j') (JA hs j) ø rx]
 have vz:∀ y,∃ k:Ao,y∈its->EI B s y u k/\∀ j (h:j<its.length),its[j]=y->J0 (ds.getD j .O) d=k:=λy=>by
  by_cases hy:y∈its
  .obtain⟨k,hk⟩:=key y hy;exact⟨k,λ_=>hk⟩
  .exact⟨Ab,λh=>absurd h hy⟩
 exact⟨λy=>IX (vz y),λy hy=>(Ea (vz y) (by simpa using hy)).1,λj hj=>((Ea (vz its[j]) (DR _)).2 j hj rfl).symm⟩
def sK(K:Fg)(CL:ClA):V->Ac V->Hp->VK->Prop:=λx vs H Q=>∃ l xs ds v d,x=.ref l/\vs=[v]/\zr K H l xs/\Y9 K CL H A0 xs ds/\Y6 K CL H A0 v d/\J8 5 d=Ab/\ds.all (J8 5)=Ab/\Q (.int ((ds.filter λy=>J0 y d).length:Ag)) H
theorem fO(hu:X.A.units+64<BD):oo X "list.count" (sK X.K CL):=by
 intro pI s U H x vs v us Q I rx rv h;obtain⟨l,xs,ds,y,d,rfl,rfl,sq,rs,ry,h1,h2,q⟩:=h;cases rx;obtain⟨u,rfl,ru⟩:=rv.one;obtain⟨its,r,pl,hz⟩:=I.list sq;obtain⟨⟨c,dct,dt,sl⟩,n,e,hc,hd,ng⟩:=pl;obtain⟨f,hf,hn⟩:=Vn I (n:=5) X.A.in1 h1 h2 rs r ry ru (by show X.A.units+1+5<BD;omega)
 replace hc:c=.type "list" := hc;replace ng:dt=.seq its.toArray n:=ng;subst hc ng;refine EK X6 ⟨_,e,rfl⟩ PySem.F.entry_list_count (PySem.F.args_list_count_2 _ _) (SeqAt.list_countAt l its.toArray n dct sl u f) ⟨e,hf,?_⟩;refine⟨.int _,H,I.tok _,⟨_,rfl⟩,?_⟩;rw[Uy (f:=λy=>J0 y d) (by rw[<-r.length,rs.length]) hn]
 exact q
section
variable{prog:AG}{w:AD}{A:AY}{E:Vq}
theorem S5(td:t≠it):∀(n i:Ag)(s:An)(Q:Ac Aj->An->Prop),s.heap.IsListIter it t i->s.heap.IsList t items->i+n<=items.size->(∀ h',h'.IsListIter it t (i+n)->D6 it s.heap h'->Q ((items.toList.drop i).take n) {s with heap:=h'})->Av (model prog w) A (draw (.ref it) n) Q E s
 |0,i,s,Q,hit,_,_,hQ=>by
  show Av _ _ (pure []) Q E s;exact Ax (by simpa using hQ s.heap hit (Yg ..))
 |n+1,i,s,Q,hit,ht,hle,hQ=>by
  have xu:i<items.size:=by omega
  show Av _ _ (Fb (.ref it) >>= _) Q E s;refine Al (Y_2 hit ht (x:=items[i]) (by simp[xu]) λh₁ jm ϰ=>?_)
  refine Al (BA (S5 td n (i+1) _ _ jm (ht.extBut ϰ.extBut td) (by omega) λh₂ hit₂ hs₂=>Ax ?_))
  have hd:items.toList.drop i=items[i]::items.toList.drop (i+1):=by simp[Eh,xu]
  have:=hQ h₂ (by rw[show i+(n+1)=i+1+n by omega];exact hit₂) (ϰ.trans hs₂)
  rwa [hd,List.take_succ_cons]at this
theorem ZU(hh:A.handled=Ae)(ht:s.heap.IsList t items)(hQ:∀ h',Jy s.heap.objs.size s.heap h'->Q items.toList {s with heap:=h'}):Av (model prog w) A (unpackItems (.ref t) items.size Ae) Q E s:=by
 have xu:t≠s.heap.objs.size:=by obtain⟨o,ho,_⟩:=ht;exact A5 (AF ho)
 have Ų:(s.heap.push { cls:=.type "list_iterator",data:=.fields #[.ref t,.int 0 0] }).IsList t items:=by
  obtain⟨o,ho,r⟩:=ht;exact⟨o,Ar _ ho,r⟩
 unfold unpackItems;refine Al ?_
 .unfold notIterableAtAll;refine Al (Jw ht.typeIs slot_list_iter.lookup ?_);refine Ax ?_;simp only[Ii,Jn];refine Al (BA (E4 ht ?_));refine Al (BA (S5 xu items.size 0 _ _ ⟨_,AI _ rfl,rfl,rfl⟩ Ų (by omega) λh₁ jm ϰ=>?_))
  have jg:List.take items.size (List.drop 0 items.toList)=items.toList:=by
   rw[W5];exact List.take_of_length_le (by simp)
  rw[jg];rw[AA (by simp)]
  have ht₁:h₁.IsList t items:=Ų.extBut ϰ.extBut xu;refine Al (BA (Y_1 hh jm ht₁ (by simp) λh₂ he₂=>?_))
  simp only[Option.isSome_none,Ii,Jn];refine Ax (hQ h₂ λb o hb e=>he₂ b o hb (ϰ.extBut b o hb (Ar _ e)))
theorem ZT(hh:A.handled=Ae)(ht:s.heap.IsList t items) (hn:(Co elts env).length=items.size) (Ϯ:(Co elts env).findIdx? (·.1)=Ae) (h:∀ h',Jy s.heap.objs.size s.heap h'->Av (model prog w) A (assignInOrder ((Co elts env).map (·.2)) items.toList) Q E {s with heap:=h'}):Av (model prog w) A (assign (.Tuple elts x1 pos) env (.ref t)) Q E s:=by
 rw[assign_Tuple];refine Al (CJ ?_);unfold unpack;rw[hn,Ϯ];exact Al (BA (ZU hh ht h))
end
def gSq(K:Fg)(n:Ag)(t:TGs):TG:=λv U H Q=>Pj K n t v U H Q\/∃ a xs,v=.ref a/\zr K H a xs/\xs.length=n/\t xs U H Q
theorem zA(hc:X.calm=Ab)(h:Þ X es t)(hn:(Co es X.env).length=n)(xm:(Co es X.env).findIdx? (·.1)=Ae):PG X (.Tuple es k pos) (gSq X.K n t):=by
 intro pI s U H v u Q I r hw;rcases hw with hw|hw
 .exact UX hc h hn xm pI s U H v u Q I r hw
 .obtain⟨a,xs,e1,hq,hl,hw⟩:=hw;subst e1;cases r;obtain⟨its,rv,ht,hz⟩:=I.list hq;refine ZT (I.ok.hd hc) ht.isList (by simp[hn,<-hl,rv.length]) xm λh' hx=>?_
  have I1:Y8 X pI U H {s with heap:=h'}:=I.kept (t':=s.toks) λb o e=>hx b o (A5 (AF e)) e
  exact h pI _ U H xs _ Q I1 (by simpa using rv) hw
theorem ba(ts:Ac Ag):GT K CL (MA ts) (gSq K ts.length (ts.foldr (λt u=>LP (Gg t) u) LV)):=λFz B Y U H v d Y' Q x r e k=>by
 cases d with
 |L ds=>
  obtain⟨a,xs,rfl,na,sq,rs⟩:=r;rw[eA]at e;cases e2:HY ts ds Y with
  |none=>rw[e2]at e;cases e
  |some Y2=>
   rw[e2]at e;cases e;exact .inr ⟨a,xs,rfl,sq,by rw[rs.length];exact PK _ _ _ _ e2,QH ts ds xs Y _ U Q x rs e2 k⟩
 |_=>exact .inl (UH ts Fz B Y U H v _ Y' Q x r e k)
end Ov
namespace Ov
open PySem PySem.W PyProof.Rows
end Ov
namespace Ov
open PySem PySem.Spec PyProof.Rows L2
end Ov
namespace Ov
open PySem PySem.Spec PyProof.Rows
noncomputable def stand(i b:Ag):SetTable.Probe:=⟨i,0,i,b,Ae⟩
section
variable{K:Type}[DecidableEq K]
end
end Ov
namespace Ov
open PySem PySem.Spec PyProof.Rows L2
variable{ex:Ac Ak}{h:AC}{w:AD}{a f:Ak}{k:Ag}{X:Cx}{pI:Pn}{U:L2.St}{s:An}{K:Fg}{x n z:Ah}{v:Am Aj}{CL:ClA}{A:Ak->Prop}{pos apos cpos:AH}{y:Ex}{Xw:Vq}{e o:Aq}{es:Ac Aq}{fs:Rho->R (Ac D)}{d:D}{ps:Ac Ah}{fd:A7}{F:Ac D->R D}{fy fo:Rho->R D}
section
open PySem.AutoSeq1 (wpAny_loadPart')
end
def Pa(e T:Ak)(cls:Aj)(dx:Am Ak)(fl:Aj)(h:AC):Prop:=∃ oe vs oT ts a0,h.get? e=Aa oe/\oe.cls=cls/\oe.dict=dx/\vs[0]?=Aa a0/\oe.data=.fields vs/\vs[1]?=Aa (.ref T)/\T≠e/\h.get? T=Aa oT/\oT.data=.fields ts/\ts[3]?=Aa fl
abbrev uw(e T:Ak)(cls:Aj)(dx:Am Ak)(h:AC):Prop:=Pa e T cls dx Dg h
noncomputable def G8(C:Ak)(dx:Am Ak)(t:Ak):CD:={cls:=.ref C,dict:=dx,data:=.fields #[.ref t,.none,.none,.none,.bool Ad,.none]}
structure zg (ex fs:Ac Ak) (h h':AC):Prop where
 keep:∀ b o,h.get? b=Aa o->b∉ex->b∉fs->h'.get? b=Aa o
 slot:∀ b o,h.get? b=Aa o->b∈fs->∃ sl,h'.get? b=Aa {o with slots:=sl}
theorem zg.trans{fs:Ac Ak}(a:zg ex fs h h1)(b:zg ex fs h1 h2):zg ex fs h h2:=
 ⟨λc o q n m=>b.keep c o (a.keep c o q n m) n m,λc o q m=>by
  obtain⟨sl,e1⟩:=a.slot c o q m;obtain⟨t7,e2⟩:=b.slot c _ e1 m;exact⟨t7,e2⟩⟩
theorem ObjOk.isThere:∀(o:HO),L2.ObjOk P w H h a o->∃ ob,h.get? a=Aa ob
 |.L _,x=>by obtain⟨_,_,_,_,e⟩:=x;exact⟨_,e⟩
 |.H _,x=>by obtain⟨_,_,_,p⟩:=x;obtain⟨o,e,_⟩:=p;exact⟨_,e⟩
 |.dK _,x=>by obtain⟨_,_,_,_,o,_,_,e,_⟩:=x;exact⟨_,e⟩
 |.dT _,x=>by obtain⟨_,_,_,_,o,_,_,e,_⟩:=x;exact⟨_,e⟩
 |.set _ _,x=>by obtain⟨o,_,_,_,e,_⟩:=x;exact⟨_,e⟩
 |.ins _ _ _,x=>by obtain⟨_,_,_,e,_⟩:=x;exact⟨_,e⟩
 |.own _,x=>x
 |.xd _,x=>by obtain⟨_,⟨_,_,_,e,_⟩,_⟩:=x;exact⟨_,e⟩
 |.met _ _,x=>⟨_,x⟩
 |.rng _ _,x=>by obtain⟨_,_,_,e⟩:=x;exact⟨_,e⟩
 |.frz _ _,x=>⟨_,x.1⟩
 |.tbl _,x=>⟨_,x⟩
 |.ext _,x=>x.2.1
theorem Mi(x:yj P w H h)(e:h.get? a=Ae):H a=Ae:=by
 cases q:H a with
 |none=>rfl
 |some o=>
  obtain⟨ob,z⟩:=ObjOk.isThere o (x a o q);rw[e]at z;cases z
theorem yj.shift{fs:Ac Ak}(x:yj P w H h)(sh:zg ex fs h h')(h1:∀ b∈ex,H b=Ae)(h2:∀ b∈fs,H b=Ae):yj P w H h':=λa o e=>
 (x a o e).stay (λb u hb q=>by
  have hs:∃ v,H b=Aa v:=by
   rcases hb with rfl|hb
   .exact⟨_,e⟩
   .exact⟨_,hb⟩
  obtain⟨v,hv⟩:=hs;exact sh.keep b u q (λz=>by rw[h1 b z]at hv;cases hv) (λz=>by rw[h2 b z]at hv;cases hv)) (λ_ q=>q) λ_ _ q=>q
theorem Un.shift{fs ex:Ac Ak}(u:Un fs0 [] H H' h0 h)(sh:zg ex fs h h')(h1:∀ b∈ex,h0.get? b=Ae)(h2:∀ b∈fs,b∈fs0\/h0.get? b=Ae):Un fs0 [] H H' h0 h' where
 keep:=λb o q n hb hx=>sh.keep b o (u.keep b o q n hb hx) (λz=>by rw[h1 b z]at q;cases q) λz=>(h2 b z).elim hb λe=>by rw[e]at q;cases q
 slot:=λb o q n hb hx=>by
  obtain⟨sl,e1⟩:=u.slot b o q n hb hx;by_cases hf:b∈fs
  .obtain⟨t7,e2⟩:=sh.slot b _ e1 hf;exact⟨t7,e2⟩
  .exact⟨sl,sh.keep b _ e1 (λz=>by rw[h1 b z]at q;cases q) hf⟩
 free:=u.free
 there:=λb o q hx=>by
  obtain⟨o',e1⟩:=u.there b o q hx;by_cases hf:b∈fs
  .obtain⟨t7,e2⟩:=sh.slot b _ e1 hf;exact⟨_,e2⟩
  .exact⟨o',sh.keep b _ e1 (λz=>by rw[h1 b z]at q;cases q) hf⟩
 tups:=u.tups
 frzs:=u.frzs
 tbls:=u.tbls
theorem nE(f:A3 Aj->A3 Aj)(o:CD):(GZ f o).dict=o.dict:=by
 obtain⟨c,d,dt,sl⟩:=o;cases dt<;>rfl
section
variable{A:AY}{E:Vq}{e:Ak}
theorem Sh(wn:A.frames=Aa (env::outer))(hf:env.frame=Aa L)(ff:s.heap.FunFrames base (env::outer))(he:s.heap.get? e=Aa oe)(dt:oe.data=.fields vs)(hz:1<vs.size)(hQ:∀ h' T' oT ts,h'.get? e=Aa (GZ (·.setIfInBounds 1 (.ref T')) oe)->T'≠e->s.heap.get? T'=Ae->h'.get? T'=Aa oT->oT.data=.fields ts->ts[3]?=Aa (Cm L)->zg [e] (xx (env::outer)) s.heap h'->Q () {s with heap:=h'}):
  Av M A (do
   let fr <-frameOf env
   let pl <-entryPlaceOf L nx
   let en <-XS hd fr .none (Cm L) .none pl
   setField (.ref e) 1 en) Q E s:=by
 have nf:e∉xx (env::outer):=λz=>by
  obtain⟨_,o,q,n⟩:=ff.mem z;rw[he]at q;cases q;exact n vs dt
 refine Al (wpAny_frameOf_fun wn ff hf λk1 so=>Al (wpAny_entryPlaceOf λpl ip=>?_))
 obtain⟨sz,sm,sl⟩:=so;have e1:k1.get? e=Aa oe:=(sm e nf).trans he;unfold XS;unfold newFields;refine Al (Cp ?_ (ip.sizeOk5 _ _ _ _ _));generalize hX:({ cls:=.type "traceback",dict:=Ae,data:=.fields ([hd,.ref L,.none,Cm L,.none]++(if pl.isEmpty then Bs 6 Dg else pl)).toArray }:CD)=ob
 have od:ob.data=.fields ([hd,.ref L,.none,Cm L,.none]++(if pl.isEmpty then Bs 6 Dg else pl)).toArray:=by rw[<-hX]
 have nl:k1.objs.size≠e:=Et (AF e1);have e2:=Ar ob e1;refine Gy e2 dt hz ?_;have up:∀ b,b≠e->((k1.push ob).update e (GZ (·.setIfInBounds 1 (.ref k1.objs.size)))).get? b=(k1.push ob).get? b:=λb nb=>B7 _ _ (CB nb)
 have lf:ob.isFreed=Ad:=by rw[<-hX];rfl
 refine hQ _ k1.objs.size ob _ (B3 _ e2 (E8 (Dy dt _))) nl ?_ ((up _ nl).trans (AI k1 lf)) od ?_ ⟨λb o q n1 n2=>?_,λb o q hb=>?_⟩
 .rw[sz];exact DH (AQ _)
 .simp
 .have nb:b≠e:=λz=>n1 (by rw[z];exact AR)
  rw[up b nb];exact Ar ob ((sm b n2).trans q)
 .obtain⟨t7,q'⟩:=sl b o q;have nb:b≠e:=λz=>nf (z ▸ hb)
  exact⟨t7,(up b nb).trans (Ar ob q')⟩
theorem SZ(hc:oe.cls=cls)(hx:oe.dict=dx)(h0:vs[0]?=Aa a0)(dt:oe.data=.fields vs)(hz:1<vs.size)(g:h'.get? e=Aa (GZ (·.setIfInBounds 1 (.ref T')) oe))(ne:T'≠e)(gT:h'.get? T'=Aa oT)(dT:oT.data=.fields ts)(f3:ts[3]?=Aa fl):Pa e T' cls dx fl h':=
 ⟨_,_,oT,ts,a0,g,(Yj _ _).trans hc,(nE _ _).trans hx,by rw[Array.getElem?_setIfInBounds_ne (by decide)];exact h0,Dy dt _,by simp[hz],ne,gT,dT,f3⟩
theorem Mm{vs:A3 Aj}{v:Aj}(q:vs[i]?=Aa v):i<vs.size:=(FE.mp q).1
theorem Tv(wn:A.frames=Aa (env::outer))(hf:env.frame=Aa L)(ff:s.heap.FunFrames base (env::outer))(fl:uw e T cls dx s.heap)(hQ:∀ h' T',Pa e T' cls dx (Cm L) h'->zg [e,T] (xx (env::outer)) s.heap h'->s.heap.get? T'=Ae->Q () {s with heap:=h'}):Av M A (Hd (.ref e) env) Q E s:=by
 obtain⟨oe,vs,oT,ts,a0,he,hc,hx,h0,dt,h1,ne,hT,dT,h3⟩:=fl;have z3:=Mm h3;unfold Hd;simp only[hf];refine Al (Bx he dt h1 ?_);rw[Au (by simp:(Bv T != Dg)=Ab)]
 refine Al (Bx hT dT h3 ?_);rw[AA (by simp[Cm]:¬ (Dg==Cm L)=Ab)]
 refine Al (Gy hT dT z3 ?_);have up:∀ b,b≠T->(s.heap.update T (GZ (·.setIfInBounds 3 Dg))).get? b=s.heap.get? b:=λb nb=>B7 _ _ (CB nb)
 have rcd:∀ b o,s.heap.get? b=Aa o->(∀ us,o.data≠.fields us)->b≠T:=λb o q n z=>by
  rw[z,hT]at q;cases q;exact n ts dT
 refine Sh (base:=base) wn hf (ff.of_keeps λb o q n=>⟨o,(up b (rcd b o q n)).trans q,rfl⟩) ((up e (CB ne)).trans he) dt (Mm h1) λh' T' oT' ts' g nT gn gT dT' f3 sh=>?_
 have T0:s.heap.get? T'=Ae:=by
  by_cases z:T'=T
  .rw[z]at gn;rw[B3 _ hT (E8 (Dy dT _))]at gn;cases gn
  .rw[<-up T' z];exact gn
 refine hQ h' T' (SZ hc hx h0 dt (Mm h1) g nT gT dT' f3) ⟨λb o q n1 n2=>?_,λb o q hb=>?_⟩ T0
 .simp only[AE,Bo,Dm,HB]at n1;exact sh.keep b o ((up b n1.2).trans q) (by simp[n1.1]) n2
 .obtain⟨_,o',q',n⟩:=ff.mem hb;rw[q]at q';cases q';exact sh.slot b o ((up b (rcd b o q n)).trans q) hb
theorem N9(fl:Pa e T cls dx fv s.heap)(hQ:∀ h',uw e T cls dx h'->(∀ b o,b≠T->s.heap.get? b=Aa o->h'.get? b=Aa o)->Q () {s with heap:=h'}):Av M A (Iu (.ref e) Ae) Q E s:=by
 obtain⟨oe,vs,oT,ts,a0,he,hc,hx,h0,dt,h1,ne,hT,dT,h3⟩:=fl;have z3:=Mm h3;unfold Iu;refine Al (Bx he dt h1 ?_);rw[Au (by simp:(Bv T != Dg)=Ab)]
 refine Gy hT dT z3 (hQ _ ?_ λb o nb q=>(B7 _ _ (CB nb)).trans q)
 exact⟨oe,vs,_,_,a0,(B7 _ _ ne).trans he,hc,hx,h0,dt,h1,ne,B3 _ hT (E8 (Dy dT _)),Dy dT _,by simp[z3]⟩
theorem Px(ff:s.heap.FunFrames base (env::outer))(sh:zg ex (xx (env::outer)) s.heap h1)(hT:s.heap.get? T'=Ae)(k:∀ b o,b≠T'->h1.get? b=Aa o->h2.get? b=Aa o):zg ex (xx (env::outer)) s.heap h2:=
 ⟨λb o q n1 n2=>k b o (λz=>by rw[z,hT]at q;cases q) (sh.keep b o q n1 n2),λb o q hb=>let ⟨sl,q'⟩:=sh.slot b o q hb;⟨sl,k b _ (λz=>by rw[z,hT]at q;cases q) q'⟩⟩
theorem eJ(wn:A.frames=Aa (env::outer))(hf:env.frame=Aa L)(ff:s.heap.FunFrames base (env::outer))(fl:uw e T cls dx s.heap)(hQ:∀ h' T',uw e T' cls dx h'->zg [e,T] (xx (env::outer)) s.heap h'->(T'=T\/s.heap.get? T'=Ae)->Q () {s with heap:=h'}):Av M A (leaving env (.ref e)) Q E s:=by
 unfold leaving;exact Al (Tv wn hf ff fl λh1 T' f1 sh hT=>N9 f1 λh2 f2 k=>hQ h2 T' f2 (Px ff sh hT k) (.inr hT))
theorem cP(wn:A.frames=Aa (env::outer))(hf:env.frame=Aa L)(ff:s.heap.FunFrames base (env::outer))(he:s.heap.get? e=Aa oe)(hc:oe.cls=cls)(hx:oe.dict=dx)(dt:oe.data=.fields vs)(h0:vs[0]?=Aa a0)(h1:vs[1]?=Aa .none)(hQ:∀ h' T',uw e T' cls dx h'->zg [e] (xx (env::outer)) s.heap h'->s.heap.get? T'=Ae->Q () {s with heap:=h'}):Av M A (leaving env (.ref e)) Q E s:=by
 unfold leaving Hd;simp only[hf];refine Al (Al (Bx he dt h1 ?_));rw[AA (by decide)]
 exact Sh (base:=base) wn hf ff he dt (Mm h1) λh' T' oT ts g nT gn gT dT f3 sh=>N9 (SZ hc hx h0 dt (Mm h1) g nT gT dT f3) λh2 f2 k=>hQ h2 T' f2 (Px ff sh gn k) gn
theorem fB(wn:A.frames=Aa (env::outer))(hf:env.frame=Aa L)(ff:s.heap.FunFrames base (env::outer))(fl:uw e T cls dx s.heap)(hQ:∀ h' T',uw e T' cls dx h'->zg [e,T] (xx (env::outer)) s.heap h'->(T'=T\/s.heap.get? T'=Ae)->Q () {s with heap:=h'}):Av M A (Hd (.ref e) env) (λ_ s2=>Av M A (Iu (.ref e) Ae) Q E s2) E s:=
 Tv wn hf ff fl λh1 T' f1 sh hT=>N9 f1 λh2 f2 k=>hQ h2 T' f2 (Px ff sh hT k) (.inr hT)
theorem eK(ff:s.heap.FunFrames base l)(fl:uw e T cls dx s.heap)(hQ:∀ h' T',uw e T' cls dx h'->zg [e,T] (xx l) s.heap h'->(T'=T\/s.heap.get? T'=Ae)->Q () {s with heap:=h'}):Av M A' (Iu (.ref e) Ae) Q E s:=by
 obtain⟨oe,vs,oT,ts,a0,he,hc,hx,h0,dt,h1,ne,hT,dT,h3⟩:=id fl;refine N9 fl λh' f' k=>hQ h' T f' ⟨λb o q n1 n2=>k b o (λz=>n1 (by rw[z];simp)) q,λb o q hb=>⟨o.slots,k b o (λz=>?_) q⟩⟩ (.inl rfl)
 obtain⟨_,o',q',n⟩:=ff.mem hb;rw[z,hT]at q';cases q';exact n ts dT
end
def CXR(P:AG)(w:AD):CXT:=λouter H s E ev s'=>∃ e T cls dx H',ev=.ref e/\s'.os=s.os/\Gr s'.gens/\Un (xx outer) [] H H' s.heap s'.heap/\yj P w H' s'.heap/\uw e T cls dx s'.heap/\H' e=Ae/\H' T=Ae/\s.heap.get? e=Ae/\s.heap.get? T=Ae/\E cls dx H'
def NN(X:Cx)(CL:ClA)(W:XW):Prop:=∀ pI U H s e C dx t x,Y8 X pI U H s->(X.ex=[]->X.s₀.heap.get? e=Ae)->H e=Ae->s.heap.get? e=Aa (G8 C dx t)->Db X.K CL H (.ref C) dx x->W x H->X.xe (.ref e) s
section
variable{A:AY}{E:XK}
theorem Qz(I:Y8 X pI U H s):∀ b∈xx X.stack,b∈X.fs\/X.s₀.heap.get? b=Ae:=λb hb=>by
 rcases AE.mp (I.stkSub b hb) with z|z
 .exact .inr (by rw[z];exact DH I.ok.above)
 .exact .inl z
theorem LH(I:Y8 X pI U H s)(hx:X.ex=[])(h:s.heap.get? b=Ae):X.s₀.heap.get? b=Ae:=by
 cases q:X.s₀.heap.get? b with
 |none=>rfl
 |some o=>
  obtain⟨o',z⟩:=I.base.there b o q (by rw[hx];simp)
  rw[h]at z;cases z
theorem OF(hE:∀ x cls dx H',W x H'->Db K CL H' cls dx x->E cls dx H'):∀ A',G7 (CXR P w) (Bu (CXR P w) P w K mg base N qual scope f cd A outer s H E) (EKW K CL A' W):=by
 intro A' pI U H1 s1 ev s2 I h;obtain⟨e,T,cls,dx,H',rfl,os,bare,un,hok,fl,he,hT,ne,nT,x,xr,wx⟩:=h;have I':=I.call' (s':=s2) (ch:=[]) os un hok bare (λb z=>absurd z (by simp))
 have hb0:Un (xx outer) [] H H' s.heap s2.heap:=I'.base;show Av (model P w) (A.deeper (Eu qual scope s.heap.objs.size f cd)) (leaving (Eu qual scope s.heap.objs.size f cd) (.ref e)) _ _ s2;refine eJ (L:=s.heap.objs.size) I'.ok.frames rfl I'.stack fl λh' T' fl' sh Ϡ=>?_
 have e0:s.heap.get? e=Ae:=LH I rfl ne;have T0:s.heap.get? T=Ae:=LH I rfl nT;refine⟨e,T',cls,dx,H',rfl,I'.os,bare,Un.shift hb0 sh ?_ (Qz I'),yj.shift hok sh ?_ I'.stkFree,fl',he,?_,e0,?_,?_⟩
 .intro b hb;rcases AE.mp hb with rfl|hb
  .exact e0
  .rw[BH.mp hb];exact T0
 .intro b hb;rcases AE.mp hb with rfl|hb
  .exact he
  .rw[BH.mp hb];exact hT
 .rcases Ϡ with rfl|z
  .exact hT
  .exact Mi hok z
 .rcases Ϡ with rfl|z
  .exact T0
  .exact LH I' rfl z
 .exact hE x cls dx H' wx xr
theorem Ε(hE:∀ x cls dx H',W x H'->Db K CL H' cls dx x->E cls dx H'):NN (Bu (CXR P w) P w K mg base N qual scope f cd A outer s H E) CL W:=by
 intro pI U H1 s1 e C dx t x I e0 he ge xr hw;have hb0:Un (xx outer) [] H H1 s.heap s1.heap:=I.base;have e0':s.heap.get? e=Ae:=e0 rfl;show Av (model P w) (A.deeper (Eu qual scope s.heap.objs.size f cd)) (leaving (Eu qual scope s.heap.objs.size f cd) (.ref e)) _ _ s1;refine cP (cls:=.ref C) (dx:=dx) (L:=s.heap.objs.size) I.ok.frames rfl I.stack ge rfl rfl rfl (a0:=.ref t) rfl rfl λh' T' fl' sh Ϡ=>?_
 have one:∀{Z:Ak->Prop},Z e->∀ b∈[e],Z b:=λ{Z} z b hb=>by rw[BH.mp hb];exact z
 exact⟨e,T',.ref C,dx,H1,rfl,I.os,I.bare,Un.shift hb0 sh (one e0') (Qz I),yj.shift I.hok sh (one (Z:=λb=>H1 b=Ae) he) I.stkFree,fl',he,Mi I.hok Ϡ,e0',LH I rfl Ϡ,hE x _ dx H1 hw xr⟩
theorem qw:Gd (model P w) (Bu (CXR P w) P w K mg base N qual scope f cd A outer s H E).A (Bu (CXR P w) P w K mg base N qual scope f cd A outer s H E).env (Bu (CXR P w) P w K mg base N qual scope f cd A outer s H E).xe:=Yl
end
noncomputable def rm:Ac Aj:=[.type "ValueError",.type "Exception",.type "BaseException",.type "object"]
noncomputable def D0(K:Fg)(C:Ak)(v:Am Aj):Ao:=match K.lookup C with
  | some ⟨.type "type",_,.cls c,z⟩=>(match c.mro,z.toList with
    |.ref c0::tl,[_,_,_,_,Aa (.builtin nw),_]=>c0==C&&(nw == "ValueError.__new__" && (!c.hasDel&&(PySem.W.tailIn K rm tl&&(YF K c.ns&&A1 K c.ns "__init__" == Aa v))))
    | _,_=>Ad)
  |_=>Ad
theorem iQ(q:KI K C rm "ValueError.__new__" = Ab):D0 K C Ae=Ab:=by
 unfold KI at q;unfold D0;split at q
 .rename_i dd cd sl ho;split at q
  .rename_i C' bm k0 k1 k2 k3 n k5 hm hs;simp only[As]at q;obtain⟨⟨⟨⟨⟨h1,h2⟩,h3⟩,h4⟩,h5⟩,h6⟩:=q;simp only[ho,hm,hs,As];exact⟨h1,h2,h3,h4,h5,h6⟩
  .cases q
 .cases q
structure yc (K:Fg) (C:Ak):Prop where
 exc:∃ v,D0 K C v=Ab
 ga:Ap K (.ref C) "__getattribute__" = Aa (Aa (.builtin "BaseException.__getattribute__"))
 gt:Ap K (.ref C) "__getattr__" = Aa Ae
 cl:Ap K (.ref C) "__class__" = Aa (Aa (.builtin "object.__class__"))
 ob:Cq K C (.type "object")=Aa Ab
 be:BV K (.ref C) (.type "BaseException")=Aa Ab
 cs:(DP K C).isSome=Ab
 ve:CN K (.ref C) (.type "ValueError")=Aa Ab
def oy(e C:Ak)(h:AC):Prop:=∃ o,h.get? e=Aa o/\o.cls=.ref C
theorem uU{v:Aj}(X:K.In h)(G:h.Ns N m)(q:A1 K N x=Aa (Aa v)):m x=Aa v:=by
 obtain⟨ob,es,ep,g,dt,_,fd⟩:=G;unfold A1 at q;split at q
 .rename_i τ n' sl lk;have g':=X _ _ lk;rw[g]at g';cases g';cases dt;split at q
  .rename_i hf;cases q;rw[<-fd];unfold nsFind findBy;rw[<-WK,hf];rfl
  .by_cases z:(es.toList.any λy=>y.refKey)=Ab
   .rw[Au z]at q;cases q
   .rw[AA z]at q;cases q
 .cases q
theorem P8(X0:K.In h0)(q:D0 K C v=Ab):
  ∃ bm N nm qn bs hd sn sub ab col dd k0 k1 k2 k3 k5 mN,(∀ h:AC,K.In h->h.get? C=Aa (Cj nm qn C N bs bm hd sn sub ab col dd k0 k1 k2 k3 k5 "ValueError.__new__")/\h.Ns N mN/\Ep h rm bm)/\mN "__init__" = v/\bm.contains (.type "BaseException")=Ab:=by
 unfold D0 at q;split at q
 .rename_i dd cd sl ho;split at q
  .rename_i C' bm k0 k1 k2 k3 n k5 hm hs;simp only[As,A2,Cn]at q;obtain⟨rfl,rfl,ϣ,ht,hok,qo⟩:=q;obtain⟨nm,bs,mro,ns,qn,hd,sn,sub,ab,col,del⟩:=cd;dsimp only at hm ϣ hok qo;subst hm ϣ;have hsl:sl=#[k0,k1,k2,k3,Aa (.builtin "ValueError.__new__"),k5]:=by
    obtain⟨l⟩:=sl;simp only at hs;rw[hs]
   subst hsl;have kN:∃ o,K.lookup ns=Aa o:=by
    unfold YF at hok;split at hok
    .rename_i z;exact⟨_,z⟩
    .cases hok
   obtain⟨oN,hoN⟩:=kN;have nsAt:∀ h:AC,K.In h->h.Ns ns (h0.nsMap ns):=λh X=>by
    obtain⟨o,es,ep,e1,r⟩:=Heap.Ns.of_isNs (YB X0 hok);have e2:=X0 _ _ hoN;rw[e1]at e2;cases e2;exact⟨_,es,ep,X _ _ hoN,r⟩
   refine⟨bm,ns,nm,qn,bs,hd,sn,sub,ab,col,dd,k0,k1,k2,k3,k5,h0.nsMap ns,λh X=>⟨X _ _ ho,nsAt h X,YG X ht⟩,?_,(YG X0 ht).hasType (by decide)⟩
   cases v with
   |none=>exact PySem.W.nsMap_none_of_in X0 hok qo
   |some u=>exact uU X0 (.of_isNs (YB X0 hok)) qo
  .cases q
 .cases q
theorem mQ(X:K.In h)(q:D0 K C v=Ab):
  ∃ bm N nm qn bs hd sn sub ab col dd k0 k1 k2 k3 k5 mN,h.get? C=Aa (Cj nm qn C N bs bm hd sn sub ab col dd k0 k1 k2 k3 k5 "ValueError.__new__")/\h.Ns N mN/\mN "__init__" = v/\Ep h rm bm:=by
 obtain⟨bm,N,nm,qn,bs,hd,sn,sub,ab,col,dd,k0,k1,k2,k3,k5,mN,ho,hi,_⟩:=P8 X q;obtain⟨o1,o2,o3⟩:=ho h X;exact⟨bm,N,nm,qn,bs,hd,sn,sub,ab,col,dd,k0,k1,k2,k3,k5,mN,o1,o2,hi,o3⟩
section
variable{A:AY}{E:Vq}{d:Jr}{os:BY}{e:Ak}
theorem Mt(p:oy e C h):PySem.W.Looks M h (typeOf (.ref e)) (.ref C):=by
 obtain⟨o,h1,h2⟩:=p;exact h2 ▸ (PySem.W.Looks.ld h1).andThen .now
theorem dY{R:Jf->An->Prop}(X:K.In h)(p:oy e C h)(hm:Cq K C (.type "object")=Aa Ab)(hq:R (.ok (.ret (.ref C))) ⟨h,g,d,t,os⟩):
  Er (model prog w) A (.call (.builtin "getset_descriptor.__get__") ⟨[.builtin "object.__class__",.ref e,tp],[]⟩) R ⟨h,g,d,t,os⟩:=by
 have L0:=Mt (M:=model prog w) p;have L1:=PySem.W.looks_mroIn (M:=model prog w) X hm;refine Fo PySem.W.KF.slot_gs.plain PySem.W.KF.entry_gs (PySem.W.KF.slot_gs.check _ _ _ _ _ _ _ _ PySem.W.KF.type_class (PySem.W.KF.args_gs _ _ _) ?_);unfold Builtin.«getset_descriptor.__get__» Builtin.Getset_descriptor.descrGet;rw[PySem.W.dga_obj];refine Al (Ax ?_);unfold Builtin.Getset_descriptor.descrGetter Builtin.Getset_descriptor.descrCheckInstance Builtin.Getset_descriptor.descrNameAndClass IS;simp only[PySem.W.KF.owner_class]
 repeat lk
 refine⟨Im _ (by decide+kernel),EM PySem.W.KF.entry_class ?_⟩
 unfold Builtin.«object.__class__» shownTypeOf
 repeat lk
 exact hq
theorem bB(X:K.In h)(x:yc K C)(p:oy e C h)(hq:Q (.done (.ret (.ref C))) ⟨h,g,d,t,os⟩):
  Av (model prog w) A (Builtin.«object.__getattribute__» ⟨[.ref e,.str "__class__" tk],[]⟩) Q E ⟨h,g,d,t,os⟩:=by
 have L0:=Mt (M:=model prog w) p;have L1:=DL (M:=model prog w) X x.cl;have hT5:(⟨h,g,d,t,os⟩:An).TypeIs (.builtin "object.__class__") "getset_descriptor" := Yc;have f5:=Yc;have f6:=F.slot_gs_get.lookup;have f7:=F.slot_gs_set.lookup
 repeat (any_goals (first|assumption|with_reducible refine L0.at ?_|with_reducible refine L1.at ?_|wp_step))
 refine dY X p x.ob ?_
 repeat (any_goals (first|assumption|wp_step))
theorem cE(X:K.In h)(x:yc K C)(p:oy e C h)(hq:Q () ⟨h,g,d,t,os⟩):Av M A (Ew "BaseException.__getattribute__" ⟨[.ref e,nameV],[]⟩) Q E ⟨h,g,d,t,os⟩:=by
 have hk:builtinKind "BaseException.__getattribute__" = Aa .slot:=by decide+kernel
 have j7:splitId "BaseException.__getattribute__" = Aa ("BaseException", "__getattribute__"):=by decide+kernel
 have L0:=Mt (M:=M) p;have L1:=YE (M:=M) X x.be;have ha:=F.args_bexc_ga (.ref e) nameV;simp only[Ew,hk,j7];refine Al ?_
 .unfold IS
  repeat (first|(with_reducible refine Al (L0.at ?_))|(with_reducible refine L1.at ?_)|wp_step)
  exact hq
theorem iR{fill:Ao}{Q:Vq}(X:K.In h)(x:yc K C)(p:oy e C h)(hq:Q (.ref C) ⟨h,g,d,t,os⟩):Av (model prog w) A (getAttrBy (.ref e) (.str "__class__" tk) fill expr) Q E ⟨h,g,d,t,os⟩:=by
 have L0:=Mt (M:=model prog w) p;have L1:=DL (M:=model prog w) X x.ga;have L2:=DL (M:=model prog w) X x.gt;have f3:=F.attr_ValueError.ga.bind (.ref e);have hx0:(expr&&onTheHeap (G1 "BaseException.__getattribute__"))=Ad:=by cases expr<;>rfl
 have hx2:(G1 "BaseException.__getattribute__" == G1 "object.__getattribute__")=Ad:=by decide+kernel
 have hx1:(onTheHeap (Bv C)&&G1 "BaseException.__getattribute__" == G1 "object.__getattribute__")=Ad:=by rw[hx2];rfl
 repeat (any_goals (first|assumption|with_reducible refine L0.at ?_|with_reducible refine L1.at ?_|with_reducible refine L2.at ?_|wp_step))
 refine Fo F.attr_ValueError.ga.plain F.entry_bexc_ga (cE X x p (bB X x p ?_))
 repeat (any_goals (first|assumption|wp_step))
theorem cB(X:K.In h)(x:yc K C)(p:oy e C h)(hq:Q (Aa (.ref C)) ⟨h,g,d,t+1,os⟩):Av (model prog w) A (getAttr? (.ref e) "__class__") Q E ⟨h,g,d,t,os⟩:=by
 unfold getAttr? getAttrBy?
 repeat (any_goals (first|assumption|with_reducible apply iR X x p|wp_step))
end
theorem fS{e:Ak}(x:yc K C):PySem.W.KitX K (.ref e) (.ref C) (oy e C) where
 ty:=λM h _ p=>Mt p
 it:=λM h X _=>by
  obtain⟨cd,hc⟩:=CW.mp x.cs;unfold DP at hc;split at hc
  .rename_i c' d' cd' t7 ho;intro A' Q' E' s' k q;unfold isType loadHead;exact Al (YX (k _ _ (X _ _ ho)) (Ax q))
  .cases hc
 ne:=λh tp dd its n sl X Ų=>by
  obtain⟨cd,hc⟩:=CW.mp x.cs;refine Bool.eq_false_iff.mpr λq=>?_
  have e:C=tp:=KH (A2.mp q);subst e;unfold DP at hc;split at hc
  .rename_i c' d' cd' t7 ho;have z:=(X _ _ ho).symm.trans Ų;cases z
  .cases hc
 ca:=λ{_ _ _ _ _ s} X p k=>by
  obtain⟨h,g,d,t,os⟩:=s;exact cB X x p k
theorem gB{A:AY}{E:Vq}{d:Jr}{os:BY}{e:Ak}(X:K.In h)(p:oy e C h)(x':yc K C')(hs:BV K (.ref C) (.ref C')=Aa b)(hq:Q b ⟨h,g,d,t,os⟩):Av M A (excMatches (.ref e) (.ref C')) Q E ⟨h,g,d,t,os⟩:=by
 obtain⟨bm,N,nm,qn,bs,hd,sn,sub,ab,col,dd,k0,k1,k2,k3,k5,mN,hC',_,_,T⟩:=mQ X x'.exc.choose_spec;have hcB:(Bv C'::bm).contains (.type "BaseException")=Ab:=by rw[Ik,T.hasType (show rm.contains (.type "BaseException")=Ab by decide),KN]
 have L0:=Mt (M:=M) p;have L1:=YE (M:=M) X hs;have f:=tc_notTuple;unfold excMatches
 repeat (first|(with_reducible refine Al (L0.at ?_))|(with_reducible refine L1.at ?_)|(with_reducible refine Al (L1.at ?_))|with_reducible refine CS hC' ?_|(with_reducible refine FU hC' ?_;rw[hcB])|wp_step)
 all_goals first|exact hq|(cases b<;>(wp_walk;exact hq))
def IJ(X:Cx)(pI:Pn)(e:Ak):Prop:=e≠X.env.locals/\(∀ x c,X.env.cells.lookup x=Aa c->c≠e)/\(∀ p∈X.pn++pI,p.1≠e)/\X.s₀.heap.get? e=Ae
section
variable{U:L2.St}{e:Ak}
theorem Nd(I:Y8 X pI U H s)(hx:X.ex=[])(h:s.heap.get? e=Ae):IJ X pI e:=by
 refine⟨?_,λx c q z=>?_,λp hp z=>?_,LH I hx h⟩
 .rintro rfl;obtain⟨m,⟨o,_,_,ho,_⟩,_⟩:=I.loc;rw[h]at ho;cases ho
 .obtain⟨v,o,ho,_⟩:=I.cell x c q;rw[z,h]at ho;cases ho
 .obtain⟨q,_⟩:=I.pin p hp;rw[z,h]at q;cases q
theorem SQ(I:Y8 X pI U H s)(hx:X.ex=[])(sh:zg ex (xx X.stack) s.heap h')(ha:∀ b∈ex,IJ X pI b)(hH:∀ b∈ex,H b=Ae):Y8 X pI U H {s with heap:=h'}:=by
 have kp:∀ b o,s.heap.get? b=Aa o->b∉ex->∃ sl,h'.get? b=Aa {o with slots:=sl}:=λb o q n=>by
  by_cases hb:b∈xx X.stack
  .exact sh.slot b o q hb
  .exact⟨o.slots,sh.keep b o q n hb⟩
 have cellK:∀ x c,X.env.cells.lookup x=Aa c->∀ v,s.heap.IsCell c v->h'.IsCell c v:=λx c q v ⟨o,ho,hd⟩=>by
  obtain⟨sl,z⟩:=kp c o ho λz=>(ha c z).2.1 x c q rfl
  exact⟨_,z,hd⟩
 refine⟨I.ok,I.os,I.bare,?_,?_,λx c q=>?_,I.free,I.freeC,λp hp=>?_,yj.shift I.hok sh hH I.stkFree,I.len⟩
 .have b0:=I.base;rw[hx]at b0 ⊢;exact Un.shift b0 sh (λb hb=>(ha b hb).2.2.2) (Qz I)
 .obtain⟨m,⟨o,es,ep,ho,r⟩,hl⟩:=I.loc;obtain⟨sl,z⟩:=kp _ o ho λz=>(ha _ z).1 rfl
  refine⟨m,⟨_,es,ep,z,r⟩,λi x v e1 e2 e3=>?_⟩
  obtain⟨u,ru,l⟩:=hl i x v e1 e2 e3;refine⟨u,ru,?_⟩;rcases l with l|⟨k,c,q,z⟩
  .exact .inl l
  .exact .inr ⟨k,c,q,cellK x c q _ z⟩
 .obtain⟨v,z⟩:=I.cell x c q;exact⟨v,cellK x c q v z⟩
 .obtain⟨q,n,ne,nf,d⟩:=I.pin p hp;exact⟨sh.keep p.1 p.2 q (λz=>(ha p.1 z).2.2.1 p hp rfl) (λz=>(AE.mp (I.stkSub p.1 z)).elim ne nf),n,ne,nf,d⟩
theorem dG(I:Y8 X pI U H s)(hx:X.ex=[])(ha:IJ X pI e)(hH:H e=Ae)(ho:∃ o,s.heap.get? e=Aa o)(p:φ s.heap)(hφ:∀ h1 h2:AC,φ h1->(∀ o,h1.get? e=Aa o->h2.get? e=Aa o)->φ h2):Y8 X pI U (upd H e (.ext φ)) s:=by
 have ne:∀ b o,H b=Aa o->b≠e:=λb o q z=>by rw[z,hH]at q;cases q
 refine⟨I.ok,I.os,I.bare,⟨I.base.keep,I.base.slot,λb o q n hb=>?_,I.base.there,λb xs q=>?_,λb o u q=>?_,λb ps q=>?_⟩,I.loc,I.cell,?_,λx c q=>?_,λp hp=>?_,λb o q=>?_,I.len⟩
 .rw[AW λz=>by rw[z,ha.2.2.2]at q;cases q]
  exact I.base.free b o q n hb
 .have:=I.base.tups b xs q;rw[AW (ne _ _ this)];exact this
 .have:=I.base.frzs b o u q;rw[AW (ne _ _ this)];exact this
 .obtain⟨more,this⟩:=I.base.tbls b ps q;exact⟨more,by rw[AW (ne _ _ this)];exact this⟩
 .rw[AW λz=>ha.1 z.symm];exact I.free
 .rw[AW (ha.2.1 x c q)];exact I.freeC x c q
 .obtain⟨q,n,r⟩:=I.pin p hp;exact⟨q,by rw[AW (ha.2.2.1 p hp)];exact n,r⟩
 .by_cases hb:b=e
  .subst hb;rw[B1]at q;cases q;exact⟨p,ho,hφ⟩
  .rw[AW hb]at q;exact(I.hok b o q).stay (λc v hc z=>z) (λc z=>by rw[AW (ne _ _ z)];exact z) λc zs z=>by rw[AW (ne _ _ z)];exact z
theorem dF(I:Y8 X pI U H s)(hN:X.N.Nodup)(hi:X.N[i]?=Aa n)(hn:s.heap.Ns X.env.locals m)(ϩ:h'.Ns X.env.locals (λx=>if x=n then v else m x))(hs:D6 X.env.locals s.heap h'):Y8 X pI (U.set i Ae) H {s with heap:=h',toks:=tk}:=by
 obtain⟨m0,hn0,hl⟩:=I.loc;have em:m0=m:=by
  obtain⟨o,es,ep,h1,h2,_,h3⟩:=hn0;obtain⟨o',τ,ì,pj,Ŭ,_,h3'⟩:=hn;rw[h1]at pj;cases pj;rw[h2]at Ŭ;cases Ŭ
  funext y
  rw[<-h3,<-h3']
 subst em;obtain⟨oL,_,_,hoL,_⟩:=id hn;have lt:∀ b o,X.s₀.heap.get? b=Aa o->b≠X.env.locals:=λb o q=>A5 (AS (AF q) I.ok.above)
 refine⟨I.ok,I.os,I.bare,⟨λb o q n hb hx=>?_,λb o q n hb hx=>?_,I.base.free,λb o q hx=>?_,I.base.tups,I.base.frzs,I.base.tbls⟩,⟨_,ϩ,λj y v' e1 e2 e3=>?_⟩,λy c q=>?_,I.free,I.freeC,λp hp=>?_,λb ob q=>?_,by rw[Bc];exact I.len⟩
 .exact(hs.2 b (lt b o q)).trans (I.base.keep b o q n hb hx)
 .obtain⟨sl,e1⟩:=I.base.slot b o q n hb hx;exact⟨sl,(hs.2 b (lt b o q)).trans e1⟩
 .obtain⟨o',e1⟩:=I.base.there b o q hx;exact⟨o',(hs.2 b (lt b o q)).trans e1⟩
 .by_cases hj:i=j
  .subst hj;have:=HX e2;cases this
  .rw[Cc hj]at e2;obtain⟨u',r',q⟩:=hl j y v' e1 e2 e3;refine⟨u',r',?_⟩;rcases q with ⟨k,e⟩|⟨k,c,e,z⟩
   .refine .inl ⟨k,?_⟩;have:y≠n:=λe=>hj (Qi hN hi (e ▸ e1))
    simp[this,e]
   .exact .inr ⟨k,c,e,z.sameBut hs (I.cne y c e)⟩
 .obtain⟨w',z⟩:=I.cell y c q;exact⟨w',z.sameBut hs (I.cne y c q)⟩
 .obtain⟨q,n,ne,nf,d⟩:=I.pin p hp;exact⟨(hs.2 p.1 ne).trans q,n,ne,nf,d⟩
 .refine(I.hok b ob q).stay (λc w' hc z=>(hs.2 c ?_).trans z) (λ_ q=>q) λ_ _ q=>q
  rintro rfl;have vw:=I.free;rcases hc with z|hc
  .rw[<-z,vw]at q;cases q
  .rw[vw]at hc;cases hc
end
def Cx.hot(X:Cx)(e:Ak):Cx:={X with A:=X.A.mark (Aa (.ref e)),calm:=Ad,xe:=λ_ _=>AN}
section
variable{U:L2.St}{e:Ak}
theorem uO(ok:X.Ok):(Cx.hot X e).Ok:=⟨ok.mod,ok.kind,ok.glob,ok.blt,ok.above,ok.inj,ok.has,ok.cab,λz=>(nomatch z),ok.frames,ok.stk,ok.exf,ok.bs,ok.bsz,ok.noex,ok.exfs,ok.funs,ok.frf⟩
theorem Qx(I:Y8 X pI U H s)(e:Ak):Y8 (Cx.hot X e) pI U H s:=⟨uO I.ok,I.os,I.bare,I.base,I.loc,I.cell,I.free,I.freeC,I.pin,I.hok,I.len⟩
theorem fY(ok:X.Ok)(I:Y8 (Cx.hot X e) pI U H s):Y8 X pI U H s:=⟨ok,I.os,I.bare,I.base,I.loc,I.cell,I.free,I.freeC,I.pin,I.hok,I.len⟩
theorem Sx.unset(x:Sx K CL Fz B Y U H)(i:Ag):Sx K CL Fz B (Y.set i Ae) (U.set i Ae) H:=by
 have get:∀(j:Ag)(y:D×Ao),(Y.set i Ae)[j]?=Aa (Aa y)->i≠j/\Y[j]?=Aa (Aa y):=λj y h=>by
  by_cases hj:i=j
  .subst hj;have:=HX h;cases this
  .exact⟨hj,by rw[Cc hj]at h;exact h⟩
 have sub:∀ a,Bf B (Y.set i Ae) (U.set i Ae) a->Bf B Y U a:=λa h=>by
  rcases h with h|⟨j,d,h1,h2⟩
  .exact .inl h
  .obtain⟨hj,h1⟩:=get j _ h1;rw[Cc hj]at h2;exact .inr ⟨j,d,h1,h2⟩
 refine⟨⟨λj d h=>?_,λj d h hn=>?_,by rw[Bc,Bc];exact x.len⟩,λa h=>x.aok a (sub a h),λj d a h1 h2=>?_,λj k d f a h1 h2 h3 h4=>?_,x.same,by rw[Bc,Bc];exact x.len,λj h=>?_⟩
 .obtain⟨hj,h1⟩:=get j _ h;obtain⟨v,q,r⟩:=x.good.sh j d h1;exact⟨v,by rw[Cc hj];exact q,Y6.sub sub _ r⟩
 .obtain⟨hj,h1⟩:=get j _ h;obtain⟨a,xs,ds,q,z,ha,hh,rr⟩:=x.good.ow j d h1 hn;exact⟨a,xs,ds,by rw[Cc hj];exact q,z,.inr ⟨j,d,h,by rw[Cc hj];exact q⟩,hh,Y9.sub sub _ rr⟩
 .obtain⟨hj,h1⟩:=get j _ h1;rw[Cc hj]at h2;exact x.new j d a h1 h2
 .obtain⟨hj,h1⟩:=get j _ h1;obtain⟨hk,h2⟩:=get k _ h2;rw[Cc hj]at h3;rw[Cc hk]at h4;exact x.dis j k d f a h1 h2 h3 h4
 .obtain⟨hj,h1⟩:=get j _ h;obtain⟨a,xs,p1,p2,p3⟩:=x.pin j h1;exact⟨a,xs,p1,by rw[Cc hj];exact p2,p3⟩
end
def NM(e C:Ak)(dx:Am Ak)(h:AC):Prop:=∃ o,h.get? e=Aa o/\o.cls=.ref C/\o.dict=dx/\∃ us,o.data=.fields us
def Ro(X:Cx)(CL:ClA)(pI:Pn)(U:L2.St)(H:Hp)(y:Ex)(Xw:Vq):Prop:=
 ∀ s' H' e T cls dx,Y8 X pI U H' s'->Aw H H'->uw e T cls dx s'.heap->H' e=Ae->H' T=Ae->IJ X pI e->IJ X pI T->Db X.K CL H' cls dx y->Xw (.ref e) s'
theorem mJ{rest:Ac ExceptHandler}{D:wf}{e:Ak}(hx:X.ex=[])(hN:X.N.Nodup)(hi:X.N[i]?=Aa n)(hl:X.env.scope.names.lookup n=Aa .local)(hg:Gl X g)(hm:X.mg g=Aa (.ref C'))(zh:(g==("__debug__" : Ah))=Ad)(xc:yc X.K C')(hsu:BV X.K (.ref C) (.ref C')=Aa b)(hh:∀ e,ou (Cx.hot X e) CL (λ_ _=>AN) (h0::hs) fh)(I1:Y8 X pI U H' s1)(í:uw e T1 (.ref C) dx s1.heap)(ae:IJ X pI e)(aT1:IJ X pI T1)(he:H' e=Ae)(HT1:H' T1=Ae)(gx:Sx X.K CL Fz B Y' U H')(wt:CL y.c=Aa C)(xr:Db X.K CL H' (.ref C) dx y)(p2:b=Ab->B6 X.K CL Fz B W (ji i y Y' fh) D)(p3:b=Ad->Av (model X.prog X.w) X.A (Kc (.ref e) X.env rest) (SP X pI D) X.xe s1):Av (model X.prog X.w) X.A (Kc (.ref e) X.env (.ExceptHandler (Aa (.Name g p1)) (Aa n) (h0::hs) hp::rest)) (SP X pI D) X.xe s1:=by
 obtain⟨Cx0,hcl0,ecl,hfs⟩:=xr (Bf B Y' U) gx.aok;have xat:∀{h:AC}{T:Ak},uw e T (.ref C) dx h->oy e C h:=λ{h T} z=>by
  obtain⟨oe,_,_,_,_,z1,z2,_⟩:=z;exact⟨oe,z1,z2⟩
 have xad:∀{h:AC}{T:Ak},uw e T (.ref C) dx h->NM e C dx h:=λ{h T} z=>by
  obtain⟨oe,vs,_,_,_,z1,z2,z3,_,z4,_⟩:=z;exact⟨oe,z1,z2,z3,vs,z4⟩
 have two:∀{T:Ak}{Z:Ak->Prop},Z e->Z T->∀ b∈[e,T],Z b:=λ{T Z} h1 h2 b hb=>by
  rcases AE.mp hb with rfl|hb
  .exact h1
  .rw[BH.mp hb];exact h2
 refine wpAny_handleBy_cons (codeAny_handlers_test (JG (X:=Cx.hot X e) (Qx I1 e) hg hm ?_ zh)) (by intro q;cases q)
 refine gB (K:=X.K) I1.kIn (xat í) xc hsu ?_;cases b with
 |false=>exact p3 rfl
 |true=>
 have p2:=p2 rfl;refine codeAny_handlers_suite_as ?_;refine eK (base:=X.base) (l:=X.stack) I1.stack í λh3 T3 fl3 sh3 hT3=>?_
 have I3:=SQ I1 hx sh3 (two ae aT1) (two (Z:=λb=>H' b=Ae) he HT1)
 obtain⟨oe,oeg,oec⟩:=xad fl3;have I3':=dG (φ:=NM e C dx) I3 hx ae he ⟨oe,oeg⟩ ⟨oe,oeg,oec⟩ λh1 h2 ⟨o,q1,q2⟩ k=>⟨o,k o q1,q2⟩
 have xk:Aw H' (upd H' e (.ext (NM e C dx))):=λb o q=>by rw[AW λz=>by rw[z,he]at q;cases q];exact q
 refine Qe (X:=Cx.hot X e) (i:=i) (v:=.ref e) (Qx I3' e) hN hi (.inl hl) rfl (λs4 I4=>?_) (.inr hl)
 have x3:=gx.grow xk;have nA:¬ Bf B Y' U e:=λz=>by
  obtain⟨xs,q,w⟩:=x3.aok e z;rw[B1]at q;cases q;exact w
 have rp:Y6 X.K CL (upd H' e (.ext (NM e C dx))) (Bf B Y' U) (.ref e) (.exc y.c y.fs):=by
  refine⟨e,C,NM e C dx,rfl,nA,wt,B1,λh ⟨o,z1,z2,_⟩=>⟨o,z1,z2⟩,?_⟩
  rcases hfs with z|⟨d,vs,ed,nd,hd,rf⟩
  .exact .inl z
  .exact .inr ⟨d,vs,nd,xk _ _ hd,zq.kp (Kp.of xk) _ rf,λh ⟨o,z1,_,z3,z4⟩=>⟨o,z1,z3.trans ed,z4⟩⟩
 have x4:=x3.set i rp;have fin:∀{s5:An}{U5:L2.St}{H5:Hp}{Q:EB->An->Prop},Y8 (Cx.hot X e) pI U5 H5 s5->(∀ s6,Y8 X pI (U5.set i Ae) H5 s6->Q () s6)->Av (model X.prog X.w) X.A (do bindName X.env n .none;unbindBehindTheSuite X.env n hp) Q X.xe s5:=λ{s5 U5 H5 Q} I5 k=>by
  have Ú:=fY I1.ok I5;obtain⟨m,hn,_⟩:=id Ú.loc;refine wpAny_nameGoes_keeps hl hn (by rw[I1.ok.kind];rfl) λh6 v6 hn6 sb6=>?_
  exact k _ (dF Ú hN hi hn hn6 sb6)
 refine Bg (hh e Fz B pI s4 _ _ {nx:=λU5 H5=>D.nx (U5.set i Ae) H5,rt:=D.rt} I4 ⟨_,x4,?_⟩) (λf s5 hf=>?_) λ_ _ z=>A4 z
 .unfold ji at p2;cases ef:fh (Y'.set i (Aa (.exc y.c y.fs,Ad))) with
  |next uy=>rw[ef]at p2;exact λU5 H5 x5=>p2 _ _ (x5.unset i)
  |ret d b=>rw[ef]at p2;exact p2
  |brk _=>rw[ef]at p2;exact p2.elim
  |cont _=>rw[ef]at p2;exact p2.elim
  |exn _ _=>rw[ef]at p2;exact p2.elim
  |bad=>rw[ef]at p2;exact p2.elim
 .cases f with
  |next=>
   obtain⟨U5,H5,I5,q⟩:=hf;exact fin I5 λs6 I6=>⟨_,H5,I6,q⟩
  |ret u=>
   obtain⟨v,U5,H5,I5,r,q⟩:=hf;exact fin I5 λs6 I6=>⟨v,_,H5,I6,r,q⟩
  |brk=>obtain⟨_,_,_,q⟩:=hf;exact A4 q
  |cont=>obtain⟨_,_,_,q⟩:=hf;exact A4 q
def Wj(X:Cx)(CL:ClA)(up:Ag->Ac Ag)(g:Ah)(c:Ag):Prop:=∃ C',Gl X g/\X.mg g=Aa (.ref C')/\(g==("__debug__" : Ah))=Ad/\yc X.K C'/\∀ c' C,CL c'=Aa C->BV X.K (.ref C) (.ref C')=Aa ((up c').contains c)
theorem gF(hx:X.ex=[])(xm:X.stack=X.env::X.outer)(hfm:X.env.frame=Aa X.env.locals)(k:∀ e T1 cls dx H' s1,Y8 X pI U H' s1->Aw H H'->uw e T1 cls dx s1.heap->IJ X pI e->IJ X pI T1->H' e=Ae->H' T1=Ae->Db X.K CL H' cls dx y->Av (model X.prog X.w) X.A (Kc (.ref e) X.env hd) Q X.xe s1):Ro X CL pI U H y (λev s1=>Av (model X.prog X.w) X.A (Hd ev X.env) (λ_ s2=>Av (model X.prog X.w) X.A (Iu ev Ae) (λ_ s3=>Av (model X.prog X.w) X.A (Kc ev X.env hd) Q X.xe s3) X.xe s2) X.xe s1):=by
 intro s' H' e T cls dx I' sm fl he hT ae aT xr;have two:∀{T:Ak}{Z:Ak->Prop},Z e->Z T->∀ b∈[e,T],Z b:=λ{T Z} h1 h2 b hb=>by
  rcases AE.mp hb with rfl|hb
  .exact h1
  .rw[BH.mp hb];exact h2
 have wn:X.A.frames=Aa (X.env::X.outer):=by rw[<-xm];exact I'.ok.frames
 refine fB (base:=X.base) wn hfm (by rw[<-xm];exact I'.stack) fl λh1 T1 í sh1 hT1=>?_
 rw[<-xm]at sh1;exact k e T1 cls dx H' _ (SQ I' hx sh1 (two ae aT) (two (Z:=λb=>H' b=Ae) he hT)) sm í ae (hT1.elim (λz=>z ▸ aT) λz=>Nd I' hx z) he (hT1.elim (λz=>z ▸ hT) λz=>Mi I'.hok z) xr
def Cx.pw(X:Cx)(pI:Pn)(Xw:Vq):Cx:={X with pn:=X.pn++pI,xe:=Xw}
section
variable{U:L2.St}
theorem zL(ok:X.Ok):(Cx.pw X pI Xw).Ok:=⟨ok.mod,ok.kind,ok.glob,ok.blt,ok.above,ok.inj,ok.has,ok.cab,ok.hd,ok.frames,ok.stk,ok.exf,ok.bs,ok.bsz,ok.noex,ok.exfs,ok.funs,ok.frf⟩
theorem UF(I:Y8 X pI U H s)(Xw:Vq):Y8 (Cx.pw X pI Xw) [] U H s:=⟨zL I.ok,I.os,I.bare,I.base,I.loc,I.cell,I.free,I.freeC,λp hp=>I.pin p (by
 rcases Hg.mp hp with z|z
 .exact z
 .exact absurd z (by simp)),I.hok,I.len⟩
theorem Na(ok:X.Ok)(I:Y8 (Cx.pw X pI Xw) zo U H s):Y8 X pI U H s:=⟨ok,I.os,I.bare,I.base,I.loc,I.cell,I.free,I.freeC,λp hp=>I.pin p (Hh _ hp),I.hok,I.len⟩
theorem iN(ok:X.Ok){D:wf}{f:Flow}(h:SP (Cx.pw X pI Xw) zo D f s'):SP X pI D f s':=by
 cases f with
 |next=>obtain⟨U',H',I,q⟩:=h;exact⟨U',H',Na ok I,q⟩
 |brk=>obtain⟨U',H',I,q⟩:=h;exact⟨U',H',Na ok I,q⟩
 |cont=>obtain⟨U',H',I,q⟩:=h;exact⟨U',H',Na ok I,q⟩
 |ret u=>obtain⟨v,U',H',I,r,q⟩:=h;exact⟨v,U',H',Na ok I,r,q⟩
end
section
variable{X:Cx}{CL:ClA}{k n:Ag}{fr:Ao}{f:Ak}{fd:A7}{ps:Ac Ah}{F:Ac D->R D}{x:Ah}{pos:AH}{e:Aq}{es:Ac Aq}{fs ft:Rho->R (Ac D)}{sh:Rho->Ao}
theorem iZ(hx:X.ex=[])(ok:X.Ok)(q:Ro X CL pI U H y Xw):∀ zo H1 s1 e s',Y8 (Cx.pw X pI Xw) zo U H1 s1->CXR X.prog X.w (Cx.pw X pI Xw).stack H1 s1 (λcls dx H'=>Db X.K CL H' cls dx y/\Aw H H') e s'->(Cx.pw X pI Xw).xe e s':=by
 intro zo H1 s1 ev s' J_ h;obtain⟨e,T,cls,dx,H',rfl,os,bare,un,hok,fl,he,hT,ne,nT,xr,sm⟩:=h;have J_':=Na ok J_;have J_2:=J_'.call' (s':=s') (ch:=[]) os un hok bare (λb z=>absurd z (by simp))
 exact q s' H' e T cls dx J_2 sm fl he hT (Nd J_' hx ne) (Nd J_' hx nT) xr
theorem jA:∀ zo H1 s1 e s',Y8 (Cx.pw X pI Xw) zo U H1 s1->CXR X.prog X.w (Cx.pw X pI Xw).stack H1 s1 (λ_ _ _=>AN) e s'->(Cx.pw X pI Xw).xe e s':=by
 intro zo H1 s1 ev s' J_ h;obtain⟨e,T,cls,dx,H',rfl,os,bare,un,hok,fl,he,hT,ne,nT,w⟩:=h;exact w.elim
variable(hx0:X.ex=[])(G:Y0 X.prog X.w X.K X.mg X.base (CXR X.prog X.w) k f fd ps (spD X.K CL n fr F))(hr:PP k X.A)(hg:Gl X x)(hm:X.mg x=Aa (.ref f))(hk:AM X.K (.ref f)=Ab)(hb:Cv X.K fd ps [])(xm:∀ Y,sh Y=Ab->ft Y=fs Y)(hn:∀ Y ds,ft Y=.ok ds->ds.length=n)(hnx:∀ Y y,ft Y≠.exn y)(zh:(x==("__debug__" : Ah))=Ad)(he:At (e::es) X.env=(Ad,eval e X.env)::At es X.env)(zj:∀ pos,(Br pos (At es X.env)).any (·.1)=Ad)(ha:∀ pI Xw,Gd (model X.prog X.w) X.A X.env Xw->SA (Cx.pw X pI Xw) CL (λ_ _=>AN) (e::es) fs/\oq (Cx.pw X pI Xw) CL (λ_ _=>AN) (e::es) ft)
include hx0 G hr hg hm hk hb xm hn hnx zh he zj ha
end
section
theorem gK{xn:Ag->Ac D->R Ex}{cpos pos:AH}(uk:X.calm=Ab)(rz:NN X CL W)(hg:Gl X g)(hm:X.mg g=Aa (.ref C))(zh:(g==("__debug__" : Ah))=Ad)(xc:D0 X.K C Ae=Ab)(wt:CL c=Aa C)(ha:SA X CL W (e::es) fs)(tf:∀ ds,xn c ds=.bad\/xn c ds=.ok ⟨c,[]⟩)(he:At (e::es) X.env=(Ad,eval e X.env)::At es X.env)(zj:∀ pos,(Br pos (At es X.env)).any (·.1)=Ad)(hz:∀ Y ds,fs Y=.ok ds->ds.length<=100000):SS X CL W (.Raise (Aa (.Call (.Name g np) (e::es) [] cpos)) Ae pos) (λY=>O.of Y (yu (fs Y)) λxs=>O.of Y (xn c xs) λx=>.exn x Y):=λFz B pI s U H D I ⟨Y,x,p⟩=>by
 dsimp only at p;cases e1:fs Y with
 |bad=>rw[e1]at p;exact p.elim
 |exn y=>rw[e1]at p;exact p.elim
 |ok ds=>
  rw[e1]at p;have p2:B6 X.K CL Fz B W (O.of Y (xn c ds) λx=>.exn x Y) D:=p
  rcases tf ds with e2|e2
  .rw[e2]at p2;exact p2.elim
  .rw[e2]at p2;have p3:∀ H,(∀ b o,Fz b o->H b=Aa o)->W ⟨c,[]⟩ H:=p2;obtain⟨bm,N,nm,qn,bs,hd,sn,sub,ab,col,dd,k0,k1,k2,k3,k5,mN,ud,qo,My⟩:=P8 I.kIn xc;refine wpAny_Raise_call_subT (bmB:=rm) (nm:=nm) (q:=qn) (C:=C) (N:=N) (bs:=bs) (bm:=bm) (hdct:=hd) (sn:=sn) (sub:=sub) (ab:=ab) (col:=col) (dd:=dd) (k0:=k0) (k1:=k1) (k2:=k2) (k3:=k3) (k5:=k5) (mN:=mN) FF My (I.ok.hd uk) (by rw[he];show (Ad||(Br cpos (At es X.env)).any (·.1))=Ad;rw[zj];rfl) qo ?_
   refine JG I hg hm ⟨rfl,?_⟩ zh;have q1:=ha (Bf B Y U) cpos pI s U H (λvs H1=>Aw H H1/\vs.length=ds.length) I ⟨x.aok,Y,x.good,by rw[e1];exact λvs H1 s1 r1=>⟨s1,r1.length⟩⟩
   rw[he]at q1 ⊢;refine Fn (Bg q1 (λus s2 ⟨vs,H2,I2,r2,s2',hl⟩=>⟨rfl,?_⟩) λ_ _ z=>z)
   obtain⟨o1,o2,o3⟩:=ud _ I2.kIn;refine⟨?_,o1,o2,o3,λh' ev um=>?_⟩
   .rw[<-r2.length,hl,BE];have:=hz Y ds e1;omega
   .obtain⟨t,ge,_⟩:=um.there;have I3:Y8 X pI U H2 {s2 with heap:=h'}:=I2.kept (t':=s2.toks) um.keeps
    exact rz pI U H2 _ ev C Ae t ⟨c,[]⟩ I3 (λhx=>LH I2 hx um.new) (Mi I2.hok um.new) ge (λA _=>⟨C,wt,rfl,.inl rfl⟩) (p3 H2 λb o z=>s2' _ _ (x.same b o z))
def Vu(K:Fg)(CL:ClA)(up:Ag->Ac Ag)(c':Ag)(C':Ak):Prop:=∀ c C,CL c=Aa C->CN K (.ref C) (.ref C')=Aa ((up c).contains c')
theorem Tq(I:Y8 X pI U H s)(ha:H a=Aa (.ext φ))(hφ:∀ h,φ h->∃ o,h.get? a=Aa o/\o.cls=.ref C)(xc:yc X.K C)(e:CN X.K (.ref C) cv=Aa b)(q:Q (.bl b) H):
  Av (model X.prog X.w) X.A (call (.builtin "isinstance") [.ref a,cv]) (EP X pI U Q) X.xe s:=by
 have p:oy a C s.heap:=hφ _ (I.hok a _ ha).1;exact PySem.W.kia_one (fS xc) I.kIn p e (by intro z;cases z) λtk=>⟨.bl b,H,I.tok tk,rfl,q⟩
theorem Tr(hk:ks.all Go=Ab)(td:ks≠[])(p:AX Rp W H (EV up ks d) Q):∃ c fs,d=.exc c fs/\AX Rp W H (.ok (.bl (ks.any λk=>w9 up k d))) Q:=by
 have ha:ks.any Go=Ab:=by
  cases ks with
  |nil=>exact absurd rfl td
  |cons k ks=>simp only[DO,As]at hk;simp[Iz,hk.1]
 cases d with
 | exc c fs=>exact⟨c,fs,rfl,by
   have p':AX Rp W H (if ks.all Go=Ab then .ok (.bl (ks.any λk=>w9 up k (.exc c fs))) else .bad) Q:=p
   rw[Au hk]at p';exact p'⟩
 |obj c fs=>exact A4 p
 |dic _=>exact A4 p
 |O=>simp only[EV,ha,Fj]at p;exact A4 p
 |bl _=>simp only[EV,ha,Fj]at p;exact A4 p
 |int _=>simp only[EV,ha,Fj]at p;exact A4 p
 |str _=>simp only[EV,ha,Fj]at p;exact A4 p
 |H _=>simp only[EV,ha,Fj]at p;exact A4 p
 |L _=>simp only[EV,ha,Fj]at p;exact A4 p
theorem Um{v:V}{fs:Ac (Ah×D)}(r:CG K CL H A v (.exc c fs)):∃ a C φ,v=.ref a/\CL c=Aa C/\H a=Aa (.ext φ)/\∀ h,φ h->∃ o,h.get? a=Aa o/\o.cls=.ref C:=by
 rcases r with ⟨a,C,φ,e,_,hc,hH,hφ,_⟩|⟨a,xs,ds,_,z,_⟩
 .exact⟨a,C,φ,e,hc,hH,hφ⟩
 .cases z
variable{a:Aq}
theorem qG(ų:∀ c C,CL c=Aa C->yc X.K C)(hg:Gl X "isinstance")(hm:X.mg "isinstance" = Ae)(va:Gl X x)(jv:X.mg x=Aa (.ref C'))(hkit:Vu X.K CL up c' C')(zh:(x==("__debug__" : Ah))=Ad)(ha:ST X CL W a fa)(he:At [a,.Name x p2] X.env=(Ad,eval a X.env)::At [.Name x p2] X.env):SE X CL W (.Call (.Name "isinstance" p) [a,.Name x p2] [] pos) (λY=>(fa Y).bind λx=>EV up [.cls c'] x):=λA=>
 PE.weak (Mj (r:=λxs H Q=>∃ a C φ c,xs=[.ref a,.ref C']/\CL c=Aa C/\H a=Aa (.ext φ)/\(∀ h,φ h->∃ o,h.get? a=Aa o/\o.cls=.ref C)/\Q (.bl ((up c).contains c')) H) (λpI s U H xs us Q I r ⟨b,C,φ,c,e,hc,hH,hφ,q⟩=>by
   subst e;obtain⟨u,w',rfl,r1,r2⟩:=Nt r;cases r1;cases r2;exact Tq I hH hφ (ų c C hc) (hkit c C hc) q)
  hg hm Jq (Bm (ha A) (Bm (Qn (v:=.ref C') va jv rfl zh) B9 rfl) he) (by decide) (by decide) he rfl) λU H Q ⟨hA,Y,g,q⟩=>⟨hA,Y,g,AX.bind q λd v H1 _ s1 r1 p1=>by
   obtain⟨c,fs,rfl,p2⟩:=Tr (by rfl) (by simp) p1
   obtain⟨b,C,φ,rfl,hc,hH,hφ⟩:=Um r1;refine⟨b,C,φ,c,rfl,hc,hH,hφ,p2 _ H1 (Aw.refl H1) ?_⟩;exact congrArg V.bl (GX _).symm⟩
theorem qE(ų:∀ c C,CL c=Aa C->yc X.K C)(hg:Gl X "isinstance")(hm:X.mg "isinstance" = Ae)(va:Gl X "ValueError")(jv:X.mg "ValueError" = Ae)(ha:ST X CL W a fa)(he:At [a,.Name "ValueError" p2] X.env=(Ad,eval a X.env)::At [.Name "ValueError" p2] X.env):SE X CL W (.Call (.Name "isinstance" p) [a,.Name "ValueError" p2] [] pos) (λY=>(fa Y).bind λx=>EV up [.verr] x):=λA=>
 PE.weak (Mj (r:=λxs H Q=>∃ a C φ c,xs=[.ref a,.ty "ValueError"]/\CL c=Aa C/\H a=Aa (.ext φ)/\(∀ h,φ h->∃ o,h.get? a=Aa o/\o.cls=.ref C)/\Q (.bl Ab) H) (λpI s U H xs us Q I r ⟨b,C,φ,c,e,hc,hH,hφ,q⟩=>by
   subst e;obtain⟨u,w',rfl,r1,r2⟩:=Nt r;cases r1;cases r2;exact Tq I hH hφ (ų c C hc) (ų c C hc).ve q)
  hg hm Jq (Bm (ha A) (Bm (T4 (v:=.ty "ValueError") va jv PyProof.Rows.Boot.«ValueError» rfl (by decide) (by decide)) B9 rfl) he) (by decide) (by decide) he rfl) λU H Q ⟨hA,Y,g,q⟩=>⟨hA,Y,g,AX.bind q λd v H1 _ s1 r1 p1=>by
   obtain⟨c,fs,rfl,p2⟩:=Tr (by rfl) (by simp) p1
   obtain⟨b,C,φ,rfl,hc,hH,hφ⟩:=Um r1;refine⟨b,C,φ,c,rfl,hc,hH,hφ,p2 _ H1 (Aw.refl H1) ?_⟩;exact congrArg V.bl (GX _).symm⟩
end
theorem UJ(q:D0 K C v=Ab):∃ dd cd sl bm,K.lookup C=Aa ⟨.type "type",dd,.cls cd,sl⟩/\cd.mro=.ref C::bm:=by
 unfold D0 at q;split at q
 .rename_i dd cd sl ho;split at q
  .rename_i C' bm k0 k1 k2 k3 n k5 hm hs;simp only[As,A2,Cn]at q;obtain⟨rfl,_⟩:=q;exact⟨dd,cd,sl,bm,ho,hm⟩
  .cases q
 .cases q
theorem Oa(q:D0 K C v=Ab):∃ cd bm,DP K C=Aa cd/\cd.mro=.ref C::bm:=by
 obtain⟨dd,cd,sl,bm,h1,h2⟩:=UJ q;exact⟨cd,bm,by unfold DP;rw[h1],h2⟩
theorem tT(q:D0 K C v=Ab):Dz K (.ref C)=Aa (.type "type"):=by
 obtain⟨dd,cd,sl,bm,h1,h2⟩:=UJ q;show (K.lookup C).map _=_;rw[h1];rfl
theorem nP{v:Ao}(q:D0 K C i=Ab)(q':D0 K C' i'=Ab)(su:BV K (.ref C) (.ref C')=Aa v):CN K (.ref C) (.ref C')=Aa v:=by
 unfold CN;by_cases e:C=C'
 .subst e;obtain⟨cd,bm,h1,h2⟩:=Oa q;have kj:Cq K C (.ref C)=Aa v:=su;have:v=Ab:=by
   unfold Cq at kj;rw[h1,Jc,h2,AA (by simp)]at kj
   rw[<-Bj kj];simp
  rw[Au (by simp),this]
 .rw[AA (λz=>e (KH (A2.mp z)))]
  obtain⟨cd,bm,h1,h2⟩:=Oa q';show (if ((DP K C').isSome&&Dz K (.ref C')==Aa (.type "type"))=Ab then BV K (.ref C) (.ref C') else Ae)=_
  rw[h1,tT q',Au (by simp),su]
theorem wT(exc:D0 K C v=Ab)(ga:Ap K (.ref C) "__getattribute__" = Aa (Aa (.builtin "BaseException.__getattribute__")))(gt:Ap K (.ref C) "__getattr__" = Aa Ae)(cl:Ap K (.ref C) "__class__" = Aa (Aa (.builtin "object.__class__")))(ob:Cq K C (.type "object")=Aa Ab)(be:BV K (.ref C) (.type "BaseException")=Aa Ab)(sv:BV K (.ref C) (.type "ValueError")=Aa Ab):yc K C:=by
 obtain⟨cd,bm,h1,h2⟩:=Oa exc;refine⟨⟨v,exc⟩,ga,gt,cl,ob,be,by rw[h1];rfl,?_⟩
 unfold CN;rw[AA (λz=>by cases A2.mp z)]
 have hm:YD "ValueError" = Ab:=by decide+kernel
 show (if YD "ValueError" = Ab then BV K (.ref C) (.type "ValueError") else Ae)=_
 rw[Au hm,sv]
noncomputable abbrev Kz:CXT:=λ_ _ _ _ _ _=>AN
structure wz (P:AG) (w:AD) (K:Fg) (mg:Ah->Am Aj) (base:AC) (k:Ag) (f:Ak) (fd:A7) (ps:Ac Ah) (sp:Sp):Prop where
 len:∀ vs H Q E,sp vs H Q E->vs.length=ps.length
 run:∀(A:AY)(ev:Ak)(outer:Ac B8)(s:An)(H:Hp)(args:Args)(us:Ac Aj)(vs:Ac V)(Q:VK)(E:XK),PP k A->xp P w K mg base (A.mark (Aa (.ref ev))) outer s H->Hb s fd args (ps.zip us)->AZ vs us->sp vs H Q E ->
  Er (model P w) (A.mark (Aa (.ref ev))) (.call (.ref f) args) (CR Kz outer P w H s Q E) s
theorem uJ{kV:Aj}(lk:K.lookup f=Aa ⟨oc,od,.func (B5 name qual params body scope dV kV doc pm an cdv ct),osl⟩)(ze:DW K cdv qual=Ab)(S:zi N ps scope)(len:∀ vs H Q E,sp vs H Q E->vs.length=ps.length)(vv:∀(A:AY)(ev:Ak)(outer:Ac B8)(s:An)(H:Hp)(vs:Ac V)(Q:VK)(E:XK),PP k (A.deeper (Eu qual scope s.heap.objs.size f cdv))->sp vs H Q E ->
   ∃ t,zc (Cx.hot (Bu Kz P w K mg base N qual scope f cdv A outer s H E) ev) body t/\t {nx:=λ_ H'=>Q .O H',rt:=Q} (start N vs) H):wz P w K mg base (k+1) f (B5 name qual params body scope dV kV doc pm an cdv ct) ps sp:=by
 refine⟨len,λA ev outer s H args us vs Q E hr e0 hb r qr=>?_⟩
 have hl:=len _ _ _ _ qr;have e1:xp P w K mg base A outer s H:=⟨e0.frames,e0.mod,e0.bs,e0.bsz,e0.funs,e0.frf,e0.hok,e0.bare⟩;have KX:K.In s.heap:=e0.mod.kin.keeps λb o e=>(e0.bs b o e).1
 have lim:s.heap.NoLimit:=e0.mod.nolimit.keeps λb o e=>(e0.bs b o e).1
 have vx:∀ y∈ps.zip us,scope.names.lookup y.1=Aa .local\/(scope.names.lookup y.1=Aa .cell/\((C9 (s.heap.objs.size+1) scope.names []).lookup y.1).isSome=Ab):=λ⟨n,v⟩ hy=>by
  rcases S.par n (Hi hy).1 with q|q
  .exact .inl q
  .exact .inr ⟨q,GW _ _ _ (.inl q)⟩
 have hdp:(A.mark (Aa (.ref ev))).depth<HU:=hr.depth;refine Hc hdp (KX _ _ lk) rfl S.co S.gen rfl (Iq KX ze) (hb _ _ _ _ ?_);refine FK S.kind vx λenv he s1 x=>?_
 subst he;refine⟨lim.keeps x.toInCall.keep,K4 ?_⟩;obtain⟨t,ht,hq⟩:=vv A ev outer s H vs Q E (hr.deeper _) qr;have I:Y8 (Bu Kz P w K mg base N qual scope f cdv A outer s H E) [] (start N vs) H s1:=PQ S hr.hd e1 hl r x;refine Bg (ht [] s1 (start N vs) H _ (Qx I ev) hq) (λfl s' hs=>?_) λe s' hs=>hs.elim
 have fin:∀{U':L2.St}{H':Hp}{v:V}{u:Aj},Y8 (Cx.hot (Bu Kz P w K mg base N qual scope f cdv A outer s H E) ev) [] U' H' s'->BB v u->Q v H'->CE outer P w H s Q u s':=
  λ{U' H' v u} J_ rv q=>⟨v,H',J_.os,J_.bare,J_.base,J_.hok,rv,q⟩
 cases fl with
 |ret u=>
  obtain⟨v,U',H',J_,rv,q⟩:=hs;exact fin J_ rv q
 |next=>
  obtain⟨U',H',J_,q⟩:=hs;exact fin (v:=V.O) (u:=Dg) J_ rfl q
 |brk=>
  obtain⟨_,_,_,q⟩:=hs;exact A4 q
 |cont=>
  obtain⟨_,_,_,q⟩:=hs;exact A4 q
theorem fU{v:Ao}(q:D0 K C i=Ab)(mr:Cq K C' (.type "object")=Aa Ab)(ty:Dz K (.ref C')=Aa (.type "type"))(su:BV K (.ref C) (.ref C')=Aa v):CN K (.ref C) (.ref C')=Aa v:=by
 unfold CN;by_cases e:C=C'
 .subst e;obtain⟨cd,bm,h1,h2⟩:=Oa q;have kj:Cq K C (.ref C)=Aa v:=su;have:v=Ab:=by
   unfold Cq at kj;rw[h1,Jc,h2,AA (by simp)]at kj
   rw[<-Bj kj];simp
  rw[Au (by simp),this]
 .rw[AA (λz=>e (KH (A2.mp z)))]
  show (if ((DP K C').isSome&&Dz K (.ref C')==Aa (.type "type"))=Ab then BV K (.ref C) (.ref C') else Ae)=_
  have cs:(DP K C').isSome=Ab:=by
   unfold Cq at mr;cases e1:DP K C' with
   |none=>rw[e1]at mr;cases mr
   |some cd=>rfl
  rw[cs,ty,Au (by simp),su]
def spH(K:Fg)(CL:ClA)(n:Ag)(fr:Ao)(F:Ac D->R D):Sp:=λvs H Q _=>∃(ds:Ac D)(A:Ak->Prop),vs.length=n/\J4 H A/\Y9 K CL H A vs ds/\(match F ds with
  |.ok d=>∀ v H',Aw H H'->B0 K CL fr H A H' v d->Q v H'
  |.exn _=>AN
  | .bad=>AN)
theorem Tf{E:XK}(F:wz X.prog X.w X.K X.mg X.base k f fd ps sp)(hr:PP k X.A)(hg:Gl X x)(hm:X.mg x=Aa (.ref f))(hk:AM X.K (.ref f)=Ab)(hb:Cv X.K fd ps [])(ha:PA (Cx.hot X ev) (e::es) t)(zh:(x==("__debug__" : Ah))=Ad)(he:At (e::es) X.env=(Ad,eval e X.env)::At es X.env)(zj:(Br pos (At es X.env)).any (·.1)=Ad):PE (Cx.hot X ev) (.Call (.Name x p) (e::es) [] pos) (λU H Q=>t U H λvs H1=>sp vs H1 Q E):=by
 intro pI s U H Q I h;refine DC (JG (X:=Cx.hot X ev) I hg hm ?_ zh);refine CZ (h₀:=X.base) I.ok.mod.kin hk (J5 (ha pos pI s U H _ I h) λus s1 ⟨vs,H1,I1,r,q⟩=>⟨I1.kIn,?_⟩) he zj
 have hl:us.length=ps.length:=by rw[<-r.length];exact F.len _ _ _ _ q
 have lg:Hb s1 fd ⟨us,[]⟩ (ps.zip us):=by
  have:=hb s1 us I1.kIn (by rw[Bp];exact hl)
  rwa [Bp]at this
 refine Gx (E9 (F.run X.A ev X.stack s1 H1 ⟨us,[]⟩ us vs Q E hr I1.env0 lg r q) λr s' hq=>?_)
 cases r with
 |error e=>exact A4 hq
 |ok fl=>
  cases fl with
  |ret u=>exact I1.after hq
  |next=>exact A4 hq
  |brk=>exact A4 hq
  |cont=>exact A4 hq
theorem gO{n:Ag}{sh:Rho->Ao}(G:wz X.prog X.w X.K X.mg X.base k f fd ps (spH X.K CL n fr F))(hr:PP k X.A)(hg:Gl X x)(hm:X.mg x=Aa (.ref f))(hk:AM X.K (.ref f)=Ab)(hb:Cv X.K fd ps [])(ha:SA (Cx.hot X ev) CL (λ_ _=>AN) (e::es) fs)(hat:oq (Cx.hot X ev) CL (λ_ _=>AN) (e::es) ft)(xm:∀ Y,sh Y=Ab->ft Y=fs Y)(hn:∀ Y ds,ft Y=.ok ds->ds.length=n)(zh:(x==("__debug__" : Ah))=Ad)(he:At (e::es) X.env=(Ad,eval e X.env)::At es X.env)(zj:∀ pos,(Br pos (At es X.env)).any (·.1)=Ad):SC (Cx.hot X ev) CL (λ_ _=>AN) fr (.Call (.Name x p) (e::es) [] pos) (λY=>(ft Y).bind λds=>(F ds).bind λd=>if sh Y=Ab then .ok d else if Ky fr d=Ab then .ok d else .bad):=λA pI s U H Q I ⟨hA,Y,gd,q⟩=>by
 dsimp only at q;by_cases hs:sh Y=Ab
 .rw[xm Y hs]at q;refine Tf (E:=λ_ _ _=>AN) G hr hg hm hk hb (ha A) zh he (zj _) pI s U H Q I ⟨hA,Y,gd,?_⟩
  cases e1:fs Y with
  |bad=>rw[e1]at q;exact q
  |exn y=>rw[e1]at q;exact q
  |ok ds=>
   rw[e1]at q;intro vs H1 s1 r1;refine⟨ds,A,by rw[r1.length];exact hn Y ds (by rw[xm Y hs];exact e1),hA.same s1,r1,?_⟩
   have q':AX (B0 X.K CL fr H A) (λ_ _=>AN) H ((F ds).bind λd=>if sh Y=Ab then .ok d else if Ky fr d=Ab then .ok d else .bad) Q:=q
   cases e2:F ds with
   |ok d=>
    rw[e2,R.bind_ok,Au hs]at q';exact λv H2 s2 r2=>q' v H2 (s1.trans s2) ⟨r2.1,λz vg e'=>let ⟨a,xs,z1,z2,z3⟩:=r2.2 z vg e';⟨a,xs,z1,s1.free z2,z3⟩⟩
   |exn y=>rw[e2]at q';exact(q' H (Aw.refl H)).elim
   |bad=>rw[e2]at q';exact q'.elim
 .refine Tf (E:=λ_ _ _=>AN) G hr hg hm hk hb (hat A) zh he (zj _) pI s U H Q I ⟨hA,Y,gd,?_⟩
  cases e1:ft Y with
  |bad=>rw[e1]at q;exact q
  |exn y=>rw[e1]at q;exact q
  |ok ds=>
   rw[e1]at q;intro vs H1 s1 r1;refine⟨ds,A0,by rw[r1.plain.length];exact hn Y ds e1,λ_ z=>z.elim,r1.plain,?_⟩
   have q':AX (B0 X.K CL fr H A) (λ_ _=>AN) H ((F ds).bind λd=>if sh Y=Ab then .ok d else if Ky fr d=Ab then .ok d else .bad) Q:=q
   cases e2:F ds with
   |ok d=>
    rw[e2,R.bind_ok,AA hs]at q';split at q'
    .rename_i hc;exact λv H2 s2 r2=>q' v H2 (s1.trans s2) (Vl hA (s1.trans s2) hc ⟨r2.1,λz vg e'=>let ⟨a,xs,z1,z2,z3⟩:=r2.2 z vg e';⟨a,xs,z1,s1.free z2,z3⟩⟩)
    .exact q'.elim
   |exn y=>rw[e2]at q';exact(q' H (Aw.refl H)).elim
   |bad=>rw[e2]at q';exact q'.elim
theorem jX{A:AY}{E:Vq}{x:FQ Aj}(hb:bm.contains (.type "BaseException")=Ab)(hh:A.handled=Ae)(h:Av M A x (λv s'=>∃ e t dx,v=.ref e/\s'.heap.get? C=Aa (Cj nm q C N bs bm hdct sn sub ab col dd k0 k1 k2 k3 k5 newId)/\s'.heap.get? e=Aa (G8 C dx t)/\E (.ref e) s') E s):Av M A (raiseStmt env (Aa x) Ae) Q E s:=by
 have hB:(Bv C::bm).contains (.type "BaseException")=Ab:=by rw[Ik,hb,KN]
 unfold raiseStmt;refine Al (Bg h (λv s' z=>?_) λ_ _ z=>z)
 obtain⟨e,t,dx,rfl,gC,ge,hE⟩:=z;obtain⟨hp,g,d,tk,os⟩:=s';unfold G8 at ge
 repeat (first|(with_reducible refine CS ge ?_)|(with_reducible refine CS gC ?_)|(with_reducible refine FU gC ?_;rw[hB])|wp_step)
 exact wpAny_raiseNew_none hh hE
section
variable{A:AY}{E:Vq}{d:Jr}{os:BY}
variable{rest:Ac Aj}
theorem iO(F:Jd B newId initId bmB)(T:Ep h bmB bm)(gC:h.get? C=Aa (Cj nm q C N bs bm hdct sn sub ab col dd k0 k1 k2 k3 k5 newId))(hn:h.Ns N mN)(hi:mN "__init__" = Aa (.ref fI))(gI:h.get? fI=Aa oI)(cI:oI.cls=.type "function")(hl:rest.length<=sizeLine)(hq:∀ h' e,J_3 h h' e (.ref C) rest->Av (model prog w) A (call (.ref fI) (.ref e::rest)) (λr s'=>r=.none/\Q (.done (.ret (.ref e))) s') E ⟨h',g,d,t,os⟩):Av (model prog w) A (Builtin.«type.__call__» ⟨.ref C::rest,[]⟩) Q E ⟨h,g,d,t,os⟩:=by
 repeat (first|(with_reducible refine CS gC ?_)|(with_reducible refine wpAny_madeBy_exc gC ?_)|wp_step)
 refine codeAny_call_builtin_code (Im _ F.quiet) (wpAny_check_new_subT F T gC (codeAny_exc_new_subT F T gC ?_ hl));show Av _ _ _ _ _ _;have kp:∀ b o,h.get? b=Aa o->((h.push { cls:=.type "tuple",data:=.seq rest.toArray }).push {cls:=.ref C,data:=.fields #[.ref h.objs.size,.none,.none,.none,.bool Ad,.none]}).get? b=Aa o:=λb o z=>Ar _ (Ar _ z)
 have ge:((h.push { cls:=.type "tuple",data:=.seq rest.toArray }).push {cls:=.ref C,data:=.fields #[.ref h.objs.size,.none,.none,.none,.bool Ad,.none]}).get? (h.objs.size+1)=Aa {cls:=.ref C,data:=.fields #[.ref h.objs.size,.none,.none,.none,.bool Ad,.none]}:=by heap_get
 have gt:((h.push { cls:=.type "tuple",data:=.seq rest.toArray }).push {cls:=.ref C,data:=.fields #[.ref h.objs.size,.none,.none,.none,.bool Ad,.none]}).get? h.objs.size=Aa { cls:=.type "tuple",data:=.seq rest.toArray }:=Ar _ (Yh rfl rfl);generalize (h.push { cls:=.type "tuple",data:=.seq rest.toArray }).push {cls:=.ref C,data:=.fields #[.ref h.objs.size,.none,.none,.none,.bool Ad,.none]}=h2 at *;have gC2:=kp _ _ gC;have gI2:=kp _ _ gI;have ñ:h2.Ns N mN:=let ⟨o,es,ep,z,r⟩:=hn;⟨o,es,ep,kp _ _ z,r⟩
 have T2:=T.keeps (h':=h2) kp;have cC:(Bv C::bm).contains (.ref C)=Ab:=by simp
 unfold IS
 repeat (first|(with_reducible refine CS ge ?_)|(with_reducible refine FU gC2 ?_;rw[cC])|wp_step)
 show Av _ _ (Ke (.ref C) _) _ _ _;refine wpAny_typeLookup_tail gC2 ñ T2 F.mroIs F.init.lookup ?_;rw[hi];refine BA (Al ?_);unfold bindSpecial;refine Al (wpAny_typeOf (T := "function") ⟨_,gI2,cI⟩ ?_);rw[Au (by decide)]
 refine Ax (Al (Bg (hq h2 (h.objs.size+1) ⟨kp,DH (Jx _),h.objs.size,ge,DH (AQ _),gt⟩) (λr s' z=>?_) λ_ _ z=>z))
 obtain⟨rfl,z⟩:=z
 wp_walk
 exact z
theorem iP{Q:Vq}(F:Jd B newId initId bmB)(T:Ep h bmB bm)(gC:h.get? C=Aa (Cj nm q C N bs bm hdct sn sub ab col dd k0 k1 k2 k3 k5 newId))(hn:h.Ns N mN)(hi:mN "__init__" = Aa (.ref fI))(gI:h.get? fI=Aa oI)(cI:oI.cls=.type "function")(hl:rest.length<=sizeLine)(hq:∀ h' e,J_3 h h' e (.ref C) rest->Av (model prog w) (A.under (.builtin "type.__call__" ⟨.ref C::rest,[]⟩)) (call (.ref fI) (.ref e::rest)) (λr s'=>r=.none/\Q (.ref e) s') E ⟨h',g,d,t,os⟩):Av (model prog w) A (call (.ref C) rest) Q E ⟨h,g,d,t,os⟩:=by
 have l1:=tc_lookup;have l2:=tc_bind (.ref C);have ty:(⟨h,g,d,t,os⟩:An).TypeIs (.ref C) "type" := ⟨_,gC,rfl⟩;refine Gx (YK ?_);show Av _ _ (callAny (.ref C) _) _ _ _
 repeat (any_goals (first|assumption|(with_reducible refine CS gC ?_)|wp_step))
 refine⟨rfl,codeAny_call_builtin_at (Im _ (by decide+kernel)) entry_typeCall (wpAny_check_type_call_sub gC (iO F T gC hn hi gI cI hl λh' e m=>?_))⟩
 exact hq h' e m
end
theorem dX{A:AY}{E:Vq}{cpos pos:AH}(F:Jd B newId initId bmB)(hb:bm.contains (.type "BaseException")=Ab)(hh:A.handled=Ae)(hp:(Br cpos (At args env)).any (·.1)=Ad)(hi:mN "__init__" = Aa (.ref fI))(h:Av (model prog w) A (eval (.Name x np) env) (λf s1=>f=.ref C/\Av (model prog w) A (evalArgs (.ref C) Ab (Br cpos (At args env)) [])
   (λa s2=>a.kw=[]/\a.pos.length<=sizeLine/\s2.heap.get? C=Aa (Cj nm q C N bs bm hdct sn sub ab col dd k0 k1 k2 k3 k5 newId)/\s2.heap.Ns N mN/\Ep s2.heap bmB bm/\(∃ oI,s2.heap.get? fI=Aa oI/\oI.cls=.type "function") /\
    ∀ h' e,J_3 s2.heap h' e (.ref C) a.pos->Av (model prog w) (A.under (.builtin "type.__call__" ⟨.ref C::a.pos,[]⟩)) (call (.ref fI) (.ref e::a.pos)) (λr s'=>r=.none/\∃ t dx,s'.heap.get? C=Aa (Cj nm q C N bs bm hdct sn sub ab col dd k0 k1 k2 k3 k5 newId)/\s'.heap.get? e=Aa (G8 C dx t)/\E (.ref e) s') E {s2 with heap:=h'}) E s1) E s):Av (model prog w) A (exec (.Raise (Aa (.Call (.Name x np) args [] cpos)) Ae pos) env) Q E s:=by
 rw[arm_exec_Raise];refine Al (CJ (jX (nm:=nm) (q:=q) (C:=C) (N:=N) (bs:=bs) (bm:=bm) (hdct:=hdct) (sn:=sn) (sub:=sub) (ab:=ab) (col:=col) (dd:=dd) (k0:=k0) (k1:=k1) (k2:=k2) (k3:=k3) (k5:=k5) (newId:=newId) hb hh ?_));refine Al (Bg (wpAny_Call_ofName (Bg h (λf s1 z=>?_) λ_ _ z=>z)) (λv s3 z=>Al (CJ (Ax z))) λ_ _ z=>z)
 obtain⟨rfl,z⟩:=z;unfold callWith;refine Al (BA (Bg z (λa s2 y=>Al (CJ ?_)) λ_ _ y=>y))
 obtain⟨us,kw⟩:=a;obtain⟨hk,hl,gC,hn,T,⟨oI,gI,cI⟩,k⟩:=y;obtain rfl:kw=[]:=hk;obtain⟨zp,g,d,tk,os⟩:=s2;simp only[hp];refine Al (wpAny_keeperOf_exc gC (Al (iP F T gC hn hi gI cI hl λh' e m=>Bg (k h' e m) (λr s' y=>?_) λ_ _ y=>y)))
 obtain⟨rfl,t,dx,c1,c2,c3⟩:=y;exact⟨rfl,Al (BA (wpAny_point (Ax ⟨e,t,dx,rfl,c1,c2,c3⟩)))⟩
section
variable{e:Ak}
theorem rD{A:AY}{E:Vq}{d:Jr}{os:BY}{Q:Vq}(F:Jd B newId initId bmB)(T:Ep h bmB bm)(gC:h.get? C=Aa (Cj nm q C N bs bm hdct sn sub ab col dd k0 k1 k2 k3 k5 newId))(ge:h.get? e=Aa (G8 C dx t))(hq:∀ h' t',(∀ b o,b≠e->h.get? b=Aa o->h'.get? b=Aa o)->h'.get? e=Aa (G8 C dx t')->Q .none ⟨h',g,d,tk0,os⟩):Av (model prog w) A (call (.builtin initId) [.ref e,.str z tk]) Q E ⟨h,g,d,tk0,os⟩:=by
 refine Gx (Fo F.init.plain F.initEntry (wpAny_check_init_subT F T gC ge rfl ?_));unfold G8 at ge
 wp_walk
 refine hq _ h.objs.size (λb o nb z=>(B7 _ _ (CB nb)).trans (Ar _ z)) ?_
 rw[B3 _ (Ar _ ge) rfl];rfl
end
noncomputable def ko:Ag->Ag
 |0=>4
 |n+1=>8*ko n+19
theorem TV:∀ n:Fin 100,(Af (toString ((n.val:Ag):Ai))).length<=4:=by decide+kernel
theorem UM{α:Type}(f:α->Ag):∀ l:Ac α,(∀ x∈l,f x<=m)->(l.map f).sum<=l.length*m
 |[],_=>by simp
 |x::l,h=>by
  have h1:=h x AR;have h2:=UM f l λy hy=>h y (Ay _ hy)
  rw[BU,Xk,Ba,Nat.succ_mul];omega
structure Shw (h:AC) (n:Ag) (u:Aj) (pd:L8):Prop where
 rd:Reads h u pd []
 sh:pd.showable=Ab
 nd:pd.hasDict=Ad
 dp:pd.depth<=n
 ln:pd.shown.length<=ko n
inductive qe (h:AC) (n:Ag):Ac Aj->Ac L8->Prop where
 |nil:qe h n [] []
 |cons {u:Aj} {pd:L8} {us:Ac Aj} {pds:Ac L8}:Shw h n u pd->qe h n us pds->qe h n (u::us) (pd::pds)
theorem Ui{h:AC}{n:Ag}:∀{us:Ac Aj}{pds:Ac L8},qe h n us pds->ReadsAll h us pds []/\Yo pds=Ab/\Yn pds=Ad/\Js pds<=n/\(∀ t∈Eb pds,t.length<=ko n)/\(Eb pds).length=us.length
 |[],[],_=>⟨.nil,rfl,rfl,D5 _,(λ_ h=>nomatch h),rfl⟩
 |u::us,pd::pds,.cons h1 h2=>by
  obtain⟨a,b,c,d,e,f⟩:=Ui h2;refine⟨.cons h1.rd a,?_,?_,?_,?_,?_⟩
  .show (pd.showable&&Yo pds)=Ab;rw[h1.sh,b];rfl
  .show (pd.hasDict||Yn pds)=Ad;rw[h1.nd,c];rfl
  .show max pd.depth (Js pds)<=n;exact Nat.max_le.mpr ⟨h1.dp,d⟩
  .intro t ht;rcases AE.mp ht with rfl|ht
   .exact h1.ln
   .exact e t ht
  .show (Eb pds).length+1=us.length+1;rw[f]
theorem wU{U:L2.St}(I:Y8 X pI U H s):∀(n:Ag){d:D}{v:V}{u:Aj},wc n d=Ab->Y6 X.K CL H A v d->BB v u->∃ pd,Shw s.heap n u pd:=by
 intro n
 induction n with
 |zero=>
  intro d v u hx r rv;cases d with
  |int i=>
   have e:v=.int i:=r;subst e;obtain⟨t,rfl⟩:=rv;simp only[wc,As,Bh]at hx;refine⟨.int i,.int i t,?_,rfl,AQ _,?_⟩
   .show decide (i.natAbs.log2<1920)=Ab;refine Di (CV (G3 _) (by omega))
   .have:=TV ⟨i.toNat,by omega⟩
    rwa [show ((i.toNat:Ag):Ai)=i by omega]at this
  |_=>exact absurd (show Ad=Ab from hx) BC
 |succ n ih0=>
  intro d v u hx r rv;cases d with
  |H ds=>
   obtain⟨a,xs,rfl,_,sq,rs⟩:=r;cases rv;obtain⟨its,vs,⟨o,ho,hc,m,hd⟩,hz⟩:=I.tuple sq;simp only[wc,As,A6]at hx;have key:∀{xs:Ac V}{ds:Ac D}{its:Ac Aj},(∀ d∈ds,wc n d=Ab)->Y9 X.K CL H A xs ds->AZ xs its->∃ pds,qe s.heap n its pds:=λ{xs}=>by
    induction xs with
    |nil=>
     intro ds its _ rs vs;cases vs;exact⟨[],.nil⟩
    |cons x xs ih=>
     intro ds its hd rs vs;cases ds with
     |nil=>exact rs.elim
     |cons d ds=>
      cases vs with
      |cons v1 v2=>
       obtain⟨pd,h1⟩:=ih0 (hd d AR) rs.1 v1;obtain⟨pds,h2⟩:=ih (λe he=>hd e (Ay _ he)) rs.2 v2
       exact⟨pd::pds,.cons h1 h2⟩
   obtain⟨pds,hf⟩:=key hx.2 rs vs;obtain⟨p1,p2,p3,p4,p5,p6⟩:=Ui hf;have l8:its.length<=8:=by
    have h8:=Nat.ble_eq.mp hx.1;rw[<-vs.length,rs.length];exact h8
   refine⟨.tuple pds,.tuple ho hc hd (by simpa using p1),p2,p3,?_,?_⟩
   .show Js pds+1<=n+1;omega
   .show (tupleText (Eb pds)).length<=8*ko n+19;have h1:=tupleText_len_le (Eb pds);have h2:=UM (λt:Ah=>t.length) (Eb pds) p5
    have h3:(Eb pds).length*ko n<=8*ko n:=Nat.mul_le_mul_right _ (by omega)
    omega
  |_=>exact absurd (show Ad=Ab from hx) BC
def tFs(K:Fg)(CL:ClA)(i:Ag):TE:=λU H Q=>∃ v d A n,U[i]?=Aa (Aa v)/\Y6 K CL H A v d/\wc n d=Ab/\n<=2/\∀ t:Ah,Q (.str t) H
def tFm(K:Fg)(CL:ClA)(i:Ag):TE:=λU H Q=>∃ v d A n,U[i]?=Aa (Aa v)/\Y6 K CL H A v d/\wc n d=Ab/\n<=2/\∀ t:Ah,t.length<=500->Q (.str t) H
theorem U_0(hu:X.A.units+64<BD)(hg:X.A.guards=Aa [])(he:PE X e (BS i)):PE X (.FormattedValue e (-1) Ae p1) (tFm X.K CL i):=by
 intro pI s U H Q I ⟨v,d,A,n,hv,r,hx,hn,q⟩;refine wpAny_FormattedValue_plain (J5 (he pI s U H (λx H1=>x=v/\H1=H) I ⟨v,hv,rfl,rfl⟩) λu s1 ⟨x,H1,I1,r1,e1,e2⟩=>?_)
 subst e1 e2;have zl:sizeLine ≥ 2000:=by decide
 obtain⟨pd,sw⟩:=wU I1 n hx r r1;have ϩ:n=0\/n=1\/n=2:=by omega
 have xb:ko n<=500:=by rcases ϩ with rfl|rfl|rfl<;>decide
 have ln:=sw.ln;have dp:=sw.dp;cases d with
 |int j=>
  have e:x=.int j:=r;subst e;obtain⟨t,rfl⟩:=r1;cases n with
  |zero=>
   have ϱ:(decide (0<=j)&&decide (j<100))=Ab:=hx;rw[As,Bh,Bh]at ϱ;have il:=TV ⟨j.toNat,by omega⟩
   rw[show ((j.toNat:Ag):Ai)=j by omega]at il
   exact formatField_int_small (CV (G3 _) (by omega)) ⟨.str _,H1,I1.tok _,⟨_,rfl⟩,q _ (BF il (by omega))⟩
  |succ n=>cases hx
 |H ds=>
  obtain⟨a,xs,rfl,_,sq,rs⟩:=r;cases r1;refine formatField_of_reads sw.rd sw.sh (λz=>by rw[sw.nd]at z;cases z) hg (by omega) (λ_ _ z=>z) (λh' tk1 tk2 kp=>?_) (by omega)
  exact⟨.str pd.shown,H1,I1.kept kp,⟨_,rfl⟩,q _ (by omega)⟩
 |_=>cases n<;>cases hx
theorem jP(hu:X.A.units+64<BD)(hg:X.A.guards=Aa [])(hz:z.length<=1000)(he:PE X e (BS i)):PE X (.JoinedStr [.FormattedValue e (-1) Ae p1,.Constant (.str z) k p2] p3) (tFs X.K CL i):=by
 intro pI s U H Q I ⟨v,d,A,n,hv,r,hx,hn,q⟩;have zl:sizeLine ≥ 2000:=by decide
 refine YT ?_;show Av (model X.prog X.w) X.A (eval (.FormattedValue e (-1) Ae p1) X.env) (λv s1=>∃ y t,v=.str y t/\(Do++y).length<=sizeLine/\Joins (model X.prog X.w) X.A X.xe [eval (.Constant (.str z) k p2) X.env] (Do++y) _ s1) X.xe s
 refine J5 (U_0 (CL:=CL) hu hg he pI s U H (λx H1=>∃ y:Ah,x=.str y/\y.length<=500/\H1=H) I ⟨v,d,A,n,hv,r,hx,hn,λt ht=>⟨t,rfl,ht,rfl⟩⟩) λu s1 ⟨x,H1,I1,r1,y,e1,hy,e2⟩=>?_
 subst e1 e2;obtain⟨t1,rfl⟩:=r1;have l0:(Do++y).length<=500:=by
  rw[G2];have:Do.length=0:=rfl;omega
 refine⟨y,t1,rfl,by omega,?_⟩
 show Av (model X.prog X.w) X.A (eval (.Constant (.str z) k p2) X.env) _ X.xe s1;refine J5 (Mu (X:=X) pI _ U H1 (λx H2=>x=.str z/\H2=H1) I1 ⟨rfl,rfl⟩) λu2 s2 ⟨x2,H2,I3,r3,e3,e4⟩=>?_
 subst e3 e4;obtain⟨t3,rfl⟩:=r3;have l1:(Do++y++z).length<=sizeLine:=by
  rw[G2];omega
 exact⟨z,t3,rfl,l1,l1,⟨.str _,H2,I3.tok _,⟨_,rfl⟩,q _⟩⟩
theorem fH(hu:X.A.units+64<BD)(hg:X.A.guards=Aa [])(hz':z'.length<=400)(hz:z.length<=1000)(he:PE X e (BS i)):PE X (.JoinedStr [.Constant (.str z') k' p0,.FormattedValue e (-1) Ae p1,.Constant (.str z) k p2] p3) (tFs X.K CL i):=by
 intro pI s U H Q I ⟨v,d,A,n,hv,r,hx,hn,q⟩;have zl:sizeLine ≥ 2000:=by decide
 refine YT ?_;show Av (model X.prog X.w) X.A (eval (.Constant (.str z') k' p0) X.env) (λv s1=>∃ y t,v=.str y t/\(Do++y).length<=sizeLine/\Joins (model X.prog X.w) X.A X.xe [eval (.FormattedValue e (-1) Ae p1) X.env,eval (.Constant (.str z) k p2) X.env] (Do++y) _ s1) X.xe s
 refine J5 (Mu (X:=X) pI _ U H (λx H2=>x=.str z'/\H2=H) I ⟨rfl,rfl⟩) λu0 s0 ⟨x0,H0,I0,r0,e0,e00⟩=>?_
 subst e0 e00;obtain⟨t0,rfl⟩:=r0;have le:(Do++z').length<=400:=by
  rw[G2];have:Do.length=0:=rfl;omega
 refine⟨z',t0,rfl,by omega,?_⟩
 show Av (model X.prog X.w) X.A (eval (.FormattedValue e (-1) Ae p1) X.env) _ X.xe s0;refine J5 (U_0 (CL:=CL) hu hg he pI s0 U H0 (λx H1=>∃ y:Ah,x=.str y/\y.length<=500/\H1=H0) I0 ⟨v,d,A,n,hv,r,hx,hn,λt ht=>⟨t,rfl,ht,rfl⟩⟩) λu s1 ⟨x,H1,I1,r1,y,e1,hy,e2⟩=>?_
 subst e1 e2;obtain⟨t1,rfl⟩:=r1;have l0:(Do++z'++y).length<=900:=by
  rw[G2];omega
 refine⟨y,t1,rfl,by omega,?_⟩
 show Av (model X.prog X.w) X.A (eval (.Constant (.str z) k p2) X.env) _ X.xe s1;refine J5 (Mu (X:=X) pI _ U H1 (λx H2=>x=.str z/\H2=H1) I1 ⟨rfl,rfl⟩) λu2 s2 ⟨x2,H2,I3,r3,e3,e4⟩=>?_
 subst e3 e4;obtain⟨t3,rfl⟩:=r3;have l1:(Do++z'++y++z).length<=sizeLine:=by
  rw[G2];omega
 exact⟨z,t3,rfl,l1,l1,⟨.str _,H2,I3.tok _,⟨_,rfl⟩,q _⟩⟩
structure t9 (par:Ah) (j:Aq):Prop where
 st:∀ env,At [j] env=[(Ad,eval j env)]
 pe:∀(X:Cx)(CL:ClA)(i:Ag),X.A.units+64<BD->X.A.guards=Aa []->(∀ p,PE X (.Name par p) (BS i))->PE X j (tFs X.K CL i)
theorem uM(hz:z.length<=1000):t9 par (.JoinedStr [.FormattedValue (.Name par p1) (-1) Ae p2,.Constant (.str z) k p3] p4):=⟨λ_=>rfl,λ_ _ _ hu hg he=>jP hu hg hz (he _)⟩
theorem fA(hz':z'.length<=400)(hz:z.length<=1000):t9 par (.JoinedStr [.Constant (.str z') k' p0,.FormattedValue (.Name par p1) (-1) Ae p2,.Constant (.str z) k p3] p4):=⟨λ_=>rfl,λ_ _ _ hu hg he=>fH hu hg hz' hz (he _)⟩
def wb(e C:Ak)(dx:Am Ak)(t:Ak):AC->Prop:=λh=>h.get? e=Aa (G8 C dx t)
theorem QF{e:Ak}:∀ h1 h2:AC,wb e C dx t h1->(∀ o,h1.get? e=Aa o->h2.get? e=Aa o)->wb e C dx t h2:=λ_ _ p k=>k _ p
theorem fG{apos cpos:AH}{es:Aq}(ud:∀ h:AC,X.K.In h->h.get? C=Aa (Cj nm q C N bs bm hdct sn sub ab col dd k0 k1 k2 k3 k5 "ValueError.__new__")/\Ep h rm bm)(hg:Gl X g)(hm:X.mg g=Aa (.ref OV))(zh:(g==("__debug__" : Ah))=Ad)(s1:DN X.K (.ref OV) "__getattribute__" = Aa (Aa (.builtin "type.__getattribute__")))(s2:F5 X.K OV (.type "type")=Ab)(s3:F3 X.K (.ref OV) (.type "type") "__init__" = Aa (.val (.builtin "ValueError.__init__")))(J7:(apos.endLine==cpos.line)=Ab)(he:PE X es (BS i))(hj:PE X ej (tFs X.K CL j))(sA:At [es,ej] X.env=(Ad,eval es X.env)::At [ej] X.env)(sB:At [ej] X.env=[(Ad,eval ej X.env)]):
  PE X (.Call (.Attribute (.Name g np) "__init__" apos) [es,ej] [] cpos) (λU H Q=>∃ e dx t v d A n,U[i]?=Aa (Aa (.ref e))/\H e=Aa (.ext (wb e C dx t))/\U[j]?=Aa (Aa v)/\Y6 X.K CL H A v d/\wc n d=Ab/\n<=2/\∀ t',Q .O (upd H e (.ext (wb e C dx t')))):=by
 have st1:At [es,ej] X.env=[(Ad,eval es X.env),(Ad,eval ej X.env)]:=by rw[sA,sB]
 intro pI s U H Q I ⟨e,dx,t,v,d,A,n,h1,h2,h3,r,hx,hn,hq⟩;rw[FG];refine Al (show Av (model X.prog X.w) X.A (eval (.Name g np) X.env) _ X.xe s from JG I hg hm ?_ zh)
 refine Al (CJ ?_);have form:DZ ([es,ej].length+([]:Ac CK).length) (Br cpos (At [es,ej] X.env)) (DY cpos (CO [] X.env))=Ab:=by
  rw[st1];rfl
 have mpos:CI Ab (.Name g np) X.env apos cpos=pure cpos:=by
  unfold CI;simp[J7]
 unfold Hm;rw[form];refine Al (BA (PySem.W.method_cls I.kIn s1 (PySem.W.cls_value I.kIn s2 s3 rfl ?_)));refine Al (Eo mpos ?_);have I1:=I.tok (s.toks+1);have pa:PA X [es,ej] _:=Bm he (Bm hj B9 sB) sA;have hA:=pa cpos pI {s with toks:=s.toks+1} U H (λxs H'=>H'=H/\∃ z,xs=[.ref e,.str z]) I1 ⟨_,h1,⟨v,d,A,n,h3,r,hx,hn,λz=>⟨rfl,z,rfl⟩⟩⟩
 rw[st1]at hA ⊢;refine GR rfl (Fn (J5 hA λus s2 ⟨xs,H2,I2,rv,e2,z,ex⟩=>?_))
 subst e2 ex;obtain⟨u1,u2,rfl,ue,v8⟩:=Nt rv;cases ue;obtain⟨tk,rfl⟩:=v8;obtain⟨gC,T⟩:=ud _ I2.kIn;have ge:wb e C dx t s2.heap:=(I2.hok e _ h2).1;obtain⟨hp,g2,d2,tk2,os2⟩:=s2;refine rD FF T gC ge λh' t' kp qh=>?_
 refine⟨.O,_,I2.write (x:=e) (e:=e) (o:=.ext (wb e C dx t')) (t':=tk2) (by rw[h2];exact trivial) (.inl rfl) kp ⟨_,qh⟩ ⟨qh,⟨_,qh⟩,QF⟩,rfl,hq t'⟩
theorem aJ(T:Ep h bmB bm)(hb:refuseLoop self what bmB=pure ()):refuseLoop self what bm=pure ():=by
 induction T with
 |base=>exact hb
 |own _ _ _ _ ih=>rw[YQ];exact ih
section
variable{e:Ak}
theorem iS{A:AY}{E:Vq}{d:Jr}{os:BY}{v:Aj}(X:K.In h)(SF:Ma B bmB sa owner)(T:Ep h bmB bm)(gC:h.get? C=Aa (Cj nm q C N bs bm Ab sn sub ab col dd k0 k1 k2 k3 k5 newId))(hf:Ap K (.ref C) name=Aa Ae)(ge:h.get? e=Aa (G8 C Ae t))(hq:∀ h' dx km,(∀ b o,b≠e->h.get? b=Aa o->h'.get? b=Aa o)->h'.get? e=Aa (G8 C (Aa dx) t)->h.get? dx=Ae->h'.Ns1 dx (λy=>if y=name then Aa v else Ae)->Q (.done (.ret .none)) ⟨h',g,d,km,os⟩):Av (model prog w) A (Builtin.«object.__setattr__» ⟨[.ref e,.str name tk,v],[]⟩) Q E ⟨h,g,d,tk0,os⟩:=by
  have pass:=aJ T (SF.passes (.ref e));have L1:=DL (M:=model prog w) X hf;obtain⟨o,ho⟩:∃ o,G8 C Ae t=o:=⟨_,rfl⟩;rw[ho]at ge;have oc:o.cls=.ref C:=by rw[<-ho];rfl
  unfold Builtin.«object.__setattr__»
  repeat (first|rw[refuse_eq]|(rw[YQ,pass])|(with_reducible refine CS ge ?_;rw[oc])|(with_reducible refine wpAny_mroOf_exc gC ?_)|(with_reducible refine L1.at ?_)|(with_reducible refine Al (L1.at ?_))|wp_step)
  have od:o.dict=Ae:=by rw[<-ho];rfl
  have odt:o.data=.fields #[.ref t,.none,.none,.none,.bool Ad,.none]:=by rw[<-ho];rfl
  rw[od,odt,AA (by simp[typeHasDict])]
  let D:CD:={ cls:=.type "dict",data:=.dict #[] }
  have g1:(h.push D).get? e=Aa o:=Ar _ ge;have ne:e≠h.objs.size:=A5 (AF ge);refine Al (wpAny_alloc' ?_);refine Al (wpAny_update' g1 ?_);refine Ax ?_
  let U_:CD->CD:=λo=>{cls:=o.cls,dict:=Aa h.objs.size,data:=o.data,slots:=o.slots}
  have gD:((h.push D).update e U_).get? h.objs.size=Aa D:=(Yi _ _ _ _ ne.symm).trans (Yh rfl rfl);have nD:((h.push D).update e U_).Ns h.objs.size (λ_=>Ae):=⟨_,#[],_,gD,rfl,λz hz=>absurd hz (by simp),λ_=>rfl⟩
  change Av _ _ (XF h.objs.size (.str name tk) name v) _ _ _;unfold XF Builtin.ObjectAttr.newKeyGuard;refine Al (Ax (Al (wpAny_nsSet1 (Ye nD) λk hk hs=>?_)))
  obtain⟨oD,eD,pD,q1,q2,q3⟩:=hk.count (Within.cons name v Within.nil);have le:oD.data.pastItsLine=Ae:=by
    rw[q2];refine YN (BF q3 ?_);rw[Ba,Xc,BE];omega
  refine Al (YY q1 le ?_)
  wp_walk
  refine hq k h.objs.size _ (λb ob nb hb=>?_) ?_ (DH (AQ _)) hk
  · rw[hs.2 b (A5 (AF hb)),Yi _ _ _ _ nb];exact Ar _ hb
  · rw[hs.2 e ne];have:Aa (G8 C (Aa h.objs.size) t)=Aa (U_ o):=by rw[<-ho];rfl
    rw[this];exact B3 _ g1 (by rw[<-ho];rfl)
end
section
variable{A:AY}{E:Vq}{d:Jr}{os:BY}
variable{e:Ak}
theorem iT{o:CD}{a:Aj}(SF:Ma B bmB sa owner)(T:Ep h bmB bm)(gC:h.get? C=Aa (Cj nm q C N bs bm Ab sn sub ab col dd k0 k1 k2 k3 k5 newId))(ge:h.get? e=Aa o)(hc:o.cls=.ref C)(hq:Q () ⟨h,g,d,tk0,os⟩):Av M A (Ew sa ⟨[.ref e,a,b],[]⟩) Q E ⟨h,g,d,tk0,os⟩:=by
 have hb:(Bv C::bm).contains (.type owner)=Ab:=by rw[Ik,T.hasType SF.hasOwner,KN]
 have ha:=SF.args (.ref e) a b;simp only[Ew,SF.kind,SF.split];refine Al ?_;unfold IS
 repeat (first|(with_reducible refine CS ge ?_;rw[hc])|(with_reducible refine FU gC ?_;rw[hb])|wp_step)
 unfold argsOk at ha;split
 .rename_i sig hs;rw[hs]at ha;refine Eo ha ?_;exact hq
 .exact Ax hq
theorem rC{v:Aj}(X:K.In h)(SF:Ma B bmB sa owner)(T:Ep h bmB bm)(gC:h.get? C=Aa (Cj nm q C N bs bm Ab sn sub ab col dd k0 k1 k2 k3 k5 newId))(hf:Ap K (.ref C) name=Aa Ae)(hs:Ap K (.ref C) "__setattr__" = Aa (Aa (.builtin sa)))(ge:h.get? e=Aa (G8 C Ae t))(hq:∀ h' dx km,(∀ b o,b≠e->h.get? b=Aa o->h'.get? b=Aa o)->h'.get? e=Aa (G8 C (Aa dx) t)->h.get? dx=Ae->h'.Ns1 dx (λy=>if y=name then Aa v else Ae)->Q () ⟨h',g,d,km,os⟩):Av (model prog w) A (Mf (.ref e) name v) Q E ⟨h,g,d,tk0,os⟩:=by
 have f3:=SF.slot.bind (.ref e);have L1:=DL (M:=model prog w) X hs;obtain⟨o,ho⟩:∃ o,G8 C Ae t=o:=⟨_,rfl⟩;have oc:o.cls=.ref C:=by rw[<-ho];rfl
 have qh:=ge;rw[ho]at qh;unfold Mf K3 specialOf
 repeat (any_goals (first|assumption|(with_reducible refine CS qh ?_;rw[oc])|(with_reducible refine Al (L1.at ?_))|(with_reducible refine L1.at ?_)|wp_step))
 refine Fo SF.slot.plain SF.entry (iT SF T gC qh oc (iS X SF T gC hf ge λh' dx km k1 k2 k3 k4=>?_))
 repeat (any_goals (first|assumption|wp_step))
 exact hq h' dx km k1 k2 k3 k4
end
section
variable{U:L2.St}{e:Ak}
theorem Ud{o:HO}(I:Y8 X pI U H s)(ha:IJ X pI e)(hH:H e=Ae)(ho:ObjOk X.prog X.w (upd H e o) s.heap e o):Y8 X pI U (upd H e o) s:=by
 have ne:∀ b o,H b=Aa o->b≠e:=λb o q z=>by rw[z,hH]at q;cases q
 refine⟨I.ok,I.os,I.bare,⟨I.base.keep,I.base.slot,λb o q n hb=>?_,I.base.there,λb xs q=>?_,λb o u q=>?_,λb ps q=>?_⟩,I.loc,I.cell,?_,λx c q=>?_,λp hp=>?_,λb o q=>?_,I.len⟩
 .rw[AW λz=>by rw[z,ha.2.2.2]at q;cases q]
  exact I.base.free b o q n hb
 .have:=I.base.tups b xs q;rw[AW (ne _ _ this)];exact this
 .have:=I.base.frzs b o u q;rw[AW (ne _ _ this)];exact this
 .obtain⟨more,this⟩:=I.base.tbls b ps q;exact⟨more,by rw[AW (ne _ _ this)];exact this⟩
 .rw[AW λz=>ha.1 z.symm];exact I.free
 .rw[AW (ha.2.1 x c q)];exact I.freeC x c q
 .obtain⟨q,n,r⟩:=I.pin p hp;exact⟨q,by rw[AW (ha.2.2.1 p hp)];exact n,r⟩
 .by_cases hb:b=e
  .subst hb;rw[B1]at q;cases q;exact ho
  .rw[AW hb]at q;exact(I.hok b o q).stay (λc v hc z=>z) (λc z=>by rw[AW (ne _ _ z)];exact z) λc zs z=>by rw[AW (ne _ _ z)];exact z
theorem fX(I:Y8 X pI U H s)(hH:H e=Aa (.ext φ))(h0:X.s₀.heap.get? e=Ae)(h1:X.ex=[]->HV):Y8 X pI U (λb=>if b=e then Ae else H b) s:=by
 have get:∀ b o,(if b=e then Ae else H b)=Aa o->b≠e/\H b=Aa o:=λb o q=>by
  by_cases z:b=e
  .rw[Au z]at q;cases q
  .rw[AA z]at q;exact⟨z,q⟩
 have put:∀ b o,H b=Aa o->o≠.ext φ->(if b=e then Ae else H b)=Aa o:=λb o q n=>by
  by_cases z:b=e
  .rw[z,hH]at q;cases q;exact absurd rfl n
  .rw[AA z];exact q
 have Ź:∀ b,H b=Ae->(if b=e then Ae else H b)=Ae:=λb q=>by
  by_cases z:b=e
  .rw[Au z]
  .rw[AA z];exact q
 refine⟨I.ok,I.os,I.bare,⟨λb o q n hb hx=>?_,I.base.slot,λb o q n hb=>?_,I.base.there,λb xs q=>?_,λb o u q=>?_,λb ps q=>?_⟩,I.loc,I.cell,Ź _ I.free,λx c q=>Ź _ (I.freeC x c q),λp hp=>?_,λb o q=>?_,I.len⟩
 .exact I.base.keep b o q n hb hx
 .exact Ź b (I.base.free b o q n hb)
 .exact put b _ (I.base.tups b xs q) (by intro z;cases z)
 .exact put b _ (I.base.frzs b o u q) (by intro z;cases z)
 .obtain⟨more,this⟩:=I.base.tbls b ps q;exact⟨more,put b _ this (by intro z;cases z)⟩
 .obtain⟨q,n,r⟩:=I.pin p hp;exact⟨q,Ź _ n,r⟩
 .obtain⟨nb,q⟩:=get b o q;exact(I.hok b o q).stay (λc v hc z=>z) (λc z=>put c _ z (by intro z;cases z)) λc zs z=>put c _ z (by intro z;cases z)
end
theorem kL{f:Ah}(ud:∀ h:AC,X.K.In h->h.get? C=Aa (Cj nm q C N bs bm Ab sn sub ab col dd k0 k1 k2 k3 k5 "ValueError.__new__")/\Ep h rm bm)(hx:X.ex=[])(hf:Ap X.K (.ref C) f=Aa Ae)(hs:Ap X.K (.ref C) "__setattr__" = Aa (Aa (.builtin "object.__setattr__")))(he:PE X eo (BS i))(hv:PE X ev (BS j))(sw:Dp ev (Aa (.Attribute eo f p8)) p10.line X.env=pure Ad):PS X (.Assign [.Attribute eo f p8] ev p10) (λD U H=>∃ e t v,U[i]?=Aa (Aa (.ref e))/\H e=Aa (.ext (wb e C Ae t))/\U[j]?=Aa (Aa v)/\∀ dx,H dx=Ae->dx≠e->D.nx U (upd (upd H e (.ext (wb e C (Aa dx) t))) dx (.xd [(f,v)]))):=by
 intro pI s U H D I ⟨e,t,v,h1,h2,h3,hq⟩;refine YO (J5 (hv pI s U H (λx H1=>x=v/\H1=H) I ⟨v,h3,rfl,rfl⟩) λu s1 ⟨x,H1,I1,r1,e1,e2⟩=>?_) sw
 subst e1 e2;refine J5 (he pI s1 U H1 (λx H2=>x=.ref e/\H2=H1) I1 ⟨_,h1,rfl,rfl⟩) λu2 s2 ⟨x2,H2,I2,r2,e3,e4⟩=>?_
 subst e3 e4;cases r2;obtain⟨gC,T⟩:=ud _ I2.kIn;have ge:wb e C Ae t s2.heap:=(I2.hok e _ h2).1;obtain⟨hp,g2,d2,tk2,os2⟩:=s2;refine rC I2.kIn PySem.F.store_ValueError T gC hf hs ge λh' dx km kp qh nd ns=>?_
 have nH:H2 dx=Ae:=Mi I2.hok nd;have nde:dx≠e:=λz=>by rw[z,h2]at nH;cases nH
 have ap:IJ X pI dx:=Nd I2 hx nd;have I3:=I2.write (x:=e) (e:=e) (o:=.ext (wb e C (Aa dx) t)) (t':=km) (by rw[h2];exact trivial) (.inl rfl) kp ⟨_,qh⟩ ⟨qh,⟨_,qh⟩,QF⟩
 have I4:=Ud (o:=.xd [(f,x)]) I3 ap (by rw[AW nde];exact nH) ⟨_,ns,λy=>by
  by_cases z:y=f
  .subst z;rw[Au rfl];simp only[BM,Ck];exact r1
  .rw[AA z];have:(y==f)=Ad:=by simp[z]
   simp only[BM,this]
   trivial⟩
 exact⟨U,_,I4,hq dx nH nde⟩
noncomputable def Ks(K:Fg)(C:Ak):Ao:=match K.lookup C with
  |some ⟨_,_,.cls c,_⟩=>c.hasDict
  |_=>Ad
noncomputable def RA(g par f:Ah)(j:Aq)(np apos p1 cpos p6 p7 p8 p9 p10:AH):Ac AT:=
 [.Expr (.Call (.Attribute (.Name g np) "__init__" apos) [.Name "self" p1,j] [] cpos) p6,.Assign [.Attribute (.Name "self" p7) f p8] (.Name par p9) p10]
inductive kv (K:Fg) (mg:Ah->Am Aj) (C:Ak) (f:Ah):Prop
 |mk {fI OV:Ak} {x qual g par:Ah} {j:Aq} {st:AT} {fd:A7} {np apos p1 cpos p6 p7 p8 p9 p10:AH} (xc:D0 K C (Aa (.ref fI))=Ab) (dc:Ks K C=Ab) (fn:qc K x qual st fI fd) (ty:Dz K (.ref fI)=Aa (.type "function"))
  (S:zi ["self",par] ["self",par] (AB st)) (l1:(AB st).names.lookup ("self" : Ah)=Aa .local) (l2:(AB st).names.lookup par=Aa .local) (bd:Cv K fd ["self",par] []) (body:Dt st=RA g par f j np apos p1 cpos p6 p7 p8 p9 p10)
  (gl:(AB st).names.lookup g=Aa .globalImplicit) (mo:mg g=Aa (.ref OV)) (dg:(g==("__debug__" : Ah))=Ad) (dp:(par==("__debug__" : Ah))=Ad) (dq:(par==("__classdict__" : Ah))=Ad)
  (s1:DN K (.ref OV) "__getattribute__" = Aa (Aa (.builtin "type.__getattribute__"))) (s2:F5 K OV (.type "type")=Ab) (s3:F3 K (.ref OV) (.type "type") "__init__" = Aa (.val (.builtin "ValueError.__init__")))
  (hl:(apos.endLine==cpos.line)=Ab) (hz:t9 par j) (hf:Ap K (.ref C) f=Aa Ae) (hs:Ap K (.ref C) "__setattr__" = Aa (Aa (.builtin "object.__setattr__"))):kv K mg C f
section
variable{f:Ah}
theorem nV{st:AT}(ud:∀ h:AC,K.In h->h.get? C=Aa (Cj nm q C N bs bm Ab sn sub ab col dd k0 k1 k2 k3 k5 "ValueError.__new__")/\Ep h rm bm)(fn:qc K x qual st fI fd)(S:zi ["self",par] ["self",par] (AB st))(l1:(AB st).names.lookup ("self" : Ah)=Aa .local)(l2:(AB st).names.lookup par=Aa .local)(bd:Cv K fd ["self",par] [])(body:Dt st=RA g par f j np apos p1 cpos p6 p7 p8 p9 p10)(gl:(AB st).names.lookup g=Aa .globalImplicit)(mo:mg g=Aa (.ref OV))(dg:(g==("__debug__" : Ah))=Ad)(dp:(par==("__debug__" : Ah))=Ad)(dq:(par==("__classdict__" : Ah))=Ad)(s1:DN K (.ref OV) "__getattribute__" = Aa (Aa (.builtin "type.__getattribute__")))(s2:F5 K OV (.type "type")=Ab)(s3:F3 K (.ref OV) (.type "type") "__init__" = Aa (.val (.builtin "ValueError.__init__")))(hl:(apos.endLine==cpos.line)=Ab)(hz:t9 par j)(hf:Ap K (.ref C) f=Aa Ae)(hs:Ap K (.ref C) "__setattr__" = Aa (Aa (.builtin "object.__setattr__"))){A:AY}{E:XK}{e:Ak}{v:V}{n:Ag}(hh:A.handled=Ae)(hdp:A.depth<HU)(hun:A.units+70<BD)(hgd:A.guards=Aa [])(e0:xp P w K mg base A outer s H)(he:H e=Aa (.ext (wb e C Ae t)))(rp:Y6 K CL H B v d)(hx:wc n d=Ab)(hn:n<=2)(r:BB v u):Er (model P w) A (.call (.ref fI) ⟨[.ref e,u],[]⟩) (CR Kz outer P w H s (λy H'=>y=.O/\∃ t' dx,H dx=Ae/\dx≠e/\H'=upd (upd H e (.ext (wb e C (Aa dx) t'))) dx (.xd [(f,v)])) E) s:=by
 obtain⟨oc,od,kV,doc,pm,an,cdv,ct,osl,rfl,lk,ze⟩:=fn.ex;have KX:K.In s.heap:=e0.mod.kin.keeps λb o e=>(e0.bs b o e).1
 have lim:s.heap.NoLimit:=e0.mod.nolimit.keeps λb o e=>(e0.bs b o e).1
 have vx:∀ y∈(["self",par]:Ac Ah).zip [Bv e,u],(AB st).names.lookup y.1=Aa .local\/((AB st).names.lookup y.1=Aa .cell/\((C9 (s.heap.objs.size+1) (AB st).names []).lookup y.1).isSome=Ab):=λy hy=>by
  refine .inl ?_;rcases AE.mp hy with rfl|hy
  .exact l1
  .rw[BH.mp hy];exact l2
 have rv:AZ [.ref e,v] [.ref e,u]:=.cons rfl (.cons r .nil);refine Hc hdp (KX _ _ lk) rfl S.co S.gen rfl (Iq KX ze) (bd s [.ref e,u] KX rfl _ _ _ _ ?_);refine FK S.kind vx λenv hen Ζ x=>?_
 subst hen;refine⟨lim.keeps x.toInCall.keep,K4 ?_⟩;have I:Y8 (Bu Kz P w K mg base ["self",par] qual (AB st) fI cdv A outer s H E) [] (start ["self",par] [.ref e,v]) H Ζ:=PQ S hh e0 rfl rv x;generalize hX:Bu Kz P w K mg base ["self",par] qual (AB st) fI cdv A outer s H E=X at I;have Y5:∀ p,PE X (.Name "self" p) (BS 0):=λp=>by rw[<-hX];exact DF rfl (.inl l1)
 have Ϻ:∀ p,PE X (.Name par p) (BS 1):=λp=>by rw[<-hX];exact DF rfl (.inl l2) dp dq
 have st1:=fG (X:=X) (CL:=CL) (C:=C) (g:=g) (np:=np) (apos:=apos) (cpos:=cpos) (i:=0) (j:=1) (OV:=OV) (by rw[<-hX];exact ud) (by rw[<-hX];exact gl) (by rw[<-hX];exact mo) dg (by rw[<-hX];exact s1) (by rw[<-hX];exact s2) (by rw[<-hX];exact s3) hl (Y5 p1)
  (hz.pe X CL 1 (by rw[<-hX];show A.units+3+64<BD;omega) (by rw[<-hX];exact hgd) Ϻ) rfl (hz.st _)
 have st2:=kL (X:=X) (p8:=p8) (p10:=p10) (by rw[<-hX];exact ud) (by rw[<-hX];rfl) (by rw[<-hX];exact hf) (by rw[<-hX];exact hs) (Y5 p7) (Ϻ p9) rfl
 have all:=CF (K9 (pos:=p6) st1 rfl) (DE st2);have hk:=all [] Ζ _ H {nx:=λ_ H'=>∃ t' dx,H dx=Ae/\dx≠e/\H'=upd (upd H e (.ext (wb e C (Aa dx) t'))) dx (.xd [(f,v)]),rt:=λ_ _=>AN} I ⟨e,Ae,t,v,d,B,n,rfl,he,rfl,by rw[<-hX];exact rp,hx,hn,λt'=>⟨e,t',v,rfl,B1,rfl,λdx h1 h2=>⟨t',dx,by rw[AW h2]at h1;exact h1,h2,by rw[TM]⟩⟩⟩
 rw[body];refine Bg (by rw[<-hX]at hk;exact hk) (λfl s' ů=>?_) λev s' hev=>hev
 cases fl with
 |next=>
  obtain⟨U',H',J_,w'⟩:=ů;exact⟨.O,H',J_.os,J_.bare,J_.base,J_.hok,rfl,rfl,w'⟩
 |ret y=>obtain⟨_,_,_,_,_,w'⟩:=ů;exact w'.elim
 |brk=>obtain⟨_,_,_,w'⟩:=ů;exact w'.elim
 |cont=>obtain⟨_,_,_,w'⟩:=ů;exact w'.elim
end
theorem VF:∀(n m:Ag)(d:D),wc n d=Ab->n+1<=m->wq m d=Ab
 |0,m+1,.int i,_,_=>rfl
 |n+1,m+1,.H ds,h,hm=>by
  have h':(Cs ds.length 8&&ds.all (wc n))=Ab:=h;rw[As]at h';show ds.all (wq m)=Ab;rw[A6]at h' ⊢;exact λx hx=>VF n m x (h'.2 x hx) (by omega)
 |0,_,.H _,h,_=>nomatch h
 |n+1,_,.int _,h,_=>nomatch h
def NA(xn:Ag->Ac D->R Ex)(c:Ag)(f:Ah)(ds:Ac D):Prop:=∃ d n,ds=[d]/\wc n d=Ab/\n<=2/\xn c ds=.ok ⟨c,[(f,d)]⟩
theorem dJ{cpos pos:AH}(uk:X.calm=Ab)(hx:X.ex=[])(hr:PP k X.A)(rz:NN X CL W)(hg:Gl X g)(hm:X.mg g=Aa (.ref C))(zh:(g==("__debug__" : Ah))=Ad)(wt:CL c=Aa C)(ha:SA X CL W (e::es) fs)(tf:∀ ds,xn c ds=.bad\/(xn c ds=.ok ⟨c,[]⟩/\D0 X.K C Ae=Ab)\/∃ f,kv X.K X.mg C f/\NA xn c f ds)(he:At (e::es) X.env=(Ad,eval e X.env)::At es X.env)(zj:∀ pos,(Br pos (At es X.env)).any (·.1)=Ad)(hz:∀ Y ds,fs Y=.ok ds->ds.length<=100000):SS X CL W (.Raise (Aa (.Call (.Name g np) (e::es) [] cpos)) Ae pos) (λY=>O.of Y (yu (fs Y)) λxs=>O.of Y (xn c xs) λx=>.exn x Y):=λFz B pI s U H D I ⟨Y,x,p⟩=>by
 have hpl':(Br cpos (At (e::es) X.env)).any (·.1)=Ad:=by rw[he];show (Ad||(Br cpos (At es X.env)).any (·.1))=Ad;rw[zj];rfl
 cases e1:fs Y with
 |bad=>dsimp only at p;rw[e1]at p;exact p.elim
 |exn y=>dsimp only at p;rw[e1]at p;exact p.elim
 |ok ds=>
  rcases tf ds with e2|⟨e2,xc⟩|⟨f,xi,d,n,rfl,xf,hn,e2⟩
  .dsimp only at p;rw[e1]at p;have p2:B6 X.K CL Fz B W (O.of Y (xn c ds) λx=>.exn x Y) D:=p
   rw[e2]at p2;exact p2.elim
  .refine gK (fs:=fs) (xn:=λ_ vg=>match xn c vg with | .ok ⟨_,[]⟩=>.ok ⟨c,[]⟩|_=>.bad) uk rz hg hm zh xc wt ha (λvg=>by
    split
    .exact .inr rfl
    .exact .inl rfl) he zj hz Fz B pI s U H D I ⟨Y,x,?_⟩
   dsimp only at p ⊢;rw[e1]at p ⊢;have p2:B6 X.K CL Fz B W (O.of Y (xn c ds) λx=>.exn x Y) D:=p
   rw[e2]at p2;show B6 X.K CL Fz B W (O.of Y (match xn c ds with | .ok ⟨_,[]⟩=>(.ok ⟨c,[]⟩:R Ex)|_=>.bad) λx=>.exn x Y) D
   rw[e2];exact p2
  .dsimp only at p;rw[e1]at p;have p2:B6 X.K CL Fz B W (O.of Y (xn c [d]) λx=>.exn x Y) D:=p
   rw[e2]at p2;have p3:∀ H,(∀ b o,Fz b o->H b=Aa o)->W ⟨c,[(f,d)]⟩ H:=p2;cases xi with
   |mk xc dc fn ty S l1 l2 bd body gl mo dg dp dq w1 w2 w3 hl hz0 hf hs=>
    rename_i fI OV x0 qual g0 par j0 st fd np0 apos q1 cpos0 q6 q7 q8 q9 q10;obtain⟨bm,N,nm,qn,bs,hd,sn,sub,ab,col,dd,k0,k1,k2,k3,k5,mN,ud,qo,My⟩:=P8 I.kIn xc;have ng:hd=Ab:=by
     unfold Ks at dc;split at dc
     .rename_i c0 d0 cd sl lk;have g1:=I.kIn _ _ lk;rw[(ud _ I.kIn).1]at g1;unfold Cj at g1;cases g1;exact dc
     .cases dc
    subst ng;have ϫ:∀ h:AC,X.K.In h->h.get? C=Aa (Cj nm qn C N bs bm Ab sn sub ab col dd k0 k1 k2 k3 k5 "ValueError.__new__")/\Ep h rm bm:=λh z=>⟨(ud h z).1,(ud h z).2.2⟩
    refine dX (bmB:=rm) (nm:=nm) (q:=qn) (C:=C) (N:=N) (fI:=fI) (bs:=bs) (bm:=bm) (hdct:=Ab) (sn:=sn) (sub:=sub) (ab:=ab) (col:=col) (dd:=dd) (k0:=k0) (k1:=k1) (k2:=k2) (k3:=k3) (k5:=k5) (mN:=mN) FF My (I.ok.hd uk) hpl' qo ?_;refine JG I hg hm ⟨rfl,?_⟩ zh;have q1:=ha (Bf B Y U) cpos pI s U H (λvs H1=>Aw H H1/\Y9 X.K CL H1 (Bf B Y U) vs [d]) I ⟨x.aok,Y,x.good,by rw[e1];exact λvs H1 s1 r1=>⟨s1,r1⟩⟩
    rw[he]at q1 ⊢;refine Fn (Bg q1 (λus s2 ⟨vs,H2,I2,r2,yy,ra⟩=>⟨rfl,?_⟩) λ_ _ z=>z)
    cases vs with
    |nil=>exact ra.elim
    |cons v vs=>
     cases vs with
     |cons=>exact ra.2.elim
     |nil=>
      obtain⟨u,rfl,ru⟩:=IG r2;obtain⟨o1,o2,o3⟩:=ud _ I2.kIn;obtain⟨oc,od,kV,doc,pm,an,cdv,ct,osl,efd,lk,ze⟩:=fn.ex;have coc:oc=.type "function" := by
       have ty':(X.K.lookup fI).map _=_:=ty;rw[lk]at ty';exact Bj ty'
      refine⟨by rw[BE];show 1<=_;omega,o1,o2,o3,⟨_,I2.kIn _ _ lk,coc⟩,λh' e0 made=>?_⟩
      obtain⟨t,ge,_⟩:=made.there;have I3:Y8 X pI U H2 {s2 with heap:=h'}:=I2.kept (t':=s2.toks) made.keeps
      have ap:IJ X pI e0:=Nd I2 hx made.new;have n0:H2 e0=Ae:=Mi I2.hok made.new;have I4:=Ud (o:=.ext (wb e0 C Ae t)) I3 ap n0 ⟨ge,⟨_,ge⟩,QF⟩;have wa:Aw H2 (upd H2 e0 (.ext (wb e0 C Ae t))):=λb o z=>by rw[AW λy=>by rw[y,n0]at z;cases z];exact z
      have ru0:=hr.mono (D5 k);have run:=nV (P:=X.prog) (w:=X.w) (mg:=X.mg) (base:=X.base) (CL:=CL) (E:=λ_ _ _=>AN) (B:=Bf B Y U) (H:=upd H2 e0 (.ext (wb e0 C Ae t))) (t:=t) ϫ fn S l1 l2 bd body gl mo dg dp dq w1 w2 w3 hl hz0 hf hs (A:=X.A.under (.builtin "type.__call__" ⟨.ref C::[u],[]⟩)) (outer:=X.stack) hr.hd (by rw[RZ];have:=ru0.dp;omega) (by rw[RY];have:=ru0.un;omega) hr.gd (I4.env0.make C [u] []) B1 (Y6.same wa ra.1) xf hn ru
      refine Gx (E9 run λr s' hq=>?_)
      cases r with
      |error _=>exact A4 hq
      |ok fl=>
       cases fl with
       |next=>exact A4 hq
       |brk=>exact A4 hq
       |cont=>exact A4 hq
       |ret u'=>
        obtain⟨v',H5,I5,rr,ev,t',dx,lq,dne,eH⟩:=I4.after hq;subst ev;cases rr;have nd2:H2 dx=Ae:=by rw[AW dne]at lq;exact lq
        rw[TM]at eH;have H5e:H5 e0=Aa (.ext (wb e0 C (Aa dx) t')):=by rw[eH,AW (CB dne),B1]
        have ge5:wb e0 C (Aa dx) t' s'.heap:=(I5.hok e0 _ H5e).1;have I6:=fX I5 H5e ap.2.2.2 λ_=>trivial
        have H6d:(if dx=e0 then Ae else H5 dx)=Aa (.xd [(f,v)]):=by rw[AA dne,eH,B1]
        have ri:Aw H2 (λb=>if b=e0 then Ae else H5 b):=λb o z=>by
         have nb:b≠e0:=λy=>by rw[y,n0]at z;cases z
         have nb2:b≠dx:=λy=>by rw[y,nd2]at z;cases z
         show (if b=e0 then Ae else H5 b)=Aa o
         rw[AA nb,eH,AW nb2,AW nb];exact z
        refine⟨rfl,t',Aa dx,(ϫ _ I6.kIn).1,ge5,rz pI U _ s' e0 C (Aa dx) t' ⟨c,[(f,d)]⟩ I6 (λhx=>LH I2 hx made.new) (Au rfl) ge5 (λA hA=>⟨C,wt,rfl,.inr ⟨dx,[(f,v)],rfl,λz=>?_,H6d,⟨rfl,?_⟩,trivial⟩⟩) (p3 _ λb o z=>ri _ _ (yy _ _ (x.same b o z)))⟩
        .obtain⟨ys,q,w⟩:=hA dx z;have q':(if dx=e0 then Ae else H5 dx)=Aa ys:=q
         rw[H6d]at q';cases q';exact w
        .exact Rj hA 5 d (VF n 5 d xf (by omega)) (Y6.sub (λ_ z=>z.elim) _ (Y6.same ri ra.1))
section
variable{CL:ClA}{K:Fg}{H:Hp}{A:Ak->Prop}
theorem S9{f:Ah}{d:D}:∀{vs:Ac (Ah×V)}{fs:Ac (Ah×D)},zq K CL H A vs fs->fs.lookup f=Aa d->∃ v,vs.lookup f=Aa v/\Y6 K CL H A v d
 |[],[],_,q=>nomatch q
 |(n,v)::vs,(m,d')::fs,⟨⟨e,r⟩,rs⟩,q=>by
  have e':n=m:=e;subst e';by_cases z:(f==n)=Ab
  .simp only[BM,z]at q ⊢;cases q;exact⟨v,rfl,r⟩
  .simp only[BM,z]at q ⊢;exact S9 rs q
end
theorem gH:∀{ss:Ac Ah}{its:Ac Aj},AZ (ss.map V.str) its->∃ l:Ac (Ah×Ch),its=strValues l/\l.map (·.1)=ss:=by
 intro ss
 induction ss with
 |nil=>intro its v;cases v;exact⟨[],rfl,rfl⟩
 |cons x ss ih=>
  intro its v;cases v with
  |cons v1 v2=>
   obtain⟨t,rfl⟩:=v1;obtain⟨l,e1,e2⟩:=ih v2;exact⟨(x,t)::l,by rw[e1];rfl,by rw[BU,e2]⟩
def yV(K:Fg):V->Ac V->Hp->VK->Prop:=λx xs H Q=>∃ sep q ss,x=.str sep/\xs=[.ref q]/\zr K H q (ss.map V.str)/\KZ sep ss=Ab/\Q (.str (ER sep ss)) H
theorem nN:oo X "str.join" (yV X.K):=by
 intro pI s U H x vs v us Q I rx rv h;obtain⟨sep,l,ss,rfl,rfl,sq,hok,q⟩:=h;obtain⟨t,rfl⟩:=rx;obtain⟨u,rfl,ru⟩:=rv.one;cases ru;obtain⟨its,r,pl,hz⟩:=I.list sq;obtain⟨ls,rfl,rfl⟩:=gH r;unfold KZ at hok;rw[Cn]at hok;refine EK X8 (Gv _ _ _) PySem.F.entry_str_join (PySem.F.args_str_join_2 _ _) (meets_str_join_list sep t l ls hok) ⟨pl.isList,post_join ls ⟨joinFit_length hok,λt' k=>?_⟩⟩
 exact⟨.str _,H,I.kept (t':=k) λ_ _ e=>e,⟨_,rfl⟩,q⟩
theorem dH:∀{es:Ac D}{ss:Ac Ah}{ys:Ac V},MD es=Aa ss->Y9 K CL H A ys es->ys=ss.map V.str:=by
 intro es
 induction es with
 |nil=>
  intro ss ys h r;cases h;cases ys with
  |nil=>rfl
  |cons=>exact r.elim
 |cons e es ih=>
  intro ss ys h r;cases ys with
  |nil=>exact r.elim
  |cons y ys=>
   cases e with
   |str x=>
    have h':(MD es).map (x :: ·)=Aa ss:=h;cases e2:MD es with
    |none=>rw[e2]at h';cases h'
    |some js=>
     rw[e2]at h';cases h';have e1:y=.str x:=r.1;rw[ih e2 r.2,e1];rfl
   |_=>cases h
theorem lJ{y:Aq}{s:Ah}(hy:SE X CL W y fy)(My:BW (.Constant (.str s) k p) "join" X.env (eval (.Constant (.str s) k p) X.env)=eval (.Constant (.str s) k p) X.env)(w6:((Br cpos (At [y] X.env)).all (λx=>!x.1)&&(DY cpos (CO [] X.env)).all (λx=>x.1.isSome)&&decide ([y].length+([]:Ac CK).length+(if ([]:Ac CK).isEmpty then 0 else 1)<30))=Ab)(J7:(apos.endLine==cpos.line)=Ab)(hs:At [y] X.env=[(Ad,eval y X.env)]):
  SE X CL W (.Call (.Attribute (.Constant (.str s) k p) "join" apos) [y] [] cpos) (λY=>(fy Y).bind λx=>zm .sjoin [.str s,x]):=λA=>
 PE.weak (LN X2 X8 PySem.F.type_str_join nN (QR (X:=X) (CL:=CL) (W:=W) A) (Bm (hy A) B9 hs) My w6 J7 hs rfl) λU H Q ⟨hA,Y,g,p⟩=>⟨hA,Y,g,λv H1 s1 r1=>by
  dsimp only at p;have ev:v=.str s:=r1;subst ev;refine⟨rfl,hA.same s1,Y,g.same s1,?_⟩;cases e:fy Y with
  |bad=>rw[e]at p;exact p.elim
  |exn x=>rw[e]at p;exact λH2 s2=>p H2 (s1.trans s2)
  |ok d=>
   rw[e]at p;intro v' H2 s2 r2;have p1:AX (λH=>Y6 X.K CL H A) W H (zm .sjoin [.str s,d]) Q:=p
   cases d with
   |L ds=>
    obtain⟨a,xs,rfl,_,sq,rs⟩:=r2;have p2:AX (λH=>Y6 X.K CL H A) W H (QP s ds) Q:=p1
    unfold QP at p2;cases e3:MD ds with
    |none=>rw[e3]at p2;exact p2.elim
    |some ss=>
     rw[e3]at p2;dsimp only at p2;split at p2
     .rename_i hok;have ex:=dH e3 rs;subst ex;exact⟨s,a,ss,rfl,rfl,sq,hok,p2 _ H2 (s1.trans s2) rfl⟩
     .exact p2.elim
   | _=>exact p1.elim⟩
theorem Sj:∀(l:Ac Ah)(k:Ag),AZ (l.map V.str) (strsFrom k l)
 |[],_=>.nil
 |_::r,k=>.cons ⟨_,rfl⟩ (Sj r (k+1))
section
variable{CL:ClA}
def sI:V->Ac V->Hp->VK->Prop:=λx xs H Q=>∃ z y,x=.str z/\xs=[.str y]/\(y.length==0)=Ad/\JO z y=Ab/\∀ p,H p=Ae->Q (.ref p) (upd H p (.L ((En z y).map V.str)))
theorem fM:oo X "str.split" sI:=by
 intro pI s U H x vs v us Q I rx rv h;obtain⟨z,y,rfl,rfl,hy,hok,q⟩:=h;obtain⟨t,rfl⟩:=rx;obtain⟨u0,rfl,ru⟩:=rv.one;obtain⟨u,rfl⟩:=ru;unfold JO at hok;rw[As]at hok;have z1:z.length<=sizeLine:=by have:=AK hok.1;rw[BE];omega
 have z2:(XI z (EA z y 0 z.length (z.length+1)) y.length).length<=sizeLine:=by have:=AK hok.2;rw[BE];omega
 have one:∀(l:Ac Ah)(its:Ac Aj)(tk:Ag),En z y=l->l.length<=sizeLine->AZ (l.map V.str) its->EP X pI U Q (.ref s.heap.objs.size) { s with heap:=s.heap.push { cls:=.type "list",data:=.seq its.toArray },toks:=tk }:=λl its tk e hl hv=>
  ⟨.ref s.heap.objs.size,_,I.laid (t':=tk) (o:=.L (l.map V.str)) (λb ob q=>Ar _ q) (AQ _) ⟨by rw[Bb];exact hl,its,0,hv,AI _ rfl⟩,rfl,by rw[<-e];exact q _ (I.hok.fresh (AQ _))⟩
 have mj:1<=sizeLine:=by decide
 cases h1:(decide (z.length<y.length)||decide (FO z<FO y))
 .cases hf:(EA z y 0 z.length (z.length+1)).isEmpty
  .exact EK EO (Gv _ _ _) GH (Gb _ _) (meets_str_split_sep z y t u h1 hy hf z1 z2) (one _ _ _ ((AA (HM h1)).trans (AA (HM hf))) z2 (Sj _ _))
  .exact EK EO (Gv _ _ _) GH (Gb _ _) (meets_str_split_not_found z y t u h1 hy hf) (one [z] [.str z t] s.toks ((AA (HM h1)).trans (Au hf)) mj (.cons ⟨_,rfl⟩ .nil))
 .exact EK EO (Gv _ _ _) GH (Gb _ _) (meets_str_split_cannot_occur z y t u h1) (one [z] [.str z t] s.toks (Au h1) mj (.cons ⟨_,rfl⟩ .nil))
theorem Sd{K:Fg}{A:Ak->Prop}:∀ l:Ac Ah,Y9 K CL H A (l.map V.str) (l.map D.str)
 |[]=>trivial
 |_::r=>⟨rfl,Sd r⟩
theorem gL{y:Ah}(ho:ST X CL W o fo)(My:BW o "split" X.env (eval o X.env)=eval o X.env)(J7:(apos.endLine==cpos.line)=Ab):SC X CL W Ab (.Call (.Attribute o "split" apos) [.Constant (.str y) k p] [] cpos) (λY=>(fo Y).bind λx=>zm .ssplit [x,.str y]):=λA=>
 PE.weak (LN X2 EO PySem.F.type_str_split fM (ho A) (Bm (QR (X:=X) (CL:=CL) (W:=W) A) B9 rfl) My rfl J7 rfl rfl) λU H Q ⟨hA,Y,g,q⟩=>⟨hA,Y,g,AX.bind q λd v H1 _ s1 r1 p1=>by
  cases d with
  |str z=>
   have e:=r1.str_of;subst e;refine⟨rfl,hA.same s1,Y,g.same s1,λv' H2 s2 r2=>?_⟩
   have e2:v'=.str y:=r2;subst e2;have p2:AX (B0 X.K CL Ab H A) W H1 (if (!(y.length==0)&&JO z y)=Ab then .ok (.L ((En z y).map D.str)) else .bad) Q:=p1
   split at p2
   .rename_i hk;rw[As,Cn]at hk;exact⟨z,y,rfl,rfl,hk.1,hk.2,λa ha=>p2 _ _ (s2.trans (FW ha _)) (LG (s1.trans s2) ((hA.same s1).same s2) ha (Sd _))⟩
   .exact p2.elim
  | _=>exact p1.elim⟩
theorem vH:Kn X CL W (.type "str") (zm .str):=by
  intro A pI s U H xs us Q I r ⟨hA,ds,rs,p⟩
  match ds,rs,p with
  |[.int i],rs,p=>
    obtain⟨v,rfl,rv⟩:=rs.one;have e:=rv.int_of;subst e;have p2:AX (λH=>Y6 X.K CL H A) W H (if MP i=Ab then .ok (.str (Af (toString i))) else .bad) Q:=p
    split at p2
    · rename_i hk;have nj:i.natAbs<1000:=of_decide_eq_true hk;exact RI pI s U H _ us Q I r ⟨i,rfl,CV (G3 _) (KS nj (by decide)),p2 _ H (Aw.refl H) rfl⟩
    · exact p2.elim
  |[.bl _],_,p=>exact p.elim
  |[],_,p=>exact p.elim
  |[.O],_,p=>exact p.elim
  |[.str _],_,p=>exact p.elim
  |[.H _],_,p=>exact p.elim
  |[.L _],_,p=>exact p.elim
  |[.obj _ _],_,p=>exact p.elim
  |[.exc _ _],_,p=>exact p.elim
  |[.dic _],rs,p=>first|exact p.elim|(obtain⟨v,rfl,rv⟩:=rs.one;exact rv.plain.elim)
  |x::_::_,_,p=>cases x<;>exact p.elim
end
structure am (K:Fg) (C:Ak):Prop where
 cl:we K C
 np:Fv K C "p"
 nt:Fv K C "triple"
 ha:Ap K (.ref C) "__class__" = Aa (Aa (.builtin "object.__class__"))
 hn:DN K (.builtin "object.__class__") "__get__" = Aa (Aa (.builtin "getset_descriptor.__get__"))
 htk:YH K (.builtin "object.__class__")=Aa Ab
 hm:Cq K C (.type "object")=Aa Ab
theorem Py{K:Fg}{CL:ClA}{A:Ak->Prop}{f:Ah}:∀{vs:Ac (Ah×V)}{fs:Ac (Ah×D)},zq K CL H A vs fs->fs.lookup f=Ae->vs.lookup f=Ae
 |[],[],_,_=>rfl
 |v::vs,(n,d)::fs,h,q=>by
  obtain⟨⟨e,_⟩,h2⟩:=h;obtain⟨m,y⟩:=v;have e':m=n:=e;subst e';by_cases z:(f==m)=Ab
  .simp only[BM,z]at q;cases q
  .have z':(f==m)=Ad:=by simpa using z
   simp only[BM,z']at q ⊢;exact Py h2 q
 |[],_::_,h,_=>h.elim
 |_::_,[],h,_=>h.elim
section
variable{CL:ClA}{K:Fg}{H:Hp}{A:Ak->Prop}{x C dx:Ak}{vs:Ac (Ah×V)}{o:HO}
mutual
theorem U_5(hx:H x=Aa (.ins C dx vs)):∀(n:Ag)(d:D){v:V},wq n d=Ab->Y6 K CL H A v d->Y6 K CL (upd H x o) A v d
 |_,.O,_,_,h=>h
 |_,.bl _,_,_,h=>h
 |_,.int _,_,_,h=>h
 |_,.str _,_,_,h=>h
 |0,.H _,_,hn,_=>by cases hn
 |n+1,.H ds,_,hn,h=>by
  obtain⟨a,xs,e,na,s,r⟩:=h;refine⟨a,xs,e,na,?_,ur hx n ds hn r⟩;rcases s with s|s
  .rcases s with s|⟨ob,s⟩
   .exact .inl (.inl (by rw[AW λz=>by rw[z,hx]at s;cases s];exact s))
   .exact .inl (.inr ⟨ob,by rw[AW λz=>by rw[z,hx]at s;cases s];exact s⟩)
  .exact .inr s
 |n,.L _,_,hn,_=>by cases n<;>cases hn
 |n,.obj _ _,_,hn,_=>by cases n<;>cases hn
 |n,.exc _ _,_,hn,_=>by cases n<;>cases hn
 |n,.dic _,_,hn,_=>by cases n<;>cases hn
theorem ur(hx:H x=Aa (.ins C dx vs)):∀(n:Ag)(ds:Ac D){us:Ac V},ds.all (wq n)=Ab->Y9 K CL H A us ds->Y9 K CL (upd H x o) A us ds
 |_,[],[],_,h=>h
 |n,d::ds,_::_,hn,h=>by
  simp only[DO,As]at hn;exact⟨U_5 hx n d hn.1 h.1,ur hx n ds hn.2 h.2⟩
 |_,[],_::_,_,h=>h.elim
 |_,_::_,[],_,h=>h.elim
end
theorem Ul{v:V}{fs:Ac (Ah×D)}(r:CG K CL H A v (.obj c fs)):∃ a C dx vs,v=.ref a/\¬ A a/\OC K c=Aa C/\H a=Aa (.ins C dx vs)/\zq K CL H A vs fs:=by
 rcases r with r|⟨a,xs,ds,_,z,_⟩
 .exact r
 .cases z
end
section
variable{a:Aq}
theorem qB{f:Ah}(ho:∀ c C,OC X.K c=Aa C->we X.K C/\Fv X.K C f)(ha:ST X CL W a fa)(hb:BW a f X.env (eval a X.env)=eval a X.env):SE X CL W (.Attribute a f pos) (λY=>(fa Y).bind λx=>Ϲ x f):=λA=>by
 intro pI s U H Q I ⟨hA,Y,gd,q⟩;refine Uo hb (J5 (ha A pI s U H _ I ⟨hA,Y,gd,AX.bind q (Q':=λv H1=>∃ d,CG X.K CL H1 A v d/\AX (λH2=>Y6 X.K CL H2 A) W H1 (Ϲ d f) Q) λd v H1 _ s1 r1 p1=>⟨d,r1,p1⟩⟩) λu s1 ⟨v,H1,I1,rv,d,rp,p1⟩=>?_)
 cases d with
 |obj c fs=>
  have p2:AX (λH2=>Y6 X.K CL H2 A) W H1 (match fs.lookup f with|some d=>.ok d|none=>.bad) Q:=p1
  cases el:fs.lookup f with
  |none=>rw[el]at p2;exact p2.elim
  |some d=>
   rw[el]at p2;obtain⟨e,C,dx,vs,rfl,_,hc,hH,rf⟩:=Ul rp;obtain⟨y,l,ry⟩:=S9 rf el;cases rv;obtain⟨k1,k2⟩:=ho c C hc;exact RS I1 hH k1 k2 l λu s' I2 ru=>⟨y,H1,I2,ru,p2 y H1 (Aw.refl H1) ry⟩
 |_=>exact p1.elim
theorem lH{F:Ag->Ac D->R D}(hr:PP k X.A)(hx:∀ A,G7 (CXR X.prog X.w) X (EKW X.K CL A W))(ha:ST X CL W a fa)(hms:∀ c id C,ms.lookup c=Aa id->OC X.K c=Aa C->∃ f fd ps fr,we X.K C/\zf X.K C m f/\Cv X.K fd ps []/\Y0 X.prog X.w X.K X.mg X.base (CXR X.prog X.w) k f fd ps (spD X.K CL 1 fr (F id)))(My:BW a m X.env (eval a X.env)=eval a X.env)(J7:(apos.endLine==pos.line)=Ab):SE X CL W (.Call (.Attribute a m apos) [] [] pos) (λY=>(fa Y).bind λx=>Lj F m ms x):=λA=>by
 intro pI s U H Q I ⟨hA,Y,gd,q⟩;rw[FG,My];refine Al (J5 (ha A pI s U H (λv H1=>Aw H H1/\∃ d,CG X.K CL H1 A v d/\AX (λH2=>Y6 X.K CL H2 A) W H1 (Lj F m ms d) Q) I ⟨hA,Y,gd,AX.bind q λd v H1 _ s1 r1 p1=>⟨s1,d,r1,p1⟩⟩) λu s1 ⟨v,H1,I1,rv,Ζ,d,rp,p1⟩=>?_)
 refine Al (CJ ?_);have yt:DZ (([]:Ac Aq).length+([]:Ac CK).length) (Br pos (At [] X.env)) (DY pos (CO [] X.env))=Ab:=rfl;have wj:CI Ab a X.env apos pos=pure pos:=by
  unfold CI;simp[J7]
 unfold Hm;rw[yt];cases d with
 |obj c fs=>
  have p2:AX (λH2=>Y6 X.K CL H2 A) W H1 (match ms.lookup c with|some id=>if (fs.lookup m).isNone=Ab then F id [.obj c fs] else .bad|none=>.bad) Q:=p1
  cases el:ms.lookup c with
  |none=>rw[el]at p2;exact p2.elim
  |some id=>
   rw[el]at p2;dsimp only at p2;split at p2
   .rename_i hn;obtain⟨e,C,dx,vs,rfl,na,hc,hH,rf⟩:=Ul rp;obtain⟨f,fd,ps,fr,cl,me,hb,G⟩:=hms c id C el hc;cases rv;refine Al (BA (M8 I1 hH cl me (Py rf (F1.mp hn)) ?_));refine Al (Eo wj ?_);refine HJ (first:=[.ref e]) I1.kIn me.kp (Nm (us:=[.ref e]) (vs:=[.ref e]) G hr hb .nil (hx A) I1 (.cons rfl .nil) ?_)
    refine⟨[.obj c fs],A,rfl,hA.same Ζ,⟨⟨e,C,dx,vs,rfl,na,hc,hH,rf⟩,trivial⟩,?_⟩;cases e2:F id [.obj c fs] with
    |ok d=>rw[e2]at p2;exact λv H2 s2 r2=>p2 v H2 s2 r2.1
    |exn y=>rw[e2]at p2;exact λcls dx H2 s2 xr=>⟨y,xr,p2 H2 s2⟩
    |bad=>rw[e2]at p2;exact p2.elim
   .exact p2.elim
 |_=>exact p1.elim
def È(K:Fg)(CL:ClA)(G:Ac D->R D):Sp:=λvs H Q _=>∃(x C dx:Ak)(us:Ac V)(ds:Ac D)(A:Ak->Prop)(H0:Hp),vs=.ref x::us/\us.length=2/\we K C/\Fv K C "p"/\Fv K C "triple"/\H x=Aa (.ins C dx [])/\H0 x=Ae/\Aw H0 H/\J4 H0 A/\Y9 K CL H0 A us ds/\(match G ds with
  |.ok d=>∀ d1 d2,d=.H [d1,d2]->∀ v1 v2 H',Aw H0 H'->H' x=Aa (.ins C dx [("p",v1),("triple",v2)])->Y6 K CL H' A v1 d1->Y6 K CL H' A v2 d2->Q .O H'
  | _=>AN)
theorem Uc(p:AX Rp W H (ES c d) Q):∃ d1 d2,d=.H [d1,d2]/\ES c d=.ok (.obj c [("p",d1),("triple",d2)]):=by
  cases d with
  |H ds=>
    match ds,p with
    |[],p=>exact p.elim
    |[_],p=>exact p.elim
    |_::_::_::_,p=>exact p.elim
    |[a,b],p=>
      refine⟨a,b,rfl,?_⟩;have p2:AX Rp W H (if wq 5 b=Ab then .ok (.obj c [("p",a),("triple",b)]) else .bad) Q:=p
      show (if wq 5 b=Ab then R.ok (D.obj c [("p",a),("triple",b)]) else .bad)=_
      split at p2
      · rename_i z;rw[Au z]
      · exact p2.elim
  |_=>exact p.elim
theorem lI{pos:AH}(M:Mk X.K C f)(ű:OC X.K c=Aa C)(o:am X.K C)(FI:Y0 X.prog X.w X.K X.mg X.base (CXR X.prog X.w) k f fd ["self", "p", "numbers"] (È X.K CL G))(hr:PP (k+1) X.A)(hb:Cv X.K fd ["self", "p", "numbers"] [])(hx:∀ A,G7 (CXR X.prog X.w) X (EKW X.K CL A W))(hF:∀ ds,ds.length=2->F ds=.bad\/F ds=(G ds).bind (ES c))(hG:∀ ds y,G ds≠.exn y)(hg:Gl X g)(hm:X.mg g=Aa (.ref C))(zh:(g==("__debug__" : Ah))=Ad)(ha:SA X CL W (e::es) fs)(hn:∀ Y ds,fs Y=.ok ds->ds.length=2)(he:At (e::es) X.env=(Ad,eval e X.env)::At es X.env)(zj:(Br pos (At es X.env)).any (·.1)=Ad):SE X CL W (.Call (.Name g np) (e::es) [] pos) (λY=>(yu (fs Y)).bind λds=>F ds):=λA=>by
 intro pI s U H Q I ⟨hA,Y,gd,p⟩;dsimp only at p;refine DC (JG I hg hm ?_ zh);have q1:=ha A pos pI s U H (λvs H1=>∃ ds,Aw H H1/\ds.length=2/\Y9 X.K CL H1 A vs ds/\AX (λH=>Y6 X.K CL H A) W H (F ds) Q) I ⟨hA,Y,gd,by
  cases e1:fs Y with
  |bad=>rw[e1]at p;exact p
  |exn y=>rw[e1]at p;exact p.elim
  | ok ds=>rw[e1]at p;exact λvs H1 s1 r1=>⟨ds,s1,hn Y ds e1,r1,p⟩⟩
 refine CZ (h₀:=X.base) I.ok.mod.kin M.kp (J5 q1 λus s1 ⟨vs,H1,I1,r,ds,sm,hl,ra,q⟩=>⟨I1.kIn,?_⟩) he zj
 rcases hF ds hl with z|z
 .rw[z]at q;exact q.elim
 .rw[z]at q;cases e2:G ds with
  |bad=>rw[e2]at q;exact q.elim
  |exn y=>exact absurd e2 (hG ds y)
  |ok d=>
   rw[e2]at q;have q':AX (λH=>Y6 X.K CL H A) W H (ES c d) Q:=q
   obtain⟨d1,d2,rfl,em⟩:=Uc q';rw[em]at q';refine Qf (Q:=Q) (E:=EKW X.K CL A W) M FI hr hb .nil (hx A) I1 r λx dx nx lq ne=>?_
   refine⟨x,C,dx,vs,ds,A,H1,by rw[Bp],by rw[ra.length];exact hl,o.cl,o.np,o.nt,B1,nx,λb ob h=>?_,hA.same sm,ra,?_⟩
   .have n1:b≠x:=λz=>by rw[z,nx]at h;cases h
    have n2:b≠dx:=λz=>by rw[z,lq]at h;cases h
    rw[AW n1,AW n2];exact h
   .rw[e2];exact λe1 e3 ee v1 v2 H' yy ϱ r1 r2=>by
     cases ee;exact⟨rfl,q' _ H' (sm.trans yy) ⟨x,C,dx,_,rfl,(hA.same sm).new nx,ű,ϱ,⟨⟨rfl,r1⟩,⟨rfl,r2⟩,trivial⟩⟩⟩
theorem cU{id:Ag}{t0:Cx}{x:Ak}(Y5:∀ p,PE X (.Name "self" p) (BS 0))(pp:∀ p,PE X (.Name "p" p) (BS 1))(hv:SE X CL W ev (λY=>evE J Y (.call id (.cons (.v 1) (.cons (.v 2) .nil)))))(hs:Dp ev (Aa (.Attribute (.Name "self" p3) "triple" p4)) p5.line X.env=pure Ad):
    ∃ t,zc X [.Assign [.Attribute (.Name "self" p0) "p" p1] (.Name "p" p2) p6,.Assign [.Attribute (.Name "self" p3) "triple" p4] ev p5] t /\
      (U=[Aa (.ref x),Aa v1,Aa v2]->we X.K C->Fv X.K C "p"->Fv X.K C "triple"->H x=Aa (.ins C dx [])->H0 x=Ae->Aw H0 H->J4 H0 A->Y6 X.K CL H0 A v1 d1->Y6 X.K CL H0 A v2 d2 ->
        (∃ t,J.F id [d1,d2]=.ok t/\wq 5 t=Ab/\∀ w1 w2 H',Aw H0 H'->H' x=Aa (.ins C dx [("p",w1),("triple",w2)])->Y6 X.K CL H' A w1 d1->Y6 X.K CL H' A w2 t->Q .O H')->t {nx:=λ_ H'=>Q .O H',rt:=Q} U H):=by
  have all:=CF (JC (X:=X) (f := "p") (pos:=p6) (pos':=p1) (Y5 p0) (pp p2) rfl) (DE (JC (X:=X) (f := "triple") (pos:=p5) (pos':=p4) (Y5 p3) (hv A) hs));refine⟨_,all,?_⟩;rintro rfl cl np nt hx h0 sm hA r1 r2 ⟨t,ef,hnl,q⟩;have nx:∀ b o,H0 b=Aa o->b≠x:=λb o e z=>by rw[z,h0]at e;cases e
  have yy:Aw H0 (upd H x (.ins C dx (FY "p" v1 []))):=λb o e=>by rw[AW (nx b o e)];exact sm b o e
  refine⟨v1,rfl,.ref x,rfl,x,C,dx,[],rfl,hx,cl,np,by decide,hA.same yy,[Ae,Aa (d1,Ad),Aa (d2,Ad)],⟨λi d h=>?_,λi d h=>?_,rfl⟩,?_⟩
  · match i,h with
    |0,h=>cases h
    |1,h=>cases h;exact⟨v1,rfl,Y6.same yy r1⟩
    |2,h=>cases h;exact⟨v2,rfl,Y6.same yy r2⟩
    |n+3,h=>cases h
  · match i,h with
    |0,h=>cases h
    |1,h=>cases h
    |2,h=>cases h
    |n+3,h=>cases h
  · have ee:evE J [Ae,Aa (d1,Ad),Aa (d2,Ad)] (.call id (.cons (.v 1) (.cons (.v 2) .nil)))=.ok t:=by
      show ((J.F id [d1,d2]).bind λd=>.ok d)=_
      rw[ef];rfl
    dsimp only;rw[ee];intro w2 H3 s3 r3;have hx3:H3 x=Aa (.ins C dx [("p",v1)]):=s3 _ _ B1;refine⟨.ref x,rfl,x,C,dx,[("p",v1)],rfl,hx3,cl,nt,show 1<1000 by decide,?_⟩
    have wa:Aw H0 (upd H3 x (.ins C dx (FY "triple" w2 [("p",v1)]))):=λb o e=>by rw[AW (nx b o e)];exact s3 _ _ (yy b o e)
    exact q v1 w2 _ wa B1 (Y6.same wa r1) (U_5 hx3 5 t hnl r3)
end
def sJ(K:Fg)(CL:ClA):V->Ac V->Hp->VK->Prop:=λx vs H Q=>∃ l xs ds v d j,x=.ref l/\vs=[v]/\zr K H l xs/\Y9 K CL H A0 xs ds/\Y6 K CL H A0 v d/\J8 5 d=Ab/\ds.all (J8 5)=Ab/\(ds.findIdx? λy=>J0 y d)=Aa j/\Q (.int (j:Ag)) H
theorem fN(hu:X.A.units+64<BD):oo X "list.index" (sJ X.K CL):=by
 intro pI s U H x vs v us Q I rx rv h;obtain⟨l,xs,ds,y,d,j,rfl,rfl,sq,rs,ry,h1,h2,hj,q⟩:=h;cases rx;obtain⟨u,rfl,ru⟩:=rv.one;obtain⟨its,r,pl,hz⟩:=I.list sq;obtain⟨⟨c,dct,dt,sl⟩,n,e,hc,hd,ng⟩:=pl;obtain⟨f,hf,hn⟩:=Vn I (n:=5) X.A.in1 h1 h2 rs r ry ru (by show X.A.units+1+5<BD;omega)
 replace hc:c=.type "list" := hc;replace ng:dt=.seq its.toArray n:=ng;subst hc ng;have hl:its.length=ds.length:=by rw[<-r.length,rs.length]
 obtain⟨g1,g2,g3⟩:=List.findIdx?_eq_some_iff_getElem.mp hj;have gd:∀ m (h:m<ds.length),ds.getD m .O=ds[m]:=λm h=>by rw[Du,Cr h];rfl
 have hzl:its.length<=sizeLine:=by rw[hl,<-rs.length];exact hz
 have zl:sizeLine<2 ^ 62:=by decide
 refine EK X7 ⟨_,e,rfl⟩ PySem.F.entry_list_index (PySem.F.args_list_index_2 _ _) (SeqAt.list_indexAt l its.toArray n dct sl u f j (by rw[AL];omega) (by omega) ?_ ?_) ⟨e,hf,?_⟩
 .have:=hn j (by omega)
  rw[gd j g1]at this;simpa [g2] using this
 .intro m hm hmj;have ju:m<its.length:=by rw[AL]at hm;exact hm
  have:=hn m ju;rw[gd m (by omega)]at this
  have h3:J0 ds[m] d=Ad:=by
   have:=g3 m hmj;simpa using this
  rw[h3]at this;simpa using this
 .exact⟨.int _,H,I.tok _,⟨_,rfl⟩,q⟩
theorem gN{X:Cx}{CL:ClA}{W:XW}{y:Aq}(hu:X.A.units+64<BD)(ho:ST X CL W o fo)(hy:ST X CL W y fy)(hny:∀ Y e,fy Y≠.exn e)(My:BW o "index" X.env (eval o X.env)=eval o X.env)(w6:((Br cpos (At [y] X.env)).all (λx=>!x.1)&&(DY cpos (CO [] X.env)).all (λx=>x.1.isSome)&&decide ([y].length+([]:Ac CK).length+(if ([]:Ac CK).isEmpty then 0 else 1)<30))=Ab)(J7:(apos.endLine==cpos.line)=Ab)(hs:At [y] X.env=[(Ad,eval y X.env)]):
  SE X CL W (.Call (.Attribute o "index" apos) [y] [] cpos) (λY=>(fo Y).bind λx=>(fy Y).bind λd=>match x with | .L xs=>OK xs d|_=>.bad):=λA=>
 PE.weak (LN Dj X7 PySem.F.type_list_index (fN (CL:=CL) hu) (ho A) (Bm (hy A) B9 hs) My w6 J7 hs rfl) λU H Q ⟨hA,Y,g,p⟩=>⟨hA,Y,g,AX.bind p λd v H1 _ s1 r1 p1=>by
  have nb:∀{f:D->R D},(∀ d,f d=.bad)->AX (λH=>Y6 X.K CL H A) W H1 ((fy Y).bind f) Q->AN:=λ{f} hf z=>by
   cases e:fy Y with
   |ok d2=>rw[e]at z;have z':AX (λH=>Y6 X.K CL H A) W H1 (f d2) Q:=z;rw[hf]at z';exact z'
   |exn e'=>exact hny Y e' e
   |bad=>rw[e]at z;exact z
  cases d with
  |L ds=>
   obtain⟨a,xs,rfl,sq,rs⟩:=r1.lst_of;refine⟨.inl ⟨rfl,xs,sq⟩,hA.same s1,Y,g.same s1,AX.bind p1 λd2 v' H2 _ s2 r2 p2=>?_⟩
   have r3:Y6 X.K CL H2 A0 (.ref a) (.L ds):=(CG.same s2 r1).plain;obtain⟨a',Ψ,e',_,sq',uu⟩:=r3;cases e';replace p2:AX (λH=>Y6 X.K CL H A) W H2 (OK ds d2) Q:=p2
   unfold OK at p2;split at p2
   .rename_i h;simp only[As]at h;cases e3:ds.findIdx? λy=>J0 y d2 with
    |none=>rw[e3]at p2;exact p2.elim
    |some j=>
     rw[e3]at p2;exact⟨a,Ψ,ds,v',d2,j,rfl,rfl,sq',uu,r2.plain,h.1,h.2,e3,p2 _ H2 (Aw.refl H2) rfl⟩
   .exact p2.elim
  | _=>exact(nb (λ_=>rfl) p1).elim⟩
theorem dM{y:Aq}(hu:X.A.units+64<BD)(ho:ST X CL W o fo)(hy:SE X CL W y (λ_=>.ok (.bl j)))(My:BW o "count" X.env (eval o X.env)=eval o X.env)(w6:((Br cpos (At [y] X.env)).all (λx=>!x.1)&&(DY cpos (CO [] X.env)).all (λx=>x.1.isSome)&&decide ([y].length+([]:Ac CK).length+(if ([]:Ac CK).isEmpty then 0 else 1)<30))=Ab)(J7:(apos.endLine==cpos.line)=Ab)(hs:At [y] X.env=[(Ad,eval y X.env)]):
  SE X CL W (.Call (.Attribute o "count" apos) [y] [] cpos) (λY=>(fo Y).bind λx=>zm .count [x,.bl j]):=λA=>
 PE.weak (LN Dj X6 PySem.F.type_list_count (fO (CL:=CL) hu) (ho A) (Bm (hy A) B9 hs) My w6 J7 hs rfl) λU H Q ⟨hA,Y,g,p⟩=>⟨hA,Y,g,AX.bind p λd v H1 _ s1 r1 p1=>by
  cases d with
  |L ds=>
   obtain⟨a,xs,rfl,sq,rs⟩:=r1.lst_of;refine⟨.inl ⟨rfl,xs,sq⟩,hA.same s1,Y,g.same s1,λv' H2 s2 r2=>?_⟩
   have r3:Y6 X.K CL H2 A0 (.ref a) (.L ds):=(CG.same s2 r1).plain;obtain⟨a',Ψ,e',_,sq',uu⟩:=r3;cases e';replace p1:AX (λH=>Y6 X.K CL H A) W H1 (if (J8 5 (.bl j)&&ds.all (J8 5))=Ab then .ok (.int ((ds.filter λy=>J0 y (.bl j)).length:Ag)) else .bad) Q:=p1
   split at p1
   .rename_i h;simp only[As]at h;have e2:v'=.bl j:=r2;subst e2;exact⟨a,Ψ,ds,.bl j,.bl j,rfl,rfl,sq',uu,rfl,h.1,h.2,p1 _ H2 s2 rfl⟩
   .exact p1.elim
  | _=>exact p1.elim⟩
end Ov
namespace Ov
end Ov
namespace Ov
open PySem PySem.Spec PyProof.Rows L2
theorem noF{P:Prop}(h:Ad=Ab):P:=nomatch h
structure Tc where
 sc:Cf
 N:Ac Ah
 fns:Ac (Ah×Ag×Ag)
 bl:Ac Ah
 rzs:Ac (Ah×Ag)
 exs:Ac (Ah×Ag)
 gls:Ac (Ah×Ag)
 tp:Ao
 cm:Ao
noncomputable def Rw(T:Tc)(x:Ah):Ao:=match T.sc.names.lookup x with
  |some .local=>Ab
  |some .cell=>Ab
  |some .free=>Ab
  |_=>Ad
noncomputable def LY(T:Tc)(x:Ah):Ao:=match T.sc.names.lookup x with
  |some .local=>Ab
  |some .cell=>Ab
  |_=>Ad
noncomputable def xj(T:Tc)(x:Ah):Ao:=T.sc.names.lookup x==Aa .globalImplicit
noncomputable def IK(x:Ah):Ao:=(!(x==("__debug__" : Ah)) && !(x==("__classdict__" : Ah)) && !(x==("__name__" : Ah)))&&(Gk.lookup x).isNone
def ò(T:Tc)(x:Ah)(i:Ag):Ao:=T.N[i]? == Aa x&&Rw T x&&IK x
def vm(T:Tc)(x:Ah):Ao:=T.bl.contains x&&xj T x&&IK x
theorem Be(h:(a&&b)=Ab):a=Ab/\b=Ab:=(As a b).mp h
theorem Ž(h:(a||b)=Ab):a=Ab\/b=Ab:=(Ca a b).mp h
noncomputable def Ge:Aq->Ao
 |.Starred _ _=>Ad
 |_=>Ab
noncomputable def Ua:Aq->Ao
 |.Slice _ _ _ _=>Ad
 |_=>Ab
noncomputable def OH:Aq->Ao
 |.Set _ _ _=>Ad
 |_=>Ab
noncomputable def FV:Aq->Ao
 |.ListComp _ _ _ _=>Ad
 |.SetComp _ _ _ _=>Ad
 |.DictComp _ _ _ _ _=>Ad
 |_=>Ab
noncomputable def VZ:Aq->Ao
 |.Tuple _ _ _=>Ad
 |_=>Ab
noncomputable def PB:Aq->Ao
 |.UnaryOp _ _ _=>Ad
 |.BoolOp _ _ _=>Ad
 |.IfExp _ _ _ _=>Ad
 |.Compare _ _ _ _=>Ad
 |_=>Ab
noncomputable def Rk:Ki->Am Ah
 |.int=>Aa "int"
 |.bool=>Aa "bool"
 |.str=>Aa "str"
 |.list=>Aa "list"
 |.tuple=>Aa "tuple"
 |_=>Ae
noncomputable def Q8(o scope:Cf):Cf:={scope with names:=scope.names.map λ(n,k)=>if (k==.free&&o.kind==.function&&o.names.lookup n==Aa .cell) then (n,.cell) else (n,k)}
noncomputable def NB:Ac Ag->Ac Ah->Ac Ah->Ac Ah
 |t::ts,x::xs,N=>NB ts xs ((N.map λy=>if y==x then N.getD t x else y).set t x)
 |_,_,N=>N
noncomputable def Kl:Ac Ah->Ao
 |[]=>Ab
 |x::xs=>!xs.contains x&&Kl xs
def O8(T:Tc)(scope:Cf)(ts:Ac Ag)(N':Ac Ah):Ao:=
  scope.kind==.function&&scope.names.all (λy=>scope.names.lookup y.1==Aa y.2) &&
  scope.names.all (λy=>y.2 != .free||T.sc.names.lookup y.1==Aa .cell||T.sc.names.lookup y.1==Aa .free) &&
  N'.length==T.N.length&&Kl N' &&
  (B2 N'.length).all λi=>ts.contains i||(match N'[i]? with
    |some x=>(scope.names.lookup x != Aa .local&&scope.names.lookup x != Aa .cell)&&(scope.names.lookup x != Aa .free||T.N[i]? == Aa x)
    | none=>Ab)
noncomputable def Hr:Ac Aq->Am (Ac Ah)
 |[]=>Aa []
 |.Name x _::r=>(Hr r).map (x :: ·)
 |_=>Ae
def mv(ys:Ac Aq):Ac Ah:=(Hr ys).getD []
noncomputable def tgO(T:Tc)(scope:Cf)(t:Ag)(x:Ah):Ao:=T.N[t]? == Aa x&&(T.sc.names.lookup x==Aa .local||(T.sc.names.lookup x==Aa .cell&&scope.names.lookup x==Aa .cell))
def qa(T:Tc):Ac Ag->Ac Ah->Ao
 |[],[]=>Ab
 |t::ts,x::xs=>T.N[t]? == Aa x&&LY T x&&qa T ts xs
 |_,_=>Ad
def Tc.blk(T:Tc)(scope:Cf)(ts:Ac Ag)(xs:Ac Ah):Tc:={T with sc:=Q8 T.sc scope,N:=NB ts xs T.N,tp:=Ad}
noncomputable def MG:Aq->Ao
 |.Call _ [] _ _=>Ad
 |_=>Ab
theorem Nk(h:MG o=Ab):BW o f env w=w:=by
 cases o with
 |Call g as ks p=>
  cases as with
  |nil=>cases h
  |cons=>cases g<;>rfl
 |_=>rfl
noncomputable def j9(l:Ac (Ah×Ag))(g:Ah)(c:Ag):Ao:=l.any λp=>p.1==g&&p.2==c
def ocB(T:Tc)(t:Ah)(k:Ag):Ao:=t==LX k&&decide (k<3)&&xj T t&&IK t
noncomputable def LR:Aq->Am (Ah×AH)
 |.Name x p=>Aa (x,p)
 |_=>Ae
theorem Mn(h:LR e=Aa t):e=.Name t.1 t.2:=by
 cases e with
 |Name x p=>cases h;rfl
 |_=>exact nomatch (show Ae=Aa t from h)
noncomputable def O1{α:Type}:Ac α->Am (α×α)
 |[a,b]=>Aa (a,b)
 |_=>Ae
theorem Qr(h:O1 l=Aa t):l=[t.1,t.2]:=by
 cases l with
 |nil=>exact nomatch (show Ae=Aa t from h)
 |cons a l=>
  cases l with
  |nil=>exact nomatch (show Ae=Aa t from h)
  |cons b l=>
   cases l with
   |nil=>cases h;rfl
   |cons=>exact nomatch (show Ae=Aa t from h)
noncomputable def Wf:Aq->Am (Aq×Ac Aq×AH)
  | .Call f as ks p=>(match ks with
    |[]=>Aa (f,as,p)
    | _=>Ae)
  |_=>Ae
theorem iX(h:Wf e=Aa t):e=.Call t.1 t.2.1 [] t.2.2:=by
 cases e with
 |Call f as ks p=>
  cases ks with
  |nil=>cases h;rfl
  |cons=>exact nomatch (show Ae=Aa t from h)
 |_=>exact nomatch (show Ae=Aa t from h)
structure XT (up:Ag->Ac Ag) (xn:Ag->Ac D->R Ex) (CL:ClA) (rzs exs:Ac (Ah×Ag)) (K:Fg) (mg:Ah->Am Aj):Prop where
 xc:∀ c C,CL c=Aa C->yc K C
 rz:∀ p∈rzs,∃ C,CL p.2=Aa C/\mg p.1=Aa (.ref C)
 ex:∀ p∈exs,∃ C,mg p.1=Aa (.ref C)/\Vu K CL up p.2 C/\∀ c D,CL c=Aa D->BV K (.ref D) (.ref C)=Aa ((up c).contains p.2)
 made:∀ c C ds,CL c=Aa C->xn c ds=.bad\/(xn c ds=.ok ⟨c,[]⟩/\D0 K C Ae=Ab)\/∃ f,kv K mg C f/\NA xn c f ds
 nf:∀ c C,CL c=Aa C->∀ f:Ah,(f==("triple" : Ah)||(f==("points" : Ah)||f==("row" : Ah)))=Ab->Ks K C=Ab/\Ap K (.ref C) f=Aa Ae
 xb:∀ c,(∀ p∈rzs,p.2≠c)->∀ ds,xn c ds=.bad
def KD(K:Fg)(mg:Ah->Am Aj)(CL:ClA)(x:Ah)(d:D):Prop:=∃ u v,mg x=Aa u/\BB v u/\∀ H A,Y6 K CL H A v d
structure OS (K:Fg) (mg:Ah->Am Aj):Prop where
 oc:∀ c C,OC K c=Aa C->am K C
 kit:∀ c C c' C',OC K c=Aa C->OC K c'=Aa C'->CN K (.ref C) (.ref C')=Aa ((oup c).contains c')
 at_:∀ c,c<3->∃ C,OC K c=Aa C/\mg (LX c)=Aa (.ref C)
 mf:∀ c C m f,OC K c=Aa C->(m==("told" : Ah)||m==("shown" : Ah))=Ab->Ap K (.ref C) m=Aa (Aa (.ref f))->Bw K (.ref f)=Ab
def Ý(P:AG)(w:AD)(K:Fg)(mg:Ah->Am Aj)(base:AC)(CL:ClA)(F:Ag->Ac D->R D)(k c:Ag):Prop:=(∀ ds,F (900+c) ds=.bad)\/∃ C f fd G k',OC K c=Aa C/\Mk K C f/\Cv K fd ["self", "p", "numbers"] []/\k'+1=k/\Y0 P w K mg base (CXR P w) k' f fd ["self", "p", "numbers"] (È K CL G)/\(∀ ds,ds.length=2->F (900+c) ds=.bad\/F (900+c) ds=(G ds).bind (ES c))/\∀ ds y,G ds≠.exn y
structure VX (J:J9) (CL:ClA) (k:Ag) (W:XW) (T:Tc) (X:Cx):Prop where
 sc:X.env.scope=T.sc
 kd:T.sc.kind=.function
 N:X.N=T.N
 nd:T.N.Nodup
 un:X.A.units+64<BD
 calm:T.cm=Ab->X.calm=Ab
 room:T.cm=Ab->PP k X.A
 hot:T.cm=Ad->W=W0/\∃ X0 e,X=Cx.hot X0 e/\PP k X0.A
 bl:∀ x,x∈T.bl->X.mg x=Ae
 os:OS X.K X.mg
 mkr:∀ c,c<3->Ý X.prog X.w X.K X.mg X.base CL J.F k c
 fn:∀ p∈T.fns,∃ f fd ps,JL X.K X.mg p.1=Aa (.ref f)/\AM X.K (.ref f)=Ab/\Cv X.K fd ps []/\ps.length=p.2.2%1000/\(p.2.2<1000->Y0 X.prog X.w X.K X.mg X.base (CXR X.prog X.w) k f fd ps (spD X.K CL (p.2.2%1000) (J.fr p.2.1) (J.F p.2.1)))/\(1000<=p.2.2->wz X.prog X.w X.K X.mg X.base k f fd ps (spH X.K CL (p.2.2%1000) (J.fr p.2.1) (J.F p.2.1)))
 own:T.cm=Ab->Gd (model X.prog X.w) X.A X.env X.xe
 px:∀ A,G7 (CXR X.prog X.w) X (EKW X.K CL A W)
 rz:NN X CL W
 xt:XT J.up J.xn CL T.rzs T.exs X.K X.mg
 gl:∀ p∈T.gls,KD X.K X.mg CL p.1 (J.G p.2)
 ex:T.tp=Ab->X.ex=[]
theorem QN:∀ A,G7 (CXR X.prog X.w) X (EKW X.K CL A W0):=λA pI U H s ev s' I h=>by
 obtain⟨e,T,cls,dx,H',_,_,_,_,_,_,_,_,_,_,x,_,w⟩:=h;exact w.elim
theorem Rx:NN X CL W0:=λ_ _ _ _ _ _ _ _ _ _ _ _ _ _ z=>z.elim
def Rf{α:Type}(g f:Rho->R α):Prop:=∀ Y,g Y=.bad\/g Y=f Y
theorem SE.ref(h:SE X CL W a f)(r:Rf g f):SE X CL W a g:=λA=>PE.weak (h A) λU H Q ⟨hA,Y,q,p⟩=>⟨hA,Y,q,by
 rcases r Y with e|e
 .rw[e]at p;exact p.elim
 .rw[e]at p;exact p⟩
theorem SB.ref(h:SB X CL W a f)(r:Rf g f):SB X CL W a g:=λA=>PT.weak (h A) λU H Q ⟨hA,Y,q,p⟩=>⟨hA,Y,q,by
 rcases r Y with e|e
 .rw[e]at p;exact p.elim
 .rw[e]at p;exact p⟩
theorem SW.ref(h:SW X CL W a f)(r:Rf g f):SW X CL W a g:=λA=>PW.weak (h A) λU H Q ⟨hA,Y,q,p⟩=>⟨hA,Y,q,by
 rcases r Y with e|e
 .rw[e]at p;exact p.elim
 .rw[e]at p;exact p⟩
theorem SC.ref(h:SC X CL W fr a f)(r:Rf g f):SC X CL W fr a g:=λA=>PE.weak (h A) λU H Q ⟨hA,Y,q,p⟩=>⟨hA,Y,q,by
 rcases r Y with e|e
 .rw[e]at p;exact p.elim
 .rw[e]at p;exact p⟩
theorem SS.ref{st:AT}(h:SS X CL W st f)(r:∀ Y,g Y=.bad\/g Y=f Y):SS X CL W st g:=λFz B=>PS.weak (h Fz B) λD U H ⟨Y,x,p⟩=>⟨Y,x,by
 rcases r Y with e|e
 .rw[e]at p;exact p.elim
 .rw[e]at p;exact p⟩
theorem JB:∀{l:Ac Ah},Kl l=Ab->l.Nodup
 |[],_=>List.nodup_nil
 |x::xs,h=>by
  unfold Kl at h;simp only[As,Cn,W3,decide_eq_false_iff_not]at h;exact List.nodup_cons.mpr ⟨h.1,JB h.2⟩
theorem jB(h:Rw T x=Ab):Ŧ T.sc x:=by
 unfold Rw at h;split at h
 .exact .inl (by assumption)
 .exact .inr (.inl (by assumption))
 .exact .inr (.inr (by assumption))
 .cases h
theorem Qq(h:LY T x=Ab):þ T.sc x:=by
 unfold LY at h;split at h
 .exact .inl (by assumption)
 .exact .inr (by assumption)
 .cases h
theorem nK(h:IK x=Ab):Gk.lookup x=Ae:=by
 unfold IK at h;exact F1.mp (Be h).2
theorem La(h:IK x=Ab):(x==("__debug__" : Ah))=Ad/\(x==("__classdict__" : Ah))=Ad/\x≠"__name__" := by
 unfold IK at h;replace h:=(Be h).1;simp only[As,Cn]at h;exact⟨h.1.1,h.1.2,λe=>by subst e;exact absurd h.2 (by simp)⟩
theorem No(v:VX J CL k W T X)(h:ò T x i=Ab):PE X (.Name x pos) (BS i):=by
 unfold ò at h;simp only[As,A2]at h;obtain⟨h2,h3,_⟩:=La h.2;exact DF (by rw[v.N];exact h.1.1) (by rw[v.sc];exact jB h.1.2) h2 h3
theorem Ht(v:VX J CL k W T X)(h:vm T x=Ab):Gl X x/\X.mg x=Ae/\x≠"__name__"/\(x==("__debug__" : Ah))=Ad:=by
 unfold vm xj at h;simp only[As,A2,W3,Bh]at h;obtain⟨h2,h3,h4⟩:=La h.2;exact⟨by show X.env.scope.names.lookup x=_;rw[v.sc];exact h.1.2,v.bl x h.1.1,h4,h2⟩
theorem Dc(h:Ge x=Ab):At (x::xs) env=(Ad,eval x env)::At xs env:=by
 cases x<;>first|rfl|cases h
theorem gM(h:Ua y=Ab):Oc y:=by
 intro o i;cases y<;>first|rfl|cases h
theorem QQ(h:OH e=Ab):∀ x,Dl e env x=pure x:=by
 intro x;cases e<;>first|rfl|cases h
theorem Kj(h:FV e=Ab):Dp e t l env=pure Ad:=by
 cases e<;>first|rfl|cases h
theorem Uf(h:PB e=Ab):∀ whole,J_5 e env whole=(do let v <-whole;standAt e.pos;holding [v] (truthy v)):=by
 intro whole;cases e<;>first|rfl|cases h
theorem cM(v:VX J CL k W T X)(scope:Cf):relabel scope X.env=Q8 T.sc scope:=by
 unfold relabel Q8;have:∀ n,X.env.kindOf n=T.sc.names.lookup n:=λn=>by show X.env.scope.names.lookup n=_;rw[v.sc]
 simp only[this,v.sc]
theorem Vm(v:VX J CL k W T X)(h:O8 T scope ts N'=Ab):zd X scope N' ts/\N'.Nodup/\scope.kind=.function:=by
 unfold O8 at h;simp only[As,A2,A6,Ca,FD,KG]at h;obtain⟨⟨⟨⟨⟨h1,h2⟩,h4⟩,h5⟩,h6⟩,h7⟩:=h;have at7:∀ i x,N'[i]?=Aa x->i∈ts\/((scope.names.lookup x≠Aa .local/\scope.names.lookup x≠Aa .cell)/\(scope.names.lookup x≠Aa .free\/T.N[i]?=Aa x)):=λi x e=>by
  have hi:=(A8.mp e).1;have:=h7 i (DT.mpr hi);rcases this with z|z
  .exact .inl (by simpa using z)
  .rw[e]at z;simp only[As,FD,KG,Ca,A2]at z;exact .inr z
 refine⟨⟨h1,h2,λy hy hl=>by rw[h2 y hy,hl],λy hy hf=>?_,by rw[v.N];exact h5,λi x e hf hn=>?_,λi x e hl=>?_⟩,JB h6,h1⟩
 .rw[v.sc];rcases h4 y hy with (z|z)|z
  .exact absurd hf z
  .exact .inl z
  .exact .inr z
 .rw[v.N];rcases at7 i x e with z|⟨_,z⟩
  .exact absurd z hn
  .exact z.resolve_left λq=>q hf
 .rcases at7 i x e with z|⟨z,_⟩
  .exact z
  .exact hl.elim (λq=>absurd q z.1) (λq=>absurd q z.2)
theorem VX.blk(v:VX J CL k W T X)(hc:T.cm=Ab)(h:O8 T scope ts (NB ts xs T.N)=Ab):VX J CL k W0 (T.blk scope ts xs) (ye X scope cl C (NB ts xs T.N) s H fp):=by
 obtain⟨_,h2,h3⟩:=Vm v h;exact⟨cM v scope,h3,rfl,h2,v.un,v.calm,v.room,λz=>noF ((show T.cm=Ad from z).symm.trans hc),v.bl,v.os,v.mkr,v.fn,λ_=>PassesOwn.never,QN,Rx,v.xt,v.gl,λz=>nomatch z⟩
theorem jG(v:VX J CL k W T X)(ϥ:scope.names.lookup x=Aa .cell->X.fn x=Ab)(h:tgO T scope t x=Ab):PG X (.Name x pos) (Gg t):=by
 unfold tgO at h;simp only[As,Ca,A2]at h;rcases h with ⟨h1,h2|h2⟩
 .exact Mo (by rw[v.N];exact v.nd) (by rw[v.N];exact h1) (by rw[v.sc];exact .inl h2) (.inr (by rw[v.sc];exact h2))
 .exact Mo (by rw[v.N];exact v.nd) (by rw[v.N];exact h1) (by rw[v.sc];exact .inr h2.1) (.inl (ϥ h2.2))
theorem RH(h:Hr (y::r)=Aa zs):∃ x p ws,y=.Name x p/\Hr r=Aa ws/\zs=x::ws:=by
 cases y with
 |Name x p=>
  have h':(Hr r).map (x :: ·)=Aa zs:=h;cases e:Hr r with
  |none=>rw[e]at h';cases h'
  |some ws=>rw[e]at h';cases h';exact⟨x,p,ws,rfl,rfl,rfl⟩
 |_=>cases h
theorem S4(x:Ah)(p:AH)(r:Ac Aq)(env:B8):Co (.Name x p::r) env=(Ad,assign (.Name x p) env)::Co r env:=rfl
theorem RG:∀(ys:Ac Aq)(zs:Ac Ah),Hr ys=Aa zs->(Co ys env).length=ys.length/\(Co ys env).findIdx? (·.1)=Ae/\(Co ys env).map (·.2)=ys.map λy=>assign y env:=by
 intro ys
 induction ys with
 |nil=>intro _ _;exact⟨rfl,rfl,rfl⟩
 |cons y r ih=>
  intro zs h;obtain⟨x,p,ws,rfl,e,rfl⟩:=RH h;obtain⟨h1,h2,h3⟩:=ih ws e;rw[S4];refine⟨?_,?_,?_⟩
  .rw[Ba,Ba,h1]
  .rw[List.findIdx?_cons,h2];simp
  .rw[BU,BU,h3]
noncomputable def Es.len:Es->Ag
 |.nil=>0
 |.cons _ es=>es.len+1
theorem Nj(J:J9)(Y:Rho):∀(es:Es)(ds:Ac D),w5 J Y es=.ok ds->ds.length=es.len
 |.nil,ds,h=>by cases h;rfl
 |.cons e es,ds,h=>by
  obtain⟨x,h1,h2⟩:=Ly (Qb J Y e es ▸ h);obtain⟨xs,h3,h4⟩:=Ly h2;cases h4;exact congrArg (· + 1) (Nj J Y es xs h3)
theorem QA(J:J9)(Y:Rho):∀(es:Es)(ds:Ac D),vi J Y es=.ok ds->ds.length=es.len
 |.nil,ds,h=>by cases h;rfl
 |.cons e es,ds,h=>by
  obtain⟨x,h1,h2⟩:=Ly (Qa J Y e es ▸ h);obtain⟨xs,h3,h4⟩:=Ly h2;cases h4;exact congrArg (· + 1) (QA J Y es xs h3)
theorem Ve(J:J9)(Y:Rho)(e:E)(h:v9 Y e=Ab):top Y e (evE J Y e)=evE J Y e:=by
 cases e with
 |v i=>
  show EC Y i=GO Y i;have h':mq Y i=Ab:=h;unfold mq at h';unfold EC GO;cases q:Y[i]? with
  |none=>rfl
  |some x=>
   cases x with
   |none=>rfl
   |some y=>
    obtain⟨d,o⟩:=y;cases o with
    |true=>rw[q]at h';cases h'
    |false=>rfl
 |_=>rfl
theorem QW(J:J9)(Y:Rho):∀(es:Es),Kv Y es=Ab->vi J Y es=w5 J Y es
 |.nil,_=>rfl
 |.cons e es,h=>by
  simp only[dL,As]at h;rw[Qb,Qa,Ve J Y e h.1,QW J Y es h.2]
theorem QE(J:J9)(c:E):Rf (λY=>evE J Y c) (λY=>top Y c (evE J Y c)):=λY=>by
 by_cases h:v9 Y c=Ab
 .exact .inr (Ve J Y c h).symm
 .cases c with
  |v i=>
   refine .inl ?_;show GO Y i=.bad;have h':¬ mq Y i=Ab:=h;unfold mq at h';unfold GO;cases q:Y[i]? with
   |none=>rfl
   |some x=>
    cases x with
    |none=>rfl
    |some y=>
     obtain⟨d,o⟩:=y;cases o with
     |true=>rfl
     |false=>rw[q]at h';exact absurd rfl h'
  |_=>exact absurd rfl h
end Ov
namespace Ov
end Ov
namespace Ov
open PySem PySem.Spec PyProof.Rows L2
variable{X:Cx}{α:Type}{p1 p2 p3 p4 p5 p6 p7:AH}{i:Ag}{K:Fg}{vs:Ac V}{Z:Prop}{A:Ak->Prop}{C:Ak}{Y:Rho}{lo:Ai}
def Ť(X:Cx)(CL:ClA)(W:XW)(e:Aq)(f:Rho->R D):Prop:=∃ tg iter elt ifs scope pos N' ts fi fc fe as g,e=.ListComp elt [⟨tg,iter,ifs,0⟩] scope pos/\zd X scope N' ts/\SI X CL W tg iter fi/\GG X.K CL ts as g /\
 (∀ cl C s H fp,PG (ye X scope cl C N' s H fp) tg g)/\(∀ cl C s H fp,â (ye X scope cl C N' s H fp) CL ifs fc)/\(∀ cl C s H fp,SE (ye X scope cl C N' s H fp) CL W0 elt fe)/\(∀ x,Dl iter X.env x=pure x) /\
 ∀ Y,f Y=(fi Y).bind λxs=>(yu (Cu (λx=>(as x Y).bind fc) (λx=>(as x Y).bind fe) xs)).bind λys=>.ok (.L ys)
theorem Ť.sc(hc:X.calm=Ab)(h:Ť X CL W e f):SC X CL W Ab e f:=by
 obtain⟨tg,iter,elt,ifs,scope,pos,N',ts,fi,fc,fe,as,g,rfl,B,hi,sj,hg,ht,he,hs,ef⟩:=h;exact SC.congr (lP hc B hi sj hg ht he hs) ef
structure ζ (J:J9) (CL:ClA) (W:XW) (X:Cx) (e:Aq) (c:E):Prop where
 se:SE X CL W e (λY=>evE J Y c)
 st:ST X CL W e (λY=>top Y c (evE J Y c))
 nw:Ek J c=Ab->SC X CL W Ab e (λY=>evE J Y c)
 cp:FV e=Ad->Ť X CL W e (λY=>evE J Y c)
theorem Lb(h:SE X CL W e (λY=>evE J Y c))(ht:∀ Y r,top Y c r=r)(hn:Ek J c=Ad)(hc:FV e=Ab):ζ J CL W X e c:=
 ⟨h,by simp only[ht];exact h.st,λz=>absurd z (by rw[hn];decide),λz=>absurd z (by rw[hc];decide)⟩
theorem U_4(h:SC X CL W Ab e (λY=>evE J Y c))(ht:∀ Y r,top Y c r=r)(hc:FV e=Ab):ζ J CL W X e c:=
 ⟨h.se,by simp only[ht];exact h.se.st,λ_=>h,λz=>absurd z (by rw[hc];decide)⟩
theorem zM(hc:X.calm=Ab)(h:Ť X CL W e (λY=>evE J Y c))(ht:∀ Y r,top Y c r=r):ζ J CL W X e c:=
 ⟨(h.sc hc).se,by simp only[ht];exact(h.sc hc).se.st,λ_=>h.sc hc,λ_=>h⟩
theorem cy(h:Rk k=Aa x):∃ T,rl k=Aa T/\Ds x=Aa (.type T):=by
 cases k<;>simp only[Rk]at h<;>cases h
 .exact⟨_,rfl,Xu⟩
 .exact⟨_,rfl,PyProof.Rows.boot_bool⟩
 .exact⟨_,rfl,Ha⟩
 .exact⟨_,rfl,Xv⟩
 .exact⟨_,rfl,GF⟩
theorem fV[Ij c]:(if c then R.ok (D.bl b) else .bad)=.bad\/∃ b',(if c then R.ok (D.bl b) else .bad)=.ok (.bl b'):=by
 by_cases h:c
 .rw[Au h];exact .inr ⟨_,rfl⟩
 .rw[AA h];exact .inl rfl
def BK(r:R D):Prop:=r=.bad\/∃ b,r=.ok (.bl b)
theorem qf:BK .bad:=.inl rfl
theorem kx:BK (.ok (.bl b)):=.inr ⟨b,rfl⟩
theorem ky[Ij c]:BK (if c then R.ok (D.bl b) else .bad):=fV
theorem hV(op:Hk)(d d':D):BK (BZ op d d'):=by
 cases op with
 |Eq=>exact ky
 |NotEq=>exact ky
 |In=>
  cases d' with
  |L ys=>exact ky
  |H ys=>exact ky
  |dic kvs=>
   show BK (match NE d with|some k=>R.ok (D.bl (kvs.any λp=>p.1==k))|none=>.bad)
   cases NE d with
   |some k=>exact kx
   |none=>exact qf
  |_=>exact qf
 |NotIn=>
  cases d' with
  |L ys=>exact ky
  |H ys=>exact ky
  |_=>exact qf
 |Is=>
  cases d' with
  |O=>cases d<;>first|exact kx|exact qf
  |_=>cases d<;>first|exact qf|exact kx
 |IsNot=>
  cases d' with
  |O=>cases d<;>first|exact kx|exact qf
  |_=>cases d<;>first|exact qf|exact kx
 |_=>
  cases d with
  |int i=>cases d'<;>first|exact kx|exact qf
  |_=>exact qf
theorem lX(op:Hk)(d d':D):(BZ op d d').bind Ci=.bad\/(BZ op d d').bind Ci=(BZ op d d').bind Fx:=by
 rcases hV op d d' with h|⟨b,h⟩
 .rw[h];exact .inl rfl
 .rw[h];exact .inr rfl
theorem vT(e e':E)(es:Es):Rf (λY=>(o8 J Y (.cons e (.cons e' es))).bind Ci) (λY=>((top Y e (evE J Y e)).bind Ci).bind λc=>if c=Ab then (o8 J Y (.cons e' es)).bind Ci else .ok Ad):=λY=>by
 have e0:o8 J Y (.cons e (.cons e' es))=(evE J Y e).bind λx=>(Fx x).bind λc=>if c=Ab then o8 J Y (.cons e' es) else .ok (.bl Ad):=rfl
 dsimp only;rw[e0];rcases QE J e Y with z|z<;>dsimp only at z
 .rw[z];exact .inl rfl
 .rw[<-z];cases evE J Y e with
  |bad=>exact .inl rfl
  |exn x=>exact .inr rfl
  |ok d=>
   cases d with
   |bl b=>cases b<;>exact .inr rfl
   |_=>exact .inl rfl
theorem vS(e e':E)(es:Es):Rf (λY=>(o9 J Y (.cons e (.cons e' es))).bind Ci) (λY=>((top Y e (evE J Y e)).bind Ci).bind λc=>if c=Ab then .ok Ab else (o9 J Y (.cons e' es)).bind Ci):=λY=>by
 have e0:o9 J Y (.cons e (.cons e' es))=(evE J Y e).bind λx=>(Fx x).bind λc=>if c=Ab then .ok (.bl Ab) else o9 J Y (.cons e' es):=rfl
 dsimp only;rw[e0];rcases QE J e Y with z|z<;>dsimp only at z
 .rw[z];exact .inl rfl
 .rw[<-z];cases evE J Y e with
  |bad=>exact .inl rfl
  |exn x=>exact .inr rfl
  |ok d=>
   cases d with
   |bl b=>cases b<;>exact .inr rfl
   |_=>exact .inl rfl
theorem Rf.tru(e:E):Rf (λY=>(evE J Y e).bind Ci) (λY=>(top Y e (evE J Y e)).bind Ci):=λY=>by
 rcases QE J e Y with z|z<;>dsimp only at z ⊢
 .rw[z];exact .inl rfl
 .rw[<-z];exact .inr rfl
theorem cQ{β:Type}[BEq α][LawfulBEq α]{a:α}{b:β}:∀{l:Ac (α×β)},l.lookup a=Aa b->(a,b)∈l:=by
 intro l
 induction l with
 |nil=>intro h;cases h
 |cons p r ih=>
  intro h;obtain⟨x,y⟩:=p;by_cases z:(a==x)=Ab
  .simp only[BM,z]at h;cases h;rw[eq_of_beq z];exact AR
  .have z':(a==x)=Ad:=by simpa using z
   simp only[BM,z']at h;exact Ay _ (ih h)
theorem Nq(h:j9 l g c=Ab):(g,c)∈l:=by
 unfold j9 at h;simp only[IY,As,A2]at h;obtain⟨p,hp,rfl,rfl⟩:=h;exact hp
noncomputable def bo:BI->Am Ah
 |.len=>Aa "len"
 |.abs=>Ae
 |.max=>Ae
 |.min=>Aa "min"
 |.int=>Aa "int"
 |.list=>Aa "list"
 |.tuple=>Aa "tuple"
 |.all=>Aa "all"
 |.any=>Aa "any"
 |.sum=>Ae
 |.sorted=>Ae
 |.str=>Aa "str"
 |.tmin=>Ae
 |.tmax=>Ae
 |_=>Ae
theorem aU(h:Ge x=Ab)(hx:(Br pos (At xs env)).any (·.1)=Ad):(Br pos (At (x::xs) env)).any (·.1)=Ad:=by
 rw[Dc h];show (Ad||(Br pos (At xs env)).any (·.1))=Ad;rw[hx];rfl
structure Te (T:Tc) (e:Aq) (c:E):Prop where
 h:∀ {J CL k W X},VX J CL k W T X->ζ J CL W X e c
structure Tb (T:Tc) (e:Aq) (c:E):Prop where
 h:∀ {J CL k W X},VX J CL k W T X->SB X CL W e (λY=>(top Y c (evE J Y c)).bind Ci)
structure Tw (T:Tc) (e:Aq) (c:E):Prop where
 h:∀ {J CL k W X},VX J CL k W T X->SW X CL W e (λY=>(evE J Y c).bind Ci)
structure Tl (T:Tc) (xs:Ac Aq) (es:Es):Prop where
 h:∀ {J CL k W X},VX J CL k W T X->SA X CL W xs (λY=>w5 J Y es)/\oq X CL W xs (λY=>vi J Y es)
 l:xs.length=es.len
 s:∀ env pos,(Br pos (At xs env)).any (·.1)=Ad
 z:∀ x r,xs=x::r->Ge x=Ab/\∀ env pos,(Br pos (At r env)).any (·.1)=Ad
structure To (T:Tc) (x:Am Aq) (c:E):Prop where
 h:∀ {J CL k W X},VX J CL k W T X->SO X CL W x (λY=>(top Y c (evE J Y c)).bind (slE c))
structure Tt (T:Tc) (xs:Ac Aq) (c:E):Prop where
 h:∀ {J CL k X},VX J CL k W0 T X->â X CL xs (λY=>(top Y c (evE J Y c)).bind Ci)
structure Ti (T:Tc) (tg x:Aq) (i:I):Prop where
 h:∀ {J CL k W X},VX J CL k W T X->SI X CL W tg x (λY=>vt J Y i)
theorem Mr{X}(v:VX J CL k W T X)(h:xj T g=Ab):Gl X g:=by
 unfold xj at h;show X.env.scope.names.lookup g=_;rw[v.sc];exact eq_of_beq h
theorem Te.of(h:∀ {J CL k W X},VX J CL k W T X->SE X CL W x (λY=>evE J Y c))(ht:∀ Y r,top Y c r=r:=by exact λ_ _=>rfl)(hn:∀ J,Ek J c=Ad:=by exact λ_=>rfl)(hc:FV x=Ab:=by rfl):Te T x c:=⟨λv=>Lb (h v) ht (hn _) hc⟩
theorem Te.sc(h:∀ {J CL k W X},VX J CL k W T X->SC X CL W Ab x (λY=>evE J Y c))(ht:∀ Y r,top Y c r=r:=by exact λ_ _=>rfl)(hc:FV x=Ab:=by rfl):Te T x c:=⟨λv=>U_4 (h v) ht hc⟩
theorem fx:Te T (.Constant .none u p) .O:=.of λ_=>qC
theorem gh:Te T (.Constant (.int b) u p) (.int b):=.of λ_=>sT
theorem fj:Te T (.Constant (.str s) u p) (.str s):=.of λ_=>QR
theorem et(h:ò T g i=Ab):Te T (.Name g p) (.v i):=⟨λv=>⟨pY (No v h),qP (No v h),λz=>(nomatch z),λz=>nomatch z⟩⟩
theorem vV(h:(j9 T.gls g i&&(xj T g&&IK g))=Ab):Te T (.Name g p) (.glob i):=.of λv=>by
 obtain⟨h1,h⟩:=Be h;obtain⟨h2,h3⟩:=Be h;obtain⟨u,w',m1,m2,m3⟩:=v.gl _ (Nq h1);exact λA=>PE.weak (Qn (Mr v h2) m1 m2 (La h3).1) λU H Q ⟨hA,Y,gd,p⟩=>p w' H (Aw.refl H) (m3 H A)
theorem gv(h1:Te T x a)(h2:Te T y b):Te T (.BinOp x op y p) (.B op a b):=⟨λv=>by
 have ha:=(h1.h v).st;have hb:=(h2.h v).st;refine⟨UQ (T7 _) ha hb,(UQ (T7 _) ha hb).st,λz=>?_,λz=>nomatch z⟩
 cases op<;>first|exact qW ha hb|cases z⟩
theorem Zl(h:Te T x a):Te T (.UnaryOp .USub x p) (.un .USub a):=.of λv=>qD (h.h v).st
theorem vY(h:Te T x a):Te T (.BoolOp .And [x] p) (.and (.cons a .nil)):=.of λv=>qA (h.h v).se
theorem gw(h:Te T x a)(h2:Te T (.BoolOp .And (y::r) p) (.and (.cons b es))):Te T (.BoolOp .And (x::y::r) p) (.and (.cons a (.cons b es))):=.of λv=>sX (h.h v).se (h2.h v).se
theorem gu(h1:Te T x a)(h2:Te T y b)(h:DQ o y=Ad):Te T (.Compare x [o] [y] p) (.cmp o a b):=.of λv=>sW (Kh v.un _) (h1.h v).st (h2.h v).st h
theorem bz:Tl T [] .nil:=⟨λ_=>⟨tI,lT⟩,rfl,λ_ _=>rfl,λ_ _ z=>nomatch z⟩
theorem vD(h1:Te T x a)(h0:Ge x=Ab)(h:Tl T xs es):Tl T (x::xs) (.cons a es):=⟨λv=>⟨lV (h1.h v).se (h.h v).1 (Dc h0),gQ (h1.h v).st (h.h v).2 (Dc h0)⟩,congrArg (· + 1) h.l,λ_ _=>aU h0 (h.s _ _),λ_ _ z=>by cases z;exact⟨h0,h.s⟩⟩
def fnB(T:Tc)(g:Ah)(f m:Ag):Ao:=(T.fns.any λq=>q.1==g&&(q.2.1==f&&q.2.2==m))&&(xj T g&&IK g)
theorem VY{X}(v:VX J CL k W T X)(h:fnB T g f m=Ab):∃ fa fd ps,X.mg g=Aa (.ref fa)/\AM X.K (.ref fa)=Ab/\Cv X.K fd ps []/\Gl X g/\(g==("__debug__" : Ah))=Ad/\(m<1000->Y0 X.prog X.w X.K X.mg X.base (CXR X.prog X.w) k fa fd ps (spD X.K CL (m%1000) (J.fr f) (J.F f)))/\(1000<=m->wz X.prog X.w X.K X.mg X.base k fa fd ps (spH X.K CL (m%1000) (J.fr f) (J.F f))):=by
 obtain⟨h,h1⟩:=Be h;obtain⟨h1,h2⟩:=Be h1;obtain⟨⟨n,d,m'⟩,hp,h⟩:=List.any_eq_true.mp h;simp only[As,A2]at h;obtain⟨rfl,rfl,rfl⟩:=h;obtain⟨fa,fd,ps,m1,m2,m3,m4,m5,m6⟩:=v.fn _ hp;exact⟨fa,fd,ps,Tp m1 (nK h2),m2,m3,Mr v h1,(La h2).1,m5,m6⟩
theorem vX(hl:Tl T (y::ys) (.cons a as))(h:(fnB T g f (ys.length+1)&&(T.cm&&JZ (ys.length+1) 1000))=Ab):Te T (.Call (.Name g p) (y::ys) [] pos) (.call f (.cons a as)):=⟨λ{J CL k W X} v=>by
  obtain⟨h,h'⟩:=Be h;obtain⟨hc,lt⟩:=Be h';replace lt:=Xn.mp lt;obtain⟨fa,fd,ps,m1,m2,m3,m4,n2,m5,_⟩:=VY v h;have m5:=m5 lt;rw[Ja lt]at m5;obtain⟨s0,s1⟩:=hl.z _ _ rfl;have q:SC X CL W (J.fr f) (.Call (.Name g p) (y::ys) [] pos) (λY=>evE J Y (.call f (.cons a as))):=lQ (sh:=λY=>Kv Y (.cons a as)) m5 (v.room hc) m4 m1 m2 m3 v.px (hl.h v).1 (hl.h v).2 (λY z=>QW J Y _ z) (λY ds z=>by rw[QA J Y _ _ z,<-hl.l];rfl) n2 (Dc s0) (s1 _)
  exact⟨q.se,q.se.st,λz=>by
      have z':J.fr f=Ab:=z;rw[z']at q;exact q,λz=>nomatch z⟩⟩
theorem mZ(hc:T.cm=Ad)(hl:Tl T (y::ys) (.cons a as))(h:(fnB T g f (1000+(ys.length+1))&&JZ (ys.length+1) 1000)=Ab):Te T (.Call (.Name g p) (y::ys) [] pos) (.call f (.cons a as)):=⟨λ{J CL k W X} v=>by
  obtain⟨h,lt⟩:=Be h;replace lt:=Xn.mp lt;obtain⟨fa,fd,ps,m1,m2,m3,m4,n2,_,m5⟩:=VY v h;have m5:=m5 (DU _ _);rw[Nat.add_mod_left,Ja lt]at m5;obtain⟨rfl,X0,e,rfl,hr⟩:=v.hot hc;obtain⟨s0,s1⟩:=hl.z _ _ rfl;have q:SC (Cx.hot X0 e) CL W0 (J.fr f) (.Call (.Name g p) (y::ys) [] pos) (λY=>evE J Y (.call f (.cons a as))):=gO (sh:=λY=>Kv Y (.cons a as)) m5 hr m4 m1 m2 m3 (hl.h v).1 (hl.h v).2 (λY z=>QW J Y _ z) (λY ds z=>by rw[QA J Y _ _ z,<-hl.l];rfl) n2 (Dc s0) (s1 _)
  exact⟨q.se,q.se.st,λz=>by
      have z':J.fr f=Ab:=z;rw[z']at q;exact q,λz=>nomatch z⟩⟩
theorem Zn(hl:Tl T (y::ys) as)(h:(bo b==Aa g&&(vm T g&&T.cm))=Ab):Te T (.Call (.Name g p) (y::ys) [] pos) (.bi b as):=⟨λv=>by
 obtain⟨hb,h⟩:=Be h;obtain⟨hg,hc⟩:=Be h;replace hb:=eq_of_beq hb;obtain⟨g1,g2,g3,g4⟩:=Ht v hg;obtain⟨h0,zj⟩:=hl.z _ _ rfl;have hs:=(hl.h v).2;cases b<;>cases hb
 .exact Lb (Oi vK g1 g2 J_4 hs g3 g4 (Dc h0) (zj _)) (λ_ _=>rfl) rfl rfl
 .exact Lb (Oi (vJ (v.calm hc)) g1 g2 PyProof.Rows.boot_min hs g3 g4 (Dc h0) (zj _)) (λ_ _=>rfl) rfl rfl
 .exact Lb (QS vL g1 g2 Xu hs g3 g4 (Dc h0) (zj _)) (λ_ _=>rfl) rfl rfl
 .exact U_4 (qV lW g1 g2 Xv hs g3 g4 (Dc h0) (zj _)) (λ_ _=>rfl) rfl
 .exact Lb (QS iC g1 g2 GF hs g3 g4 (Dc h0) (zj _)) (λ_ _=>rfl) rfl rfl
 .exact Lb (Oi (vN (v.calm hc)) g1 g2 PyProof.Rows.boot_all hs g3 g4 (Dc h0) (zj _)) (λ_ _=>rfl) rfl rfl
 .exact Lb (Oi (vM (v.calm hc)) g1 g2 PyProof.Rows.boot_any hs g3 g4 (Dc h0) (zj _)) (λ_ _=>rfl) rfl rfl
 .exact Lb (QS vH g1 g2 Ha hs g3 g4 (Dc h0) (zj _)) (λ_ _=>rfl) rfl rfl⟩
theorem tY(h6:Te T y a)(h:(Ge y&&q.endLine==p5.line)=Ab)(te:∀ Y r,top Y a r=r:=by exact λ_ _=>rfl):Te T (.Call (.Attribute (.Constant (.str s) u p) "join" q) [y] [] p5) (.bi .sjoin (.cons (.str s) (.cons a .nil))):=.of λv=>by
 obtain⟨h5,h2⟩:=Be h;refine SE.congr (lJ (h6.h v).se rfl (by rw[Dc h5];rfl) h2 (by rw[Dc h5];rfl)) λY=>?_
 simp only[Mv,vi,R.bind_assoc,R.bind_ok,TN,Ut,te]
theorem mY(h6:Te T y a)(h:(MG y&&q.endLine==p5.line)=Ab):Te T (.Call (.Attribute y "split" q) [.Constant (.str s) u p] [] p5) (.bi .ssplit (.cons a (.cons (.str s) .nil))):=.of λv=>by
 obtain⟨h3,h2⟩:=Be h;refine SE.congr (gL (h6.h v).st (Nk h3) h2).se λY=>?_
 simp only[Mv,vi,R.bind_assoc,R.bind_ok,TN,Ut]
theorem gf(h5:Te T x a)(h:(vm T "isinstance" && (Rk k'==Aa t&&(vm T t&&Ge x)))=Ab):Te T (.Call (.Name "isinstance" p) [x,.Name t q] [] pos) (.isi a [k']):=.of λv=>by
 obtain⟨h1,h⟩:=Be h;obtain⟨h2,h⟩:=Be h;obtain⟨h3,h4⟩:=Be h;obtain⟨g1,g2,_,_⟩:=Ht v h1;obtain⟨b1,b2,b3,b4⟩:=Ht v h3;obtain⟨ty,t1,t2⟩:=cy (eq_of_beq h2);exact qF t1 g1 g2 b1 b2 t2 b3 b4 (h5.h v).st (Dc h4)
theorem gc(h5:Te T x a)(h:(vm T "isinstance" && (vm T "ValueError" && Ge x))=Ab):Te T (.Call (.Name "isinstance" p) [x,.Name "ValueError" q] [] pos) (.isi a [.verr]):=.of λv=>by
 obtain⟨h1,h⟩:=Be h;obtain⟨h3,h4⟩:=Be h;obtain⟨g1,g2,_,_⟩:=Ht v h1;obtain⟨b1,b2,_,_⟩:=Ht v h3;exact qE v.xt.xc g1 g2 b1 b2 (h5.h v).st (Dc h4)
theorem gg(h5:Te T x a)(h:(vm T "isinstance" && (j9 T.exs t i&&(xj T t&&(IK t&&Ge x))))=Ab):Te T (.Call (.Name "isinstance" p) [x,.Name t q] [] pos) (.isi a [.cls i]):=.of λv=>by
 obtain⟨h1,h⟩:=Be h;obtain⟨h6,h⟩:=Be h;obtain⟨h7,h⟩:=Be h;obtain⟨h8,h4⟩:=Be h;obtain⟨g1,g2,_,_⟩:=Ht v h1;obtain⟨C,m1,m3,_⟩:=v.xt.ex _ (Nq h6);exact qG v.xt.xc g1 g2 (Mr v h7) m1 m3 (La h8).1 (h5.h v).st (Dc h4)
theorem gk(h2:Te T x a)(h3:Te T y b)(h1:Ua y=Ab):Te T (.Subscript x y p) (.idx a b):=.of λv=>sU (gM h1) (h2.h v).st (h3.h v).st
theorem uS:To T Ae .O:=⟨λ_=>lB⟩
theorem uR(h:Te T x a)(ha:slE a=λd=>(Gh d).bind λi=>.ok (Aa i):=by rfl):To T (Aa x) a:=⟨λv=>by rw[ha];exact lA (h.h v).st⟩
theorem Zm(h1:Te T x a)(h2:To T l b)(h3:To T m c):Te T (.Subscript x (.Slice l m Ae q) p) (.sl a b c):=.sc λ{J} {_} {_} {_} {_} v=>by
 refine SC.congr (xL (h1.h v).st (h2.h v) (h3.h v)) λY=>?_
 show ((top Y a (evE J Y a)).bind λx=>(top Y b (evE J Y b)).bind λl=>(slE b l).bind λl'=>(top Y c (evE J Y c)).bind λh=>(slE c h).bind λh'=>ú x l' h')=_
 simp only[R.bind_assoc]
theorem fg(hl:Tl T xs es)(h:Cs xs.length 1000=Ab):Te T (.Tuple xs i p) (.H es):=.of λ{J} {_} {_} {_} {_} v=>pZ (hl.h v).1 λY ds z=>by
 rw[Nj J Y _ _ z,<-hl.l];have:=AK h;omega
theorem gb(hl:Tl T xs es)(h:Cs xs.length 1000=Ab):Te T (.List xs p) (.L es):=.sc λ{J} {_} {_} {_} {_} v=>qU (hl.h v).1 λY ds z=>by
 rw[Nj J Y _ _ z,<-hl.l];have:=AK h;omega
theorem d9(h:Tb T x a):Tb T (.UnaryOp .Not x p) (.no a):=⟨λ{J} {_} {_} {_} {_} v=>SB.ref (tG (h.h v)) λY=>by
 show ((top Y a (evE J Y a)).bind λx=>(Fx x).bind λb=>.ok (.bl (!b))).bind Ci=.bad\/((top Y a (evE J Y a)).bind λx=>(Fx x).bind λb=>.ok (.bl (!b))).bind Ci=_
 cases top Y a (evE J Y a) with
 |bad=>exact .inl rfl
 |exn x=>exact .inr rfl
 | ok d=>cases d<;>first|exact .inr rfl|exact .inl rfl⟩
theorem jD(h:Tb T x a):Tw T (.BoolOp .And [x] p) (.and (.cons a .nil)):=⟨λv=>SW.ref (jK (h.h v)) (Rf.tru a)⟩
theorem rH(h:Tb T x a)(h2:Tw T (.BoolOp .And (y::r) p) (.and (.cons b es))):Tw T (.BoolOp .And (x::y::r) p) (.and (.cons a (.cons b es))):=⟨λv=>SW.ref (qM (h.h v) (h2.h v)) (vT a b es)⟩
theorem rG(h:Tb T x a):Tw T (.BoolOp .Or [x] p) (.or (.cons a .nil)):=⟨λv=>SW.ref (qL (h.h v)) (Rf.tru a)⟩
theorem xX(h:Tb T x a)(h2:Tw T (.BoolOp .Or (y::r) p) (.or (.cons b es))):Tw T (.BoolOp .Or (x::y::r) p) (.or (.cons a (.cons b es))):=⟨λv=>SW.ref (yH (h.h v) (h2.h v)) (vS a b es)⟩
theorem dm(h:Tw T (.BoolOp .And xs p) (.and es)):Tb T (.BoolOp .And xs p) (.and es):=⟨λv=>(h.h v).sb⟩
theorem Y_7(h:Tw T (.BoolOp .Or xs p) (.or es)):Tb T (.BoolOp .Or xs p) (.or es):=⟨λv=>(h.h v).sb⟩
theorem dh(h2:Te T x a)(h3:Te T y b)(h:DQ o y=Ad):Tb T (.Compare x [o] [y] p) (.cmp o a b):=⟨λ{J} {_} {_} {_} {_} v=>SB.ref (tH (Kh v.un _) (h2.h v).st (h3.h v).st h) λY=>by
 show ((top Y a (evE J Y a)).bind λx=>(top Y b (evE J Y b)).bind λy=>BZ o x y).bind Ci=.bad\/((top Y a (evE J Y a)).bind λx=>(top Y b (evE J Y b)).bind λy=>BZ o x y).bind Ci=_
 cases top Y a (evE J Y a) with
 |bad=>exact .inl rfl
 |exn x=>exact .inr rfl
 |ok d=>
  cases top Y b (evE J Y b) with
  |bad=>exact .inl rfl
  |exn x=>exact .inr rfl
  | ok d'=>exact lX _ d d'⟩
theorem de(h2:Te T x a)(h1:PB x=Ab):Tb T x (.cmp .NotEq (.bi .len (.cons (.bi .list (.cons a .nil)) .nil)) (.int 0)):=⟨λ{J} {_} {_} {_} {_} v=>SB.ref (UT (h2.h v).st (Uf h1)) λY=>by
 have e2:top Y (.cmp .NotEq (.bi .len (.cons (.bi .list (.cons a .nil)) .nil)) (.int 0)) (evE J Y (.cmp .NotEq (.bi .len (.cons (.bi .list (.cons a .nil)) .nil)) (.int 0)))=(top Y a (evE J Y a)).bind λx=>(zm .list [x]).bind λy=>(zm .len [y]).bind λz=>BZ .NotEq z (.int 0):=by
  show evE J Y (.cmp .NotEq (.bi .len (.cons (.bi .list (.cons a .nil)) .nil)) (.int 0))=_;simp only[Uu,Vg,Mv,vi,R.bind_assoc,R.bind_ok,jE,mU]
 rw[e2];cases top Y a (evE J Y a) with
 |bad=>exact .inl rfl
 |exn x=>exact .inr rfl
 |ok d=>
  have key:∀ xs:Ac D,(BZ .NotEq (.int (xs.length:Ai)) (.int 0)).bind Ci=.ok (!xs.isEmpty):=λxs=>by
   cases xs<;>rfl
  cases d with
  |L xs=>exact .inr (key xs)
  |H xs=>exact .inr (key xs)
  | _=>exact .inl rfl⟩
theorem d8(h2:Te T x a)(h1:PB x=Ab):Tb T x a:=⟨λv=>UT (h2.h v).st (Uf h1)⟩
theorem yB:Tt T [] (.bl Ab):=⟨λ_=>iF⟩
theorem yA(h:Tb T x a):Tt T [x] a:=⟨λv=>iE (h.h v)⟩
theorem i_e(h:Te T x a):Ti T z x (.e a):=⟨λv=>ZH (h.h v).se⟩
theorem b6(h3:Te T x a)(h:(vm T "range" && Ge x)=Ab):Ti T z (.Call (.Name "range" p) [x] [] pos) (.rng a):=⟨λv=>by
 obtain⟨h1,h2⟩:=Be h;obtain⟨g1,g2,_,_⟩:=Ht v h1;exact qZ (h3.h v).st g1 g2 (Dc h2)⟩
theorem uH(h4:Te T x a)(h5:Te T y b)(h:(vm T "range" && (Ge x&&Ge y))=Ab):Ti T z (.Call (.Name "range" p) [x,y] [] pos) (.rng2 a b):=⟨λv=>by
 obtain⟨h1,h⟩:=Be h;obtain⟨h2,h3⟩:=Be h;obtain⟨g1,g2,_,_⟩:=Ht v h1;exact lE (h4.h v).st (h5.h v).st g1 g2 (by rw[Dc h2,Dc h3];rfl) (by rw[Dc h3];rfl)⟩
theorem b7(h3:Te T x a)(h:(vm T "enumerate" && Ge x)=Ab):Ti T (.Tuple xs i q) (.Call (.Name "enumerate" p) [x] [] pos) (.enm a):=⟨λv=>by
 obtain⟨h1,h2⟩:=Be h;obtain⟨g1,g2,_,_⟩:=Ht v h1;exact lF (h3.h v).se g1 g2 (Dc h2)⟩
theorem vW(hi:Ti T (.Name t q) z it)(h:(T.cm&&(OH z&&(O8 T sc [i] (NB [i] [t] T.N)&&tgO (T.blk sc [i] [t]) sc i t)))=Ab)(hf:Tt (T.blk sc [i] [t]) is c)(he:Te (T.blk sc [i] [t]) x a):Te T (.ListComp x [⟨.Name t q,z,is,0⟩] sc p) (.comp a i it c):=⟨λv=>by
 obtain⟨hc,h⟩:=Be h;obtain⟨h2,h⟩:=Be h;obtain⟨h3,h4⟩:=Be h;exact zM (v.calm hc) ⟨_,_,_,_,_,_,_,_,_,_,_,_,_,rfl,(Vm v h3).1,hi.h v,mL i,λ_ _ _ _ _=>jG (v.blk hc h3) (λz=>A2.mpr z) h4,λ_ _ _ _ _=>hf.h (v.blk hc h3),λ_ _ _ _ _=>(he.h (v.blk hc h3)).se,QQ h2,λY=>rfl⟩ (λ_ _=>rfl)⟩
theorem gp(h6:Te T x a)(h7:Te T y b)(h8:Te T z c)(h:(vm T "tuple" && (vm T "zip" && (Ge x&&(Ge y&&(Ge z&&T.cm)))))=Ab):Te T (.Call (.Name "tuple" p) [.Call (.Name "zip" q) [x,y,z] [] p5] [] pos) (.tupI (.zip3 a b c)):=.of λv=>by
 obtain⟨h1,h⟩:=Be h;obtain⟨h2,h⟩:=Be h;obtain⟨h3,h⟩:=Be h;obtain⟨h4,h⟩:=Be h;obtain⟨h5,hc⟩:=Be h;obtain⟨g1,g2,_,_⟩:=Ht v h1;obtain⟨g3,g4,_,_⟩:=Ht v h2;exact sV (h6.h v).se (h7.h v).se (h8.h v).se (v.calm hc) g1 g2 g3 g4 (by rw[Dc h3,Dc h4,Dc h5];rfl) (by rw[Dc h4,Dc h5];rfl) (by rw[Dc h5];rfl)
theorem fw(h4:Te T x a)(h3:MG x=Ab):Te T (.Attribute x "triple" p) (.ofl a "triple"):=.of λv=>
 qB (λc C z=>⟨(v.os.oc c C z).cl,(v.os.oc c C z).nt⟩) (h4.h v).st (Nk h3)
theorem uQ{X}(v:VX J CL k W T X)(h:ocB T t i=Ab):t=LX i/\i<3/\Gl X t/\(t==("__debug__" : Ah))=Ad:=by
 unfold ocB at h;simp only[As,A2,Bh]at h;exact⟨h.1.1.1,h.1.1.2,Mr v h.1.2,(La h.2).1⟩
theorem tX(h4:Te T x a)(h:((g==("told" : Ah)||g==("shown" : Ah))&&(q.endLine==pos.line&&(MG x&&(T.cm&&ms.all λq=>T.fns.any λp=>(Gk.lookup p.1==Aa (q.1,g))&&(p.2.1==q.2&&p.2.2==1)))))=Ab):Te T (.Call (.Attribute x g q) [] [] pos) (.meth g ms a):=.of λv=>by
 obtain⟨h1,h⟩:=Be h;obtain⟨h2,h⟩:=Be h;obtain⟨h3,h⟩:=Be h;obtain⟨hc,h5⟩:=Be h;refine lH (v.room hc) v.px (h4.h v).st (λc id C hl hC=>?_) (Nk h3) h2
 have hm:=A6.mp h5 _ (cQ hl);simp only[IY,As,A2]at hm;obtain⟨p,hp,e1,e2,e3⟩:=hm;obtain⟨fa,fd,ps,m1,m2,m3,m4,m5,_⟩:=v.fn p hp;have m5:=m5 (by omega)
 rw[e3,e2]at m5;have oz:=Tn m1 e1 hC;exact⟨fa,fd,ps,_,(v.os.oc c C hC).cl,⟨oz,v.os.mf c C _ fa hC h1 oz,m2⟩,m3,m5⟩
theorem fz(hl:Tl T (y::ys) as)(h:(ocB T g i&&(ys.length==1&&T.cm))=Ab):Te T (.Call (.Name g p) (y::ys) [] pos) (.mkn i as):=.of λ{J CL k W X} v=>by
 obtain⟨h,h'⟩:=Be h;obtain⟨h2,hc⟩:=Be h';obtain⟨e6,h7,h8,n2⟩:=uQ v h;obtain⟨s0,s1⟩:=hl.z _ _ rfl;rcases v.mkr i h7 with hb|⟨C,f,fd,G,k',o1,M,hb,hk,FI,hF,hG⟩
 .exact λA pI s U H Q I ⟨hA,Y,gd,p⟩=>by
   have p':AX (λH=>Y6 X.K CL H A) W H ((yu (w5 J Y as)).bind λxs=>J.F (900+i) xs) Q:=p
   cases e1:w5 J Y as with
   |bad=>rw[e1]at p';exact p'.elim
   |exn y=>rw[e1]at p';exact p'.elim
   |ok ds=>rw[e1]at p';have p2:AX (λH=>Y6 X.K CL H A) W H (J.F (900+i) ds) Q:=p';rw[hb ds]at p2;exact p2.elim
 .obtain⟨C',o2,o3⟩:=v.os.at_ i h7;have:C'=C:=by rw[o1]at o2;exact(Bj o2).symm
  subst this;subst hk;exact lI M o1 (v.os.oc i _ o1) FI (v.room hc) hb v.px hF hG h8 (by rw[e6];exact o3) n2 (hl.h v).1 (λY ds z=>by rw[Nj J Y _ _ z,<-hl.l,Ba,eq_of_beq h2]) (Dc s0) (s1 _ _)
theorem gq(h1:Te T x a)(h:(MG x&&q.endLine==pos.line)=Ab):Te T (.Call (.Attribute x "count" q) [.Constant (.bool b) u p] [] pos) (.bi .count (.cons a (.cons (.bl b) .nil))):=.of λv=>by
 obtain⟨h3,h2⟩:=Be h;refine SE.congr (dM v.un (h1.h v).st VM (Nk h3) rfl h2 rfl) λY=>?_
 simp only[Mv,vi,R.bind_assoc,R.bind_ok,Vf,Vh]
theorem gi(h1:Te T x a)(h:(MG x&&q.endLine==pos.line)=Ab):Te T (.Call (.Attribute x "index" q) [.Constant (.bool b) u p] [] pos) (.bi .index (.cons a (.cons (.bl b) .nil))):=.of λv=>by
 obtain⟨h3,h2⟩:=Be h;refine SE.congr (gN v.un (h1.h v).st VM.st (λY e z=>nomatch z) (Nk h3) rfl h2 rfl) λY=>?_
 simp only[Mv,vi,R.bind_assoc,R.bind_ok,Vf,Vh]
 congr 1;funext x
 cases x<;>rfl
theorem jI(v:VX J CL k W T X)(hf:∀ x,X.fn x=Ab)(h:qa T [t] [x]=Ab):PG X (.Name x pos) (Gg t):=by
 unfold qa at h;simp only[As,A2]at h;exact Mo (by rw[v.N];exact v.nd) (by rw[v.N];exact h.1.1) (by rw[v.sc];exact Qq h.1.2) (.inl (hf x))
theorem Ue(v:VX J CL k W T X)(hf:∀ x,X.fn x=Ab):∀(ys:Ac Aq)(ts:Ac Ag)(zs:Ac Ah),Hr ys=Aa zs->qa T ts zs=Ab->Þ X ys (ts.foldr (λt u=>LP (Gg t) u) LV)/\ts.length=ys.length:=by
 intro ys
 induction ys with
 |nil=>
  intro ts zs e h;cases e;cases ts with
  |nil=>exact⟨kU,rfl⟩
  |cons t ts=>cases h
 |cons y r ih=>
  intro ts zs e h;obtain⟨x,p,ws,rfl,e2,rfl⟩:=RH e;cases ts with
  |nil=>cases h
  |cons t ts=>
   have h':(T.N[t]? == Aa x&&LY T x&&qa T ts ws)=Ab:=h;simp only[As,A2]at h';obtain⟨h1,h2⟩:=ih ts ws e2 h'.2;exact⟨gZ (Mo (by rw[v.N];exact v.nd) (by rw[v.N];exact h'.1.1) (by rw[v.sc];exact Qq h'.1.2) (.inl (hf x))) h1 (by rw[S4];rfl),congrArg (· + 1) h2⟩
theorem jH(v:VX J CL k W T X)(hc:X.calm=Ab)(hf:∀ x,X.fn x=Ab)(hn:(Hr ys).isSome=Ab)(h:qa T ts (mv ys)=Ab):PG X (.Tuple ys kk pos) (Pj X.K ts.length (ts.foldr (λt u=>LP (Gg t) u) LV)):=by
 cases e:Hr ys with
 |none=>rw[e]at hn;cases hn
 |some zs=>
  have e2:mv ys=zs:=by unfold mv;rw[e];rfl
  rw[e2]at h;obtain⟨h1,h2⟩:=Ue v hf ys ts zs e h;obtain⟨h3,h4,_⟩:=RG (env:=X.env) ys zs e;exact UX hc h1 (by rw[h3,h2]) h4
theorem qJ(v:VX J CL k W T X)(hc:X.calm=Ab)(hf:∀ x,X.fn x=Ab)(hn:(Hr ys).isSome=Ab)(h:qa T ts (mv ys)=Ab):PG X (.Tuple ys kk pos) (gSq X.K ts.length (ts.foldr (λt u=>LP (Gg t) u) LV)):=by
 cases e:Hr ys with
 |none=>rw[e]at hn;cases hn
 |some zs=>
  have e2:mv ys=zs:=by unfold mv;rw[e];rfl
  rw[e2]at h;obtain⟨h1,h2⟩:=Ue v hf ys ts zs e h;obtain⟨h3,h4,_⟩:=RG (env:=X.env) ys zs e;exact zA hc h1 (by rw[h3,h2]) h4
theorem qH(h:(VZ e||Cs 4 ys.length)=Ab):IB [.Tuple ys kk pos] e env=pure Ae:=by
 cases e with
 |Tuple vs a b=>
  have h4:=AK (show Cs 4 ys.length=Ab from h)
  have e2:(ys.length==2)=Ad:=by rw[BO];omega
  have e3:(ys.length==3)=Ad:=by rw[BO];omega
  unfold IB;dsimp only;rw[e2,e3];rfl
 |_=>rfl
theorem So(ts:Ac Ag):∀ d Y x,IF ts d Y≠.exn x:=λd Y x h=>by
 unfold IF at h;cases d with
 |H xs=>
  dsimp only at h;cases e:HY ts xs Y with
  |some r=>rw[e]at h;cases h
  |none=>rw[e]at h;cases h
 |_=>cases h
theorem dZ(ts:Ac Ag):∀ d Y x,MA ts d Y≠.exn x:=λd Y x h=>by
 unfold MA at h;split at h
 .split at h<;>cases h
 .exact So ts _ Y x h
theorem gG:∃ b,Dp (.ListComp elt gs scope pos) (Aa (.Name x pos')) l env=pure b/\(b=Ab->env.scope.names.lookup x=Aa .local):=by
 refine⟨_,rfl,λh=>?_⟩
 simp only[As,A2]at h;exact h.1.1.2
theorem QU(v:VX J CL k W T X)(hf:∀ x,X.fn x=Ab)(hi:T.N[i]?=Aa x)(hl:LY T x=Ab)(o:ζ J CL W X v0 e)(hk:FV v0=Ab\/X.calm=Ab)(wn:fr=Ab->Ek J e=Ab):à X CL W fr i (.Assign [.Name x p] v0 pos) (λY=>evE J Y e):=by
 have hN:X.N.Nodup:=by rw[v.N];exact v.nd
 have hi':X.N[i]?=Aa x:=by rw[v.N];exact hi
 have hx:þ X.env.scope x:=by rw[v.sc];exact Qq hl
 have sc:SC X CL W fr v0 (λY=>evE J Y e):=by
  cases fr with
  |false=>exact o.se.sc
  |true=>exact o.nw (wn rfl)
 cases hc:FV v0 with
 |true=>exact SC.sas hN hi' hx sc (Kj hc) (.inl (hf x))
 |false=>
  obtain⟨tg,iter,elt,ifs,scope,pos2,N',ts,fi,fc,fe,as,g,rfl,B,h2,sj,hg,ht,he,hs,ef⟩:=o.cp hc;obtain⟨b,hb,lg⟩:=gG (elt:=elt) (gs:=[⟨tg,iter,ifs,0⟩]) (scope:=scope) (pos:=pos2) (pos':=p) (x:=x) (l:=pos.line) (env:=X.env);cases b with
  |false=>exact SC.sas hN hi' hx sc hb (.inl (hf x))
  |true=>
   have q:=gR (pos2:=pos) (hk.resolve_left (by rw[hc];exact BC)) B h2 sj hg ht he hs hN hi' (lg rfl) hb
   have q':à X CL W Ab i (.Assign [.Name x p] (.ListComp elt [⟨tg,iter,ifs,0⟩] scope pos2) pos) (λY=>evE J Y e):=by
    have:(λY=>evE J Y e)=_:=funext ef
    rw[this];exact q
   cases fr with
   |true=>exact q'
   | false=>exact λA=>PS.weak (q' A) λD U H ⟨hA,Y,gd,z⟩=>⟨hA,Y,gd,by
     dsimp only at z ⊢;cases e0:evE J Y e with
     |ok d=>
      rw[e0]at z;exact λv' H' s' r'=>z v' H' s' ⟨r'.1,λ_=>r'.2 rfl⟩
     |exn y=>rw[e0]at z;exact z
     | bad=>rw[e0]at z;exact z⟩
theorem kZ(h:∀ x p,t≠.Name x p):KJ [t] e l env=pure Ad:=by
 show Dp e (Aa t) l env=pure Ad;cases e<;>first|rfl|(cases t<;>first|rfl|exact absurd rfl (h _ _))
theorem SX(Y:Rho)(e:E)(h:∀ i,e≠.v i):yk J Y (.ret e)=O.of Y (evE J Y e) λd=>.ret d (Ek J e):=by
 have k:∀ b:Ao,b=Ad->top Y e (evE J Y e)=evE J Y e->(O.of Y (top Y e (evE J Y e)) λd=>.ret d (Ek J e||b))=O.of Y (evE J Y e) λd=>.ret d (Ek J e):=λb hb ht=>by
  rw[hb,ht];simp only[GX]
 rw[Us];cases e with
 |v i=>exact absurd rfl (h i)
 |_=>exact k _ rfl rfl
structure Ω (T:Tc) (X:Cx):Prop where
 fn:∀ x,X.fn x=Ab
 ex:T.cm=Ab->X.ex=[]
 st:T.cm=Ab->X.stack=X.env::X.outer
 fm:T.cm=Ab->X.env.frame=Aa X.env.locals
structure Ts (T:Tc) (st:AT) (s:S):Prop where
 h:∀ {J CL k W X},VX J CL k W T X->Ω T X->SS X CL W st (λY=>yk J Y s)
structure ub (T:Tc) (sts:Ac AT) (ss:Ss):Prop where
 h:∀ {J CL k W X},VX J CL k W T X->Ω T X->ou X CL W sts (λY=>J6 J Y ss)
section
variable{st:AT}
theorem xS(h3:Te T x a)(h:(T.N[i]? == Aa g&&(LY T g&&(FV x||T.cm)))=Ab):Ts T (.Assign [.Name g p] x pos) (.asg i Ad a):=⟨λv hf=>by
 obtain⟨h1,h⟩:=Be h;obtain⟨h2,h⟩:=Be h;exact UP (QU (fr:=Ad) v hf.fn (eq_of_beq h1) h2 (h3.h v) ((Ž h).imp_right v.calm) (λz=>nomatch z))⟩
theorem tP(h3:Te T x a)(h:(T.N[i]? == Aa g&&(LY T g&&(FV x||T.cm)))=Ab):Ts T (.Assign [.Name g p] x pos) (.asg i Ab a):=⟨λ{J CL k W X} v hf=>by
  obtain⟨h1,h⟩:=Be h;obtain⟨h2,h⟩:=Be h;have hk:=(Ž h).imp_right v.calm;have o:=h3.h v;replace h1:=eq_of_beq h1;cases hn:Ek J a with
  |true=>
    refine SS.ref (iM (QU (fr:=Ab) v hf.fn h1 h2 o hk (λ_=>hn))) λY=>.inr ?_
    show O.of Y (evE J Y a) (λd=>if Ab=Ab then (if Ek J a=Ab then (match d with
      |.L xs=>.next (Y.set i (Aa (.L xs,Ab)))
      |.dic xs=>.next (Y.set i (Aa (.dic xs,Ab)))
      | _=>.bad) else .bad) else .next (Y.set i (Aa (d,Ad))))=_
    rw[hn];rfl
  |false=>
    refine SS.ref (UP (QU (fr:=Ad) v hf.fn h1 h2 o hk (λz=>nomatch z))) λY=>?_
    have e0:yk J Y (.asg i Ab a)=O.of Y (evE J Y a) (λd=>if Ab=Ab then (if Ek J a=Ab then (match d with
      |.L xs=>.next (Y.set i (Aa (.L xs,Ab)))
      |.dic xs=>.next (Y.set i (Aa (.dic xs,Ab)))
      | _=>.bad) else .bad) else .next (Y.set i (Aa (d,Ad)))):=rfl
    rw[e0,hn];cases evE J Y a with
    |ok d=>exact .inl rfl
    |exn y=>exact .inr rfl
    | bad=>exact .inl rfl⟩
theorem tO(h5:Te T x a)(h:((Hr ys).isSome&&(qa T ts (mv ys)&&(T.cm&&(VZ x||Cs 4 ys.length))))=Ab):Ts T (.Assign [.Tuple ys i q] x pos) (.asgT ts a):=⟨λv hf=>by
 obtain⟨h1,h⟩:=Be h;obtain⟨h2,h⟩:=Be h;obtain⟨hc,h3⟩:=Be h;exact iL (ba ts) (qJ v (v.calm hc) hf.fn h1 h2) (h5.h v).se (kZ (λ_ _ z=>by cases z)) (qH h3) rfl (dZ ts)⟩
theorem tM(h2:Te T x a)(h1:FV x=Ab):Ts T (.Expr x pos) (.expr a):=⟨λv _=>iK (h2.h v).se (Kj h1)⟩
theorem tJ(h:ò T g i=Ab):Ts T (.Return (Aa (.Name g p)) pos) (.ret (.v i)):=⟨λv _=>iH (No v h)⟩
theorem xN(h:Te T x a)(hv:∀ i,a≠.v i:=by exact λ_ z=>nomatch z):Ts T (.Return (Aa x) pos) (.ret a):=⟨λ{J} {_} {_} {_} {_} v _=>by
 have o:=h.h v;cases hn:Ek J a with
 |true=>
  refine SS.ref (iJ (o.nw hn)) λY=>.inr ?_
  rw[SX Y a hv,hn]
 |false=>
  refine SS.ref (iI o.se) λY=>.inr ?_
  rw[SX Y a hv,hn]⟩
theorem xQ(h1:Tb T x a)(h2:ub T l ss)(h3:ub T l' ss'):Ts T (.If x l l' pos) (.ife a ss ss'):=⟨λv hf=>yJ (h1.h v) (h2.h v hf) (h3.h v hf)⟩
theorem tK(h3:Ti T (.Name g p) z it)(h:(qa T [i] [g]&&(OH z&&T.cm))=Ab)(h4:ub T l ss):Ts T (.For (.Name g p) z l [] pos) (.fors i it ss):=⟨λv hf=>by
 obtain⟨h1,h⟩:=Be h;obtain⟨h2,hc⟩:=Be h;exact UO (v.own hc) (v.calm hc) (mK i) (jI v hf.fn h1) (h3.h v) (h4.h v hf) (QQ h2) (λ_ _ _ z=>nomatch z)⟩
theorem tL(h3:Ti T (.Tuple ys i q) z it)(h:((Hr ys).isSome&&(qa T ts (mv ys)&&(OH z&&T.cm)))=Ab)(h4:ub T l ss):Ts T (.For (.Tuple ys i q) z l [] pos) (.forT ts it ss):=⟨λv hf=>by
 obtain⟨h0,h⟩:=Be h;obtain⟨h1,h⟩:=Be h;obtain⟨h2,hc⟩:=Be h;exact UO (v.own hc) (v.calm hc) (UH ts) (jH v (v.calm hc) hf.fn h0 h1) (h3.h v) (h4.h v hf) (QQ h2) (So ts)⟩
theorem xP(h:(!(T.rzs.any λp=>p.2==i))=Ab):Ts T st (.rais i as):=⟨λ{J CL k W X} v _ Fz B pI s U H D I ⟨Y,x,p⟩=>by
 have hb:∀ ds,J.xn i ds=.bad:=v.xt.xb i λp hp z=>by
  have:T.rzs.any (λp=>p.2==i)=Ab:=List.any_eq_true.mpr ⟨p,hp,A2.mpr z⟩
  rw[this]at h;cases h
 have p':B6 X.K CL Fz B W (O.of Y (yu (w5 J Y as)) λxs=>O.of Y (J.xn i xs) λx=>.exn x Y) D:=p
 cases e1:w5 J Y as with
 |bad=>rw[e1]at p';exact p'.elim
 |exn y=>rw[e1]at p';exact p'.elim
 |ok ds=>
  rw[e1]at p';have p2:B6 X.K CL Fz B W (O.of Y (J.xn i ds) λx=>.exn x Y) D:=p'
  rw[hb ds]at p2;exact p2.elim⟩
theorem xO(hl:Tl T (y::ys) as)(h:(j9 T.rzs g i&&(xj T g&&(IK g&&(T.cm&&Cs ys.length 1000))))=Ab):Ts T (.Raise (Aa (.Call (.Name g p) (y::ys) [] q)) Ae pos) (.rais i as):=⟨λ{J CL k W X} v hf=>by
 obtain⟨h1,h⟩:=Be h;obtain⟨h2,h⟩:=Be h;obtain⟨h3,h⟩:=Be h;obtain⟨hc,h4⟩:=Be h;obtain⟨C,m1,m2⟩:=v.xt.rz _ (Nq h1);obtain⟨s0,s1⟩:=hl.z _ _ rfl;exact dJ (v.calm hc) (hf.ex hc) (v.room hc) v.rz (Mr v h2) m2 (La h3).1 m1 (hl.h v).1 (λds=>v.xt.made i C ds m1) (Dc s0) (s1 _) (λY ds z=>by rw[Nj J Y _ _ z,<-hl.l,Ba];have:=AK h4;omega)⟩
theorem xT(h4:Te T x a)(h:(ò T g i&&(Ge x&&p5.endLine==p6.line))=Ab):Ts T (.Expr (.Call (.Attribute (.Name g p) "append" p5) [x] [] p6) pos) (.app i a):=⟨λv _=>by
 obtain⟨h1,h⟩:=Be h;obtain⟨h3,h2⟩:=Be h;exact qS (No v h1) (h4.h v).se rfl (by rw[Dc h3];rfl) h2 (Dc h3) rfl⟩
theorem xR(h4:Te T x a)(hn:∀ J,Ek J a=Ab:=by exact λ_=>rfl)(h:(ò T g i&&(Ge x&&p5.endLine==p6.line))=Ab):Ts T (.Expr (.Call (.Attribute (.Name g p) "extend" p5) [x] [] p6) pos) (.ext i a):=⟨λv _=>by
 obtain⟨h1,h⟩:=Be h;obtain⟨h3,h2⟩:=Be h;exact qQ (No v h1) ((h4.h v).nw (hn _)) rfl (by rw[Dc h3];rfl) h2 (Dc h3) rfl⟩
theorem yI:ub T [] .nil:=⟨λ_ _=>iG⟩
theorem xH(h1:Ts T st s)(h2:ub T l ss):ub T (st::l) (.cons s ss):=⟨λv hf=>gJ (h1.h v hf) (h2.h v hf)⟩
theorem qR:ub T l (.cons (.expr (.bi .len .nil)) ss):=⟨λ{J CL k W X} _ _ Fz B pI s U H D I ⟨Y,x,p⟩=>by
 have:J6 J Y (.cons (.expr (.bi .len .nil)) ss)=.bad:=rfl;dsimp only at p;rw[this]at p;exact p.elim⟩
end
theorem VX.hotX(v:VX J CL k W T X)(hc:T.cm=Ab)(e:Ak):VX J CL k W0 {T with cm:=Ad,tp:=Ad} (Cx.hot X e):=⟨v.sc,v.kd,v.N,v.nd,v.un,λz=>(nomatch z),λz=>(nomatch z),λ_=>⟨rfl,X,e,rfl,v.room hc⟩,v.bl,v.os,v.mkr,v.fn,λz=>(nomatch z),QN,Rx,v.xt,v.gl,λz=>nomatch z⟩
theorem ub.hot(h:ub ⟨sc,N,fns,bl,rzs,exs,gls,Ad,Ad⟩ l ss)(v:VX J CL k W ⟨sc,N,fns,bl,rzs,exs,gls,Ab,Ab⟩ X)(hf:∀ x,X.fn x=Ab)(e:Ak):ou (Cx.hot X e) CL W0 l (λY=>J6 J Y ss):=h.h (v.hotX rfl e) ⟨hf,λz=>(nomatch z),λz=>(nomatch z),λz=>nomatch z⟩
def dB(ps N:Ac Ah)(st:AT)(df:Df):Ao:=
 let sc:=AB st
 sc.kind==.function && !sc.isCoroutine && !sc.isGenerator&&Kl N&&N.take ps.length==ps&&ps.all (λx=>sc.names.lookup x==Aa .local||sc.names.lookup x==Aa .cell)&&sc.names.all (λy=>y.2 != .free)&&N.length==df.n
structure Tk (hot:Ao) (fns:Ac (Ah×Ag×Ag)) (bl:Ac Ah) (rzs exs gls:Ac (Ah×Ag)) (ps N:Ac Ah) (st:AT) (df:Df):Prop where
 b:dB ps N st df=Ab
 t:ub ⟨AB st,N,fns,bl,rzs,exs,gls,!hot,!hot⟩ (Dt st) df.body
def hdB(T:Tc)(g:Ah)(c:Ag):Ao:=j9 T.exs g c&&(j9 T.rzs g c&&(xj T g&&IK g))
theorem uK(v:VX J CL k W T X)(h:hdB T g c=Ab):Wj X CL J.up g c:=by
 obtain⟨i1,h⟩:=Be h;obtain⟨i0,h⟩:=Be h;obtain⟨i2,i3⟩:=Be h;obtain⟨C,m1,m3,m4⟩:=v.xt.ex _ (Nq i1);obtain⟨C0,r1,r2⟩:=v.xt.rz _ (Nq i0);refine⟨C,Mr v i2,m1,(La i3).1,?_,λc' D hD=>m4 c' D hD⟩
 have e0:=m1.symm.trans r2;cases e0;exact v.xt.xc _ _ r1
theorem WI{Z:Ac α->Prop}(h:∀ a,Z [a]):∀ us:Ac α,us.length=1->Z us
 |[a],_=>h a
theorem Ln{Z:Ac α->Prop}(h:∀ a b,Z [a,b]):∀ us:Ac α,us.length=2->Z us
 |[a,b],_=>h a b
theorem NK{Z:Ac α->Prop}(h:∀ a b c,Z [a,b,c]):∀ us:Ac α,us.length=3->Z us
 |[a,b,c],_=>h a b c
theorem kY{E:XK}(h:È K CL G vs H Q E):vs.length=3:=by
 obtain⟨x,C,dx,us,ds,A,H0,e,z,_⟩:=h;rw[e,Ba,z]
theorem qT{CL:ClA}{H:Hp}{Q:VK}{G:Ac D->R D}{E:XK}(h:È K CL G vs H Q E)(k:∀(x C dx:Ak)(us:Ac V)(ds:Ac D)(A:Ak->Prop)(H0:Hp),vs=.ref x::us->us.length=2->we K C->Fv K C "p"->Fv K C "triple"->H x=Aa (.ins C dx [])->H0 x=Ae->Aw H0 H->J4 H0 A->Y9 K CL H0 A us ds->(match G ds with
 |.ok d=>∀ d1 d2,d=.H [d1,d2]->∀ v1 v2 H',Aw H0 H'->H' x=Aa (.ins C dx [("p",v1),("triple",v2)])->Y6 K CL H' A v1 d1->Y6 K CL H' A v2 d2->Q .O H'
 | _=>AN)->Z):Z:=by
 obtain⟨x,C,dx,us,ds,B,H0,e,hl,cl,np,nt,hx,h0,sm,hA,hr,hp⟩:=h;exact k x C dx us ds B H0 e hl cl np nt hx h0 sm hA hr hp
theorem Ml(h:(BX n ds)[i]?=Aa (Aa (d,o))):o=Ad/\ds[i]?=Aa d:=by
 unfold BX at h;by_cases hi:i<ds.length
 .rw[F0 (by simpa using hi),Ef]at h
  cases e:ds[i]? with
  |none=>rw[e]at h;cases h
  |some x=>rw[e]at h;cases h;exact⟨rfl,rfl⟩
 .rw[W7 (by simpa using Nat.le_of_not_lt hi),GD]at h
  split at h<;>cases h
theorem dI(h:vs[i]?=Aa v):(L2.start N vs)[i]?=Aa (Aa v):=by
 unfold L2.start;have hi:=(A8.mp h).1;rw[F0 (by simpa using hi),Ef,h]
 rfl
theorem TL(hn:N.length=n)(hA:J4 H A)(r:Y9 K CL H A vs ds):Sx K CL ⟨λb o=>H b=Aa o,λ_ _ _=>AN⟩ A (BX n ds) (L2.start N vs) H:=by
 have own:∀ a,Bf A (BX n ds) (L2.start N vs) a->A a:=λa h=>by
  rcases h with h|⟨j,d,h,_⟩
  .exact h
  .exact absurd (Ml h).1 (by decide)
 have RL:(BX n ds).length=(L2.start N vs).length:=by
  unfold BX L2.start;simp only[Cy,Bb,Xe,r.length,hn]
 refine⟨⟨λi d h=>?_,λi d h _=>absurd (Ml h).1 (by decide),RL⟩,λa h=>hA a (own a h),λj d a h _=>absurd (Ml h).1 (by decide),λi j d e a h _ _ _=>absurd (Ml h).1 (by decide),λb o h=>h,RL,λj h=>absurd (Ml h).1 (by decide)⟩
 obtain⟨v,h1,h2⟩:=r.get (Ml h).2;exact⟨v,dI h1,Y6.sub own _ h2⟩
structure yp (K:Fg) (x qual:Ah) (st:AT) (f:Ak) (fd:A7):Prop where
 ex:∃(oc:Aj)(od:Am Ak)(dV kV doc pm:Aj)(an:Am Ak)(cdv ct:Aj)(osl:A3 (Am Aj)),
  fd=B5 x qual (HW st) (Dt st) (AB st) dV kV doc pm an cdv ct/\K.lookup f=Aa ⟨oc,od,.func fd,osl⟩/\DW K cdv qual=Ab
 kp:AM K (.ref f)=Ab
theorem Hv{st:AT}(F:qc K x qual st f fd):yp K x qual st f fd:=by
 obtain⟨oc,od,kV,doc,pm,an,cdv,ct,osl,e,lk,ze⟩:=F.ex;exact⟨⟨oc,od,.none,kV,doc,pm,an,cdv,ct,osl,e,lk,ze⟩,F.kp⟩
def L5(K:Fg)(mg:Ah->Am Aj)(fns:Ac (Ah×Ag×Ag))(bl:Ac Ah)(rzs exs gls:Ac (Ah×Ag))(Pg:Prg)(p:Ah×Ag×Ag):Prop:=∃ f fd ps qual st N,JL K mg p.1=Aa (.ref f)/\(∃ x,yp K x qual st f fd)/\Cv K fd ps []/\ps.length=p.2.2%1000/\Tk (Cs 1000 p.2.2) fns bl rzs exs gls ps N st (Pg.defs p.2.1)
def O9(fns:Ac (Ah×Ag×Ag))(bl:Ac Ah)(rzs exs gls:Ac (Ah×Ag))(st:AT):Prop:=
 ((AB st).kind==.function&&((AB st).isCoroutine==Ad&&((AB st).isGenerator==Ad&&((AB st).names.lookup ("self" : Ah)==Aa .local&&((AB st).names.lookup ("p" : Ah)==Aa .local&&((AB st).names.lookup ("numbers" : Ah)==Aa .local&&((AB st).names.all λy=>y.2 != .free)))))))=Ab /\
 ∃ p0 p1 p2 p3 p4 p5 p6 ev,Dt st=[.Assign [.Attribute (.Name "self" p0) "p" p1] (.Name "p" p2) p6,.Assign [.Attribute (.Name "self" p3) "triple" p4] ev p5]/\FV ev=Ab/\Te ⟨AB st,["self", "p", "numbers"],fns,bl,rzs,exs,gls,Ab,Ab⟩ ev (.call 17 (.cons (.v 1) (.cons (.v 2) .nil)))
noncomputable def GK(s:AT)(j:Ag):AT:=match s with
  |.ClassDef _ _ _ b _ _ _ _ _ _ _=>b.getD j s
  |s=>s
def InR(K:Fg)(fns:Ac (Ah×Ag×Ag))(bl:Ac Ah)(rzs exs gls:Ac (Ah×Ag))(Pg:Prg):Prop:=(∀ c,c<3->Pg.defs (900+c)=tj c)/\Pg.defs 910=j8/\∃ f fd x qual st,yp K x qual st f fd/\Cv K fd ["self", "p", "numbers"] []/\O9 fns bl rzs exs gls st/\∀ c,c<3->∃ C,OC K c=Aa C/\Mk K C f
structure wg (K:Fg) (mg:Ah->Am Aj) (CL:ClA) (fns:Ac (Ah×Ag×Ag)) (bl:Ac Ah) (rzs exs gls:Ac (Ah×Ag)) (Pg:Prg):Prop where
 os:OS K mg
 ini:InR K fns bl rzs exs gls Pg
 xt:XT Pg.up Pg.xn CL rzs exs K mg
 bln:∀ x,x∈bl->mg x=Ae
 gl:∀ p∈gls,KD K mg CL p.1 (Pg.G p.2)
 fn:∀ p∈fns,L5 K mg fns bl rzs exs gls Pg p
theorem Ot(Pg:Prg)(n i:Ag):(Y7 Pg n).fr i=(Pg.defs i).fr:=by cases n<;>rfl
theorem Ms(Pg:Prg)(n:Ag):(Y7 Pg n).up=Pg.up:=by cases n<;>rfl
theorem Lk(Pg:Prg)(n:Ag):(Y7 Pg n).G=Pg.G:=by cases n<;>rfl
theorem Le(Pg:Prg)(n:Ag):(Y7 Pg n).xn=Pg.xn:=by cases n<;>rfl
def ÿ(P:AG)(w:AD)(K:Fg)(mg:Ah->Am Aj)(base:AC)(CL:ClA)(Pg:Prg)(n:Ag)(p:Ah×Ag×Ag):Prop:=∃ f fd ps,JL K mg p.1=Aa (.ref f)/\AM K (.ref f)=Ab/\Cv K fd ps []/\ps.length=p.2.2%1000/\(p.2.2<1000->Y0 P w K mg base (CXR P w) n f fd ps (spD K CL (p.2.2%1000) ((Y7 Pg n).fr p.2.1) ((Y7 Pg n).F p.2.1)))/\(1000<=p.2.2->wz P w K mg base n f fd ps (spH K CL (p.2.2%1000) ((Y7 Pg n).fr p.2.1) ((Y7 Pg n).F p.2.1)))
theorem wC(t:wg K mg CL fns bl rzs exs gls Pg)(ϧ:∀ q∈fns,ÿ P w K mg base CL Pg n q)(Ϩ:∀ c,c<3->Ý P w K mg base CL (Y7 Pg n).F n c){st:AT}{id:Ag}(h2:yp K x qual st f fd)(h4:ps.length=m)(h5:Tk Ad fns bl rzs exs gls ps N st (Pg.defs id)):Y0 P w K mg base (CXR P w) (n+1) f fd ps (spD K CL m ((Y7 Pg (n+1)).fr id) ((Y7 Pg (n+1)).F id)):=by
  obtain⟨h5,c9⟩:=h5;unfold dB at h5;simp only[As,A2,Cn,A6,Ca,FD,KG]at h5;obtain⟨⟨⟨⟨⟨⟨⟨c1,c2⟩,c3⟩,c4⟩,c5⟩,c6⟩,c7⟩,c8⟩:=h5;obtain⟨oc,od,dV,kV,doc,pm,an,cdv,ct,osl,rfl,lk,ze⟩:=h2.ex;refine Hw (N:=N) lk ze ⟨c1,c2,c3,JB c4,c5,c6,c7⟩ (λvs H Q E ⟨ds,A,z,_⟩=>z.trans h4.symm) λA outer s H vs Q E hr ⟨ds,B,hl,hA,vy,Y4⟩=>?_
  have xt:XT (Y7 Pg n).up (Y7 Pg n).xn CL rzs exs K mg:=by rw[Ms,Le];exact t.xt
  have gl:∀ p∈gls,KD K mg CL p.1 ((Y7 Pg n).G p.2):=by rw[Lk];exact t.gl
  have key:∀ W:XW,(∀ x cls dx H',W x H'->Db K CL H' cls dx x->E cls dx H')->B6 K CL ⟨λb o=>H b=Aa o,λ_ _ _=>AN⟩ B W (J6 (Y7 Pg n) (BX (Pg.defs id).n ds) (Pg.defs id).body) {nx:=λ_ H'=>Q .O H',rt:=Q} ->
      ∃ t,zc (Bu (CXR P w) P w K mg base N qual (AB st) f cdv A outer s H E) (Dt st) t/\t {nx:=λ_ H'=>Q .O H',rt:=Q} (start N vs) H:=λW hW hp=>by
    have v:VX (Y7 Pg n) CL n W ⟨AB st,N,fns,bl,rzs,exs,gls,Ab,Ab⟩ (Bu (CXR P w) P w K mg base N qual (AB st) f cdv A outer s H E):=⟨rfl,c1,rfl,JB c4,hr.units,λ_=>rfl,λ_=>hr,λz=>(nomatch z),t.bln,t.os,Ϩ,ϧ,λ_=>qw,OF hW,Ε hW,xt,gl,λ_=>rfl⟩
    exact⟨_,c9.h v ⟨λ_=>rfl,λ_=>rfl,λ_=>rfl,λ_=>rfl⟩ ⟨λb o=>H b=Aa o,λ_ _ _=>AN⟩ B,_,TL c8 hA vy,hp⟩
  have no:∀ x cls dx H',W0 x H'->Db K CL H' cls dx x->E cls dx H':=λ_ _ _ _ z=>z.elim
  have e:(Y7 Pg (n+1)).F id ds=EX Pg.xs ((J6 (Y7 Pg n) (BX (Pg.defs id).n ds) (Pg.defs id).body).ans (Pg.defs id).fr):=rfl;rw[e,Ot]at Y4;have yd:∀ r:R D,(∀ x,r≠.exn x)->EX Pg.xs r=r:=λr hr=>by
    cases Pg.xs<;>cases r<;>first|rfl|exact absurd rfl (hr _)
  cases eo:J6 (Y7 Pg n) (BX (Pg.defs id).n ds) (Pg.defs id).body with
  |next Y'=>
    refine key W0 no ?_;rw[eo]at Y4 ⊢;cases ef:(Pg.defs id).fr with
    |true=>rw[ef]at Y4;rw[yd _ (by intro x z;cases z)]at Y4;exact Y4.elim
    |false=>
      rw[ef]at Y4;rw[yd _ (by intro x z;cases z)]at Y4
      exact λU' H' x'=>Y4 .O H' (λb o z=>x'.same b o z) ⟨rfl,λz=>nomatch z⟩
  |ret d b=>
    refine key W0 no ?_;rw[eo]at Y4 ⊢;intro v H' sm rp fr;have zp:(match EX Pg.xs (if ((Pg.defs id).fr&&(!b&&ka d))=Ab then R.bad else R.ok d) with
      |.ok d=>∀ v H',Aw H H'->B0 K CL (Pg.defs id).fr H B H' v d->Q v H'
      |.exn x=>∀ cls dx H',Aw H H'->Db K CL H' cls dx x->E cls dx H'
      | .bad=>AN):=Y4
    cases ec:((Pg.defs id).fr&&(!b&&ka d)) with
    |true=>rw[ec,Au rfl,yd _ (by intro x z;cases z)]at zp;exact zp.elim
    |false=>
      rw[ec,AA (by decide),yd _ (by intro x z;cases z)]at zp
      refine zp v H' sm ⟨rp,λefr es hd=>?_⟩
      subst hd;have eb:b=Ab:=by
        cases b with
        |true=>rfl
        |false=>rw[efr]at ec;cases ec
      obtain⟨a,xs,h1,h2,h3,h4⟩:=fr eb es rfl;refine⟨a,xs,h1,?_,h3,h4⟩;cases ha:H a with
      |none=>rfl
      |some o=>exact absurd ha (h2 o)
  |brk Y'=>rw[eo]at Y4;have zp:(match EX Pg.xs (R.bad:R D) with | .ok _=>_ | .exn _=>_ | .bad=>AN):=Y4;rw[yd _ (by intro x z;cases z)]at zp;exact zp.elim
  |cont Y'=>rw[eo]at Y4;have zp:(match EX Pg.xs (R.bad:R D) with | .ok _=>_ | .exn _=>_ | .bad=>AN):=Y4;rw[yd _ (by intro x z;cases z)]at zp;exact zp.elim
  |bad=>rw[eo]at Y4;have zp:(match EX Pg.xs (R.bad:R D) with | .ok _=>_ | .exn _=>_ | .bad=>AN):=Y4;rw[yd _ (by intro x z;cases z)]at zp;exact zp.elim
  |exn x Y'=>
    rw[eo]at Y4;have zp:(match EX Pg.xs (R.exn x:R D) with
      |.ok d=>∀ v H',Aw H H'->B0 K CL (Pg.defs id).fr H B H' v d->Q v H'
      |.exn x=>∀ cls dx H',Aw H H'->Db K CL H' cls dx x->E cls dx H'
      | .bad=>AN):=Y4
    cases ex:Pg.xs with
    |false=>rw[ex]at zp;exact zp.elim
    |true=>
      rw[ex]at zp;have hp3:∀ cls dx H',Aw H H'->Db K CL H' cls dx x->E cls dx H':=zp;refine key (λy H'=>y=x/\Aw H H') (λy cls dx H' ⟨e1,sm⟩ xr=>?_) ?_
      · subst e1;exact hp3 cls dx H' sm xr
      · rw[eo];exact λH' sm=>⟨rfl,sm⟩
theorem uI(t:wg K mg CL fns bl rzs exs gls Pg)(ϧ:∀ q∈fns,ÿ P w K mg base CL Pg n q)(Ϩ:∀ c,c<3->Ý P w K mg base CL (Y7 Pg n).F n c){st:AT}{id:Ag}(h2:yp K x qual st f fd)(h4:ps.length=m)(h5:Tk Ab fns bl rzs exs gls ps N st (Pg.defs id)):wz P w K mg base (n+1) f fd ps (spH K CL m ((Y7 Pg (n+1)).fr id) ((Y7 Pg (n+1)).F id)):=by
  obtain⟨h5,c9⟩:=h5;unfold dB at h5;simp only[As,A2,Cn,A6,Ca,FD,KG]at h5;obtain⟨⟨⟨⟨⟨⟨⟨c1,c2⟩,c3⟩,c4⟩,c5⟩,c6⟩,c7⟩,c8⟩:=h5;obtain⟨oc,od,dV,kV,doc,pm,an,cdv,ct,osl,rfl,lk,ze⟩:=h2.ex;refine uJ (N:=N) lk ze ⟨c1,c2,c3,JB c4,c5,c6,c7⟩ (λvs H Q E ⟨ds,A,z,_⟩=>z.trans h4.symm) λA ev outer s H vs Q E hr ⟨ds,B,hl,hA,vy,Y4⟩=>?_
  have xt:XT (Y7 Pg n).up (Y7 Pg n).xn CL rzs exs K mg:=by rw[Ms,Le];exact t.xt
  have gl:∀ p∈gls,KD K mg CL p.1 ((Y7 Pg n).G p.2):=by rw[Lk];exact t.gl
  have key:B6 K CL ⟨λb o=>H b=Aa o,λ_ _ _=>AN⟩ B W0 (J6 (Y7 Pg n) (BX (Pg.defs id).n ds) (Pg.defs id).body) {nx:=λ_ H'=>Q .O H',rt:=Q} ->
      ∃ t,zc (Cx.hot (Bu Kz P w K mg base N qual (AB st) f cdv A outer s H E) ev) (Dt st) t/\t {nx:=λ_ H'=>Q .O H',rt:=Q} (start N vs) H:=λhp=>by
    have v:VX (Y7 Pg n) CL n W0 ⟨AB st,N,fns,bl,rzs,exs,gls,Ab,Ab⟩ (Bu Kz P w K mg base N qual (AB st) f cdv A outer s H E):=⟨rfl,c1,rfl,JB c4,hr.units,λ_=>rfl,λ_=>hr,λz=>(nomatch z),t.bln,t.os,Ϩ,ϧ,λ_=>Yl,QN,Rx,xt,gl,λ_=>rfl⟩
    exact⟨_,ub.hot c9 v (λ_=>rfl) ev ⟨λb o=>H b=Aa o,λ_ _ _=>AN⟩ B,_,TL c8 hA vy,hp⟩
  have e:(Y7 Pg (n+1)).F id ds=EX Pg.xs ((J6 (Y7 Pg n) (BX (Pg.defs id).n ds) (Pg.defs id).body).ans (Pg.defs id).fr):=rfl;rw[e,Ot]at Y4;have yd:∀ r:R D,(∀ x,r≠.exn x)->EX Pg.xs r=r:=λr hr=>by
    cases Pg.xs<;>cases r<;>first|rfl|exact absurd rfl (hr _)
  refine key ?_;cases eo:J6 (Y7 Pg n) (BX (Pg.defs id).n ds) (Pg.defs id).body with
  |next Y'=>
    rw[eo]at Y4;cases ef:(Pg.defs id).fr with
    |true=>rw[ef]at Y4;rw[yd _ (by intro x z;cases z)]at Y4;exact Y4.elim
    |false=>
      rw[ef]at Y4;rw[yd _ (by intro x z;cases z)]at Y4
      exact λU' H' x'=>Y4 .O H' (λb o z=>x'.same b o z) ⟨rfl,λz=>nomatch z⟩
  |ret d b=>
    rw[eo]at Y4;intro v H' sm rp fr;have zp:(match EX Pg.xs (if ((Pg.defs id).fr&&(!b&&ka d))=Ab then R.bad else R.ok d) with
      |.ok d=>∀ v H',Aw H H'->B0 K CL (Pg.defs id).fr H B H' v d->Q v H'
      |.exn x=>AN
      | .bad=>AN):=Y4
    cases ec:((Pg.defs id).fr&&(!b&&ka d)) with
    |true=>rw[ec,Au rfl,yd _ (by intro x z;cases z)]at zp;exact zp.elim
    |false=>
      rw[ec,AA (by decide),yd _ (by intro x z;cases z)]at zp
      refine zp v H' sm ⟨rp,λefr es hd=>?_⟩
      subst hd;have eb:b=Ab:=by
        cases b with
        |true=>rfl
        |false=>rw[efr]at ec;cases ec
      obtain⟨a,xs,h1,h2,h3,h4⟩:=fr eb es rfl;refine⟨a,xs,h1,?_,h3,h4⟩;cases ha:H a with
      |none=>rfl
      |some o=>exact absurd ha (h2 o)
  |brk Y'=>rw[eo]at Y4;have zp:(match EX Pg.xs (R.bad:R D) with | .ok _=>_ | .exn _=>_ | .bad=>AN):=Y4;rw[yd _ (by intro x z;cases z)]at zp;exact zp.elim
  |cont Y'=>rw[eo]at Y4;have zp:(match EX Pg.xs (R.bad:R D) with | .ok _=>_ | .exn _=>_ | .bad=>AN):=Y4;rw[yd _ (by intro x z;cases z)]at zp;exact zp.elim
  |bad=>rw[eo]at Y4;have zp:(match EX Pg.xs (R.bad:R D) with | .ok _=>_ | .exn _=>_ | .bad=>AN):=Y4;rw[yd _ (by intro x z;cases z)]at zp;exact zp.elim
  |exn x Y'=>
    rw[eo]at Y4;have zp:(match EX Pg.xs (R.exn x:R D) with
      |.ok d=>∀ v H',Aw H H'->B0 K CL (Pg.defs id).fr H B H' v d->Q v H'
      |.exn x=>AN
      | .bad=>AN):=Y4
    exfalso
    cases ex:Pg.xs with
    |false=>rw[ex]at zp;exact zp
    |true=>
      rwa [ex]at zp
def Gn(Pg:Prg)(n:Ag):Ac D->R D
  | [d1,d2]=>(match (Y7 Pg n).F 17 [d1,d2] with
    |.ok t=>if wq 5 t=Ab then .ok (.H [d1,t]) else .bad
    | _=>.bad)
  |_=>.bad
theorem vU(Pg:Prg)(n:Ag)(ds:Ac D)(y:Ex):Gn Pg n ds≠.exn y:=by
  match ds with
  |[]=>exact λz=>nomatch z
  |[_]=>exact λz=>nomatch z
  |_::_::_::_=>exact λz=>nomatch z
  |[d1,d2]=>
    show (match (Y7 Pg n).F 17 [d1,d2] with
      |.ok t=>if wq 5 t=Ab then .ok (.H [d1,t]) else .bad
      | _=>.bad:R D)≠.exn y
    split
    · split<;>exact λz=>nomatch z
    · exact λz=>nomatch z
theorem nU(t:wg K mg CL fns bl rzs exs gls Pg)(ϧ:∀ q∈fns,ÿ P w K mg base CL Pg n q)(Ϩ:∀ c,c<3->Ý P w K mg base CL (Y7 Pg n).F n c){st:AT}(h2:yp K x qual st f fd)(h5:O9 fns bl rzs exs gls st):
    Y0 P w K mg base (CXR P w) (n+1) f fd ["self", "p", "numbers"] (È K CL (Gn Pg n)):=by
  obtain⟨h5,p0,p1,p2,p3,p4,p5,p6,ev,eb,hnc,hck⟩:=h5;simp only[As,A2,A6,FD,KG]at h5;obtain⟨c1,c2,c3,c4,c5,c6,c7⟩:=h5;obtain⟨oc,od,dV,kV,doc,pm,an,cdv,ct,osl,rfl,lk,ze⟩:=h2.ex;refine Hw (N:=["self", "p", "numbers"]) lk ze ⟨c1,c2,c3,by decide,rfl,λy hy=>?_,c7⟩ (λ_ _ _ _ h=>kY h) λA outer s H vs Q E hr h=>qT h λx C dx us ds B H0 e hl cl np nt hx h0 sm hA vy Y4=>?_
  · rcases AE.mp hy with rfl|hy
    · exact .inl c4
    · rcases AE.mp hy with rfl|hy
      · exact .inl c5
      · rw[BH.mp hy];exact .inl c6
  subst e;have xt:XT (Y7 Pg n).up (Y7 Pg n).xn CL rzs exs K mg:=by rw[Ms,Le];exact t.xt
  have gl:∀ p∈gls,KD K mg CL p.1 ((Y7 Pg n).G p.2):=by rw[Lk];exact t.gl
  have no:∀ x cls dx H',W0 x H'->Db K CL H' cls dx x->E cls dx H':=λ_ _ _ _ z=>z.elim
  have v:VX (Y7 Pg n) CL n W0 ⟨AB st,["self", "p", "numbers"],fns,bl,rzs,exs,gls,Ab,Ab⟩ (Bu (CXR P w) P w K mg base ["self", "p", "numbers"] qual (AB st) f cdv A outer s H E):=⟨rfl,c1,rfl,(show (["self", "p", "numbers"]:Ac Ah).Nodup by decide),hr.units,λ_=>rfl,λ_=>hr,λz=>(nomatch z),t.bln,t.os,Ϩ,ϧ,λ_=>qw,OF no,Ε no,xt,gl,λ_=>rfl⟩
  match us,hl with
  |[v1,v2],_=>
    match ds,vy with
    |[],r=>exact r.elim
    |[_],r=>exact r.2.elim
    |_::_::_::_,r=>exact r.2.2.elim
    |[d1,d2],r=>
      have sv:=(hck.h v).se;obtain⟨tt,pss,rd⟩:=cU (H:=H) (H0:=H0) (x:=x) (C:=C) (dx:=dx) (v1:=v1) (v2:=v2) (d1:=d1) (d2:=d2) (A:=B) (Q:=Q) (U:=L2.start ["self", "p", "numbers"] [.ref x,v1,v2]) (p0:=p0) (p1:=p1) (p2:=p2) (p3:=p3) (p4:=p4) (p5:=p5) (p6:=p6) (t0:=Bu (CXR P w) P w K mg base ["self", "p", "numbers"] qual (AB st) f cdv A outer s H E)
        (λp=>DF rfl (.inl c4)) (λp=>DF rfl (.inl c5)) sv (Kj hnc)
      refine⟨tt,by rw[eb];exact pss,rd rfl cl np nt hx h0 sm hA r.1 r.2.1 ?_⟩
      have zp:(match (match (Y7 Pg n).F 17 [d1,d2] with
          |.ok t=>if wq 5 t=Ab then R.ok (D.H [d1,t]) else .bad
          | _=>.bad) with
        |.ok d=>∀ e1 e2,d=.H [e1,e2]->∀ v1 v2 H',Aw H0 H'->H' x=Aa (.ins C dx [("p",v1),("triple",v2)])->Y6 K CL H' B v1 e1->Y6 K CL H' B v2 e2->Q .O H'
        | _=>AN):=Y4
      cases e17:(Y7 Pg n).F 17 [d1,d2] with
      |bad=>rw[e17]at zp;exact zp.elim
      |exn y=>rw[e17]at zp;exact zp.elim
      |ok t0=>
        rw[e17]at zp;dsimp only at zp;by_cases hn:wq 5 t0=Ab
        · rw[Au hn]at zp;exact⟨t0,rfl,hn,λw1 w2 H' a b c d=>zp _ _ rfl w1 w2 H' a b c d⟩
        · rw[AA hn]at zp;exact zp.elim
theorem mkF:(tj c).run J [d1,d2]=(yu (J.F 910 [d1,d2])).bind (ES c):=by
 simp only[Df.run,tj,BX,eL,Us];show (O.seq (O.of _ ((yu ((J.F 910 [d1,d2]).bind λd=>.ok d)).bind λx=>ES c x) λd=>O.ret d _) _).ans Ad=_
 have nx:∀ d y,ES c d≠.exn y:=λd y z=>by
  unfold ES at z;split at z
  .split at z<;>cases z
  .cases z
 cases J.F 910 [d1,d2] with
 |bad=>rfl
 |exn y=>rfl
 |ok d=>
  show (O.seq (O.of _ (ES c d) λd=>O.ret d _) _).ans Ad=ES c d
  cases e:ES c d with
  |ok _=>rfl
  |bad=>rfl
  |exn y=>exact absurd e (nx d y)
theorem inF:yu (j8.run J [d1,d2])=yu ((J.F 17 [d1,d2]).bind λt=>.ok (.H [d1,t])):=by
 simp[Df.run,j8,BX];cases J.F 17 [d1,d2]<;>rfl
theorem V1(t:wg K mg CL fns bl rzs exs gls Pg):∀ n,(∀ m,m<=n->∀ q∈fns,ÿ P w K mg base CL Pg m q)->∀ c,c<3->Ý P w K mg base CL (Y7 Pg n).F n c:=by
  intro n
  induction n using Nat.strongRecOn with
  |ind n ih=>
    intro hl c hc;obtain⟨i1,i2,f,fd,x,qual,st,h2,h3,h5,h6⟩:=t.ini
    match n,ih,hl with
    |0,_,_=>exact .inl λds=>rfl
    |1,_,_=>
      refine .inl λds=>?_
      have e:(Y7 Pg 1).F (900+c) ds=EX Pg.xs ((Pg.defs (900+c)).run (Y7 Pg 0) ds):=rfl;rw[e,i1 c hc];have e2:(tj c).run (Y7 Pg 0) ds=.bad:=by
        match ds with
        |[]=>rfl
        |[_]=>rfl
        |_::_::_=>rfl
      rw[e2];cases Pg.xs<;>rfl
    |m+2,ih,hl=>
      obtain⟨C,o1,M⟩:=h6 c hc;refine .inr ⟨C,f,fd,Gn Pg m,m+1,o1,M,h3,rfl,nU t (λq hq=>hl m (by omega) q hq) (ih m (by omega) λk hk=>hl k (by omega)) h2 h5,λds hd=>?_,vU Pg m⟩
      match ds,hd with
      |[d1,d2],_=>
        have cutN:∀ r:R D,yu (EX Pg.xs r)=yu r:=λr=>by cases Pg.xs<;>cases r<;>rfl
        have e:(Y7 Pg (m+2)).F (900+c) [d1,d2]=EX Pg.xs ((Pg.defs (900+c)).run (Y7 Pg (m+1)) [d1,d2]):=rfl;have e0:(Y7 Pg (m+1)).F 910 [d1,d2]=EX Pg.xs ((Pg.defs 910).run (Y7 Pg m) [d1,d2]):=rfl;rw[e,i1 c hc,mkF,e0,i2,cutN,inF];cases e17:(Y7 Pg m).F 17 [d1,d2] with
        |bad=>refine .inl ?_;cases Pg.xs<;>rfl
        |exn y=>refine .inl ?_;cases Pg.xs<;>rfl
        |ok t0=>
          by_cases hn:wq 5 t0=Ab
          · refine .inr ?_;have g:Gn Pg m [d1,d2]=.ok (.H [d1,t0]):=by
              show (match (Y7 Pg m).F 17 [d1,d2] with
                |.ok t=>if wq 5 t=Ab then .ok (.H [d1,t]) else .bad
                | _=>.bad:R D)=_
              rw[e17];exact Au hn
            rw[g];show EX Pg.xs (ES c (.H [d1,t0]))=ES c (.H [d1,t0]);have:ES c (.H [d1,t0])=.ok (.obj c [("p",d1),("triple",t0)]):=Au hn;rw[this];cases Pg.xs<;>rfl
          · refine .inl ?_;have:ES c (.H [d1,t0])=.bad:=AA hn;show EX Pg.xs (ES c (.H [d1,t0]))=.bad;rw[this];cases Pg.xs<;>rfl
theorem Ug(t:wg K mg CL fns bl rzs exs gls Pg):∀ n m,m<=n->∀ p∈fns,ÿ P w K mg base CL Pg m p:=by
 have zero:∀ p∈fns,ÿ P w K mg base CL Pg 0 p:=λp hp=>by
  obtain⟨f,fd,ps,qual,st,N,h1,⟨x0,h2⟩,h3,h4,h5⟩:=t.fn p hp;exact⟨f,fd,ps,h1,h2.kp,h3,h4,λ_=>⟨λvs H Q E ⟨ds,A,_,_,_,z⟩=>z.elim,λA outer s H args us vs Q E _ _ _ _ ⟨ds,A,_,_,_,z⟩=>z.elim⟩,λ_=>⟨λvs H Q E ⟨ds,A,_,_,_,z⟩=>z.elim,λA ev outer s H args us vs Q E _ _ _ _ ⟨ds,A,_,_,_,z⟩=>z.elim⟩⟩
 intro n
 induction n with
 |zero=>intro m hm p hp;obtain rfl:=Nat.le_zero.mp hm;exact zero p hp
 |succ n ih=>
  intro m hm p hp;by_cases hmn:m<=n
  .exact ih m hmn p hp
  .have:m=n+1:=by omega
   subst this;have mk:=V1 (P:=P) (w:=w) (base:=base) t n ih;obtain⟨f,fd,ps,qual,st,N,h1,⟨x0,h2⟩,h3,h4,h5⟩:=t.fn p hp;refine⟨f,fd,ps,h1,h2.kp,h3,h4,λxu=>?_,λhge=>?_⟩
   .have eb:Cs 1000 p.2.2=Ad:=by
     cases e:Cs 1000 p.2.2 with
     |false=>rfl
     |true=>exact absurd (AK e) (by omega)
    rw[eb]at h5;exact wC t (λq hq=>ih n (AQ _) q hq) mk h2 h4 h5
   .rw[Nat.ble_eq_true_of_le hge]at h5;exact uI t (λq hq=>ih n (AQ _) q hq) mk h2 h4 h5
theorem UK(t:wg K mg CL fns bl rzs exs gls Pg)(n:Ag):∀ p∈fns,ÿ P w K mg base CL Pg n p:=Ug t n n (AQ _)
theorem UL(t:wg K mg CL fns bl rzs exs gls Pg)(n:Ag):∀ c,c<3->Ý P w K mg base CL (Y7 Pg n).F n c:=V1 t n (Ug t n)
theorem uL{i:Ai}(h:mg x=Aa (.int i u)):KD K mg CL x (.int i):=⟨_,.int i,h,⟨_,rfl⟩,λ_ _=>rfl⟩
theorem Of{is:Ac Ah}(h:mg x=Aa (.ref a))(l:K.lookup a=Aa ⟨.type "tuple",dd,.seq its.toArray n,sl⟩)(hv:AZ (is.map V.str) its)(hz:its.length<=1000):KD K mg CL x (.H (is.map D.str)):=by
 have rs:∀(H:Hp)(A:Ak->Prop)(l:Ac Ah),Y9 K CL H A (l.map V.str) (l.map D.str):=λH A l=>by
  induction l with
  |nil=>trivial
  |cons x l ih=>exact⟨rfl,ih⟩
 have kt:KT K a (is.map V.str):=⟨_,_,_,l,rfl,rfl,by rw[AL,BE];omega,hv⟩
 exact⟨_,.ref a,h,rfl,λH A=>⟨a,is.map V.str,rfl,.inr kt,.inr kt,rs H A is⟩⟩
theorem wD(h:CXR P w [] H s (λ_ _ _=>AN) e s'):AN:=by
 obtain⟨_,_,_,_,_,_,_,_,_,_,_,_,_,_,_,z⟩:=h;exact z
noncomputable def We:AT->Am (Aq×AH)
 |.Expr e p=>Aa (e,p)
 |_=>Ae
theorem iW(h:We e=Aa t):e=.Expr t.1 t.2:=by
 cases e with
 |Expr x p=>cases h;rfl
 |_=>exact nomatch (show Ae=Aa t from h)
noncomputable def V8:AT->Am (Aq×Aq×AH)
  | .Assign ts v p=>(match ts with
    |[t]=>Aa (t,v,p)
    | _=>Ae)
  |_=>Ae
theorem iY(h:V8 e=Aa t):e=.Assign [t.1] t.2.1 t.2.2:=by
 cases e with
 |Assign ts v p=>
  cases ts with
  |nil=>exact nomatch (show Ae=Aa t from h)
  |cons a ts=>
   cases ts with
   |nil=>cases h;rfl
   |cons=>exact nomatch (show Ae=Aa t from h)
 |_=>exact nomatch (show Ae=Aa t from h)
noncomputable def Rv:Aq->Am (Aq×Ah×AH)
 |.Attribute e x p=>Aa (e,x,p)
 |_=>Ae
theorem TR(h:Rv e=Aa t):e=.Attribute t.1 t.2.1 t.2.2:=by
 cases e with
 |Attribute e x p=>cases h;rfl
 |_=>exact nomatch (show Ae=Aa t from h)
noncomputable def Wd:Aq->Am (Ac Aq×AH)
 |.JoinedStr l p=>Aa (l,p)
 |_=>Ae
theorem iV(h:Wd e=Aa t):e=.JoinedStr t.1 t.2:=by
 cases e with
 |JoinedStr l p=>cases h;rfl
 |_=>exact nomatch (show Ae=Aa t from h)
noncomputable def Ru:Aq->Am (Aq×Ai×AH)
  | .FormattedValue e n f p=>(match f with
    |none=>Aa (e,n,p)
    | _=>Ae)
  |_=>Ae
theorem TQ(h:Ru e=Aa t):e=.FormattedValue t.1 t.2.1 Ae t.2.2:=by
 cases e with
 |FormattedValue e n f p=>
  cases f with
  |none=>cases h;rfl
  |some=>exact nomatch (show Ae=Aa t from h)
 |_=>exact nomatch (show Ae=Aa t from h)
noncomputable def O2:Aq->Am (Ah×Ag×AH)
  | .Constant c k p=>(match c with
    |.str z=>Aa (z,k,p)
    | _=>Ae)
  |_=>Ae
theorem Qs(h:O2 e=Aa t):e=.Constant (.str t.1) t.2.1 t.2.2:=by
 cases e with
 |Constant c k p=>
  cases c with
  |str z=>cases h;rfl
  |_=>exact nomatch (show Ae=Aa t from h)
 |_=>exact nomatch (show Ae=Aa t from h)
noncomputable def Wc{α:Type}:Ac α->Am (α×α×α)
 |[a,b,c]=>Aa (a,b,c)
 |_=>Ae
theorem iU(h:Wc l=Aa t):l=[t.1,t.2.1,t.2.2]:=by
  match l,h with
  |[a,b,c],h=>cases h;rfl
  |[],h=>cases h
  |[_],h=>cases h
  |[_,_],h=>cases h
  |_::_::_::_::_,h=>cases h
def Zj(par:Ah)(j:Ac Aq):Am EB:=(O1 j).bind λfk=>(Ru fk.1).bind λfm=>(LR fm.1).bind λq1=>(O2 fk.2).bind λz=>if (q1.1==par&&(decide (fm.2.1=-1)&&Cs z.1.length 1000))=Ab then Aa () else Ae
def Zi(par:Ah)(j:Ac Aq):Am EB:=(Wc j).bind λfk=>(O2 fk.1).bind λy=>(Ru fk.2.1).bind λfm=>(LR fm.1).bind λq1=>(O2 fk.2.2).bind λz=>if (q1.1==par&&(decide (fm.2.1=-1)&&(Cs y.1.length 400&&Cs z.1.length 1000)))=Ab then Aa () else Ae
def fsX(par:Ah)(e:Aq):Am EB:=(Wd e).bind λj=>if ((Zj par j.1).isSome||(Zi par j.1).isSome)=Ab then Aa () else Ae
theorem uN(h:fsX par e=Aa u):t9 par e:=by
 obtain⟨j,e1,h⟩:=AO.mp h;rw[iV e1];split at h
 .rename_i hc;rcases Ž hc with hc|hc
  .obtain⟨_,h⟩:=CW.mp hc;obtain⟨fk,e2,h⟩:=AO.mp h;obtain⟨fm,e3,h⟩:=AO.mp h;obtain⟨q1,e4,h⟩:=AO.mp h;obtain⟨z,e5,h⟩:=AO.mp h;split at h
   .rename_i hc;simp only[As,A2,Bh]at hc;obtain⟨c1,c2,c3⟩:=hc;rw[Qr e2,TQ e3,Mn e4,Qs e5,c1,c2];exact uM (AK c3)
   .cases h
  .obtain⟨_,h⟩:=CW.mp hc;obtain⟨fk,e2,h⟩:=AO.mp h;obtain⟨y,e6,h⟩:=AO.mp h;obtain⟨fm,e3,h⟩:=AO.mp h;obtain⟨q1,e4,h⟩:=AO.mp h;obtain⟨z,e5,h⟩:=AO.mp h;split at h
   .rename_i hc;simp only[As,A2,Bh]at hc;obtain⟨c1,c2,c4,c3⟩:=hc;rw[iU e2,Qs e6,TQ e3,Mn e4,Qs e5,c1,c2];exact fA (AK c4) (AK c3)
   .cases h
 .cases h
def Wm(g par f:Ah)(b:Ac AT):Am EB:=(O1 b).bind λs=>(We s.1).bind λc=>(Wf c.1).bind λcl=>(Rv cl.1).bind λoz=>(LR oz.1).bind λg1=>(O1 cl.2.1).bind λab=>(LR ab.1).bind λs1=>(fsX par ab.2).bind λ_=>(V8 s.2).bind λt=>(Rv t.1).bind λat2=>(LR at2.1).bind λs2=>(LR t.2.1).bind λq2=>
 if (g1.1==g&&(oz.2.1==("__init__" : Ah)&&(s1.1==("self" : Ah)&&(s2.1==("self" : Ah)&&(at2.2.1==f&&(q2.1==par&&oz.2.2.endLine==cl.2.2.line))))))=Ab then Aa () else Ae
def Wn(g par f:Ah)(b:Ac AT):Ao:=(Wm g par f b).isSome
theorem nW(h:Wn g par f b=Ab):∃ j np apos p1 cpos p6 p7 p8 p9 p10,b=RA g par f j np apos p1 cpos p6 p7 p8 p9 p10/\(apos.endLine==cpos.line)=Ab/\t9 par j:=by
 obtain⟨_,h⟩:=CW.mp (show (Wm g par f b).isSome=Ab from h)
 obtain⟨s,e1,h⟩:=AO.mp h;obtain⟨c,e2,h⟩:=AO.mp h;obtain⟨cl,e3,h⟩:=AO.mp h;obtain⟨oz,e4,h⟩:=AO.mp h;obtain⟨g1,e5,h⟩:=AO.mp h;obtain⟨ab,e6,h⟩:=AO.mp h;obtain⟨s1,e7,h⟩:=AO.mp h;obtain⟨_,e8,h⟩:=AO.mp h;obtain⟨t,f4,h⟩:=AO.mp h;obtain⟨at2,f5,h⟩:=AO.mp h;obtain⟨s2,f6,h⟩:=AO.mp h;obtain⟨q2,f7,h⟩:=AO.mp h;split at h
 .rename_i hc;simp only[As,A2,Bh]at hc;obtain⟨c1,c2,c3,c6,c7,c8,h1⟩:=hc;rw[Qr e1,iW e2,iX e3,TR e4,Mn e5,Qr e6,Mn e7,iY f4,TR f5,Mn f6,Mn f7,c1,c2,c3,c6,c7,c8];exact⟨_,_,_,_,_,_,_,_,_,_,rfl,by rw[A2];exact h1,uN e8⟩
 .cases h
def NG(g par f:Ah)(st:AT):Ao:=
 (AB st).kind==.function&&((AB st).isCoroutine==Ad&&((AB st).isGenerator==Ad&&(Kl ["self",par]&&((AB st).names.lookup ("self" : Ah)==Aa .local&&((AB st).names.lookup par==Aa .local&&(((AB st).names.all λy=>y.2 != .free) &&
  ((AB st).names.lookup g==Aa .globalImplicit&&(g != ("__debug__" : Ah)&&(par != ("__debug__" : Ah)&&(par != ("__classdict__" : Ah)&&Wn g par f (Dt st)))))))))))
noncomputable def OJ(s:AT):AT:=match s with
  |.ClassDef _ _ _ (b::_) _ _ _ _ _ _ _=>b
  |s=>s
def Û(K:Fg)(f:Ak)(qual:Ah)(st:AT):Prop:=∃ fd,qc K "__init__" qual st f fd
theorem ini_mk{st:AT}{kV:Aj}(l:K.lookup f=Aa ⟨oc,od,.func (B5 "__init__" qual (HW st) (Dt st) (AB st) .none kV doc pm an cdv ct),osl⟩)(c:DW K cdv qual=Ab)(k:AM K (.ref f)=Ab):Û K f qual st:=⟨_,QI l c k⟩
theorem rB{st:AT}(a:Û K fI qual st)(hk:NG g par f st=Ab)(hb:∀(u0 u1 kV doc pm:Aj)(an:Am Ak)(cdv ct:Aj),HS (B5 "__init__" qual (HW st) (Dt st) (AB st) .none kV doc pm an cdv ct) ⟨[u0,u1],[]⟩=pure ((["self",par]:Ac Ah).zip [u0,u1]))(xc:D0 K C (Aa (.ref fI))=Ab)(dc:Ks K C=Ab)(ty:Dz K (.ref fI)=Aa (.type "function"))(mo:mg g=Aa (.ref OV))(s1:DN K (.ref OV) "__getattribute__" = Aa (Aa (.builtin "type.__getattribute__")))(s2:F5 K OV (.type "type")=Ab)(s3:F3 K (.ref OV) (.type "type") "__init__" = Aa (.val (.builtin "ValueError.__init__")))(hf:Ap K (.ref C) f=Aa Ae)(hs:Ap K (.ref C) "__setattr__" = Aa (Aa (.builtin "object.__setattr__"))):kv K mg C f:=by
 obtain⟨fd,fn⟩:=a;unfold NG at hk;simp only[As,A2,A6,FD,KG]at hk;obtain⟨c1,c2,c3,c4,c5,c6,c7,c8,c9,c10,c11,c12⟩:=hk;obtain⟨j,np,apos,p1,cpos,p6,p7,p8,p9,p10,eb,hl,hz⟩:=nW c12;exact .mk xc dc fn ty ⟨c1,c2,c3,JB c4,rfl,λx hx=>by
  rcases AE.mp hx with rfl|hx
  .exact .inl c5
  .rw[BH.mp hx];exact .inl c6,c7⟩ c5 c6 (fn.binds λkV doc pm an cdv ct=>Ln λu0 u1=>hb u0 u1 kV doc pm an cdv ct) eb c8 mo (by simpa using c9) (by simpa using c10) (by simpa using c11) s1 s2 s3 hl hz hf hs
theorem bq(h:∀ ds,xn c ds=.bad\/xn c ds=.ok ⟨c,[]⟩)(e:D0 K C Ae=Ab)(ds:Ac D):xn c ds=.bad\/(xn c ds=.ok ⟨c,[]⟩/\D0 K C Ae=Ab)\/∃ f,kv K mg C f/\NA xn c f ds:=(h ds).imp id λz=>.inl ⟨z,e⟩
theorem bp(h:∀ ds,xn c ds=ϲ c f ds)(x:kv K mg C f)(ds:Ac D):xn c ds=.bad\/(xn c ds=.ok ⟨c,[]⟩/\D0 K C Ae=Ab)\/∃ f,kv K mg C f/\NA xn c f ds:=by
  have e:=h ds
  match ds,e with
  |[],e=>exact .inl e
  |_::_::_,e=>exact .inl e
  |[d],e=>
    have e':xn c [d]=if (wc 1 d||wc 2 d)=Ab then .ok ⟨c,[(f,d)]⟩ else .bad:=e
    by_cases z:(wc 1 d||wc 2 d)=Ab
    · rw[Au z]at e';refine .inr (.inr ⟨f,x,d,?_⟩);rw[Ca]at z;rcases z with z|z
      · exact⟨1,rfl,z,by decide,e'⟩
      · exact⟨2,rfl,z,by decide,e'⟩
    · rw[AA z]at e';exact .inl e'
theorem V0(dc:Ks K C=Ab)(h1:Ap K (.ref C) "triple" = Aa Ae)(h2:Ap K (.ref C) "points" = Aa Ae)(h3:Ap K (.ref C) "row" = Aa Ae)(f:Ah)(h:(f==("triple" : Ah)||(f==("points" : Ah)||f==("row" : Ah)))=Ab):Ks K C=Ab/\Ap K (.ref C) f=Aa Ae:=by
 rw[Ca,Ca]at h;rcases h with h|h|h
 .rw[eq_of_beq h];exact⟨dc,h1⟩
 .rw[eq_of_beq h];exact⟨dc,h2⟩
 .rw[eq_of_beq h];exact⟨dc,h3⟩
structure XA (K:Fg) (c:Ah) (x:Ak) (i:Am Aj):Prop where
 n:A1 K AJ c=Aa (Aa (.ref x))
 y:D0 K x i=Ab
 dc:Ks K x=Ab
 ft:Ap K (.ref x) "triple" = Aa Ae
 fp:Ap K (.ref x) "points" = Aa Ae
 fr:Ap K (.ref x) "row" = Aa Ae
 ok:yc K x
theorem xcls_l(e:KI K x [.type "ValueError",.type "Exception",.type "BaseException",.type "object"] "ValueError.__new__" = Ab):D0 K x Ae=Ab:=iQ e
theorem xa_mk{i:Am Aj}(n:A1 K AJ c=Aa (Aa (.ref x)))(e:D0 K x i=Ab)(dc:Ks K x=Ab)(ft:Ap K (.ref x) "triple" = Aa Ae)(fp:Ap K (.ref x) "points" = Aa Ae)(fr:Ap K (.ref x) "row" = Aa Ae)(ga:Ap K (.ref x) "__getattribute__" = Aa (Aa (.builtin "BaseException.__getattribute__")))(gt:Ap K (.ref x) "__getattr__" = Aa Ae)(cl:Ap K (.ref x) "__class__" = Aa (Aa (.builtin "object.__class__")))(ob:Cq K x (.type "object")=Aa Ab)(be:BV K (.ref x) (.type "BaseException")=Aa Ab)(sv:BV K (.ref x) (.type "ValueError")=Aa Ab):XA K c x i:=⟨n,e,dc,ft,fp,fr,wT e ga gt cl ob be sv⟩
structure XB (K:Fg) (c:Ah) (x i:Ak) (q:Ah) (st:AT):Prop where
 fi:Ap K (.ref x) "__init__" = Aa (Aa (.ref i))
 a:XA K c x (Aa (.ref i))
 ii:Û K i q st
 ti:Dz K (.ref i)=Aa (.type "function")
 sn:Ap K (.ref x) "__setattr__" = Aa (Aa (.builtin "object.__setattr__"))
structure XE (K:Fg) (c:Ah) (x:Ak):Prop where
 n:A1 K AJ c=Aa (Aa (.ref x))
 cs:Cq K x (.type "object")=Aa Ab
 ty:Dz K (.ref x)=Aa (.type "type")
structure XO (K:Fg) (x:Ak):Prop where
 sa:DN K (.ref x) "__getattribute__" = Aa (Aa (.builtin "type.__getattribute__"))
 sb:F5 K x (.type "type")=Ab
 sc:F3 K (.ref x) (.type "type") "__init__" = Aa (.val (.builtin "ValueError.__init__"))
def sg(K:Fg)(C:Ak)(l:Ac (Ak×Ao)):Prop:=∀ q∈l,BV K (.ref q.1) (.ref C)=Aa q.2
def KC(K:Fg)(C:Ak):Prop:=∀ x i v,D0 K x i=Ab->BV K (.ref x) (.ref C)=Aa v->CN K (.ref x) (.ref C)=Aa v
theorem XA.kc{i:Am Aj}(a:XA K c x i):KC K x:=λ_ _ _ y s=>nP y a.y s
theorem XE.kc(a:XE K c x):KC K x:=λ_ _ _ y s=>fU y a.cs a.ty s
noncomputable def kz:Ac (Ag×Ak)->Ag->Am Ak
 |[],_=>Ae
 |p::r,c=>if Nat.beq c p.1=Ab then Aa p.2 else kz r c
theorem Nr:∀{l:Ac (Ag×Ak)},kz l c=Aa C->(c,C)∈l:=by
 intro l
 induction l with
 |nil=>intro q;cases q
 |cons p r ih=>
  intro q;obtain⟨n,x⟩:=p;by_cases e:Nat.beq c n=Ab
  .cases Nat.eq_of_beq_eq_true e;cases (show Aa x=Aa C from (Au e).symm.trans q)
   exact AR
  .exact Ay _ (ih ((AA e).symm.trans q))
structure XR (K:Fg) (mg:Ah->Am Aj) (xn:Ag->Ac D->R Ex) (p:Ag×Ak):Prop where
 ok:yc K p.2
 nf:∀ f:Ah,(f==("triple" : Ah)||(f==("points" : Ah)||f==("row" : Ah)))=Ab->Ks K p.2=Ab/\Ap K (.ref p.2) f=Aa Ae
 md:∀ ds,xn p.1 ds=.bad\/(xn p.1 ds=.ok ⟨p.1,[]⟩/\D0 K p.2 Ae=Ab)\/∃ f,kv K mg p.2 f/\NA xn p.1 f ds
theorem XA.row(a:XA K c x Ae)(h:∀ ds,xn k ds=.bad\/xn k ds=.ok ⟨k,[]⟩):XR K mg xn (k,x):=⟨a.ok,V0 a.dc a.ft a.fp a.fr,bq h a.y⟩
theorem XB.row{i:Ak}{st:AT}{f:Ah}(X:K.In h)(G:h.Ns AJ mg)(b:XB K c x i q st)(w:XO K o)(no:A1 K AJ g=Aa (Aa (.ref o)))(hf:f = "triple"\/f = "points")(hk:NG g par f st=Ab)(hb:∀(u0 u1 kV doc pm:Aj)(an:Am Ak)(cdv ct:Aj),HS (B5 "__init__" q (HW st) (Dt st) (AB st) .none kV doc pm an cdv ct) ⟨[u0,u1],[]⟩=pure ((["self",par]:Ac Ah).zip [u0,u1]))(hx:∀ ds,xn k ds=ϲ k f ds):XR K mg xn (k,x):=
 ⟨b.a.ok,V0 b.a.dc b.a.ft b.a.fp b.a.fr,bp hx (rB b.ii hk hb b.a.y b.a.dc b.ti (AU X G no) w.sa w.sb w.sc (by rcases hf with rfl|rfl;exact b.a.ft;exact b.a.fp) b.sn)⟩
theorem wS(r:∀ p∈l,XR K mg xn p)(rz:∀ p∈rzs,∃ C,kz l p.2=Aa C/\mg p.1=Aa (.ref C))(ex:∀ p∈exs,∃ C,mg p.1=Aa (.ref C)/\KC K C/\sg K C (l.map λq=>(q.2,(up q.1).contains p.2)))(xb:∀ c,(∀ p∈rzs,p.2≠c)->∀ ds,xn c ds=.bad):XT up xn (kz l) rzs exs K mg:=by
 refine⟨λc C q=>(r _ (Nr q)).ok,rz,λp hp=>?_,λc C ds q=>(r _ (Nr q)).md ds,λc C q=>(r _ (Nr q)).nf,xb⟩
 obtain⟨C,e,kc,su⟩:=ex p hp;have s:∀ c D,kz l c=Aa D->BV K (.ref D) (.ref C)=Aa ((up c).contains p.2):=λc D q=>su _ (List.mem_map_of_mem (f:=λq:Ag×Ak=>(q.2,(up q.1).contains p.2)) (Nr q))
 exact⟨C,e,λc D q=>let ⟨_,y⟩:=(r _ (Nr q)).ok.exc;kc _ _ _ y (s c D q),s⟩
def OI(K:Fg):Sp:=λvs H Q _=>∃(a:Ak)(ns:Ac Ai),vs=[.ref a]/\ns.length<=63/\zr K H a (ns.map V.int)/\∀ v H',v=V.bl Ab->Q v H'
theorem aNl{Q:α->Prop}:∀ x∈([]:Ac α),Q x:=λ_ h=>nomatch h
theorem aCn{Q:α->Prop}{a:α}{l:Ac α}(h1:Q a)(h2:∀ x∈l,Q x):∀ x∈a::l,Q x:=List.forall_mem_cons.2 ⟨h1,h2⟩
def zy(K:Fg)(f:Ak)(n:Ah)(st:AT):Prop:=∃ fd,qc K n n st f fd/\A1 K AJ n=Aa (Aa (.ref f))
theorem fni{st:AT}{kV:Aj}(a:A1 K AJ n=Aa (Aa (.ref f)))(l:K.lookup f=Aa ⟨oc,od,.func (B5 n n (HW st) (Dt st) (AB st) .none kV doc pm an cdv ct),osl⟩)(c:DW K cdv n=Ab)(k:AM K (.ref f)=Ab):zy K f n st:=⟨_,QI l c k,a⟩
def Bd(n:Ah)(st:AT)(ps:Ac Ah)(us:Ac Aj):Prop:=∀(kV doc pm:Aj)(an:Am Ak)(cdv ct:Aj),HS (B5 n n (HW st) (Dt st) (AB st) .none kV doc pm an cdv ct) ⟨us,[]⟩=pure (ps.zip us)
theorem fQ(h:mg x=v)(e:Gk.lookup x=Ae):JL K mg x=v:=by
 unfold JL;rw[e];exact h
def rq(K:Fg)(f:Ak)(m q:Ah)(st:AT):Prop:=∃ fd,qc K m q st f fd
theorem mei{st:AT}{kV:Aj}(l:K.lookup f=Aa ⟨oc,od,.func (B5 m q (HW st) (Dt st) (AB st) .none kV doc pm an cdv ct),osl⟩)(c:DW K cdv q=Ab)(k:AM K (.ref f)=Ab):rq K f m q st:=⟨_,QI l c k⟩
theorem Pc{C:Ak}{st:AT}(id:Ag)(hk:Gk.lookup key=Aa (c,m))(hC:OC K c=Aa C)(hf:Ap K (.ref C) m=Aa (Aa (.ref f)))(A:rq K f m q st)(hc:Tk Ad fns bl rzs exs gls ["self"] N st (Pg.defs id))(hb:∀(u0 kV doc pm:Aj)(an:Am Ak)(cdv ct:Aj),HS (B5 m q (HW st) (Dt st) (AB st) .none kV doc pm an cdv ct) ⟨[u0],[]⟩=pure ((["self"]:Ac Ah).zip [u0])):L5 K mg fns bl rzs exs gls Pg (key,id,1):=by
 obtain⟨fd,F⟩:=A;refine⟨_,_,["self"],_,_,_,?_,⟨_,Hv F⟩,F.binds λkV doc pm an cdv ct=>WI λu0=>hb u0 kV doc pm an cdv ct,rfl,hc⟩
 unfold JL;rw[show Gk.lookup (key,id,1).1=Aa (c,m) from hk]
 dsimp only;rw[hC];show (Ap K (.ref C) m).join=_;rw[hf];rfl
structure OA (K:Fg) (n:Ah) (C t s f:Ak):Prop where
 n:A1 K AJ n=Aa (Aa (.ref C))
 o:am K C
 ft:Ap K (.ref C) "told" = Aa (Aa (.ref t))
 fs:Ap K (.ref C) "shown" = Aa (Aa (.ref s))
 nt:Bw K (.ref t)=Ab
 ns:Bw K (.ref s)=Ab
 m:Mk K C f
theorem oa_mk{C:Ak}(n1:A1 K AJ n=Aa (Aa (.ref C)))(i:Ap K (.ref C) "__init__" = Aa (Aa (.ref f)))(ft:Ap K (.ref C) "told" = Aa (Aa (.ref t)))(fs:Ap K (.ref C) "shown" = Aa (Aa (.ref s)))(pg:DX K C Do=Ab)(hd:Eg K C=Ab)(po:E3 K C=Ab)(sa:Ap K (.ref C) "__setattr__" = Aa (Aa (.builtin "object.__setattr__")))(np:Ap K (.ref C) "p" = Aa Ae)(nt:Ap K (.ref C) "triple" = Aa Ae)(ha:Ap K (.ref C) "__class__" = Aa (Aa (.builtin "object.__class__")))(hn:DN K (.builtin "object.__class__") "__get__" = Aa (Aa (.builtin "getset_descriptor.__get__")))(htk:YH K (.builtin "object.__class__")=Aa Ab)(hm:Cq K C (.type "object")=Aa Ab)(t1:Bw K (.ref t)=Ab)(s1:Bw K (.ref s)=Ab)(mk:F4 K C=Ab)(f1:Bw K (.ref f)=Ab)(kp:AM K (.ref C)=Ab):OA K n C t s f:=
 ⟨n1,⟨⟨pg,hd,po,sa⟩,np,nt,ha,hn,htk,hm⟩,ft,fs,t1,s1,⟨mk,i,f1,kp⟩⟩
theorem Ia(h:c<3)(n:A1 K AJ (LX c)=Aa (Aa (.ref C))):OC K c=Aa C:=by
 unfold OC;rw[Au h,n]
def Ü(K:Fg)(C:Ak)(l:Ac (Ak×Ao)):Prop:=∀ q∈l,CN K (.ref C) (.ref q.1)=Aa q.2
theorem zF(X:K.In h)(G:h.Ns AJ mg)(a0:OA K "Triple" C0 t0 s0 f)(a1:OA K "Point" C1 t1 s1 f)(a2:OA K "Line" C2 t2 s2 f)(k0:Ü K C0 [(C0,Ab),(C1,Ad),(C2,Ad)])(k1:Ü K C1 [(C0,Ab),(C1,Ab),(C2,Ad)])(k2:Ü K C2 [(C0,Ab),(C1,Ad),(C2,Ab)]):OS K mg:=by
  have e0:OC K 0=Aa C0:=Ia (by decide) a0.n
  have e1:OC K 1=Aa C1:=Ia (by decide) a1.n
  have e2:OC K 2=Aa C2:=Ia (by decide) a2.n
  have three:∀ c C,OC K c=Aa C->(c=0/\C=C0)\/(c=1/\C=C1)\/(c=2/\C=C2):=λc C e=>by
    match c,e with
    |0,e=>exact .inl ⟨rfl,(Bj (e0.symm.trans e)).symm⟩
    |1,e=>exact .inr (.inl ⟨rfl,(Bj (e1.symm.trans e)).symm⟩)
    |2,e=>exact .inr (.inr ⟨rfl,(Bj (e2.symm.trans e)).symm⟩)
    |n+3,e=>
      unfold OC at e;rw[AA (by omega)]at e
      cases e
  have fu:∀{f f':Ak}{r:Am (Am Aj)},r=Aa (Aa (.ref f))->r=Aa (Aa (.ref f'))->f'=f:=λa b=>by rw[a]at b;cases b;rfl
  refine⟨λc C e=>?_,λc C c' C' e e'=>?_,λc hc=>?_,λc C m f' e hm hf=>?_⟩
  · rcases three c C e with ⟨rfl,rfl⟩|⟨rfl,rfl⟩|⟨rfl,rfl⟩
    · exact a0.o
    · exact a1.o
    · exact a2.o
  · rcases three c C e with ⟨rfl,rfl⟩|⟨rfl,rfl⟩|⟨rfl,rfl⟩<;>rcases three c' C' e' with ⟨rfl,rfl⟩|⟨rfl,rfl⟩|⟨rfl,rfl⟩
    · exact k0 (_,Ab) (by simp)
    · exact k0 (_,Ad) (by simp)
    · exact k0 (_,Ad) (by simp)
    · exact k1 (_,Ab) (by simp)
    · exact k1 (_,Ab) (by simp)
    · exact k1 (_,Ad) (by simp)
    · exact k2 (_,Ab) (by simp)
    · exact k2 (_,Ad) (by simp)
    · exact k2 (_,Ab) (by simp)
  · match c,hc with
    |0,_=>exact⟨_,e0,AU X G a0.n⟩
    |1,_=>exact⟨_,e1,AU X G a1.n⟩
    |2,_=>exact⟨_,e2,AU X G a2.n⟩
    |n+3,h=>omega
  · rcases Ž hm with z|z
    · obtain rfl:=eq_of_beq z;rcases three c C e with ⟨rfl,rfl⟩|⟨rfl,rfl⟩|⟨rfl,rfl⟩
      · rw[fu a0.ft hf];exact a0.nt
      · rw[fu a1.ft hf];exact a1.nt
      · rw[fu a2.ft hf];exact a2.nt
    · obtain rfl:=eq_of_beq z;rcases three c C e with ⟨rfl,rfl⟩|⟨rfl,rfl⟩|⟨rfl,rfl⟩
      · rw[fu a0.fs hf];exact a0.ns
      · rw[fu a1.fs hf];exact a1.ns
      · rw[fu a2.fs hf];exact a2.ns
theorem cg{st:AT}(a0:OA K "Triple" C0 t0 s0 f)(a1:OA K "Point" C1 t1 s1 f)(a2:OA K "Line" C2 t2 s2 f)(A:Û K f q st)(hc:O9 fns bl rzs exs gls st)(d0:Pg.defs 900=tj 0)(d1:Pg.defs 901=tj 1)(d2:Pg.defs 902=tj 2)(d3:Pg.defs 910=j8)(hb:∀(u0 u1 u2 kV doc pm:Aj)(an:Am Ak)(cdv ct:Aj),HS (B5 "__init__" q (HW st) (Dt st) (AB st) .none kV doc pm an cdv ct) ⟨[u0,u1,u2],[]⟩=pure ((["self", "p", "numbers"]:Ac Ah).zip [u0,u1,u2])):InR K fns bl rzs exs gls Pg:=by
  obtain⟨fd,F⟩:=A;refine⟨λc hc=>?_,d3,f,fd,_,q,st,Hv F,F.binds λkV doc pm an cdv ct=>NK λu0 u1 u2=>hb u0 u1 u2 kV doc pm an cdv ct,hc,λc hc=>?_⟩
  · match c,hc with
    |0,_=>exact d0
    |1,_=>exact d1
    |2,_=>exact d2
    |n+3,h=>omega
  · match c,hc with
    |0,_=>exact⟨_,Ia (by decide) a0.n,a0.m⟩
    |1,_=>exact⟨_,Ia (by decide) a1.n,a1.m⟩
    |2,_=>exact⟨_,Ia (by decide) a2.n,a2.m⟩
    |n+3,h=>omega
theorem Om{st:AT}(m id:Ag)(hm:Gk.lookup n=Ae)(X:K.In h)(G:h.Ns AJ mg)(A:zy K f n st)(hl:ps.length=m%1000)(hc:Tk (Cs 1000 m) fns bl rzs exs gls ps N st (Pg.defs id))(hb:∀ us:Ac Aj,us.length=ps.length->Bd n st ps us):L5 K mg fns bl rzs exs gls Pg (n,id,m):=by
 obtain⟨fd,F,a⟩:=A;exact⟨_,_,_,_,_,_,fQ (AU X G a) hm,⟨_,Hv F⟩,F.binds λkV doc pm an cdv ct us hu=>hb us hu kV doc pm an cdv ct,hl,hc⟩
theorem Pi{l:Ac α}(h:l.length=0):l=[]:=EZ h
theorem JV{l:Ac α}(h:l.length=n+1):∃ a r,l=a::r/\r.length=n:=by
 cases l with
 |nil=>cases h
 |cons a r=>exact⟨a,r,rfl,Jb h⟩
theorem JR{st:AT}(m id:Ag)(hm:Gk.lookup n=Ae)(X:K.In h)(G:h.Ns AJ mg)(A:zy K f n st)(hc:Tk (Cs 1000 m) fns bl rzs exs gls [x0] N st (Pg.defs id))(hl:1=m%1000:=by rfl)(hb :∀ u0,Bd n st [x0] [u0]:=by exact λ_ _ _ _ _ _ _=>rfl):L5 K mg fns bl rzs exs gls Pg (n,id,m):=
 Om (ps:=[x0]) m id hm X G A hl hc λus hu=>by obtain⟨u0,v0,rfl,h0⟩:=JV hu;obtain rfl:=Pi h0;exact hb u0
theorem DM{st:AT}(m id:Ag)(hm:Gk.lookup n=Ae)(X:K.In h)(G:h.Ns AJ mg)(A:zy K f n st)(hc:Tk (Cs 1000 m) fns bl rzs exs gls [x0,x1] N st (Pg.defs id))(hl:2=m%1000:=by rfl)(hb :∀ u0 u1,Bd n st [x0,x1] [u0,u1]:=by exact λ_ _ _ _ _ _ _ _=>rfl):L5 K mg fns bl rzs exs gls Pg (n,id,m):=
 Om (ps:=[x0,x1]) m id hm X G A hl hc λus hu=>by obtain⟨u0,v0,rfl,h0⟩:=JV hu;obtain⟨u1,v1,rfl,h1⟩:=JV h0;obtain rfl:=Pi h1;exact hb u0 u1
theorem Ie{st:AT}(m id:Ag)(hm:Gk.lookup n=Ae)(X:K.In h)(G:h.Ns AJ mg)(A:zy K f n st)(hc:Tk (Cs 1000 m) fns bl rzs exs gls [x0,x1,x2] N st (Pg.defs id))(hl:3=m%1000:=by rfl)(hb :∀ u0 u1 u2,Bd n st [x0,x1,x2] [u0,u1,u2]:=by exact λ_ _ _ _ _ _ _ _ _=>rfl):L5 K mg fns bl rzs exs gls Pg (n,id,m):=
 Om (ps:=[x0,x1,x2]) m id hm X G A hl hc λus hu=>by obtain⟨u0,v0,rfl,h0⟩:=JV hu;obtain⟨u1,v1,rfl,h1⟩:=JV h0;obtain⟨u2,v2,rfl,h2⟩:=JV h1;obtain rfl:=Pi h2;exact hb u0 u1 u2
theorem Wv{st:AT}(m id:Ag)(hm:Gk.lookup n=Ae)(X:K.In h)(G:h.Ns AJ mg)(A:zy K f n st)(hc:Tk (Cs 1000 m) fns bl rzs exs gls [x0,x1,x2,x3] N st (Pg.defs id))(hl:4=m%1000:=by rfl)(hb :∀ u0 u1 u2 u3,Bd n st [x0,x1,x2,x3] [u0,u1,u2,u3]:=by exact λ_ _ _ _ _ _ _ _ _ _=>rfl):L5 K mg fns bl rzs exs gls Pg (n,id,m):=
 Om (ps:=[x0,x1,x2,x3]) m id hm X G A hl hc λus hu=>by obtain⟨u0,v0,rfl,h0⟩:=JV hu;obtain⟨u1,v1,rfl,h1⟩:=JV h0;obtain⟨u2,v2,rfl,h2⟩:=JV h1;obtain⟨u3,v3,rfl,h3⟩:=JV h2;obtain rfl:=Pi h3;exact hb u0 u1 u2 u3
set_option genInjectivity true in
structure Dk where
 p:D
 l:Ac D
 c:D
 ps:Ac D
set_option genInjectivity true in
inductive RK where
 |ok (d:D) (q:Dk)|exn (x:Ex)|bad
def w4(r:RK)(P:D->Dk->Prop)(Z:Ex->Prop):Prop:=match r with
  |.ok d q=>P d q
  |.exn x=>Z x
  |.bad=>AN
noncomputable def yh(v1 v2 v3:V)(la:Ak):Ac (Ah×V):=[("p",v1),("points",v2),("curve",v3),("past",.ref la)]
section
variable(K:Fg)(CL:ClA)
def DK(H:Hp)(A:Ak->Prop)(C a la:Ak)(q:Dk):Prop:=∃ dx v1 v2 v3 xs,H a=Aa (.ins C dx (yh v1 v2 v3 la))/\H la=Aa (.L xs)/\Y6 K CL H A v1 q.p/\Y6 K CL H A v2 (.L q.l)/\Y6 K CL H A v3 q.c/\Y9 K CL H A xs q.ps
def KB(a la:Ak)(H H':Hp):Prop:=∀ b o,H b=Aa o->b≠a->b≠la->H' b=Aa o
def AV(A:Ak->Prop)(v:V):Ak->Prop:=λb=>A b\/v=.ref b
def xh(C:Ak)(m:Ag)(G:Dk->Ac D->RK):Sp:=λvs H Q E=>∃(a la:Ak)(us:Ac V)(ds:Ac D)(A:Ak->Prop)(q:Dk),vs=.ref a::us/\us.length=m/\J4 H A/\A a/\A la/\Y9 K CL H A us ds/\DK K CL H A C a la q/\w4 (G q ds) (λd q'=>∀ v H',KB a la H H'->B0 K CL Ab H A H' v d->DK K CL H' (AV A v) C a la q'->Q v H') (λx=>∀ cls dx H',Aw H H'->Db K CL H' cls dx x->E cls dx H')
end
theorem JI{E:XK}(hl:us.length=m)(hA:J4 H A)(ha:A a)(zb:A la)(rs:Y9 K CL H A us ds)(dk:DK K CL H A C a la q)(hp:w4 (G q ds) (λd q'=>∀ v H',KB a la H H'->B0 K CL Ab H A H' v d->DK K CL H' (AV A v) C a la q'->Q v H') (λx=>∀ cls dx H',Aw H H'->Db K CL H' cls dx x->E cls dx H')):xh K CL C m G (.ref a::us) H Q E:=⟨a,la,us,ds,A,q,rfl,hl,hA,ha,zb,rs,dk,hp⟩
theorem LD{E:XK}(h:xh K CL C m G vs H Q E):vs.length=m+1:=by
 obtain⟨a,la,us,ds,A,q,e,z,_⟩:=h;rw[e,Ba,z]
theorem LI{E:XK}(h:xh K CL C m G vs H Q E)(k:∀(a la:Ak)(us:Ac V)(ds:Ac D)(A:Ak->Prop)(q:Dk),vs=.ref a::us->us.length=m->J4 H A->A a->A la->Y9 K CL H A us ds->DK K CL H A C a la q->w4 (G q ds) (λd q'=>∀ v H',KB a la H H'->B0 K CL Ab H A H' v d->DK K CL H' (AV A v) C a la q'->Q v H') (λx=>∀ cls dx H',Aw H H'->Db K CL H' cls dx x->E cls dx H')->Z):Z:=by
 obtain⟨a,la,us,ds,A,q,e,z,h1,h2,h3,h4,h5,h6⟩:=h;exact k a la us ds A q e z h1 h2 h3 h4 h5 h6
theorem KB.kp(k:KB a la H H')(ha:A a)(hl:A la):Kp A H H':=λb o e n=>k b o e (λz=>n (z ▸ ha)) λz=>n (z ▸ hl)
theorem KB.of(s:Aw H H'):KB a la H H':=λb o e _ _=>s b o e
theorem KB.trans(k:KB a la H H')(k':KB a la H' H2):KB a la H H2:=λb o e n m=>k' b o (k b o e n m) n m
theorem DK.same(d:DK K CL H A C a la q)(s:Aw H H'):DK K CL H' A C a la q:=by
 obtain⟨dx,v1,v2,v3,xs,h1,h2,r1,r2,r3,r4⟩:=d;exact⟨dx,v1,v2,v3,xs,s _ _ h1,s _ _ h2,r1.same s,r2.same s,r3.same s,r4.same s⟩
theorem DK.sub(d:DK K CL H A C a la q)(k:∀ b,A' b->A b):DK K CL H A' C a la q:=by
 obtain⟨dx,v1,v2,v3,xs,h1,h2,r1,r2,r3,r4⟩:=d;exact⟨dx,v1,v2,v3,xs,h1,h2,Y6.sub k _ r1,Y6.sub k _ r2,Y6.sub k _ r3,Y9.sub k _ r4⟩
theorem DK.un(d:DK K CL H (AV A v) C a la q):DK K CL H A C a la q:=d.sub λ_ h=>.inl h
theorem DK.O(d:DK K CL H A C a la q):DK K CL H (AV A .O) C a la q:=d.sub λ_ h=>h.elim id λz=>nomatch z
theorem DK.new(d:DK K CL H A C a la q)(ht:H t=Ae):DK K CL H (AV A (.ref t)) C a la q:=by
 obtain⟨dx,v1,v2,v3,xs,h1,h2,r1,r2,r3,r4⟩:=d;have k:∀ b,AV A (.ref t) b->A b\/H b=Ae:=λb h=>h.imp id λz=>by cases z;exact ht
 exact⟨dx,v1,v2,v3,xs,h1,h2,Y6.wide k _ r1,Y6.wide k _ r2,Y6.wide k _ r3,Y9.wide k _ r4⟩
theorem DK.aok(d:DK K CL H' A C a la q)(k:KB a la H H')(h:J4 H A):J4 H' A:=λb hb=>by
 obtain⟨dx,v1,v2,v3,xs,h1,h2,_⟩:=d;by_cases e1:b=a
 .rw[e1];exact⟨_,h1,trivial⟩
 .by_cases e2:b=la
  .rw[e2];exact⟨_,h2,trivial⟩
  .obtain⟨o,ho,w⟩:=h b hb;exact⟨o,k b o ho e1 e2,w⟩
structure uv (K:Fg) (C:Ak):Prop where
 cl:we K C
 n1:Fv K C "p"
 n2:Fv K C "points"
 n3:Fv K C "curve"
 n4:Fv K C "past"
section
variable{X:Cx}{C:Ak}(dc:uv X.K C)(ps:∀ p,PE X (.Name "self" p) (BS 0))
include dc ps
theorem Li:PE X (.Attribute (.Name "self" p) "p" p') (λU H Q=>∃ a dx v1 v2 v3 la,U[0]?=Aa (Aa (.ref a))/\H a=Aa (.ins C dx (yh v1 v2 v3 la))/\Q v1 H):=
 PE.weak (Oo (ps p) rfl) λU H Q ⟨a,dx,v1,v2,v3,la,h1,h2,q⟩=>⟨_,h1,a,C,dx,_,v1,rfl,h2,dc.cl,dc.n1,rfl,q⟩
theorem LM:PE X (.Attribute (.Name "self" p) "points" p') (λU H Q=>∃ a dx v1 v2 v3 la,U[0]?=Aa (Aa (.ref a))/\H a=Aa (.ins C dx (yh v1 v2 v3 la))/\Q v2 H):=
 PE.weak (Oo (ps p) rfl) λU H Q ⟨a,dx,v1,v2,v3,la,h1,h2,q⟩=>⟨_,h1,a,C,dx,_,v2,rfl,h2,dc.cl,dc.n2,rfl,q⟩
theorem MF:PE X (.Attribute (.Name "self" p) "curve" p') (λU H Q=>∃ a dx v1 v2 v3 la,U[0]?=Aa (Aa (.ref a))/\H a=Aa (.ins C dx (yh v1 v2 v3 la))/\Q v3 H):=
 PE.weak (Oo (ps p) rfl) λU H Q ⟨a,dx,v1,v2,v3,la,h1,h2,q⟩=>⟨_,h1,a,C,dx,_,v3,rfl,h2,dc.cl,dc.n3,rfl,q⟩
theorem Q7:PE X (.Attribute (.Name "self" p) "past" p') (λU H Q=>∃ a dx v1 v2 v3 la,U[0]?=Aa (Aa (.ref a))/\H a=Aa (.ins C dx (yh v1 v2 v3 la))/\Q (.ref la) H):=
 PE.weak (Oo (ps p) rfl) λU H Q ⟨a,dx,v1,v2,v3,la,h1,h2,q⟩=>⟨_,h1,a,C,dx,_,.ref la,rfl,h2,dc.cl,dc.n4,rfl,q⟩
end
def t5(ps N:Ac Ah)(st:AT):Ao:=(AB st).kind==.function&&(!(AB st).isCoroutine&&(!(AB st).isGenerator&&(Kl N&&(N.take ps.length==ps&&(N.all (λx=>(AB st).names.lookup x==Aa .local)&&(AB st).names.all (λy=>y.2 != .free))))))
structure ScO (ps N:Ac Ah) (st:AT):Prop where
 fs:zi N ps (AB st)
 loc:∀ x∈N,(AB st).names.lookup x=Aa .local
theorem JJ{st:AT}(h:t5 ps N st=Ab):ScO ps N st:=by
 unfold t5 at h;simp only[As,A2,Cn,A6,FD,KG]at h;obtain⟨c1,c2,c3,c4,c5,c6,c7⟩:=h;exact⟨⟨c1,c2,c3,JB c4,c5,λx hx=>.inl (c6 x (by rw[<-c5]at hx;exact List.mem_of_mem_take hx)),c7⟩,c6⟩
noncomputable def WE(K:Fg)(CL:ClA)(E:XK):XW:=λy H'=>∀ cls dx,Db K CL H' cls dx y->E cls dx H'
theorem iB(dc:uv X.K C)(ps:∀ p,PE X (.Name "self" p) (BS 0))(pl:∀ p,PE X (.Name "points" p) (BS 1))(pc:∀ p,PE X (.Name "curve" p) (BS 2))(hl:(p3.endLine==p9.line)=Ab):
  zc X [.Expr (.Call (.Attribute (.Attribute (.Name "self" p1) "past" p2) "append" p3) [.Tuple [.Attribute (.Name "self" p4) "points" p5,.Attribute (.Name "self" p6) "curve" p7] k p8] [] p9) p10,.Assign [.Attribute (.Name "self" p11) "points" p12] (.Name "points" p13) p14,.Assign [.Attribute (.Name "self" p15) "curve" p16] (.Name "curve" p17) p18]
   (λD U H=>∃ a la y2 y3 dx v1 v2 v3 xs,U[0]?=Aa (Aa (.ref a))/\U[1]?=Aa (Aa y2)/\U[2]?=Aa (Aa y3)/\H a=Aa (.ins C dx (yh v1 v2 v3 la))/\H la=Aa (.L xs)/\xs.length<sizeLine/\∀ t,H t=Ae->D.nx U (upd (upd (upd (upd H t (.H [v2,v3])) la (.L (xs++[.ref t]))) a (.ins C dx (yh v1 y2 v3 la))) a (.ins C dx (yh v1 y2 y3 la)))):=by
 refine zc.weak (CF (K9 (LN Dj X5 Yd SL (Q7 dc ps) (Bm (QL (Bm (LM dc ps) (Bm (MF dc ps) B9 rfl) rfl)) B9 rfl) rfl rfl hl rfl rfl) rfl) (CF (JC (ps p11) (pl p13) rfl) (DE (JC (ps p15) (pc p17) rfl)))) ?_;rintro D U H ⟨a,la,y2,y3,dx,v1,v2,v3,xs,s0,s1,s2,ha,zb,hz,q⟩;have ne:la≠a:=λz=>by rw[z,ha]at zb;cases zb
 refine⟨a,dx,v1,v2,v3,la,s0,ha,.inl ⟨rfl,xs,zr.of zb⟩,a,dx,v1,v2,v3,la,s0,ha,a,dx,v1,v2,v3,la,s0,ha,by rw[BE];exact AK rfl,λt ht=>?_⟩
 have nt:t≠la:=λz=>by rw[z,zb]at ht;cases ht
 have Ż:t≠a:=λz=>by rw[z,ha]at ht;cases ht
 have h1:(upd (upd H t (.H [v2,v3])) la (.L (xs++[.ref t]))) a=Aa (.ins C dx (yh v1 v2 v3 la)):=by rw[AW (CB ne),AW (CB Ż)];exact ha
 exact⟨la,xs,.ref t,rfl,rfl,by rw[AW (CB nt)];exact zb,hz,y2,s1,.ref a,s0,a,C,dx,_,rfl,h1,dc.cl,dc.n2,AK rfl,y3,s2,.ref a,s0,a,C,dx,_,rfl,B1,dc.cl,dc.n3,AK rfl,q t ht⟩
noncomputable def Hz(q:Dk)(l:Ac D)(c:D):Dk:=⟨q.p,l,c,q.ps++[.H [.L q.l,q.c]]⟩
def MS(q:Dk):Ac D->RK
 |[.L l,c]=>if q.ps.length<900 then .ok .O (Hz q l c) else .bad
 |_=>.bad
theorem wR{st:AT}(dc:uv K C)(hf:yp K x qual st f fd)(hs:t5 ["self", "points", "curve"] ["self", "points", "curve"] st=Ab)(hl:(p3.endLine==p9.line)=Ab)
    (hb:Dt st=[.Expr (.Call (.Attribute (.Attribute (.Name "self" p1) "past" p2) "append" p3) [.Tuple [.Attribute (.Name "self" p4) "points" p5,.Attribute (.Name "self" p6) "curve" p7] k p8] [] p9) p10,.Assign [.Attribute (.Name "self" p11) "points" p12] (.Name "points" p13) p14,.Assign [.Attribute (.Name "self" p15) "curve" p16] (.Name "curve" p17) p18]):
    Y0 P w K mg base (CXR P w) (n+1) f fd ["self", "points", "curve"] (xh K CL C 2 MS):=by
  obtain⟨oc,od,dV,kV,doc,pm,an,cdv,ct,osl,rfl,lk,ze⟩:=hf.ex;have sc:=JJ hs;refine Hw lk ze sc.fs (λ_ _ _ _ h=>LD h) λA outer s H vs Q E hr h=>LI h λa la us ds B q e RL hA ha zb rs dk hp=>?_
  subst e;rw[hb];refine⟨_,iB dc (λp=>DF rfl (.inl (sc.loc "self" (by simp)))) (λp=>DF rfl (.inl (sc.loc "points" (by simp)))) (λp=>DF rfl (.inl (sc.loc "curve" (by simp)))) hl,?_⟩
  match us,ds,RL,rs with
  |[y2,y3],[d2,d3],_,⟨r2,r3,_⟩=>
    cases d2 with
    |L l=>
      have hp:w4 (if q.ps.length<900 then RK.ok .O (Hz q l d3) else .bad) _ _:=hp
      by_cases hz:q.ps.length<900
      · rw[Au hz]at hp;obtain⟨dx,v1,v2,v3,xs,h1,h2,r4,r5,r6,r7⟩:=dk;have ne:la≠a:=λz=>by rw[z,h1]at h2;cases h2
        refine⟨a,la,y2,y3,dx,v1,v2,v3,xs,rfl,rfl,rfl,h1,h2,by rw[r7.length,BE];omega,λt ht=>?_⟩
        have kb:KB a la H (upd (upd (upd (upd H t (.H [v2,v3])) la (.L (xs++[.ref t]))) a (.ins C dx (yh v1 y2 v3 la))) a (.ins C dx (yh v1 y2 y3 la))):=λb o e n1 n2=>by
          rw[AW n1,AW n1,AW n2,AW (Fe e ht)];exact e
        have kp:=kb.kp ha zb;have nt:t≠la:=λz=>by rw[z,h2]at ht;cases ht
        have Ż:t≠a:=λz=>by rw[z,h1]at ht;cases ht
        refine hp .O _ kb ⟨rfl,λ_ _ z=>nomatch z⟩ (DK.O ⟨dx,v1,y2,y3,xs++[.ref t],B1,?_,Y6.kp kp _ r4,Y6.kp kp _ r2,Y6.kp kp _ r3,(Y9.kp kp _ r7).append ⟨⟨t,[v2,v3],rfl,.inl (hA.new ht),yg.of ?_,Y6.kp kp _ r5,Y6.kp kp _ r6,trivial⟩,trivial⟩⟩)
        · rw[AW ne,AW ne];exact B1
        · rw[AW Ż,AW Ż,AW nt];exact B1
      · rw[AA hz]at hp;exact hp.elim
    |_=>exact hp.elim
  |[_,_],[],_,r=>exact r.elim
  |[_,_],[_],_,r=>exact r.2.elim
  |[_,_],_::_::_::_,_,r=>exact r.2.2.elim
section
variable{K:Fg}{CL:ClA}{H:Hp}{A:Ak->Prop}{Y:Rho}{U:L2.St}
theorem OM(hA:J4 H A)(g:U9 K CL A Y U H)(no:∀(i:Ag)(d:D),Y[i]?≠Aa (Aa (d,Ab))):Sx K CL ⟨λb o=>H b=Aa o,λ_ _ _=>AN⟩ A Y U H:=by
 have own:∀ b,Bf A Y U b->A b:=λb h=>h.elim id λ⟨j,d,h1,_⟩=>absurd h1 (no j d)
 exact⟨⟨λi d h=>let ⟨v,q,r⟩:=g.sh i d h;⟨v,q,Y6.sub own _ r⟩,λi d h=>absurd h (no i d),g.len⟩,λb h=>hA b (own b h),λj d b h=>absurd h (no j d),λi j d e b h=>absurd h (no i d),λ_ _ z=>z,g.len,λj h=>absurd h (no j _)⟩
def δ(K:Fg)(CL:ClA)(A:Ak->Prop)(H:Hp):Rho->L2.St->Prop
 |[],[]=>HV
 |some (d,o)::Y,v::U=>(o=Ad/\∃ u,v=Aa u/\Y6 K CL H A u d)/\δ K CL A H Y U
 |none::Y,_::U=>δ K CL A H Y U
 |_,_=>AN
theorem IE:∀{Y:Rho}{U:L2.St},δ K CL A H Y U->U9 K CL A Y U H/\∀(i:Ag)(d:D),Y[i]?≠Aa (Aa (d,Ab))
 |[],[],_=>⟨⟨λi d h=>by simp at h,λi d h=>by simp at h,rfl⟩,λi d h=>by simp at h⟩
 |some (d,o)::Y,v::U,h=>by
  obtain⟨⟨e,u,rfl,r⟩,h⟩:=h;subst e;obtain⟨g,n⟩:=IE h;have n':∀(i:Ag)(e:D),(Aa (d,Ad)::Y)[i]?≠Aa (Aa (e,Ab)):=λi e z=>by
   cases i with
   |zero=>cases z
   |succ i=>exact n i e z
  refine⟨⟨λi e z=>?_,λi e z=>absurd z (n' i e),congrArg (· + 1) g.len⟩,n'⟩
  cases i with
  |zero=>cases z;exact⟨u,rfl,r⟩
  |succ i=>exact g.sh i e z
 |none::Y,v::U,h=>by
  obtain⟨g,n⟩:=IE (show δ K CL A H Y U from h)
  have n':∀(i:Ag)(e:D),(Ae::Y)[i]?≠Aa (Aa (e,Ab)):=λi e z=>by
   cases i with
   |zero=>cases z
   |succ i=>exact n i e z
  refine⟨⟨λi e z=>?_,λi e z=>absurd z (n' i e),congrArg (· + 1) g.len⟩,n'⟩
  cases i with
  |zero=>cases z
  |succ i=>exact g.sh i e z
 |[],_::_,h=>h.elim
 |some (_,_)::_,[],h=>h.elim
 |none::_,[],h=>h.elim
end
theorem Lp(t:wg K mg CL fns bl rzs exs gls Pg){st:AT}{A:AY}{E:XK}(sc:ScO ps N st)(hr:PP n (A.deeper (Eu qual (AB st) s.heap.objs.size f cdv))):VX (Y7 Pg n) CL n (WE K CL E) ⟨AB st,N,fns,bl,rzs,exs,gls,Ab,Ab⟩ (Bu (CXR P w) P w K mg base N qual (AB st) f cdv A outer s H E):=by
 have hW:∀ x cls dx H',WE K CL E x H'->Db K CL H' cls dx x->E cls dx H':=λx cls dx H' z r=>z cls dx r
 have xt:XT (Y7 Pg n).up (Y7 Pg n).xn CL rzs exs K mg:=by rw[Ms,Le];exact t.xt
 have gl:∀ p∈gls,KD K mg CL p.1 ((Y7 Pg n).G p.2):=by rw[Lk];exact t.gl
 exact⟨rfl,sc.fs.kind,rfl,sc.fs.nd,hr.units,λ_=>rfl,λ_=>hr,λz=>(nomatch z),t.bln,t.os,UL t n,UK t n,λ_=>qw,OF hW,Ε hW,xt,gl,λ_=>rfl⟩
section
variable{X:Cx}{C:Ak}(dc:uv X.K C)(ps:∀ p,PE X (.Name "self" p) (BS 0))(hu:X.A.units+64<BD)(gn:Gl X "len")(mn:X.mg "len" = Ae)
include dc ps hu gn mn
theorem sM:PT X (.Compare (.Call (.Name "len" p1) [.Attribute (.Name "self" p2) "past" p3] [] p4) [.Eq] [.Constant (.int 0) k p5] p6) (λU H Q=>∃ a dx v1 v2 v3 la xs,U[0]?=Aa (Aa (.ref a))/\H a=Aa (.ins C dx (yh v1 v2 v3 la))/\H la=Aa (.L xs)/\∀ H',Aw H H'->Q (decide (xs.length=0)) H'):=by
 refine PT.weak (LF (Kh (W:=W0) (CL:=λ_=>Ae) hu .Eq A0) (Mj N3 gn mn J_4 (Bm (Q7 dc ps) B9 rfl) (by decide) (by decide) rfl rfl) QM rfl) ?_
 rintro U H Q ⟨a,dx,v1,v2,v3,la,xs,s0,ha,zb,q⟩;refine⟨a,dx,v1,v2,v3,la,s0,ha,la,xs,rfl,.inl (zr.of zb),λ_ z=>z.elim,.int xs.length,.int 0,.inl rfl,.inl rfl,?_⟩
 intro v H' sm r;refine⟨_,r,?_⟩;have e:J0 (.int xs.length) (.int 0)=decide (xs.length=0):=by
  show ((xs.length:Ai)==0)=_;rw[EF];simp
 rw[e];exact q H' sm
theorem sR(gs:Gl X "str")(ms:X.mg "str" = Ae):PE X (.List [.Call (.Name "str" p1) [.Call (.Name "len" p2) [.Attribute (.Name "self" p3) "points" p4] [] p5] [] p6] p7) (λU H Q=>∃ a dx v1 v2 v3 la xs,U[0]?=Aa (Aa (.ref a))/\H a=Aa (.ins C dx (yh v1 v2 v3 la))/\zr X.K H (match v2 with | .ref l=>l|_=>0) xs/\(∃ l,v2=.ref l)/\xs.length<1000/\∀ t,H t=Ae->Q (.ref t) (upd H t (.L [.str (toString (xs.length:Ai))]))):=by
 refine PE.weak (Nn (Bm (PM RI gs ms Ha (Bm (Mj N3 gn mn J_4 (Bm (LM dc ps) B9 rfl) (by decide) (by decide) rfl rfl) B9 rfl) (by decide) (by decide) rfl rfl) B9 rfl)) ?_
 rintro U H Q ⟨a,dx,v1,v2,v3,la,xs,s0,ha,hl,⟨l,rfl⟩,hz,q⟩;refine⟨a,dx,v1,_,v3,la,s0,ha,l,xs,rfl,.inl hl,xs.length,rfl,?_,by rw[BE];exact AK rfl,q⟩
 have:=G3 xs.length;rw[WX];omega
end
noncomputable def Ic(q:Dk):Ac D->RK
  | []=>(match q.ps.getLast? with
    |none=>.exn ⟨17,[]⟩
    |some (.H [.L l,c])=>if l.length<900 then .ok (.L [.str (toString (l.length:Ai))]) ⟨q.p,l,c,q.ps.dropLast⟩ else .bad
    | _=>.bad)
  |_=>.bad
theorem bJ(q:Dk):(q.ps=[]/\Ic q []=.exn ⟨17,[]⟩)\/(∃ l c,q.ps.getLast?=Aa (.H [.L l,c])/\l.length<900/\Ic q []=.ok (.L [.str (toString (l.length:Ai))]) ⟨q.p,l,c,q.ps.dropLast⟩)\/Ic q []=.bad:=by
 cases el:q.ps.getLast? with
 |none=>exact .inl ⟨List.getLast?_eq_none_iff.mp el,by unfold Ic;simp only[el]⟩
 |some d=>
  refine .inr ?_;have no:(∀ l c,d≠.H [.L l,c])->Ic q []=.bad:=λh=>by
   unfold Ic;simp only[el];split
   .rename_i z;cases z
   .rename_i l c z;exact absurd (Bj z) (h l c)
   .rfl
  by_cases h:∃ l c,d=.H [.L l,c]
  .obtain⟨l,c,rfl⟩:=h;by_cases hz:l.length<900
   .exact .inl ⟨l,c,rfl,hz,by unfold Ic;simp only[el,Au hz]⟩
   .exact .inr (by unfold Ic;simp only[el,AA hz])
  .exact .inr (no λl c e=>h ⟨l,c,e⟩)
theorem ϐ(r:Y6 K CL H A y d):U9 K CL A [Ae,Aa (d,Ad)] [u,Aa y] H:=(IE (K:=K) (CL:=CL) (A:=A) (H:=H) (Y:=[Ae,Aa (d,Ad)]) (U:=[u,Aa y]) ⟨⟨rfl,y,rfl,r⟩,trivial⟩).1
theorem rE(t:wg K mg CL fns bl rzs exs gls Pg){st:AT}(dc:uv K C)(hf:yp K x qual st f fd)(hs:t5 ["self"] ["self", "ahead"] st=Ab)
  (hb:Dt st=[.If (.Compare (.Call (.Name "len" p1) [.Attribute (.Name "self" p2) "past" p3] [] p4) [.Eq] [.Constant (.int 0) k p5] p6) [sr] [] p7,.Assign [.Name "ahead" p8] (.Call (.Attribute (.Attribute (.Name "self" p9) "past" p10) "pop" p11) [] [] p12) p13,.Assign [.Attribute (.Name "self" p14) "points" p15] e0 p16,.Assign [.Attribute (.Name "self" p17) "curve" p18] e1 p19,.Return (Aa (.List [.Call (.Name "str" p20) [.Call (.Name "len" p21) [.Attribute (.Name "self" p22) "points" p23] [] p24] [] p25] p26)) p27])
  (hl:(p11.endLine==p12.line)=Ab) (hg:(vm ⟨AB st,["self", "ahead"],fns,bl,rzs,exs,gls,Ab,Ab⟩ "len" && vm ⟨AB st,["self", "ahead"],fns,bl,rzs,exs,gls,Ab,Ab⟩ "str")=Ab)
  (c0:Te ⟨AB st,["self", "ahead"],fns,bl,rzs,exs,gls,Ab,Ab⟩ e0 (.idx (.v 1) (.int 0))) (c1:Te ⟨AB st,["self", "ahead"],fns,bl,rzs,exs,gls,Ab,Ab⟩ e1 (.idx (.v 1) (.int 1))) (nc:(FV e0&&FV e1)=Ab)
  (cr:Ts ⟨AB st,["self", "ahead"],fns,bl,rzs,exs,gls,Ab,Ab⟩ sr (.rais 17 (.cons (.str txt) .nil))) (tf:Pg.xn 17 [.str txt]=.ok ⟨17,[]⟩):
  Y0 P w K mg base (CXR P w) (n+1) f fd ["self"] (xh K CL C 0 Ic):=by
 obtain⟨oc,od,dV,kV,doc,pm,an,cdv,ct,osl,rfl,lk,ze⟩:=hf.ex;have sc:=JJ hs;refine Hw lk ze sc.fs (λ_ _ _ _ h=>LD h) λA outer s H vs Q E hr h=>LI h λa la us ds B q e RL hA ha zb rs dk hp=>?_
 subst e;rw[hb];have v:=Lp (P:=P) (w:=w) (base:=base) (outer:=outer) (H:=H) (E:=E) t sc hr;obtain⟨jk,va⟩:=Be hg;obtain⟨nc1,nc2⟩:=Be nc;obtain⟨g1,g2,_,_⟩:=Ht v jk;obtain⟨g3,g4,_,_⟩:=Ht v va;have Y5:∀ p,PE (Bu (CXR P w) P w K mg base ["self", "ahead"] qual (AB st) f cdv A outer s H E) (.Name "self" p) (BS 0):=λp=>DF rfl (.inl (sc.loc "self" (by simp)))
 have s0:=(c0.h v).se B;have s1:=(c1.h v).se B;have sr':=cr.h v ⟨λ_=>rfl,λ_=>rfl,λ_=>rfl,λ_=>rfl⟩ ⟨λb o=>H b=Aa o,λ_ _ _=>AN⟩ B
 refine⟨_,CF (Fw (sM dc Y5 v.un g1 g2) (DE sr') Gf) (CF (G6 (i:=1) sc.fs.nd rfl (.inl (sc.loc "ahead" (by simp))) (rM Dj PySem.F.slot_list_pop PySem.F.type_list_pop uX (Q7 dc Y5) rfl hl) rfl (.inl rfl)) (CF (JC (Y5 p14) s0 (Kj nc1)) (CF (JC (Y5 p17) s1 (Kj nc2)) (DE (Ft (sR dc Y5 v.un g1 g2 g3 g4)))))),?_⟩
 have e0:us=[]:=EZ RL;subst e0;have ed:ds=[]:=by cases ds with|nil=>rfl|cons=>exact rs.elim
 subst ed;obtain⟨dx,v1,v2,v3,xs,h1,h2,r4,r5,r6,r7⟩:=dk;have ne:la≠a:=λz=>by rw[z,h1]at h2;cases h2
 have lx:=r7.length;have ho:=bJ q;generalize Ic q []=r at hp ho;refine⟨a,dx,v1,v2,v3,la,xs,rfl,h1,h2,λH1 sm=>?_⟩
 have je:=hA.same sm;dsimp only;rcases ho with ⟨e1,rfl⟩|⟨l,c,el,hl9,rfl⟩|rfl
 .rw[e1]at lx;rw[Au (by rw[lx];rfl)]
  have g:=IE (K:=K) (CL:=CL) (A:=B) (H:=H1) (Y:=[Ae,Ae]) (U:=[Aa (.ref a),Ae]) trivial;have sx:Sx K CL ⟨λb o=>H b=Aa o,λ_ _ _=>AN⟩ B [Ae,Ae] (L2.start ["self", "ahead"] [.ref a]) H1:=Sx.mono (Fy:=⟨λb o=>H1 b=Aa o,λ_ _ _=>AN⟩) (λb o z=>sm b o z) (λ_ _ _ z=>z) (OM je g.1 g.2)
  refine⟨[Ae,Ae],sx,?_⟩;have e2:w5 (Y7 Pg n) [Ae,Ae] (.cons (.str txt) .nil)=.ok [.str txt]:=rfl;rw[P9,e2];show B6 K CL _ B (WE K CL E) (O.of _ ((Y7 Pg n).xn 17 [.str txt]) λx=>.exn x _) _
  rw[Le,tf];exact λH2 s2 cls dx xr=>hp cls dx H2 (λb o z=>s2 b o z) xr
 .have e1:q.ps≠[]:=λz=>by rw[z]at el;cases el
  have lp:0<q.ps.length:=Xd.mpr e1;rw[AA (by rw[Bh];omega)]
  rw[List.getLast?_eq_getElem?]at el;obtain⟨y,hy,ry⟩:=r7.get el;rw[<-lx]at hy;refine⟨a,dx,v1,v2,v3,la,rfl,sm _ _ h1,.inl ⟨rfl,xs,zr.of (sm _ _ h2)⟩,la,xs,y,rfl,rfl,sm _ _ h2,hy,?_⟩;have k2:KB a la H (upd H1 la (.L xs.dropLast)):=λb o e n1 n2=>by rw[AW n2];exact sm _ _ e
  have Ϟ:J4 (upd H1 la (.L xs.dropLast)) B:=λb hb=>by
   by_cases e:b=la
   .rw[e];exact⟨_,B1,trivial⟩
   .rw[AW e];exact je b hb
  have a2:(upd H1 la (.L xs.dropLast)) a=Aa (.ins C dx (yh v1 v2 v3 la)):=by rw[AW (CB ne)];exact sm _ _ h1
  refine⟨Ϟ,[Ae,Aa (.H [.L l,c],Ad)],ϐ (Y6.kp (k2.kp ha zb) _ ry),?_⟩;have w1:evE (Y7 Pg n) [Ae,Aa (.H [.L l,c],Ad)] (.idx (.v 1) (.int 0))=.ok (.L l):=rfl;have w2:evE (Y7 Pg n) [Ae,Aa (.H [.L l,c],Ad)] (.idx (.v 1) (.int 1))=.ok c:=rfl;show AX _ _ _ (evE (Y7 Pg n) [Ae,Aa (.H [.L l,c],Ad)] (.idx (.v 1) (.int 0))) _;rw[w1];intro y1 H3 s3 ry1;have a3:=s3 _ _ a2;have k4:KB a la H (upd H3 a (.ins C dx (yh v1 y1 v3 la))):=λb o e n1 n2=>by rw[AW n1];exact s3 _ _ (k2 b o e n1 n2)
  have k34:KB a la H3 (upd H3 a (.ins C dx (yh v1 y1 v3 la))):=λb o e n1 n2=>by rw[AW n1];exact e
  refine⟨.ref a,rfl,a,C,dx,_,rfl,a3,dc.cl,dc.n2,AK rfl,?_⟩;have hA4:J4 (upd H3 a (.ins C dx (yh v1 y1 v3 la))) B:=λb hb=>by
   by_cases e:b=a
   .rw[e];exact⟨_,B1,trivial⟩
   .rw[AW e];exact Ϟ.same s3 b hb
  refine⟨hA4,[Ae,Aa (.H [.L l,c],Ad)],ϐ (Y6.kp (k4.kp ha zb) _ ry),?_⟩;show AX _ _ _ (evE (Y7 Pg n) [Ae,Aa (.H [.L l,c],Ad)] (.idx (.v 1) (.int 1))) _;rw[w2];intro y2 H5 s5 Â;have k6:KB a la H (upd H5 a (.ins C dx (yh v1 y1 y2 la))):=λb o e n1 n2=>by rw[AW n1];exact s5 _ _ (k4 b o e n1 n2)
  have k36:KB a la H3 (upd H5 a (.ins C dx (yh v1 y1 y2 la))):=λb o e n1 n2=>by rw[AW n1];exact s5 _ _ (k34 b o e n1 n2)
  have k56:KB a la H5 (upd H5 a (.ins C dx (yh v1 y1 y2 la))):=λb o e n1 n2=>by rw[AW n1];exact e
  refine⟨.ref a,rfl,a,C,dx,_,rfl,s5 _ _ B1,dc.cl,dc.n3,AK rfl,?_⟩;have R1:Y6 K CL (upd H5 a (.ins C dx (yh v1 y1 y2 la))) B y1 (.L l):=Y6.kp (k36.kp ha zb) _ ry1;obtain⟨l1,ys,rfl,nl1,sq1,rl1⟩:=R1;have l6:(upd H5 a (.ins C dx (yh v1 (.ref l1) y2 la))) la=Aa (.L xs.dropLast):=by
   rw[AW ne];refine s5 _ _ ?_;rw[AW ne];exact s3 _ _ B1
  have hA6:J4 (upd H5 a (.ins C dx (yh v1 (.ref l1) y2 la))) B:=λb hb=>by
   by_cases e:b=a
   .rw[e];exact⟨_,B1,trivial⟩
   .rw[AW e];exact hA4.same s5 b hb
  have ly:=rl1.length;refine⟨a,dx,v1,.ref l1,y2,la,ys,rfl,B1,sq1,⟨l1,rfl⟩,by omega,λt ht=>?_⟩
  have ht:(upd H5 a (.ins C dx (yh v1 (.ref l1) y2 la))) t=Ae:=ht;have s7:Aw (upd H5 a (.ins C dx (yh v1 (.ref l1) y2 la))) (upd (upd H5 a (.ins C dx (yh v1 (.ref l1) y2 la))) t (.L [.str (toString (ys.length:Ai))])):=FW ht _;have tN:H t=Ae:=by
   cases e:H t with
   |none=>rfl
   |some o=>
    by_cases n1:t=a
    .rw[n1,B1]at ht;cases ht
    .by_cases n2:t=la
     .rw[n2,l6]at ht;cases ht
     .rw[k6 t o e n1 n2]at ht;cases ht
  refine hp (.ref t) _ (k6.trans (KB.of s7)) ⟨?_,λ_ es ee=>?_⟩ (DK.same (DK.new ⟨dx,v1,.ref l1,y2,xs.dropLast,B1,l6,Y6.kp (k6.kp ha zb) _ r4,⟨l1,ys,rfl,nl1,sq1,rl1⟩,Y6.kp (k56.kp ha zb) _ Â,?_⟩ ht) s7)
  .rw[<-ly];exact⟨t,_,rfl,.inl (hA6.new ht),zr.of B1,rfl,trivial⟩
  .cases ee;rw[<-ly];exact⟨t,_,rfl,tN,B1,rfl,trivial⟩
  .have:=Y9.take (xs.length-1) (Y9.kp (k6.kp ha zb) _ r7);rw[<-W4]at this
   rwa [lx,<-W4]at this
 .exact hp.elim
theorem Lh(v:VX J CL k W T X){id:Ag}(hm:(g,id,m)∈T.fns)(h1:m<1000)(hmt:Gk.lookup g=Ae)(vj:xj T g=Ab)(ha:PA X (e::es) ta)(zh:(g==("__debug__" : Ah))=Ad:=by decide)(he:At (e::es) X.env=(Ad,eval e X.env)::At es X.env:=by rfl)(zj:(Br pos (At es X.env)).any (·.1)=Ad:=by rfl)(hcm:T.cm=Ab:=by rfl):PE X (.Call (.Name g p) (e::es) [] pos) (Vw (spD X.K CL m (J.fr id) (J.F id)) [] (EKW X.K CL A0 W) ta):=by
 obtain⟨f,fd,ps,hl,kp,hb,RL,F,_⟩:=v.fn _ hm;have F:=F h1;have em:(g,id,m).2.2%1000=m:=Ja h1;rw[em]at F;refine Ng F (v.room hcm) ?_ (Tp hl hmt) kp hb .nil (v.px A0) ha zh he zj;show X.env.scope.names.lookup g=_;rw[v.sc];exact A2.mp vj
theorem N7(hl:us.length=1)(r:Y9 K CL H A us ds):∃ u d,us=[u]/\ds=[d]/\Y6 K CL H A u d:=by
  match us,ds,hl,r with
  |[u],[d],_,r=>exact⟨u,d,rfl,rfl,r.1⟩
  |[_],[],_,r=>exact r.elim
  |[_],_::_::_,_,r=>exact r.2.elim
theorem Qg(hl:us.length=2)(r:Y9 K CL H A us ds):∃ u d u' d',us=[u,u']/\ds=[d,d']/\Y6 K CL H A u d/\Y6 K CL H A u' d':=by
  match us,ds,hl,r with
  |[u,u'],[d,d'],_,r=>exact⟨u,d,u',d',rfl,rfl,r.1,r.2.1⟩
  |[_,_],[],_,r=>exact r.elim
  |[_,_],[_],_,r=>exact r.2.elim
  |[_,_],_::_::_::_,_,r=>exact r.2.2.elim
theorem Qh(sm:Aw H H1)(r:B0 K CL Ab H1 A H2 v d):B0 K CL Ab H A H2 v d:=⟨r.1,λ_ es ee=>by
 obtain⟨l,ys,e1,e2,e3,e4⟩:=r.2 rfl es ee;refine⟨l,ys,e1,?_,e3,e4⟩;cases eh:H l with
 |none=>rfl
 | some o=>rw[sm _ _ eh]at e2;cases e2⟩
section
variable{E:XK}
theorem LL(he:PE X o ta)(c:we X.K C)(hm:zf X.K C m f)(F:Y0 X.prog X.w X.K X.mg X.base CX k f fd ps sp)(hr:PP k X.A)(hb:Cv X.K fd ps [])(hx:G7 CX X E)(ha:PA X (e::es) t)(J7:(apos.endLine==pos.line)=Ab)(yt:DZ ((e::es).length+([]:Ac CK).length) (Br pos (At (e::es) X.env)) (DY pos (CO [] X.env))=Ab:=by rfl)(My:BW o m X.env (eval o X.env)=eval o X.env:=by rfl)(xm:At (e::es) X.env=(Ad,eval e X.env)::At es X.env:=by rfl)(zj:(Br pos (At es X.env)).any (·.1)=Ad:=by rfl):PE X (.Call (.Attribute o m apos) (e::es) [] pos) (LO C m sp [] E ta t):=by
 intro pI s U H Q I h;rw[FG,My];refine Al (J5 (he pI s U H _ I h) λu s1 ⟨x,H1,I1,rx,a,dx,fs,ex,ea,l,q⟩=>?_)
 subst ex;obtain rfl:u=Bv a:=rx;refine Al (CJ ?_);have wj:CI Ab o X.env apos pos=pure pos:=by
  unfold CI;simp[J7]
 unfold Hm;rw[yt];refine Al (BA (M8 I1 ea c hm l ?_));refine Al (Eo wj ?_);refine CZ (first:=[.ref a]) (h₀:=X.base) I.ok.mod.kin hm.kp (J5 (ha pos pI s1 U H1 _ I1 q) λus s2 ⟨vs,H2,I2,r,q2⟩=>⟨I2.kIn,?_⟩) xm zj
 exact Nm (us:=.ref a::us) (vs:=.ref a::vs) F hr hb .nil hx I2 (.cons rfl r) q2
theorem rJ(he:PE X o ta)(c:we X.K C)(hm:zf X.K C m f)(F:Y0 X.prog X.w X.K X.mg X.base CX k f fd ps sp)(hr:PP k X.A)(hb:Cv X.K fd ps [])(hx:G7 CX X E)(J7:(apos.endLine==pos.line)=Ab)(My:BW o m X.env (eval o X.env)=eval o X.env:=by rfl):PE X (.Call (.Attribute o m apos) [] [] pos) (LO C m sp [] E ta MO):=by
 intro pI s U H Q I h;rw[FG,My];refine Al (J5 (he pI s U H _ I h) λu s1 ⟨x,H1,I1,rx,a,dx,fs,ex,ea,l,q⟩=>?_)
 subst ex;obtain rfl:u=Bv a:=rx;refine Al (CJ ?_);have yt:DZ (([]:Ac Aq).length+([]:Ac CK).length) (Br pos (At [] X.env)) (DY pos (CO [] X.env))=Ab:=rfl;have wj:CI Ab o X.env apos pos=pure pos:=by
  unfold CI;simp[J7]
 unfold Hm;rw[yt];refine Al (BA (M8 I1 ea c hm l ?_));refine Al (Eo wj ?_);exact HJ (first:=[.ref a]) I1.kIn hm.kp (Nm (us:=[.ref a]) (vs:=[.ref a]) F hr hb .nil hx I1 (.cons rfl .nil) q)
end
noncomputable def V2(r:R D)(q:Dk):RK:=match r with
  |.ok (.L es)=>.ok (.L es) q
  |.exn x=>.exn x
  |_=>.bad
def Ph(J:J9)(id:Ag)(q:Dk):Ac D->RK
 |[.str w]=>if w = "points" then V2 (J.F id [q.p,.L q.l]) q else .bad
 |_=>.bad
theorem uZ(t:wg K mg CL fns bl rzs exs gls Pg){st:AT}{id:Ag}(dc:uv K C)(hf:yp K x qual st f fd)(hs:t5 ["self", "word"] ["self", "word"] st=Ab)(hb:Dt st=[.If c1 [.Return (Aa (.Call (.Name "point_texts" p1) [.Attribute (.Name "self" p2) "p" p3,.Attribute (.Name "self" p4) "points" p5] [] p6)) p7] [] p8,s2,s3])(hm:((("point_texts" : Ah),id,2):Ah×Ag×Ag)∈fns)(vj:xj ⟨AB st,["self", "word"],fns,bl,rzs,exs,gls,Ab,Ab⟩ "point_texts" = Ab)(wn:(Pg.defs id).fr=Ab)(cc:Tb ⟨AB st,["self", "word"],fns,bl,rzs,exs,gls,Ab,Ab⟩ c1 (.cmp .Eq (.v 1) (.str "points"))):
  Y0 P w K mg base (CXR P w) (n+1) f fd ["self", "word"] (xh K CL C 1 (Ph (Y7 Pg n) id)):=by
 obtain⟨oc,od,dV,kV,doc,pm,an,cdv,ct,osl,rfl,lk,ze⟩:=hf.ex;have sc:=JJ hs;refine Hw lk ze sc.fs (λ_ _ _ _ h=>LD h) λA outer s H vs Q E hr h=>LI h λa la us ds B q e RL hA ha zb rs dk hp=>?_
 subst e;rw[hb];have v:=Lp (P:=P) (w:=w) (base:=base) (outer:=outer) (H:=H) (E:=E) t sc hr;have Y5:∀ p,PE (Bu (CXR P w) P w K mg base ["self", "word"] qual (AB st) f cdv A outer s H E) (.Name "self" p) (BS 0):=λp=>DF rfl (.inl (sc.loc "self" (by simp)))
 have c1':=cc.h v B;refine⟨_,CF (Fw c1' (DE (Ft (Lh v hm (by decide) rfl vj (Bm (Li dc Y5) (Bm (LM dc Y5) B9 rfl) rfl)))) Gf) M7,?_⟩
 obtain⟨dx,v1,v2,v3,xs,h1,h2,r4,r5,r6,r7⟩:=dk;obtain⟨u,d,rfl,rfl,ru⟩:=N7 RL rs;cases d with
 |str z=>
  have hq:w4 (if z = "points" then V2 ((Y7 Pg n).F id [q.p,.L q.l]) q else .bad) _ _:=hp
  by_cases hz:z = "points"
  .rw[Au hz]at hq;subst hz;refine⟨hA,[Ae,Aa (.str "points",Ad)],ϐ ru,?_⟩;show Dx _ _ (R.ok Ab) _;intro H1 sm;dsimp only;rw[Au rfl];refine⟨a,dx,v1,v2,v3,la,rfl,sm _ _ h1,a,dx,v1,v2,v3,la,rfl,sm _ _ h1,[q.p,.L q.l],B,rfl,hA.same sm,⟨r4.same sm,r5.same sm,trivial⟩,?_⟩;cases e:(Y7 Pg n).F id [q.p,.L q.l] with
   |bad=>rw[e]at hq;exact hq.elim
   |exn y=>rw[e]at hq;exact λcls dx H2 s2 xr=>⟨y,xr,λcls dx xr=>hq cls dx H2 (sm.trans s2) xr⟩
   |ok d=>
    rw[e]at hq;cases d with
    |L es=>
     intro y H2 s2 ry;rw[Ot,wn]at ry;obtain⟨l,ys,e1,e2,_,_⟩:=ry.2 rfl es rfl;subst e1;exact hq _ H2 (KB.of (sm.trans s2)) (Qh sm ry) (DK.same (DK.new (DK.same ⟨dx,v1,v2,v3,xs,h1,h2,r4,r5,r6,r7⟩ sm) e2) s2)
    |_=>exact hq.elim
  .rw[AA hz]at hq;exact hq.elim
 |_=>exact hp.elim
def Lo(J:J9)(ip it:Ag)(q:Dk):Ac D->RK
  | [.str w,fm]=>(match (if w = "put" then J.F ip [.L q.l,fm] else if w = "take" then J.F it [.L q.l,fm] else .bad) with
    |.ok (.L l)=>if q.ps.length<900/\l.length<900 then .ok (.L [.str (toString (l.length:Ai))]) (Hz q l q.c) else .bad
    |.exn x=>.exn x
    | _=>.bad)
  |_=>.bad
theorem tU(h:Y[i]?=Aa (Aa (.L l,Ad)))(hz:l.length<900):evE J Y (.L (.cons (.bi .str (.cons (.bi .len (.cons (.v i) .nil)) .nil)) .nil))=.ok (.L [.str (toString (l.length:Ai))]):=by
 have e1:zm .str [.int l.length]=.ok (.str (toString (l.length:Ai))):=Au (by unfold MP;rw[WX,Bh];omega)
 have e2:EC Y i=.ok (.L l):=by unfold EC;rw[h]
 have e3:zm .len [.L l]=.ok (.int l.length):=rfl;simp only[mT,Qb,Mv,Qa,Qv,Vg,e2,R.bind_ok,mW,e3,mX,e1]
theorem Uk{C:Ak}(kb:KB a la H H3)(dk:DK K CL H3 A C a la q)(r:B0 K CL Ab H3 A H4 v d):B0 K CL Ab H A H4 v d:=⟨r.1,λ_ es ee=>by
 obtain⟨l,ys,e1,e2,e3,e4⟩:=r.2 rfl es ee;obtain⟨dx,v1,v2,v3,xs,h1,h2,_⟩:=dk;refine⟨l,ys,e1,?_,e3,e4⟩;cases eh:H l with
 |none=>rfl
 |some o=>
  rw[kb l o eh (λz=>by rw[z,h1]at e2;cases e2) λz=>by rw[z,h2]at e2;cases e2]at e2
  cases e2⟩
theorem ū(r1:Y6 K CL H A y1 d1)(r2:Y6 K CL H A y2 d2):U9 K CL A [Ae,Aa (d1,Ad),Aa (d2,Ad),Ae] [u,Aa y1,Aa y2,u3] H:=(IE (K:=K) (CL:=CL) (A:=A) (H:=H) (Y:=[Ae,Aa (d1,Ad),Aa (d2,Ad),Ae]) (U:=[u,Aa y1,Aa y2,u3]) ⟨⟨rfl,y1,rfl,r1⟩,⟨rfl,y2,rfl,r2⟩,trivial⟩).1
theorem gd4(r:Y6 K CL H A y d):U9 K CL A [Ae,Ae,Ae,Aa (d,Ad)] [u,u1,u2,Aa y] H:=(IE (K:=K) (CL:=CL) (A:=A) (H:=H) (Y:=[Ae,Ae,Ae,Aa (d,Ad)]) (U:=[u,u1,u2,Aa y]) ⟨⟨rfl,y,rfl,r⟩,trivial⟩).1
theorem vC(t:wg K mg CL fns bl rzs exs gls Pg){st:AT}(dc:uv K C)(hf:yp K x qual st f fd)(hs:t5 ["self", "word", "form"] ["self", "word", "form", "points"] st=Ab)(hb:Dt st=[.If c1 [.Assign [.Name "points" p1] (.Call (.Name "put_in" p2) [.Attribute (.Name "self" p3) "points" p4,.Name "form" p5] [] p6) p7] [.If c2 [.Assign [.Name "points" p8] (.Call (.Name "taken_out" p9) [.Attribute (.Name "self" p10) "points" p11,.Name "form" p12] [] p13) p14] s3 p15] p16,.Expr (.Call (.Attribute (.Name "self" p17) "changed" p18) [.Name "points" p19,.Attribute (.Name "self" p20) "curve" p21] [] p22) p23,.Return (Aa er) p24])(hm1:((("put_in" : Ah),ip,2):Ah×Ag×Ag)∈fns)(jv:((("taken_out" : Ah),it,2):Ah×Ag×Ag)∈fns)(vj:(xj ⟨AB st,["self", "word", "form", "points"],fns,bl,rzs,exs,gls,Ab,Ab⟩ "put_in" && xj ⟨AB st,["self", "word", "form", "points"],fns,bl,rzs,exs,gls,Ab,Ab⟩ "taken_out")=Ab)(hl:(p18.endLine==p22.line)=Ab)(wn:(Pg.defs ip).fr=Ab/\(Pg.defs it).fr=Ab)(cc1:Tb ⟨AB st,["self", "word", "form", "points"],fns,bl,rzs,exs,gls,Ab,Ab⟩ c1 (.cmp .Eq (.v 1) (.str "put")))(cc2:Tb ⟨AB st,["self", "word", "form", "points"],fns,bl,rzs,exs,gls,Ab,Ab⟩ c2 (.cmp .Eq (.v 1) (.str "take")))(cr:Te ⟨AB st,["self", "word", "form", "points"],fns,bl,rzs,exs,gls,Ab,Ab⟩ er (.L (.cons (.bi .str (.cons (.bi .len (.cons (.v 3) .nil)) .nil)) .nil)))(me:zf K C "changed" g)(hbg:Cv K gd ["self", "points", "curve"] [])(G:Y0 P w K mg base (CXR P w) n g gd ["self", "points", "curve"] (xh K CL C 2 MS)):
    Y0 P w K mg base (CXR P w) (n+1) f fd ["self", "word", "form"] (xh K CL C 2 (Lo (Y7 Pg n) ip it)):=by
  obtain⟨oc,od,dV,kV,doc,pm,an,cdv,ct,osl,rfl,lk,ze⟩:=hf.ex;have sc:=JJ hs;refine Hw lk ze sc.fs (λ_ _ _ _ h=>LD h) λA outer s H vs Q E hr h=>LI h λa la us ds B q e RL hA ha zb rs dk hp=>?_
  subst e;rw[hb];have v:=Lp (P:=P) (w:=w) (base:=base) (outer:=outer) (H:=H) (E:=E) t sc hr;obtain⟨jk,va⟩:=Be vj;have Y5:∀ p,PE (Bu (CXR P w) P w K mg base ["self", "word", "form", "points"] qual (AB st) f cdv A outer s H E) (.Name "self" p) (BS 0):=λp=>DF rfl (.inl (sc.loc "self" (by simp)))
  have yx:∀ p,PE (Bu (CXR P w) P w K mg base ["self", "word", "form", "points"] qual (AB st) f cdv A outer s H E) (.Name "form" p) (BS 2):=λp=>DF rfl (.inl (sc.loc "form" (by simp)))
  have ppts:∀ p,PE (Bu (CXR P w) P w K mg base ["self", "word", "form", "points"] qual (AB st) f cdv A outer s H E) (.Name "points" p) (BS 3):=λp=>DF rfl (.inl (sc.loc "points" (by simp)))
  have c1':=cc1.h v B;have c2':=cc2.h v B;have r':=(cr.h v).nw rfl B;refine⟨_,CF (Fw c1' (DE (G6 (i:=3) sc.fs.nd rfl (.inl (sc.loc "points" (by simp))) (Lh v hm1 (by decide) rfl jk (Bm (LM dc Y5) (Bm (yx p5) B9 rfl) rfl)) rfl (.inl rfl)))
    (DE (Fw c2' (DE (G6 (i:=3) sc.fs.nd rfl (.inl (sc.loc "points" (by simp))) (Lh v jv (by decide) rfl va (Bm (LM dc Y5) (Bm (yx p12) B9 rfl) rfl)) rfl (.inl rfl))) M7)))
    (CF (K9 (LL (Y5 p17) dc.cl me G (v.room rfl) hbg (v.px A0) (Bm (ppts p19) (Bm (MF dc Y5) B9 rfl) rfl) hl) rfl) (DE (Ft r'))),?_⟩
  obtain⟨dx,v1,v2,v3,xs,h1,h2,r4,r5,r6,r7⟩:=dk;obtain⟨u1,d1,u2,d2,rfl,rfl,ue,v8⟩:=Qg RL rs;cases d1 with
  |str z=>
    have fin:∀(l:Ac D)(y:V)(H2:Hp),Aw H H2->B0 K CL Ab H B H2 y (.L l)->q.ps.length<900/\l.length<900->(∀ v H',KB a la H H'->B0 K CL Ab H B H' v (.L [.str (toString (l.length:Ai))])->DK K CL H' (AV B v) C a la (Hz q l q.c)->Q v H')->(OX (OL (LO C "changed" (xh K CL C 2 MS) [] (EKW K CL A0 (WE K CL E)) (BS 0) (Lg (BS 3) (Lg (λU H Q=>∃ a dx v1 v2 v3 la,U[0]?=Aa (Aa (V.ref a))/\H a=Aa (HO.ins C dx (yh v1 v2 v3 la))/\Q v3 H) MO)))) (OY λU H Q=>J4 H B/\∃ Y,U9 K CL B Y U H/\AX (B0 K CL Ab H B) (WE K CL E) H (evE (Y7 Pg n) Y (.L (.cons (.bi .str (.cons (.bi .len (.cons (.v 3) .nil)) .nil)) .nil))) Q)) {nx:=λ_ H'=>Q .O H',rt:=Q} [Aa (.ref a),Aa u1,Aa u2,Aa y] H2:=λl y H2 sm ry hz hq=>by
      refine⟨.ref a,rfl,a,dx,_,rfl,sm _ _ h1,rfl,y,rfl,a,dx,v1,v2,v3,la,rfl,sm _ _ h1,JI (ds:=[.L l,q.c]) rfl (hA.same sm) ha zb ⟨ry.1,r6.same sm,trivial⟩ (DK.same ⟨dx,v1,v2,v3,xs,h1,h2,r4,r5,r6,r7⟩ sm) ?_⟩;show w4 (if q.ps.length<900 then RK.ok .O (Hz q l q.c) else .bad) _ _
      rw[Au hz.1];intro v' H3 kb _ qg;have qg:=qg.un;have î:J4 H3 B:=qg.aok kb (hA.same sm);refine⟨î,[Ae,Ae,Ae,Aa (.L l,Ad)],gd4 (Y6.kp (kb.kp ha zb) _ ry.1),?_⟩;have ev:=tU (J:=Y7 Pg n) (Y:=[Ae,Ae,Ae,Aa (.L l,Ad)]) (i:=3) rfl hz.2;rw[ev];intro v4 H4 s4 Á;obtain⟨l4,ys4,f1,f2,_,_⟩:=Á.2 rfl _ rfl;subst f1;exact hq _ H4 (((KB.of sm).trans kb).trans (KB.of s4)) (Uk ((KB.of sm).trans kb) qg Á) ((qg.new f2).same s4)
    have call:∀(id:Ag)(H1:Hp),Aw H H1->(Pg.defs id).fr=Ab->(∀ l,(Y7 Pg n).F id [.L q.l,d2]=.ok (.L l)->q.ps.length<900/\l.length<900/\∀ v H',KB a la H H'->B0 K CL Ab H B H' v (.L [.str (toString (l.length:Ai))])->DK K CL H' (AV B v) C a la (Hz q l q.c)->Q v H')->(∀ y,(Y7 Pg n).F id [.L q.l,d2]=.exn y->∀ cls dx H',Aw H H'->Db K CL H' cls dx y->E cls dx H')->(∀ d,(Y7 Pg n).F id [.L q.l,d2]=.ok d->∃ l,d=.L l)->(Y7 Pg n).F id [.L q.l,d2]≠.bad ->
        spD K CL 2 ((Y7 Pg n).fr id) ((Y7 Pg n).F id) ([v2,u2]++[]) H1 (λy H2=>(OX (OL (LO C "changed" (xh K CL C 2 MS) [] (EKW K CL A0 (WE K CL E)) (BS 0) (Lg (BS 3) (Lg (λU H Q=>∃ a dx v1 v2 v3 la,U[0]?=Aa (Aa (V.ref a))/\H a=Aa (HO.ins C dx (yh v1 v2 v3 la))/\Q v3 H) MO)))) (OY λU H Q=>J4 H B/\∃ Y,U9 K CL B Y U H/\AX (B0 K CL Ab H B) (WE K CL E) H (evE (Y7 Pg n) Y (.L (.cons (.bi .str (.cons (.bi .len (.cons (.v 3) .nil)) .nil)) .nil))) Q)) {nx:=λ_ H'=>Q .O H',rt:=Q} [Aa (.ref a),Aa u1,Aa u2,Aa y] H2) (EKW K CL A0 (WE K CL E)):=λid H1 sm wn o1 o2 o3 o4=>by
      refine⟨[.L q.l,d2],B,rfl,hA.same sm,⟨r5.same sm,v8.same sm,trivial⟩,?_⟩;cases e:(Y7 Pg n).F id [.L q.l,d2] with
      |bad=>exact absurd e o4
      |exn y=>exact λcls dx H2 s2 xr=>⟨y,xr,λcls dx xr=>o2 y e cls dx H2 (sm.trans s2) xr⟩
      |ok d=>
        obtain⟨l,rfl⟩:=o3 d e;obtain⟨z1,z2,z3⟩:=o1 l e;intro y H2 s2 ry;rw[Ot,wn]at ry;exact fin l y H2 (sm.trans s2) (Qh sm ry) ⟨z1,z2⟩ z3
    have hq:w4 (match (if z = "put" then (Y7 Pg n).F ip [.L q.l,d2] else if z = "take" then (Y7 Pg n).F it [.L q.l,d2] else .bad) with
      |.ok (.L l)=>if q.ps.length<900/\l.length<900 then .ok (.L [.str (toString (l.length:Ai))]) (Hz q l q.c) else .bad
      |.exn x=>.exn x
      | _=>.bad) _ _:=hp
    have each:∀ r:R D,w4 (match r with
      |.ok (.L l)=>if q.ps.length<900/\l.length<900 then RK.ok (.L [.str (toString (l.length:Ai))]) (Hz q l q.c) else .bad
      |.exn x=>.exn x
      | _=>.bad) (λd q'=>∀ v H',KB a la H H'->B0 K CL Ab H B H' v d->DK K CL H' (AV B v) C a la q'->Q v H') (λx=>∀ cls dx H',Aw H H'->Db K CL H' cls dx x->E cls dx H')->(∀ l,r=.ok (.L l)->q.ps.length<900/\l.length<900/\∀ v H',KB a la H H'->B0 K CL Ab H B H' v (.L [.str (toString (l.length:Ai))])->DK K CL H' (AV B v) C a la (Hz q l q.c)->Q v H')/\(∀ y,r=.exn y->∀ cls dx H',Aw H H'->Db K CL H' cls dx y->E cls dx H')/\(∀ d,r=.ok d->∃ l,d=.L l)/\r≠.bad:=λr h=>by
      cases r with
      |bad=>exact h.elim
      |exn y=>exact⟨λl e=>(nomatch e),λy' e=>(by cases e;exact h),λd e=>(nomatch e),λe=>nomatch e⟩
      |ok d=>
        cases d with
        |L l=>
          have h:w4 (if q.ps.length<900/\l.length<900 then RK.ok (.L [.str (toString (l.length:Ai))]) (Hz q l q.c) else .bad) _ _:=h
          by_cases hz:q.ps.length<900/\l.length<900
          · rw[Au hz]at h;exact⟨λl e=>(by cases e;exact⟨hz.1,hz.2,h⟩),λy' e=>(nomatch e),λd e=>(by cases e;exact⟨l,rfl⟩),λe=>nomatch e⟩
          · rw[AA hz]at h;exact h.elim
        |_=>exact h.elim
    have mw:∀ s:Ah,((top [Ae,Aa (D.str z,Ad),Aa (d2,Ad),Ae] (.cmp .Eq (.v 1) (.str s)) (evE (Y7 Pg n) [Ae,Aa (D.str z,Ad),Aa (d2,Ad),Ae] (.cmp .Eq (.v 1) (.str s)))).bind Ci)=.ok (decide (z=s)):=λs=>by
      show R.ok (z==s)=_
      congr 1
    refine⟨hA,[Ae,Aa (.str z,Ad),Aa (d2,Ad),Ae],ū ue v8,?_⟩;dsimp only;rw[mw "put"];intro H1 sm;by_cases z1:z = "put"
    · rw[Au z1]at hq;obtain⟨o1,o2,o3,o4⟩:=each _ hq;rw[Au (Di z1)];exact⟨a,dx,v1,v2,v3,la,rfl,sm _ _ h1,u2,rfl,call ip H1 sm wn.1 o1 o2 o3 o4⟩
    · rw[AA z1]at hq;rw[AA (by rw[Bq z1];exact BC)]
      refine⟨hA.same sm,[Ae,Aa (.str z,Ad),Aa (d2,Ad),Ae],ū (ue.same sm) (v8.same sm),?_⟩;rw[mw "take"];intro H2 yy;by_cases z2:z = "take"
      · rw[Au z2]at hq;obtain⟨o1,o2,o3,o4⟩:=each _ hq;rw[Au (Di z2)];exact⟨a,dx,v1,v2,v3,la,rfl,yy _ _ (sm _ _ h1),u2,rfl,call it H2 (sm.trans yy) wn.2 o1 o2 o3 o4⟩
      · rw[AA z2]at hq;exact hq.elim
  |_=>exact hp.elim
def MB(P:AG)(w:AD)(K:Fg)(a:Ak)(cnt:Ac (Ah×Ai)):Prop:=(a==Hn)=Ad/\∃(o:CD)(es:A3 MY)(ep:Ag)(kvs:Ac (Ah×Aj)),K.lookup a=Aa o/\o.ExactDict/\o.data=.dict es ep/\KeysOf (FJ P w) es/\Pairs (FJ P w) es.toList kvs/\(kvs.map (·.1)).Nodup/\∀ z,(Gw kvs z=Ae/\cnt.lookup z=Ae)\/∃ i t,Gw kvs z=Aa (.int i t)/\cnt.lookup z=Aa i
section
variable{cnt:Ac (Ah×Ai)}
theorem Ux{U:L2.St}(c:MB X.prog X.w X.K a cnt)(I:Y8 X pI U H s):∃ kvs,s.heap.MapOf (FJ X.prog X.w) a (Gw kvs)/\s.TypeIs (.ref a) "dict"/\∀ z,(Gw kvs z=Ae/\cnt.lookup z=Ae)\/∃ i t,Gw kvs z=Aa (.int i t)/\cnt.lookup z=Aa i:=by
 obtain⟨_,o,es,ep,kvs,h1,h2,h3,h4,h5,h6,h7⟩:=c;have ho:=I.kIn _ _ h1;exact⟨kvs,Heap.DictOf.mapOf ⟨o,es,ep,ho,h2,h3,h4,h5,h6⟩,⟨o,ho,h2.1⟩,h7⟩
theorem rP(c:MB X.prog X.w X.K a cnt):xw X (DB .NotIn) (λx y H Q=>∃ z,x=.str z/\y=.ref a/\Q (.bl (!(cnt.lookup z).isSome)) H):=by
 intro pI s U H x y v u Q I rx ry ⟨z,e1,e2,q⟩;subst e1 e2;obtain⟨t,rfl⟩:=rx;cases ry;obtain⟨kvs,m,ty,hz⟩:=Ux c I;refine wpAny_notIn_of (knd:=FJ X.prog X.w) (k:=z) (by show (z==z)=Ab;exact Ck _) c.1 m ?_
 have e:(Gw kvs z).isSome=(cnt.lookup z).isSome:=by
  rcases hz z with ⟨h1,h2⟩|⟨i,t,h1,h2⟩<;>rw[h1,h2]<;>rfl
 rw[e];exact⟨.bl _,H,I.tok _,rfl,q⟩
theorem uC(c:MB X.prog X.w X.K a cnt):om X (λx y H Q=>∃ z i,x=.ref a/\y=.str z/\cnt.lookup z=Aa i/\Q (.int i) H):=by
 intro value slice pI s U H x y v u Q I rx ry ⟨z,i,e1,e2,e3,q⟩ hs;subst e1 e2;obtain⟨t,rfl⟩:=ry;cases rx;obtain⟨kvs,m,ty,hz⟩:=Ux c I;rcases hz z with ⟨h1,h2⟩|⟨j,t',h1,h2⟩
 .rw[e3]at h2;cases h2
 .rw[e3]at h2;cases h2;exact GQ ty slot_dict_getitem.lookup (wpAny_getItem_of (knd:=FJ X.prog X.w) (k:=z) (Q:=λr s'=>r=Ip i t'/\EP X pI U Q r s') (by show (z==z)=Ab;exact Ck _) m h1 ⟨rfl,.int i,H,I.tok _,⟨_,rfl⟩,q⟩) hs
end
noncomputable def JS(J:J9)(ir:Ag)(cnt:Ac (Ah×Ai)):Ac D->R D
  | [p,.L (.str w::ws)]=>(match J.F ir [p,.L ws] with
    |.ok .O=>.exn ⟨12,[]⟩
    | .ok (.L rs)=>(match cnt.lookup w with
      |none=>.exn ⟨12,[]⟩
      | some k=>if (rs.length:Ai)=k then .ok (.L rs) else .exn ⟨12,[]⟩)
    |.exn y=>.exn y
    | _=>.bad)
  |_=>.bad
theorem kD(J:J9)(ir:Ag)(cnt:Ac (Ah×Ai))(d1 d2:D):JS J ir cnt [d1,d2]=.bad\/∃ w ws,d2=.L (.str w::ws):=by
 cases d2 with
 |L xs=>
  cases xs with
  |nil=>exact .inl rfl
  |cons x ws=>
   cases x with
   |str w=>exact .inr ⟨w,ws,rfl⟩
   |_=>exact .inl rfl
 |_=>exact .inl rfl
theorem gd5(r1:Y6 K CL H A y1 d1)(r2:Y6 K CL H A y2 d2):U9 K CL A [Aa (d1,Ad),Aa (d2,Ad),Ae] [Aa y1,Aa y2,u] H:=(IE (K:=K) (CL:=CL) (A:=A) (H:=H) (Y:=[Aa (d1,Ad),Aa (d2,Ad),Ae]) (U:=[Aa y1,Aa y2,u]) ⟨⟨rfl,y1,rfl,r1⟩,⟨rfl,y2,rfl,r2⟩,trivial⟩).1
theorem ϑ(r1:Y6 K CL H A y1 d1)(r2:Y6 K CL H A y2 d2)(r3:Y6 K CL H A y3 d3):U9 K CL A [Aa (d1,Ad),Aa (d2,Ad),Aa (d3,Ad)] [Aa y1,Aa y2,Aa y3] H:=(IE (K:=K) (CL:=CL) (A:=A) (H:=H) (Y:=[Aa (d1,Ad),Aa (d2,Ad),Aa (d3,Ad)]) (U:=[Aa y1,Aa y2,Aa y3]) ⟨⟨rfl,y1,rfl,r1⟩,⟨rfl,y2,rfl,r2⟩,⟨rfl,y3,rfl,r3⟩,trivial⟩).1
theorem Rg(h:Y[i]?=Aa (Aa (.L (x::ws),Ad))):evE J Y (.idx (.v i) (.int 0))=.ok x:=by
 have e2:EC Y i=.ok (.L (x::ws)):=by unfold EC;rw[h]
 have e3:D4 (.L (x::ws)) (.int 0)=.ok x:=by
  show Ee (x::ws) 0=.ok x;unfold Ee pz;simp
 rw[mV,Qv,e2];exact e3
theorem Y_5(x:D)(ws:Ac D):Kx (x::ws) (Aa 1) Ae=ws:=by
 unfold Kx;simp[JQ]
theorem rT(t:wg K mg CL fns bl rzs exs gls Pg){st:AT}{cnt:Ac (Ah×Ai)}(hc:MB P w K aC cnt)(jw:mg "COUNTS" = Aa (.ref aC))(hf:yp K x qual st f fd)(hs:t5 ["p", "words"] ["p", "words", "rests"] st=Ab)(hb:Dt st=[.Assign [.Name "rests" p1] e1 p2,.If (.BoolOp .Or [c1,.Compare ew [.NotIn] [.Name "COUNTS" p3] p4,.Compare el [.NotEq] [.Subscript (.Name "COUNTS" p5) ew' p6] p7] p8) [sr] [] p9,.Return (Aa (.Name "rests" p10)) p11])(vj:xj ⟨AB st,["p", "words", "rests"],fns,bl,rzs,exs,gls,Ab,Ab⟩ "COUNTS" = Ab)(k1:Te ⟨AB st,["p", "words", "rests"],fns,bl,rzs,exs,gls,Ab,Ab⟩ e1 (.call ir (.cons (.v 0) (.cons (.sl (.v 1) (.int 1) .O) .nil))))(nc:FV e1=Ab)(k2:Tb ⟨AB st,["p", "words", "rests"],fns,bl,rzs,exs,gls,Ab,Ab⟩ c1 (.cmp .Is (.v 2) .O))(k3:Te ⟨AB st,["p", "words", "rests"],fns,bl,rzs,exs,gls,Ab,Ab⟩ ew (.idx (.v 1) (.int 0)))(k3':Te ⟨AB st,["p", "words", "rests"],fns,bl,rzs,exs,gls,Ab,Ab⟩ ew' (.idx (.v 1) (.int 0)))(hpx:Oc ew')(k4:Te ⟨AB st,["p", "words", "rests"],fns,bl,rzs,exs,gls,Ab,Ab⟩ el (.bi .len (.cons (.v 2) .nil)))(k5:Ts ⟨AB st,["p", "words", "rests"],fns,bl,rzs,exs,gls,Ab,Ab⟩ sr (.rais 12 (.cons (.str txt) .nil)))(tf:Pg.xn 12 [.str txt]=.ok ⟨12,[]⟩):
    Y0 P w K mg base (CXR P w) (n+1) f fd ["p", "words"] (spD K CL 2 Ad (JS (Y7 Pg n) ir cnt)):=by
  obtain⟨oc,od,dV,kV,doc,pm,an,cdv,ct,osl,rfl,lk,ze⟩:=hf.ex;have sc:=JJ hs;refine Hw lk ze sc.fs (λvs H Q E ⟨ds,A,z,_⟩=>z) λA outer s H vs Q E hr ⟨ds,B,RL,hA,rs,hp⟩=>?_
  rw[hb];have v:=Lp (P:=P) (w:=w) (base:=base) (outer:=outer) (H:=H) (E:=E) t sc hr;have hg:Gl (Bu (CXR P w) P w K mg base ["p", "words", "rests"] qual (AB st) f cdv A outer s H E) "COUNTS" := A2.mp vj;have E1:=(k1.h v).se B;have C1:=k2.h v B;have EW:=(k3.h v).se B;have EW':=(k3'.h v).se B;have EL:=(k4.h v).st B;have SR:=k5.h v ⟨λ_=>rfl,λ_=>rfl,λ_=>rfl,λ_=>rfl⟩ ⟨λb o=>H b=Aa o,λ_ _ _=>AN⟩ B
  have cn:∀ p,PE (Bu (CXR P w) P w K mg base ["p", "words", "rests"] qual (AB st) f cdv A outer s H E) (.Name "COUNTS" p) (tC (.ref aC)):=λp=>Qn hg jw rfl
  refine⟨_,CF (G6 (i:=2) sc.fs.nd rfl (.inl (sc.loc "rests" (by simp))) E1 (Kj nc) (.inl rfl)) (CF (Fw (PW.pt (Q9 C1 (Q9 (LF (rP (X:=Bu (CXR P w) P w K mg base ["p", "words", "rests"] qual (AB st) f cdv A outer s H E) hc) EW (cn p3) rfl) (UV (LF (Kh (W:=WE K CL E) (CL:=CL) v.un .NotEq B) EL (Q6 (uC (X:=Bu (CXR P w) P w K mg base ["p", "words", "rests"] qual (AB st) f cdv A outer s H E) hc) (cn p5) EW' hpx) rfl))))) (DE SR) Gf) (DE (Ft (DF (i:=2) rfl (.inl (sc.loc "rests" (by simp))))))),?_⟩
  obtain⟨u1,d1,u2,d2,rfl,rfl,ue,v8⟩:=Qg RL rs;rcases kD (Y7 Pg n) ir cnt d1 d2 with hz|⟨z,ws,rfl⟩
  · rw[hz]at hp;exact hp.elim
  have hp:(match (match (Y7 Pg n).F ir [d1,.L ws] with
      |.ok .O=>R.exn ⟨12,[]⟩
      | .ok (.L rs)=>(match cnt.lookup z with
        |none=>.exn ⟨12,[]⟩
        | some k=>if (rs.length:Ai)=k then .ok (D.L rs) else .exn ⟨12,[]⟩)
      |.exn y=>.exn y
      | _=>.bad) with
    |.ok d=>∀ v H',Aw H H'->B0 K CL Ad H B H' v d->Q v H'
    |.exn x=>∀ cls dx H',Aw H H'->Db K CL H' cls dx x->E cls dx H'
    | .bad=>AN):=hp
  refine⟨hA,[Aa (d1,Ad),Aa (.L (.str z::ws),Ad),Ae],gd5 ue v8,?_⟩;have ũ:evE (Y7 Pg n) [Aa (d1,Ad),Aa (.L (.str z::ws),Ad),Ae] (.call ir (.cons (.v 0) (.cons (.sl (.v 1) (.int 1) .O) .nil)))=(Y7 Pg n).F ir [d1,.L ws]:=by
    show ((Y7 Pg n).F ir [d1,D.L (Kx (D.str z::ws) (Aa 1) Ae)]).bind _=_;rw[Y_5];cases (Y7 Pg n).F ir [d1,D.L ws]<;>rfl
  show AX _ _ _ (evE (Y7 Pg n) [Aa (d1,Ad),Aa (.L (.str z::ws),Ad),Ae] (.call ir (.cons (.v 0) (.cons (.sl (.v 1) (.int 1) .O) .nil)))) _;rw[ũ];have rais:∀(y:V)(H1:Hp)(D':wf),Aw H H1->(∀ cls dx H',Aw H H'->Db K CL H' cls dx ⟨12,[]⟩->E cls dx H')->∃ Y,Sx K CL ⟨λb o=>H b=Aa o,λ_ _ _=>AN⟩ B Y [Aa u1,Aa u2,Aa y] H1/\B6 K CL ⟨λb o=>H b=Aa o,λ_ _ _=>AN⟩ B (WE K CL E) (yk (Y7 Pg n) Y (.rais 12 (.cons (.str txt) .nil))) D':=λy H1 D' sm hx=>by
    have g:=IE (K:=K) (CL:=CL) (A:=B) (H:=H1) (Y:=[Ae,Ae,Ae]) (U:=[Aa u1,Aa u2,Aa y]) trivial;refine⟨[Ae,Ae,Ae],Sx.mono (Fy:=⟨λb o=>H1 b=Aa o,λ_ _ _=>AN⟩) (λb o z=>sm b o z) (λ_ _ _ z=>z) (OM (hA.same sm) g.1 g.2),?_⟩
    have e2:w5 (Y7 Pg n) [Ae,Ae,Ae] (.cons (.str txt) .nil)=.ok [.str txt]:=rfl;rw[P9,e2];show B6 K CL _ B (WE K CL E) (O.of _ ((Y7 Pg n).xn 12 [.str txt]) λx=>.exn x _) _
    rw[Le,tf];exact λH2 s2 cls dx xr=>hx cls dx H2 (λb o z=>s2 b o z) xr
  cases eF:(Y7 Pg n).F ir [d1,.L ws] with
  |bad=>rw[eF]at hp;exact hp.elim
  |exn y=>rw[eF]at hp;exact λH1 sm cls dx xr=>hp cls dx H1 sm xr
  |ok d3=>
    rw[eF]at hp;intro y H1 sm ry;cases d3 with
    |O=>
      refine⟨hA.same sm,_,ϑ (ue.same sm) (v8.same sm) ry,?_⟩;show Dx _ _ (R.ok Ab) _;intro H2 yy;dsimp only;rw[Au rfl,Au rfl];exact rais y H2 _ (sm.trans yy) hp
    |L uu=>
      refine⟨hA.same sm,_,ϑ (ue.same sm) (v8.same sm) ry,?_⟩;show Dx _ _ (R.ok Ad) _;intro H2 yy;dsimp only;rw[AA BC];have Κ:=sm.trans yy;refine⟨hA.same Κ,_,ϑ (ue.same Κ) (v8.same Κ) (ry.same yy),?_⟩;rw[Rg (x:=.str z) (ws:=ws) rfl];intro yw H3 xk ryw;have eyw:yw=.str z:=ryw;subst eyw;refine⟨z,rfl,rfl,_,rfl,?_⟩;have rh:=Κ.trans xk;cases ec:cnt.lookup z with
      |none=>
        rw[ec]at hp;dsimp only[Xq];rw[Au (by rfl),Au rfl]
        exact rais y H3 _ rh hp
      |some k=>
        rw[ec]at hp;dsimp only[Xq];rw[AA (by decide)]
        refine⟨hA.same rh,_,ϑ (ue.same rh) (v8.same rh) (ry.same (yy.trans xk)),?_⟩;show AX _ _ _ (R.ok (.int uu.length)) _;intro yl H4 wa ryl;have oi:=rh.trans wa;refine⟨hA.same oi,_,ϑ (ue.same oi) (v8.same oi) (ry.same ((yy.trans xk).trans wa)),?_⟩;rw[Rg (x:=.str z) (ws:=ws) rfl];intro yw2 H5 t8 ryw2;have eyw2:yw2=.str z:=ryw2;subst eyw2;have Æ:=oi.trans t8;refine⟨z,k,rfl,rfl,ec,hA.same Æ,.int uu.length,.int k,ryl.same t8,.inl rfl,?_⟩;show AX _ _ _ (R.ok (.bl (!((uu.length:Ai)==k)))) _;intro yb H6 ri ryb;refine⟨_,ryb,?_⟩;have Ç:=Æ.trans ri;dsimp only;by_cases hk:(uu.length:Ai)=k
        · dsimp only at hp;rw[Au hk]at hp;rw[AA (by rw[hk];simp)]
          exact⟨y,rfl,hp y H6 Ç ⟨ry.same ((((yy.trans xk).trans wa).trans t8).trans ri),λz=>nomatch z⟩⟩
        · dsimp only at hp;rw[AA hk]at hp;rw[Au (by simp[hk])]
          exact rais y H6 _ Ç hp
    |_=>exact hp.elim
noncomputable def qs(ls:Ac Ah)(w:Ah):Ao:=ls.any (· == w)
theorem Nx(hG:J.G g=.H (ls.map .str))(hi:Y[i]?=Aa (Aa (.str w,Ad))):(top Y (.cmp .In (.v i) (.glob g)) (evE J Y (.cmp .In (.v i) (.glob g)))).bind Ci=.ok (qs ls w):=by
 have e2:EC Y i=.ok (.str w):=by unfold EC;rw[hi]
 have e3:BZ .In (.str w) (.H (ls.map .str))=.ok (.bl (qs ls w)):=by
  show (if (J8 5 (.str w)&&(ls.map D.str).all (J8 5))=Ab then R.ok (D.bl ((ls.map D.str).any λy=>J0 y (.str w))) else .bad)=_
  rw[Au (by rw[As];exact⟨rfl,by rw[E5,A6];intro _ _;rfl⟩),KP]
  rfl
 rw[jF,Uu,Qv,e2,R.bind_ok];show ((R.ok (J.G g)).bind λy=>BZ .In (.str w) y).bind Ci=_
 rw[hG,R.bind_ok,e3];rfl
theorem Hs(e:r=.ok d)(h:∀ v H',Aw H H'->Rp H' v d->Q v H'):AX Rp W H r Q:=by rw[e];exact h
theorem Kk(e:r=.ok b)(h:∀ H',Aw H H'->Q b H'):Dx W H r Q:=by rw[e];exact h
noncomputable def jd(K:Fg)(CL:ClA)(A:Ak->Prop)(H:Hp)(Y:Rho)(U:L2.St)(h:δ K CL A H Y U):U9 K CL A Y U H:=(IE h).1
def spN(C:Ak):Sp:=λvs H Q E=>∃ x dx u,vs=[.ref x,u]/\H x=Aa (.ins C dx [])/\∀ H' l1 l2,H l1=Ae->H l2=Ae->l1≠l2->H' x=Aa (.ins C dx (yh u (.ref l1) .O l2))->H' l1=Aa (.L [])->H' l2=Aa (.L [])->(∀ b o,H b=Aa o->b≠x->H' b=Aa o)->Q .O H'
theorem uG{st:AT}(dc:uv K C)(hf:yp K x qual st f fd)(hs:t5 ["self", "p"] ["self", "p"] st=Ab)
  (hb:Dt st=[.Assign [.Attribute (.Name "self" p1) "p" p2] (.Name "p" p3) p4,.Assign [.Attribute (.Name "self" p5) "points" p6] (.List [] p7) p8,.Assign [.Attribute (.Name "self" p9) "curve" p10] (.Constant .none k p11) p12,.Assign [.Attribute (.Name "self" p13) "past" p14] (.List [] p15) p16]):
  Y0 P w K mg base (CXR P w) (n+1) f fd ["self", "p"] (spN C):=by
 obtain⟨oc,od,dV,kV,doc,pm,an,cdv,ct,osl,rfl,lk,ze⟩:=hf.ex;have sc:=JJ hs;refine Hw lk ze sc.fs (by rintro vs H Q E ⟨a,dx,u,e,_⟩;rw[e];rfl) ?_
 rintro A outer s H vs Q E hr ⟨a,dx,u,e,ha,q⟩;subst e;rw[hb];have Y5:∀ p,PE (Bu (CXR P w) P w K mg base ["self", "p"] qual (AB st) f cdv A outer s H E) (.Name "self" p) (BS 0):=λp=>DF rfl (.inl (sc.loc "self" (by simp)))
 have pp:∀ p,PE (Bu (CXR P w) P w K mg base ["self", "p"] qual (AB st) f cdv A outer s H E) (.Name "p" p) (BS 1):=λp=>DF rfl (.inl (sc.loc "p" (by simp)))
 refine⟨_,CF (JC (Y5 p1) (pp p3) rfl) (CF (JC (Y5 p5) (Nn B9) rfl) (CF (JC (Y5 p9) On rfl) (DE (JC (Y5 p13) (Nn B9) rfl)))),?_⟩;refine⟨u,rfl,.ref a,rfl,a,C,dx,[],rfl,ha,dc.cl,dc.n1,by decide,D5 _,λl1 h1=>?_⟩
 have n1:l1≠a:=λz=>by rw[z,B1]at h1;cases h1
 refine⟨.ref a,rfl,a,C,dx,[("p",u)],rfl,by rw[AW (CB n1)];exact B1,dc.cl,dc.n2,AK rfl,.ref a,rfl,a,C,dx,[("p",u),("points",.ref l1)],rfl,B1,dc.cl,dc.n3,AK rfl,D5 _,λl2 h2=>?_⟩
 have n2:l2≠a:=λz=>by rw[z,B1]at h2;cases h2
 rw[AW n2,AW n2]at h2;have n3:l1≠l2:=λz=>by rw[<-z,B1]at h2;cases h2
 refine⟨.ref a,rfl,a,C,dx,[("p",u),("points",.ref l1),("curve",.O)],rfl,by rw[AW (CB n2)];exact B1,dc.cl,dc.n4,AK rfl,?_⟩
 rw[AW n1]at h1;rw[AW (CB n3),AW n2]at h2;refine q _ l1 l2 h1 h2 n3 B1 ?_ ?_ λb o e n=>?_
 .rw[AW n1,AW n3,AW n1,AW n1];exact B1
 .rw[AW n2];exact B1
 .have e1:b≠l1:=Fe e h1;have e2:b≠l2:=Fe e h2;rw[AW n,AW e2,AW n,AW n,AW e1,AW n];exact e
def TBd(X:Cx)(bst:AT)(tb:L2.St->XK->TS):Prop:=∀ pI Xw,Gd (model X.prog X.w) X.A X.env Xw->∀(U0:L2.St)(E0:XK),(∀ zo H1 s1 ev s',Y8 (Cx.pw X pI Xw) zo U0 H1 s1->CXR X.prog X.w (Cx.pw X pI Xw).stack H1 s1 E0 ev s'->(Cx.pw X pI Xw).xe ev s')->PS (Cx.pw X pI Xw) bst (tb U0 E0)
theorem kM{i:Ag}(hx:X.ex=[])(xm:X.stack=X.env::X.outer)(hfm:X.env.frame=Aa X.env.locals)(hN:X.N.Nodup)(hi:X.N[i]?=Aa nm)(hl:X.env.scope.names.lookup nm=Aa .local)(h1:Wj X CL up g c)(hb:TBd X bst tb)(hh:∀ e,ou (Cx.hot X e) CL (λ_ _=>AN) (h0::hs) fh):PS X (.Try [bst] [.ExceptHandler (Aa (.Name g p1)) (Aa nm) (h0::hs) hp] [] [] pos) (λD U H=>tb U (λ_ _ _=>AN) D U H\/∃(y:Ex)(Fz:Fr)(B:Ak->Prop)(Y:Rho),(up y.c).contains c=Ab/\Sx X.K CL Fz B Y U H/\B6 X.K CL Fz B W (ji i y Y fh) D/\tb U (λcls dx H'=>Db X.K CL H' cls dx y/\Aw H H') {nx:=λ_ _=>AN,rt:=λ_ _=>AN} U H):=λpI s U H D I h=>by
 refine wpAny_Try_except ?_;rcases h with h|⟨y,Fz,B,Y,hc,sx,hpo,h⟩
 .refine Bg (DE (hb pI _ Ym U _ jA) [] s U H D (UF I _) h) (λf s1 hf=>?_) λ_ _ z=>z
  have hf:=iN I.ok hf;cases f with
  |next=>exact Ho hf
  |ret u=>exact hf
  |brk=>exact hf
  |cont=>exact hf
 .have Ó:Ro X CL pI U H y (λev s1=>Av (model X.prog X.w) X.A (Hd ev X.env) (λ_ s2=>Av (model X.prog X.w) X.A (Iu ev Ae) (λ_ s3=>Av (model X.prog X.w) X.A (Kc ev X.env [.ExceptHandler (Aa (.Name g p1)) (Aa nm) (h0::hs) hp]) (SP X pI D) X.xe s3) X.xe s2) X.xe s1):=by
   refine gF hx xm hfm λe T1 cls dx H' s1 I1 sm í ae aT1 he HT1 xr=>?_
   have gx:=sx.grow sm;obtain⟨C,wt,rfl,_⟩:=xr (Bf B Y U) gx.aok;obtain⟨C',hg,hm,zh,xc,hup⟩:=h1;exact mJ (W:=W) hx hN hi hl hg hm zh xc (hup y.c C wt) hh I1 í ae aT1 he HT1 gx wt xr (λ_=>hpo) (λz=>by rw[hc]at z;cases z)
  refine Bg (DE (hb pI _ Ym U _ (iZ hx I.ok Ó)) [] s U H _ (UF I _) h) (λf s1 hf=>?_) λ_ _ z=>z
  cases f with
  |next=>obtain⟨_,_,_,z⟩:=hf;exact z.elim
  |ret u=>obtain⟨_,_,_,_,_,z⟩:=hf;exact z.elim
  |brk=>obtain⟨_,_,_,z⟩:=hf;exact z.elim
  |cont=>obtain⟨_,_,_,z⟩:=hf;exact z.elim
section
variable{E:XK}{U0:L2.St}
theorem jY(F:Y0 X.prog X.w X.K X.mg X.base CX k f fd ps sp)(hr:PP k X.A)(hb:Cv X.K fd ps [])(hx:∀ pI H s e s',Y8 X pI U0 H s->CX X.stack H s E e s'->X.xe e s')(I:Y8 X pI U0 H s)(r:AZ vs us)(q:sp vs H Q E):Av (model X.prog X.w) X.A (call (.ref f) us) (EP X pI U0 Q) X.xe s:=by
 have hl:us.length=ps.length:=by rw[<-r.length];exact F.len _ _ _ _ q
 have lg:Hb s fd ⟨us,[]⟩ (ps.zip us):=by
  have:=hb s us I.kIn (by rw[Bp];exact hl)
  rwa [Bp]at this
 refine Gx (E9 (F.run X.A X.stack s H ⟨us,[]⟩ us vs Q E hr I.env0 lg r q) λr s' hq=>?_)
 cases r with
 |error e=>exact hx pI H s e s' I hq
 |ok fl=>
  cases fl with
  |ret u=>exact I.after hq
  |next=>exact A4 hq
  |brk=>exact A4 hq
  |cont=>exact A4 hq
theorem sS(he:PE X o ta)(c:we X.K C)(hm:zf X.K C m f)(F:Y0 X.prog X.w X.K X.mg X.base CX k f fd ps sp)(hr:PP k X.A)(hb:Cv X.K fd ps [])(hx:∀ pI H s ev s',Y8 X pI U0 H s->CX X.stack H s E ev s'->X.xe ev s')(ha:PA X (e::es) t)(J7:(apos.endLine==pos.line)=Ab)(yt:DZ ((e::es).length+([]:Ac CK).length) (Br pos (At (e::es) X.env)) (DY pos (CO [] X.env))=Ab:=by rfl)(My:BW o m X.env (eval o X.env)=eval o X.env:=by rfl)(xm:At (e::es) X.env=(Ad,eval e X.env)::At es X.env:=by rfl)(zj:(Br pos (At es X.env)).any (·.1)=Ad:=by rfl):PE X (.Call (.Attribute o m apos) (e::es) [] pos) (λU H Q=>U=U0/\LO C m sp [] E ta t U H Q):=by
 intro pI s U H Q I ⟨e0,h⟩;subst e0;rw[FG,My];refine Al (J5 (he pI s U H _ I h) λu s1 ⟨x,H1,I1,rx,a,dx,fs,ex,ea,l,q⟩=>?_)
 subst ex;obtain rfl:u=Bv a:=rx;refine Al (CJ ?_);have wj:CI Ab o X.env apos pos=pure pos:=by
  unfold CI;simp[J7]
 unfold Hm;rw[yt];refine Al (BA (M8 I1 ea c hm l ?_));refine Al (Eo wj ?_);refine CZ (first:=[.ref a]) (h₀:=X.base) I.ok.mod.kin hm.kp (J5 (ha pos pI s1 U H1 _ I1 q) λus s2 ⟨vs,H2,I2,r,q2⟩=>⟨I2.kIn,?_⟩) xm zj
 have q2:sp (V.ref a::(vs++[])) H2 Q E:=q2;rw[Bp]at q2;exact jY (us:=.ref a::us) (vs:=.ref a::vs) F hr hb hx I2 (.cons rfl r) q2
end
section
variable(K:Fg)(CL:ClA)
def OW(H:Hp)(A:Ak->Prop)(H':Hp)(v x:V)(d:D):Prop:=∃ nm d2 t,d=.H [.str nm,d2]/\v=.ref t/\H' t=Aa (.H [.str nm,x])/\¬ A t/\B0 K CL Ab H A H' x d2
def Λ(C:Ak)(m:Ag)(G:Dk->Ac D->RK):Sp:=λvs H Q E=>∃(a la:Ak)(us:Ac V)(ds:Ac D)(A:Ak->Prop)(q:Dk),vs=.ref a::us/\us.length=m/\J4 H A/\A a/\A la/\Y9 K CL H A us ds/\DK K CL H A C a la q/\w4 (G q ds) (λd q'=>∀ v x H',KB a la H H'->OW K CL H A H' v x d->DK K CL H' (AV A x) C a la q'->Q v H') (λ_=>AN)
end
theorem xK{C:Ak}{E:XK}(hl:us.length=m)(hA:J4 H A)(ha:A a)(zb:A la)(rs:Y9 K CL H A us ds)(dk:DK K CL H A C a la q)(hp:w4 (G q ds) (λd q'=>∀ v x H',KB a la H H'->OW K CL H A H' v x d->DK K CL H' (AV A x) C a la q'->Q v H') (λ_=>AN)):Λ K CL C m G (.ref a::us) H Q E:=⟨a,la,us,ds,A,q,rfl,hl,hA,ha,zb,rs,dk,hp⟩
noncomputable def mh(up:Ag->Ac Ag)(FT FH:Ac D->R D)(G:Dk->Ac D->RK)(q:Dk)(ds:Ac D):RK:=match G q ds with
  | .ok (.L ts) q'=>(match FT [.L ts] with
    |.ok (.bl Ab)=>.ok (.H [.str "told",.L ts]) q'
    | _=>.bad)
  | .exn y=>(match FH [.exc y.c y.fs] with
    |.ok (.str nm)=>if (up y.c).contains 0=Ab/\nm≠"told" then .ok (.H [.str nm,.O]) q else .bad
    | _=>.bad)
  |_=>.bad
theorem tB(up:Ag->Ac Ag)(FT FH:Ac D->R D)(G:Dk->Ac D->RK)(q:Dk)(ds:Ac D):mh up FT FH G q ds=.bad\/(∃ ts q',G q ds=.ok (.L ts) q'/\FT [.L ts]=.ok (.bl Ab)/\mh up FT FH G q ds=.ok (.H [.str "told",.L ts]) q')\/∃ y nm,G q ds=.exn y/\FH [.exc y.c y.fs]=.ok (.str nm)/\(up y.c).contains 0=Ab/\nm≠"told"/\mh up FT FH G q ds=.ok (.H [.str nm,.O]) q:=by
 unfold mh;cases e:G q ds with
 |bad=>exact .inl rfl
 |ok d q'=>
  cases d with
  |L ts=>
   dsimp only;cases e2:FT [.L ts] with
   |ok b=>
    cases b with
    |bl b=>
     cases b with
     |true=>exact .inr (.inl ⟨ts,q',rfl,e2,rfl⟩)
     |false=>exact .inl rfl
    |_=>exact .inl rfl
   |_=>exact .inl rfl
  |_=>exact .inl rfl
 |exn y=>
  dsimp only;cases e2:FH [.exc y.c y.fs] with
  |ok b=>
   cases b with
   |str nm=>
    by_cases h:(up y.c).contains 0=Ab/\nm≠"told"
    .exact .inr (.inr ⟨y,nm,rfl,e2,h.1,h.2,Au h⟩)
    .exact .inl (AA h)
   |_=>exact .inl rfl
  |_=>exact .inl rfl
theorem lU(t:wg K mg CL fns bl rzs exs gls Pg){st:AT}(hr1:(r==("__debug__" : Ah))=Ad)(hr2:(r==("__classdict__" : Ah))=Ad)(dc:uv K C)(hf:yp K x qual st f fd)(hs:t5 ["_law_desk",r] ["_law_desk",r, "_law_answer", "_law_word", "_law_error"] st=Ab)
    (hb:Dt st=[.Assign [.Name "_law_answer" p1] (.Constant .none k1 p2) p3,.Assign [.Name "_law_word" p4] (.Constant (.str "told") k2 p5) p6,.Try [.Assign [.Name "_law_answer" p7] (.Call (.Attribute (.Name "_law_desk" p8) "say" p9) [.Name r p10] [] p11) p12] [.ExceptHandler (Aa (.Name "OvalError" p13)) (Aa "_law_error") [h0] p14] [] [] p15,.If c4 b4 [] p16,.Return (Aa (.Tuple [.Name "_law_word" p17,.Name "_law_answer" p18] k3 p19)) p20])
    (hl:(p9.endLine==p11.line)=Ab) (hd:hdB ⟨AB st,["_law_desk",r, "_law_answer", "_law_word", "_law_error"],fns,bl,rzs,exs,gls,Ab,Ab⟩ "OvalError" 0=Ab)
    (k0:ub ⟨AB st,["_law_desk",r, "_law_answer", "_law_word", "_law_error"],fns,bl,rzs,exs,gls,Ad,Ad⟩ [h0] (.cons (.asg 3 Ad (.call rf (.cons (.v 4) .nil))) .nil))
    (k4:Tb ⟨AB st,["_law_desk",r, "_law_answer", "_law_word", "_law_error"],fns,bl,rzs,exs,gls,Ab,Ab⟩ c4 (.and (.cons (.cmp .Eq (.v 3) (.str "told")) (.cons (.no (.call tx (.cons (.v 2) .nil))) .nil))))
    (my:zf K C "say" fy) (by':Cv K fyd ["self", "row"] []) (GY:Y0 P w K mg base (CXR P w) n fy fyd ["self", "row"] (xh K CL C 1 G)):
    Y0 P w K mg base (CXR P w) (n+1) f fd ["_law_desk",r] (Λ K CL C 1 (mh Pg.up ((Y7 Pg n).F tx) ((Y7 Pg n).F rf) G)):=by
  obtain⟨oc,od,dV,kV,doc,pm,an,cdv,ct,osl,rfl,lk,ze⟩:=hf.ex;have sc:=JJ hs;refine Hw lk ze sc.fs (by rintro vs H Q E ⟨a,la,us,ds,A,q,e,z,_⟩;rw[e,Ba,z];rfl) ?_
  rintro A outer s H vs Q E hr ⟨a,la,us,ds,B,q,e,RL,hA,ha,zb,rs,dk,hp⟩;subst e;rw[hb];have v:=Lp (P:=P) (w:=w) (base:=base) (outer:=outer) (H:=H) (E:=E) t sc hr;have pv:∀(i:Ag)(nm:Ah)(p:AH),(["_law_desk",r, "_law_answer", "_law_word", "_law_error"]:Ac Ah)[i]?=Aa nm->(nm==("__debug__" : Ah))=Ad->(nm==("__classdict__" : Ah))=Ad->PE (Bu (CXR P w) P w K mg base ["_law_desk",r, "_law_answer", "_law_word", "_law_error"] qual (AB st) f cdv A outer s H E) (.Name nm p) (BS i):=λi nm p h d1 d2=>DF h (.inl (sc.loc nm (De h))) d1 d2
  have C4:=k4.h v B;have HH:=λe=>k0.hot v (λ_=>rfl) e
  have tbd:TBd (Bu (CXR P w) P w K mg base ["_law_desk",r, "_law_answer", "_law_word", "_law_error"] qual (AB st) f cdv A outer s H E) (.Assign [.Name "_law_answer" p7] (.Call (.Attribute (.Name "_law_desk" p8) "say" p9) [.Name r p10] [] p11) p12) (λU0 E0 D U H'=>U=U0/\LO C "say" (xh K CL C 1 G) [] E0 (BS 0) (Lg (BS 1) MO) U H' λu H1=>D.nx (U.set 2 (Aa u)) H1):=λpI Xw _ U0 E0 hx=>
    G6 (X:=Cx.pw (Bu (CXR P w) P w K mg base ["_law_desk",r, "_law_answer", "_law_word", "_law_error"] qual (AB st) f cdv A outer s H E) pI Xw) (i:=2) sc.fs.nd rfl (.inl (sc.loc "_law_answer" (by simp))) (sS (U0:=U0) (E:=E0) (DF (i:=0) rfl (.inl (sc.loc "_law_desk" (by simp)))) dc.cl my GY (v.room rfl) by' hx (Bm (DF (i:=1) rfl (.inl (sc.loc r (by simp))) hr1 hr2) B9 rfl) hl) rfl (.inl rfl)
  refine⟨_,CF (G6 (i:=2) sc.fs.nd rfl (.inl (sc.loc "_law_answer" (by simp))) On rfl (.inl rfl)) (CF (G6 (i:=3) sc.fs.nd rfl (.inl (sc.loc "_law_word" (by simp))) Mu rfl (.inl rfl)) (CF (kM (W:=W0) (i:=4) rfl rfl rfl sc.fs.nd rfl (sc.loc "_law_error" (by simp)) (uK v hd) tbd HH) (CF (Fw C4 M7 Gf) (DE (Ft (QL (Bm (pv 3 _ p17 rfl rfl rfl) (Bm (pv 2 _ p18 rfl rfl rfl) B9 rfl) rfl))))))),?_⟩
  obtain⟨u,d,rfl,rfl,ru⟩:=N7 RL rs;have uj:=dk;obtain⟨dx,v1,v2,v3,xs,h1,h2,r4,r5,r6,r7⟩:=dk;rcases tB Pg.up ((Y7 Pg n).F tx) ((Y7 Pg n).F rf) G q [d] with hz|⟨ts,q',e1,e2,e3⟩|⟨y,nm,e1,e2,e3,e4,e5⟩
  · rw[hz]at hp;exact hp.elim
  · rw[e3]at hp;refine .inl ⟨rfl,.ref a,rfl,a,dx,_,rfl,h1,rfl,u,rfl,JI (ds:=[d]) rfl hA ha zb ⟨ru,trivial⟩ uj ?_⟩;rw[e1];intro y H1 kb rc dk1;have je:=dk1.un.aok kb hA;refine⟨je,[Ae,Ae,Aa (.L ts,Ad),Aa (.str "told",Ad),Ae],jd K CL B H1 _ [Aa (.ref a),Aa u,Aa y,Aa (.str "told"),Ae] ⟨⟨rfl,y,rfl,rc.1⟩,⟨rfl,_,rfl,rfl⟩,trivial⟩,?_⟩;have ev:((top [Ae,Ae,Aa (D.L ts,Ad),Aa (D.str "told",Ad),Ae] (.and (.cons (.cmp .Eq (.v 3) (.str "told")) (.cons (.no (.call tx (.cons (.v 2) .nil))) .nil))) (evE (Y7 Pg n) [Ae,Ae,Aa (D.L ts,Ad),Aa (D.str "told",Ad),Ae] (.and (.cons (.cmp .Eq (.v 3) (.str "told")) (.cons (.no (.call tx (.cons (.v 2) .nil))) .nil))))).bind Ci)=.ok Ad:=by
      have ς:(Y7 Pg n).F tx [D.L ts]=.ok (.bl Ab):=e2;have z1:evE (Y7 Pg n) [Ae,Ae,Aa (D.L ts,Ad),Aa (D.str "told",Ad),Ae] (.call tx (.cons (.v 2) .nil))=.ok (.bl Ab):=by
        show ((Y7 Pg n).F tx [D.L ts]).bind _=_;rw[ς];rfl
      have z2:evE (Y7 Pg n) [Ae,Ae,Aa (D.L ts,Ad),Aa (D.str "told",Ad),Ae] (.cmp .Eq (.v 3) (.str "told"))=.ok (.bl Ab):=rfl;simp[z1,z2,Fx,Ci]
    refine Kk ev λH2 sm=>?_
    show IH _ _ H2;refine⟨.str "told",rfl,y,rfl,by rw[BE];exact AK rfl,λtt ht=>?_⟩
    have s3:=sm.trans (FW ht (.H [.str "told",y]));refine hp (.ref tt) y _ (kb.trans (KB.of s3)) ⟨"told",.L ts,tt,rfl,rfl,B1,(je.same sm).new ht,Y6.same s3 rc.1,λz es ee=>?_⟩ (dk1.same s3)
    obtain⟨l,ys,f1,f2,f3,f4⟩:=rc.2 z es ee;exact⟨l,ys,f1,f2,s3 _ _ f3,f4.same s3⟩
  · rw[e5]at hp;have g:=IE (K:=K) (CL:=CL) (A:=B) (H:=H) (Y:=[Ae,Ae,Aa (.O,Ad),Aa (.str "told",Ad),Ae]) (U:=[Aa (.ref a),Aa u,Aa .O,Aa (.str "told"),Ae]) ⟨⟨rfl,_,rfl,rfl⟩,⟨rfl,_,rfl,rfl⟩,trivial⟩;refine .inr ⟨y,⟨λb o=>H b=Aa o,λ_ _ _=>AN⟩,B,[Ae,Ae,Aa (.O,Ad),Aa (.str "told",Ad),Ae],?_,OM hA g.1 g.2,?_,rfl,.ref a,rfl,a,dx,_,rfl,h1,rfl,u,rfl,JI (ds:=[d]) rfl hA ha zb ⟨ru,trivial⟩ uj ?_⟩
    · rw[Ms];exact e3
    · have eh:ji 4 y [Ae,Ae,Aa (.O,Ad),Aa (.str "told",Ad),Ae] (λY=>J6 (Y7 Pg n) Y (.cons (.asg 3 Ad (.call rf (.cons (.v 4) .nil))) .nil))=.next [Ae,Ae,Aa (.O,Ad),Aa (.str nm,Ad),Ae]:=by
        have ς:(Y7 Pg n).F rf [D.exc y.c y.fs]=.ok (.str nm):=e2;have z1:evE (Y7 Pg n) [Ae,Ae,Aa (.O,Ad),Aa (.str "told",Ad),Aa (.exc y.c y.fs,Ad)] (.call rf (.cons (.v 4) .nil))=.ok (.str nm):=by
          show ((Y7 Pg n).F rf [D.exc y.c y.fs]).bind _=_;rw[ς];rfl
        unfold ji;simp[z1]
      rw[eh];intro U' H' sx;have no:∀(i:Ag)(d:D),([Ae,Ae,Aa (D.O,Ad),Aa (D.str nm,Ad),Ae]:Rho)[i]?≠Aa (Aa (d,Ab)):=λi d h=>by
        match i,h with
        |0,h=>cases h
        |1,h=>cases h
        |2,h=>cases h
        |3,h=>cases h
        |4,h=>cases h
        |_+5,h=>cases h
      have own:∀ b,Bf B [Ae,Ae,Aa (.O,Ad),Aa (.str nm,Ad),Ae] U' b->B b:=λb h=>h.elim id λ⟨j,d,h1,_⟩=>absurd h1 (no j d)
      have sm:Aw H H':=λb o z=>sx.same b o z
      have g2:U9 K CL B [Ae,Ae,Aa (.O,Ad),Aa (.str nm,Ad),Ae] U' H':=⟨λi d h=>let ⟨v,q,r⟩:=sx.good.sh i d h;⟨v,q,Y6.sub (λb hb=>.inl hb) _ r⟩,λi d h=>absurd h (no i d),sx.len⟩
      obtain⟨w2,hw2,vf⟩:=g2.sh 2 .O rfl;obtain⟨w3,hw3,rw3⟩:=g2.sh 3 (.str nm) rfl;have vf:w2=.O:=vf;have rw3:w3=.str nm:=rw3;subst vf rw3;refine⟨hA.same sm,_,g2,?_⟩;have ev:((top [Ae,Ae,Aa (D.O,Ad),Aa (D.str nm,Ad),Ae] (.and (.cons (.cmp .Eq (.v 3) (.str "told")) (.cons (.no (.call tx (.cons (.v 2) .nil))) .nil))) (evE (Y7 Pg n) [Ae,Ae,Aa (D.O,Ad),Aa (D.str nm,Ad),Ae] (.and (.cons (.cmp .Eq (.v 3) (.str "told")) (.cons (.no (.call tx (.cons (.v 2) .nil))) .nil))))).bind Ci)=.ok Ad:=by
        have z2:evE (Y7 Pg n) [Ae,Ae,Aa (D.O,Ad),Aa (D.str nm,Ad),Ae] (.cmp .Eq (.v 3) (.str "told"))=.ok (.bl Ad):=by
          show R.ok (D.bl (nm == "told"))=_;rw[BO.mpr e4]
        simp[z2,Fx,Ci]
      refine Kk ev λH2 yy=>?_
      show IH _ _ H2;refine⟨.str nm,hw3,.O,hw2,by rw[BE];exact AK rfl,λtt ht=>?_⟩
      have s3:=(sm.trans yy).trans (FW ht (.H [.str nm,.O]));exact hp (.ref tt) .O _ (KB.of s3) ⟨nm,.O,tt,rfl,rfl,B1,(hA.same (sm.trans yy)).new ht,rfl,λz es ee=>nomatch ee⟩ (uj.O.same s3)
    · rw[e1];exact λcls dx H' sm xr=>⟨xr,sm⟩
noncomputable def Ï(Y:Rho):Rho:=(Y.set 2 (Aa (.O,Ab))).set 4 (Aa (.O,Ab))
abbrev BL(la:Ak):Ak->Prop:=λb=>b=la
theorem JK{t:α->TE}(h:∀ A,PE X e (t A)):PE X e (λU H Q=>∃ A,t A U H Q):=λpI s U H Q I ⟨A,q⟩=>h A pI s U H Q I q
theorem Ra{t:α->TT}(h:∀ A,PT X e (t A)):PT X e (λU H Q=>∃ A,t A U H Q):=λpI s U H Q I ⟨A,q⟩=>h A pI s U H Q I q
def uf(ps R A:Ac Ah)(st:AT):Ao:=(AB st).kind==.function&&(!(AB st).isCoroutine&&(!(AB st).isGenerator&&(Kl (R++A)&&((R++A).take ps.length==ps&&(ps.all (λx=>(AB st).names.lookup x==Aa .local)&&(R.all (λx=>(AB st).names.lookup x==Aa .local||(AB st).names.lookup x==Aa .cell)&&(AB st).names.all (λy=>y.2 != .free)))))))
structure ScL (ps R A:Ac Ah) (st:AT):Prop where
 fs:zi (R++A) ps (AB st)
 loc:∀ x∈R,(AB st).names.lookup x=Aa .local\/(AB st).names.lookup x=Aa .cell
theorem tF{R A:Ac Ah}{st:AT}(h:uf ps R A st=Ab):ScL ps R A st:=by
 unfold uf at h;simp only[As,Ca,A2,Cn,A6,FD,KG]at h;obtain⟨c1,c2,c3,c4,c5,c6,c7,c8⟩:=h;exact⟨⟨c1,c2,c3,JB c4,c5,λx hx=>.inl (c6 x hx),c8⟩,c7⟩
theorem ie(t:wg K mg CL fns bl rzs exs gls Pg){st:AT}{A:AY}{E:XK}(fs:zi N ps (AB st))(hr:PP n (A.deeper (Eu qual (AB st) s.heap.objs.size f cdv))):VX (Y7 Pg n) CL n (WE K CL E) ⟨AB st,N,fns,bl,rzs,exs,gls,Ab,Ab⟩ (Bu (CXR P w) P w K mg base N qual (AB st) f cdv A outer s H E):=by
 have hW:∀ x cls dx H',WE K CL E x H'->Db K CL H' cls dx x->E cls dx H':=λx cls dx H' z r=>z cls dx r
 have xt:XT (Y7 Pg n).up (Y7 Pg n).xn CL rzs exs K mg:=by rw[Ms,Le];exact t.xt
 have gl:∀ p∈gls,KD K mg CL p.1 ((Y7 Pg n).G p.2):=by rw[Lk];exact t.gl
 exact⟨rfl,fs.kind,rfl,fs.nd,hr.units,λ_=>rfl,λ_=>hr,λz=>(nomatch z),t.bln,t.os,UL t n,UK t n,λ_=>qw,OF hW,Ε hW,xt,gl,λ_=>rfl⟩
def η(l k w pt row due:Sl)(zx p:D):Rho:=[Aa (zx,Ad),Aa (p,Ad),Ae,l,Ae,k,w,pt,row,due,Ae,Ae,Ae]
noncomputable abbrev U8(d:D):Sl:=Aa (d,Ad)
def t6:E:=.cmp .In (.idx (.v 9) (.int 0)) (.H {.str "alike",.str "not on"})
theorem OW.rep(r:OW K CL H A H' v x d)(k:∀ b,A' b->A b):Y6 K CL H' A' v d:=by
 obtain⟨nm,d2,t,rfl,rfl,h,na,rc⟩:=r;exact⟨t,[.str nm,x],rfl,.inl λz=>na (k _ z),yg.of h,rfl,Y6.sub k _ rc.1,trivial⟩
theorem Vk(f1:J8 5 d=Ab)(f2:J8 5 d'=Ab)(e:J0 d d'=Ab):BZ .NotEq d d'=.ok (.bl Ad):=by
 show (if (J8 5 d&&J8 5 d')=Ab then R.ok (D.bl (!J0 d d')) else .bad)=_
 rw[Au (by rw[f1,f2];rfl),e]
 rfl
theorem Uz(f1:J8 5 d=Ab)(f2:J8 5 d'=Ab)(e:J0 d d'=Ab):BZ .Eq d d'=.ok (.bl Ab):=by
 show (if (J8 5 d&&J8 5 d')=Ab then R.ok (D.bl (J0 d d')) else .bad)=_
 rw[Au (by rw[f1,f2];rfl),e]
theorem wE{xs:Ac (Ah×Ai×Ch×Ch)}(ha:(a==Hn)=Ad)(lk:K.lookup a=Aa ⟨.type "dict",Ae,.dict (xs.map λx=>(⟨hashStr w x.1,.str x.1 x.2.2.1,.int x.2.1 x.2.2.2⟩:MY)).toArray ep,#[]⟩)(nd:Kl (xs.map (·.1))=Ab):MB P w K a (xs.map λx=>(x.1,x.2.1)):=by
 refine⟨ha,_,_,ep,xs.map λx=>(x.1,.int x.2.1 x.2.2.2),lk,⟨rfl,rfl,rfl⟩,rfl,λe he=>?_,?_,?_,λz=>?_⟩
 .rw[List.mem_toArray]at he;obtain⟨x,_,rfl⟩:=F8.mp he;exact⟨x.1,Ck _,rfl⟩
 .clear nd lk
  show Pairs (FJ P w) (xs.map _) _
  induction xs with
  |nil=>exact .nil
  |cons x xs ih=>exact .cons (Ck _) rfl ih
 .rw[F7];exact JB nd
 .clear nd lk
  induction xs with
  |nil=>exact .inl ⟨rfl,rfl⟩
  |cons x xs ih=>
   by_cases h:x.1=z
   .subst h;refine .inr ⟨x.2.1,x.2.2.2,?_,?_⟩
    .simp[Gw]
    .simp[BM]
   .have h2:(z==x.1)=Ad:=BO.mpr λy=>h y.symm
    have e1:Gw ((x::xs).map λx=>(x.1,Ip x.2.1 x.2.2.2)) z=Gw (xs.map λx=>(x.1,Ip x.2.1 x.2.2.2)) z:=by
     simp[Gw,h]
    have e2:((x::xs).map λx=>(x.1,x.2.1)).lookup z=(xs.map λx=>(x.1,x.2.1)).lookup z:=by
     simp[BM,h2]
    rw[e1,e2];exact ih
structure DA (K:Fg) (C fi fs fl fc fu fa:Ak):Prop where
 n:A1 K AJ "Desk" = Aa (Aa (.ref C))
 d:uv K C
 m:Mk K C fi
 s:zf K C "say" fs
 l:zf K C "list_changed" fl
 c:zf K C "changed" fc
 u:zf K C "undone" fu
 a:zf K C "list_asked" fa
theorem gy{C:Ak}(n1:A1 K AJ "Desk" = Aa (Aa (.ref C)))(i:Ap K (.ref C) "__init__" = Aa (Aa (.ref fi)))(a1:Ap K (.ref C) "say" = Aa (Aa (.ref fs)))(a2:Ap K (.ref C) "list_changed" = Aa (Aa (.ref fl)))(a3:Ap K (.ref C) "changed" = Aa (Aa (.ref fc)))(a4:Ap K (.ref C) "undone" = Aa (Aa (.ref fu)))(a5:Ap K (.ref C) "list_asked" = Aa (Aa (.ref fa)))(pg:DX K C Do=Ab)(hd:Eg K C=Ab)(po:E3 K C=Ab)(sa:Ap K (.ref C) "__setattr__" = Aa (Aa (.builtin "object.__setattr__")))(np:Ap K (.ref C) "p" = Aa Ae)(nl:Ap K (.ref C) "points" = Aa Ae)(nc:Ap K (.ref C) "curve" = Aa Ae)(nh:Ap K (.ref C) "past" = Aa Ae)(mk:F4 K C=Ab)(kp:AM K (.ref C)=Ab)(f0:Bw K (.ref fi)=Ab)(f1:Bw K (.ref fs)=Ab)(f2:Bw K (.ref fl)=Ab)(f3:Bw K (.ref fc)=Ab)(f4:Bw K (.ref fu)=Ab)(f5:Bw K (.ref fa)=Ab)(k1:AM K (.ref fs)=Ab)(k2:AM K (.ref fl)=Ab)(k3:AM K (.ref fc)=Ab)(k4:AM K (.ref fu)=Ab)(k5:AM K (.ref fa)=Ab):DA K C fi fs fl fc fu fa:=
 ⟨n1,⟨⟨pg,hd,po,sa⟩,np,nl,nc,nh⟩,⟨mk,i,f0,kp⟩,⟨a1,f1,k1⟩,⟨a2,f2,k2⟩,⟨a3,f3,k3⟩,⟨a4,f4,k4⟩,⟨a5,f5,k5⟩⟩
def ŷ(Y:Rho)(U:L2.St):Ak->Prop:=λb=>∃(j:Ag)(e:D),Y[j]?=Aa (Aa (e,Ab))/\U[j]?=Aa (Aa (.ref b))
noncomputable def FzE(H:Hp)(d:Ag)(a:Ak)(Y:Rho)(U:L2.St):Fr:=⟨λb o=>H b=Aa o/\¬ ŷ Y U b,λj b o=>j=d/\b=a/\H a=Aa o⟩
structure DS (K:Fg) (CL:ClA) (C:Ak) (d:Ag) (Z:Ak->Prop) (G0:Hp) (a la:Ak) (Y:Rho) (q:Dk) (U:L2.St) (H:Hp):Prop where
 x:Sx K CL (FzE H d a Y U) Z Y U H
 p:Y[d]?=Aa (Aa (.O,Ab))
 s:U[d]?=Aa (Aa (.ref a))
 dk:DK K CL H (Bf Z Y U) C a la q
 z:Z la
 kb:KB a la G0 H
 fr:∀(j:Ag)(e:D)(c:Ak),j≠d->Y[j]?=Aa (Aa (e,Ab))->U[j]?=Aa (Aa (.ref c))->G0 c=Ae
theorem DS.re{K:Fg}{CL:ClA}{C a la:Ak}{d:Ag}{Z:Ak->Prop}{G0 H H':Hp}{Y Y':Rho}{q:Dk}{U U':L2.St}(j:DS K CL C d Z G0 a la Y q U H)(x:Sx K CL (FzE H d a Y U) Z Y' U' H')(p:Y'[d]?=Aa (Aa (.O,Ab))):DS K CL C d Z G0 a la Y' q U' H':=by
 obtain⟨b,o,⟨_,rfl,ho⟩,s',h'⟩:=x.pin d p;have wd:∀ c,Bf Z Y U c\/Bf Z Y' U' c->Bf Z Y U c\/H c=Ae:=λc hc=>by
  rcases hc with z|z|⟨i,e,h1,h2⟩
  .exact .inl z
  .exact .inl (.inl z)
  .by_cases h:ŷ Y U c
   .exact .inl (.inr h)
   .cases e:H c with
    |none=>exact .inr rfl
    |some o=>exact absurd ⟨e,h⟩ ((x.new i _ c h1 h2).1 o)
 have kp:Kp (λc=>Bf Z Y U c\/Bf Z Y' U' c) H H':=λc o e n=>x.same c o ⟨e,λz=>n (.inl (.inr z))⟩
 have own:∀ c,ŷ Y U c->c≠b->G0 c=Ae:=λc ⟨i,e,h1,h2⟩ n=>j.fr i e c (λz=>by
  subst z;have:=j.s;rw[h2]at this;cases this;exact n rfl) h1 h2
 refine⟨⟨x.good,x.aok,λi e c h1 h2=>⟨λo z=>z.2 ⟨i,e,h1,h2⟩,(x.new i e c h1 h2).2⟩,x.dis,λc o z=>z.1,x.len,λi h=>?_⟩,p,s',?_,j.z,λc o h n1 n2=>x.same c o ⟨j.kb c o h n1 n2,λz=>by rw[own c z n1]at h;cases h⟩,λi e c hi h1 h2=>?_⟩
 .obtain⟨c,o',⟨e1,e2,e3⟩,s2,h2⟩:=x.pin i h;exact⟨c,o',⟨e1,e2,by rw[<-e2];exact h2⟩,s2,h2⟩
 .obtain⟨dx,v1,v2,v3,xs,h1,h2,r1,r2,r3,r4⟩:=j.dk;rw[ho]at h1;cases h1;have sub:∀ c,Bf Z Y' U' c->(Bf Z Y U c\/Bf Z Y' U' c):=λc h=>.inr h
  refine⟨dx,v1,v2,v3,xs,h',x.same la _ ⟨h2,λ⟨i,e,z1,z2⟩=>(j.x.new i e la z1 z2).2 j.z⟩,Y6.sub sub _ (Y6.kp kp _ (Y6.wide wd _ r1)),Y6.sub sub _ (Y6.kp kp _ (Y6.wide wd _ r2)),Y6.sub sub _ (Y6.kp kp _ (Y6.wide wd _ r3)),Y9.sub sub _ (Y9.kp kp _ (Y9.wide wd _ r4))⟩
 .have nb:c≠b:=λz=>hi (x.dis i d e .O c h1 p h2 (by rw[z];exact s'))
  cases e0:G0 c with
  |none=>rfl
  |some o=>
   have nl:c≠la:=λz=>(x.new i e c h1 h2).2 (z ▸ j.z)
   have hc:=j.kb c o e0 nb nl;have no:¬ ŷ Y U c:=λz=>by rw[own c z nb]at e0;cases e0
   exact absurd ⟨hc,no⟩ ((x.new i e c h1 h2).1 o)
theorem DS.same{K:Fg}{CL:ClA}{C a la:Ak}{d:Ag}{Z:Ak->Prop}{G0 H H':Hp}{Y:Rho}{q:Dk}{U:L2.St}(j:DS K CL C d Z G0 a la Y q U H)(s:Aw H H'):DS K CL C d Z G0 a la Y q U H':=by
 refine⟨⟨j.x.good.same s,j.x.aok.same s,λi e c h1 h2=>⟨λo z=>z.2 ⟨i,e,h1,h2⟩,(j.x.new i e c h1 h2).2⟩,j.x.dis,λc o z=>z.1,j.x.len,λi h=>?_⟩,j.p,j.s,j.dk.same s,j.z,j.kb.trans (KB.of s),j.fr⟩
 obtain⟨c,o',⟨e1,e2,e3⟩,s2,h2⟩:=j.x.pin i h;exact⟨c,o',⟨e1,e2,s _ _ e3⟩,s2,s _ _ h2⟩
theorem DS.own{K:Fg}{CL:ClA}{C a la:Ak}{d:Ag}{Z:Ak->Prop}{G0 H:Hp}{Y:Rho}{q:Dk}{U:L2.St}(j:DS K CL C d Z G0 a la Y q U H):Bf Z Y U a:=.inr ⟨d,.O,j.p,j.s⟩
theorem DS.kb'{K:Fg}{CL:ClA}{C a la:Ak}{d:Ag}{Z:Ak->Prop}{G0 H H':Hp}{Y:Rho}{q q':Dk}{U:L2.St}(j:DS K CL C d Z G0 a la Y q U H)(kb:KB a la H H')(k:DK K CL H' (Bf Z Y U) C a la q'):DS K CL C d Z G0 a la Y q' U H':=by
 have kp:=kb.kp j.own (.inl j.z);refine⟨⟨⟨λi e h=>let ⟨v,z,r⟩:=j.x.good.sh i e h;⟨v,z,Y6.kp kp _ r⟩,λi e h hn=>?_,j.x.good.len⟩,k.aok kb j.x.aok,λi e c h1 h2=>⟨λo z=>z.2 ⟨i,e,h1,h2⟩,(j.x.new i e c h1 h2).2⟩,j.x.dis,λc o z=>z.1,j.x.len,λi h=>?_⟩,j.p,j.s,k,j.z,j.kb.trans kb,j.fr⟩
 .obtain⟨c,xs,ds,s1,e1,o1,h1,rs⟩:=j.x.good.ow i e h hn;refine⟨c,xs,ds,s1,e1,o1,kb c _ h1 (λz=>?_) (λz=>(j.x.new i e c h s1).2 (z ▸ j.z)),Y9.kp kp _ rs⟩
  subst z;have:=j.x.dis i d e .O c h j.p s1 j.s;subst this;have:=j.p;rw[h]at this;cases this;exact hn rfl
 .obtain⟨c,o',⟨e1,e2,e3⟩,s2,h2⟩:=j.x.pin i h;obtain⟨dx,v1,v2,v3,xs,h1,_⟩:=k;exact⟨c,_,⟨e1,e2,h1⟩,s2,by rw[e2];exact h1⟩
theorem DS.set{K:Fg}{CL:ClA}{C a la:Ak}{d:Ag}{Z:Ak->Prop}{G0 H:Hp}{Y:Rho}{q:Dk}{U:L2.St}{i:Ag}{v:V}{e:D}(j:DS K CL C d Z G0 a la Y q U H)(hd:i≠d)(r:Y6 K CL H (Bf Z Y U) v e):DS K CL C d Z G0 a la (Y.set i (Aa (e,Ad))) q (U.set i (Aa v)) H:=j.re (j.x.set i r) (by rw[Cc hd];exact j.p)
def xg(K:Fg)(CL:ClA)(C:Ak)(d:Ag)(U_:Rho->Dk->Rho->Dk->Prop):TS:=λD U H=>∃ a la Z G0 Y q Y' q',DS K CL C d Z G0 a la Y q U H/\U_ Y q Y' q'/\∀ U' H',DS K CL C d Z G0 a la Y' q' U' H'->D.nx U' H'
def Ko(U_ V:Rho->Dk->Rho->Dk->Prop):Rho->Dk->Rho->Dk->Prop:=λY q Y' q'=>∃ Y1 q1,U_ Y q Y1 q1/\V Y1 q1 Y' q'
def NI:Rho->Dk->Rho->Dk->Prop:=λY q Y' q'=>Y'=Y/\q'=q
def Hx(d:Ag)(f:Rho->O):Rho->Dk->Rho->Dk->Prop:=λY q Y' q'=>q'=q/\f Y=.next Y'/\Y'[d]?=Aa (Aa (.O,Ab))
def NH(fc:Rho->R Ao)(U_ V:Rho->Dk->Rho->Dk->Prop):Rho->Dk->Rho->Dk->Prop:=λY q Y' q'=>∃ k,fc Y=.ok k/\if k=Ab then U_ Y q Y' q' else V Y q Y' q'
def ku(U_:Rho->Dk->Rho->Dk->Prop)(i:Ag):Ac Ai->Rho->Dk->Rho->Dk->Prop
 |[],Y,q,Y',q'=>Y'=Y/\q'=q
 |k::ks,Y,q,Y',q'=>∃ Y1 q1,U_ (Y.set i (Aa (.int k,Ad))) q Y1 q1/\ku U_ i ks Y1 q1 Y' q'
noncomputable def vn(lo:Ai)(n:Ag):Ac Ai:=(B2 n).map fun(i:Ag)=>lo+(i:Ai)
def ML(i:Ag)(fe ω:Rho->R D)(U_:Rho->Dk->Rho->Dk->Prop):Rho->Dk->Rho->Dk->Prop:=λY q Y' q'=>∃ l m:Ai,fe Y=.ok (.int l)/\ω Y=.ok (.int m)/\(-1000000<=l/\l<1000000/\-1000000<=m/\m<1000000)/\ku U_ i (vn l (m-l).toNat) Y q Y' q'
def ME(G:Dk->Ac D->RK)(fe:Rho->R D):Rho->Dk->Rho->Dk->Prop:=λY q Y' q'=>Y'=Y/\∃ row u,fe Y=.ok (.str row)/\G q [.str row]=.ok u q'
theorem gW{i:Ag}(h:i<n):(vn lo n).drop i=(lo+(i:Ai))::(vn lo n).drop (i+1):=by
 rw[Eh (by simpa [vn] using h)]
 congr 1
 simp[vn]
section
variable{st:AT}
theorem lM(h:SS X CL W st f):PS X st (xg X.K CL C d (Hx d f)):=by
 rintro pI s U H D I ⟨a,la,Z,G0,Y,q,Y',q',j,⟨rfl,e,p⟩,k⟩;refine h _ _ pI s U H D I ⟨Y,j.x,?_⟩;rw[e];exact λU' H' x=>k U' H' (j.re x p)
theorem Qw(h1:PS X st (xg X.K CL C d U_1))(h2:zc X sts (xg X.K CL C d U_2)):zc X (st::sts) (xg X.K CL C d (Ko U_1 U_2)):=
 zc.weak (CF h1 h2) λD U H zz=>by obtain⟨a,la,Z,G0,Y,q,Y',q',j,⟨Y1,q1,r1,r2⟩,k⟩:=zz;exact ⟨a,la,Z,G0,Y,q,Y1,q1,j,r1,λU' H' j'=>⟨a,la,Z,G0,Y1,q1,Y',q',j',r2,k⟩⟩
theorem UR:zc X [] (xg X.K CL C d NI):=
 zc.weak Gf λD U H zz=>by obtain⟨a,la,Z,G0,Y,q,Y',q',j,⟨e1,e2⟩,k⟩:=zz;subst e1 e2;exact k U H j
theorem Nl(h1:PS X st (xg X.K CL C d U_)):zc X [st] (xg X.K CL C d U_):=zc.weak (DE h1) λ_ _ _ h=>h
theorem VN(hc:SB X CL W c fc)(h1:zc X b (xg X.K CL C d U_1))(h2:zc X b' (xg X.K CL C d U_2)):PS X (.If c b b' pos) (xg X.K CL C d (NH fc U_1 U_2)):=
 PS.weak (Fw (Ra λA=>hc A) h1 h2) λD U H ⟨a,la,Z,G0,Y,q,Y',q',j,⟨b,e,r⟩,k⟩=>⟨Bf (Z) Y U,j.x.aok,Y,j.x.good,Kk e λH' sm=>by
  by_cases h:b=Ab
  .rw[Au h]at r ⊢;exact⟨a,la,Z,G0,Y,q,Y',q',j.same sm,r,k⟩
  .rw[AA h]at r ⊢;exact⟨a,la,Z,G0,Y,q,Y',q',j.same sm,r,k⟩⟩
theorem U_7{Z:Ak->Prop}{D:wf}(hd:i0≠d)(htb:tb=xg X.K CL C d U_)(j:DS X.K CL C d Z G0 a la Y q U H)(lp:ku U_ i0 (vn lo N) Y q Y' q')(k:∀ U' H',DS X.K CL C d Z G0 a la Y' q' U' H'->D.nx U' H'):∃ W:Ag->Ag->L2.St->Hp->Prop,(∃ m,W 0 m U H)/\∀ i m U H,W i m U H->((kq lo N).stop i H/\D.nx U H)\/((kq lo N).go i H/\∃ M:L2.St->Hp->Prop,(∀ U' H',M U' H'->∃ m',m'<m/\W (i+1) m' U' H')/\∀ x H',(kq lo N).yld i H x H'->Gg i0 x U H' λU2 H2=>tb {D with nx:=M,ct:=M,bk:=D.nx} U2 H2):=by
 subst htb;refine⟨λi mm U H'=>mm=N-i/\i<=N/\∃ Y1 q1,DS X.K CL C d Z G0 a la Y1 q1 U H'/\ku U_ i0 ((vn lo N).drop i) Y1 q1 Y' q',⟨N,by simp,D5 _,_,_,j,by rw[W5];exact lp⟩,?_⟩
 rintro i mm U H6 ⟨rfl,hi,Y1,q1,j,lp⟩;by_cases xu:i<N
 .rw[gW xu]at lp;obtain⟨Y2,q2,r,lp⟩:=lp;refine .inr ⟨xu,λU' H'=>∃ Y1 q1,DS X.K CL C d Z G0 a la Y1 q1 U' H'/\ku U_ i0 ((vn lo N).drop (i+1)) Y1 q1 Y' q',λU' H' z=>⟨N-(i+1),by omega,rfl,xu,z⟩,λxv H7 ⟨e7,ex⟩=>?_⟩
  subst e7 ex;exact⟨a,la,Z,G0,_,_,Y2,q2,j.set (e:=.int (lo+(i:Ai))) hd rfl,r,λU' H' j'=>⟨Y2,q2,j',lp⟩⟩
 .have hN:i=N:=by omega
  subst hN;rw[GP (by simp[vn])]at lp
  obtain⟨rfl,rfl⟩:=lp;exact .inl ⟨AQ _,k U H6 j⟩
theorem lL{p1 p2 p3:AH}(hp:Gd (model X.prog X.w) X.A X.env X.xe)(hc:X.calm=Ab)(hg:Gl X "range")(hm:X.mg "range" = Ae)(he:SE X CL W e fe)(hn:PG X (.Name nm p) (Gg i))(hd:i≠d)(h:zc X b (xg X.K CL C d U_))(hs:At [e] X.env=[(Ad,eval e X.env)]:=by rfl):
  PS X (.For (.Name nm p) (.Call (.Name "range" p1) [e] [] p2) b [] p3) (xg X.K CL C d (ML i (λ_=>.ok (.int 0)) fe U_)):=
 PS.weak (QJ hp hc (SJ hg hm (Bm (JK λA=>he A) B9 hs) hs) hn h (λ_=>rfl)) λD U H ⟨a,la,Z,G0,Y,q,Y',q',j,⟨l,m,el,e,⟨_,_,m0,m1⟩,lp⟩,k⟩=>⟨Bf (Z) Y U,j.x.aok,Y,j.x.good,Hs e λv H' sm r=>by
  have ev:v=.int m:=r;subst ev;cases el;rw[KO]at lp;exact⟨m,rfl,by omega,by omega,U_7 hd rfl (j.same sm) lp k⟩⟩
theorem lK{p1 p2 p3:AH}(hp:Gd (model X.prog X.w) X.A X.env X.xe)(hc:X.calm=Ab)(hg:Gl X "range")(hm:X.mg "range" = Ae)(he:SE X CL W e fe)(he':SE X CL W e' ω)(hn:PG X (.Name nm p) (Gg i))(hd:i≠d)(h:zc X b (xg X.K CL C d U_))(hs:At [e,e'] X.env=[(Ad,eval e X.env),(Ad,eval e' X.env)]:=by rfl)(qq:At [e'] X.env=[(Ad,eval e' X.env)]:=by rfl):
  PS X (.For (.Name nm p) (.Call (.Name "range" p1) [e,e'] [] p2) b [] p3) (xg X.K CL C d (ML i fe ω U_)):=
 PS.weak (QJ hp hc (Si hg hm (Bm (JK λA=>he A) (Bm (JK λA=>he' A) B9 qq) (by rw[hs,qq])) hs qq) hn h (λ_=>rfl)) λD U H ⟨a,la,Z,G0,Y,q,Y',q',j,⟨l,m,e,e',⟨l0,l1,m0,m1⟩,lp⟩,k⟩=>⟨Bf (Z) Y U,j.x.aok,Y,j.x.good,Hs e λv H' sm r=>by
  have ev:v=.int l:=r;subst ev;have j1:=j.same sm;refine⟨Bf (Z) Y U,j1.x.aok,Y,j1.x.good,Hs e' λv H2 yy r=>?_⟩
  have ev:v=.int m:=r;subst ev;exact⟨l,m,rfl,⟨by omega,by omega,by omega,by omega⟩,U_7 hd rfl (j1.same yy) lp k⟩⟩
end
def Í(K:Fg)(CL:ClA)(C:Ak)(d:Ag)(P:Rho->Dk->Prop):TS:=λD U H=>∃ a la Z G0 Y q,DS K CL C d Z G0 a la Y q U H/\P Y q/\∀ H',D.rt (.bl Ab) H'
def Ib(U_:Rho->Dk->Rho->Dk->Prop)(P:Rho->Dk->Prop):Rho->Dk->Prop:=λY q=>∃ Y' q',U_ Y q Y' q'/\P Y' q'
def VI(i:Ag)(P:Rho->Dk->Prop):Rho->Dk->Prop:=λY q=>∃ ds,Y[i]?=Aa (Aa (.L ds,Ab))/\P (Y.set i (Aa (.L ds,Ad))) q
theorem JE{st:AT}(h1:PS X st (xg X.K CL C d U_))(h2:zc X sts (Í X.K CL C d P)):zc X (st::sts) (Í X.K CL C d (Ib U_ P)):=
 zc.weak (CF h1 h2) λD U H zz=>by obtain⟨a,la,Z,G0,Y,q,j,⟨Y',q',r,p⟩,k⟩:=zz;exact ⟨a,la,Z,G0,Y,q,Y',q',j,r,λU' H' j'=>⟨a,la,Z,G0,Y',q',j',p,k⟩⟩
theorem sZ(h:zc X sts (Í X.K CL C d P)):zc X sts (Í X.K CL C d (VI i P)):=
 zc.weak h λD U H zz=>by
  obtain⟨a,la,Z,G0,Y,q,j,⟨ds,e,p⟩,k⟩:=zz
  have hd:i≠d:=λz=>by have:=j.p;rw[<-z,e]at this;cases this
  obtain⟨c,xs,vg,s1,e1,o1,h1,rs⟩:=j.x.good.ow i _ e (λz=>nomatch z)
  cases e1;have oc:∀ k e',(Y.set i (Aa (.L ds,Ad)))[k]?=Aa (Aa (e',Ab))->i≠k/\Y[k]?=Aa (Aa (e',Ab)):=λk e' h=>by
   by_cases z:i=k
   .subst z;cases HX h
   .exact⟨z,by rw[Cc z]at h;exact h⟩
  have sb:∀ b,Bf (Z) (Y.set i (Aa (.L ds,Ad))) U b->Bf (Z) Y U b:=λb h=>h.imp id λ⟨k,e',h1,h2⟩=>⟨k,e',(oc k e' h1).2,h2⟩
  have nc:¬ Bf (Z) (Y.set i (Aa (.L ds,Ad))) U c:=λh=>h.elim (λz=>(j.x.new i _ c e s1).2 z) λ⟨k,e',h1,h2⟩=>(oc k e' h1).1 (j.x.dis i k _ e' c e (oc k e' h1).2 s1 h2)
  have p':(Y.set i (Aa (.L ds,Ad)))[d]?=Aa (Aa (.O,Ab)):=by rw[Cc hd];exact j.p
  refine⟨a,la,Z,G0,_,q,⟨⟨⟨λk e' h=>?_,λk e' h hn=>?_,by rw[Bc];exact j.x.len⟩,λb hb=>j.x.aok b (sb b hb),λk e' b h1 h2=>⟨λo z=>z.2 ⟨k,e',h1,h2⟩,(j.x.new k e' b (oc k e' h1).2 h2).2⟩,λk m e' e2 b h1 h2=>j.x.dis k m e' e2 b (oc k e' h1).2 (oc m e2 h2).2,λb o z=>z.1,by rw[Bc];exact j.x.len,λk h=>j.x.pin k (oc k _ h).2⟩,p',j.s,j.dk.sub sb,j.z,j.kb,λk e' c hk h1 h2=>j.fr k e' c hk (oc k e' h1).2 h2⟩,p,k⟩
  .by_cases z:i=k
   .subst z;cases HX h;exact⟨.ref c,s1,c,xs,rfl,.inl nc,zr.of h1,Y9.sub sb _ rs⟩
   .rw[Cc z]at h;obtain⟨v,h2,r⟩:=j.x.good.sh k e' h;exact⟨v,h2,Y6.sub sb _ r⟩
  .obtain⟨hk,h'⟩:=oc k e' h;obtain⟨b,ys,es,s2,e2,o2,h2,Β⟩:=j.x.good.ow k e' h' hn;exact⟨b,ys,es,s2,e2,.inr ⟨k,e',h,s2⟩,h2,Y9.sub sb _ Β⟩
theorem vZ{C:Ak}(R0:Y6 K CL H1 A0 (.ref a0) zx)(Rp:Y6 K CL H1 A0 vp p)(sm:Aw H1 H2)(na:H1 a=Ae)(nla:H1 la=Ae)(ha:H2 a=Aa (.ins C dx (yh vp (.ref l1) .O la)))(jt:H2 l1=Aa (.L []))(zb:H2 la=Aa (.L []))(n1:l1≠a)(n2:l1≠la)(n3:a≠la):DS K CL C 2 (BL la) (λ_=>Ae) a la (Aa (zx,Ad)::Aa (p,Ad)::Aa (.O,Ab)::Bs k Ae) ⟨p,[],.O,[]⟩ (Aa (.ref a0)::Aa vp::Aa (.ref a)::Bs k Ae) H2:=by
  have get:∀(i:Ag)(e:D)(b:Ao),(Aa (zx,Ad)::Aa (p,Ad)::Aa (D.O,Ab)::Bs k Ae:Rho)[i]?=Aa (Aa (e,b))->(i=0/\e=zx/\b=Ad)\/(i=1/\e=p/\b=Ad)\/(i=2/\e=.O/\b=Ab):=λi e b h=>by
    match i,h with
    |0,h=>cases h;exact .inl ⟨rfl,rfl,rfl⟩
    |1,h=>cases h;exact .inr (.inl ⟨rfl,rfl,rfl⟩)
    |2,h=>cases h;exact .inr (.inr ⟨rfl,rfl,rfl⟩)
    |i+3,h=>
      have h:(Bs k (Ae:Am (D×Ao)))[i]?=Aa (Aa (e,b)):=h;rw[GD]at h;split at h<;>cases h
  have own:∀ b,Bf (BL la) (Aa (zx,Ad)::Aa (p,Ad)::Aa (D.O,Ab)::Bs k Ae) (Aa (.ref a0)::Aa vp::Aa (.ref a)::Bs k Ae) b->b=la\/b=a:=λb h=>by
    rcases h with h|⟨i,e,h1,h2⟩
    · exact .inl h
    · rcases get i e Ab h1 with ⟨_,_,z⟩|⟨_,_,z⟩|⟨rfl,_,_⟩
      · cases z
      · cases z
      · cases h2;exact .inr rfl
  have wd:∀ b,Bf (BL la) (Aa (zx,Ad)::Aa (p,Ad)::Aa (D.O,Ab)::Bs k Ae) (Aa (.ref a0)::Aa vp::Aa (.ref a)::Bs k Ae) b->A0 b\/H1 b=Ae:=λb h=>.inr (by rcases own b h with rfl|rfl<;>assumption)
  have q0:=Y6.same sm (Y6.wide wd _ R0);have qp:=Y6.same sm (Y6.wide wd _ Rp);refine⟨⟨⟨λi e h=>?_,λi e h hn=>?_,by simp⟩,λb h=>?_,λi e b h1 h2=>⟨λo z=>z.2 ⟨i,e,h1,h2⟩,λz=>?_⟩,λi j e e' b h1 h2 h3 h4=>?_,λb o z=>z.1,by simp,λi h=>?_⟩,rfl,rfl,⟨dx,vp,.ref l1,.O,[],ha,zb,qp,⟨l1,[],rfl,.inl λh=>(own l1 h).elim n2 n1,zr.of jt,trivial⟩,rfl,trivial⟩,rfl,λb o e=>(nomatch e),λ_ _ _ _ _ _=>rfl⟩
  · rcases get i e Ad h with ⟨rfl,rfl,_⟩|⟨rfl,rfl,_⟩|⟨_,_,z⟩
    · exact⟨_,rfl,q0⟩
    · exact⟨_,rfl,qp⟩
    · cases z
  · rcases get i e Ab h with ⟨_,_,z⟩|⟨_,_,z⟩|⟨_,z,_⟩
    · cases z
    · cases z
    · exact absurd z hn
  · rcases own b h with rfl|rfl
    · exact⟨_,zb,trivial⟩
    · exact⟨_,ha,trivial⟩
  · rcases get i e Ab h1 with ⟨_,_,y⟩|⟨_,_,y⟩|⟨rfl,_,_⟩
    · cases y
    · cases y
    · cases h2;exact n3 z
  · rcases get i e Ab h1 with ⟨_,_,y⟩|⟨_,_,y⟩|⟨rfl,_,_⟩
    · cases y
    · cases y
    · rcases get j e' Ab h2 with ⟨_,_,y⟩|⟨_,_,y⟩|⟨rfl,_,_⟩
      · cases y
      · cases y
      · rfl
  · rcases get i .O Ab h with ⟨_,_,y⟩|⟨_,_,y⟩|⟨rfl,_,_⟩
    · cases y
    · cases y
    · exact⟨a,_,⟨rfl,rfl,ha⟩,rfl,ha⟩
theorem zC{E:XK}(F:Y0 X.prog X.w X.K X.mg X.base (CXR X.prog X.w) k f fd ps (Λ X.K CL C 1 G))(hr:PP k X.A)(hg:Gl X g)(hm:X.mg g=Aa (.ref f))(hk:AM X.K (.ref f)=Ab)(hb:Cv X.K fd ps [])(hx:G7 (CXR X.prog X.w) X E)(pd:PE X (.Name nd p2) (BS d))(he:SE X CL W e fe)(zh:(g==("__debug__" : Ah))=Ad)(hs:At [.Name nd p2,e] X.env=[(Ad,eval (.Name nd p2) X.env),(Ad,eval e X.env)]:=by rfl)(qq:At [e] X.env=[(Ad,eval e X.env)]:=by rfl):PE X (.Call (.Name g p1) [.Name nd p2,e] [] p3) (λU H Q=>∃ a la Z G0 Y q row u q',DS X.K CL C d Z G0 a la Y q U H/\fe Y=.ok (.str row)/\G q [.str row]=.ok u q'/\∀ v H',DS X.K CL C d Z G0 a la Y q' U H'->Y6 X.K CL H' (Bf (Z) Y U) v u->Q v H'):=by
 refine PE.weak (Ng F hr hg hm hk hb .nil hx (Bm pd (Bm (JK λA=>he A) B9 qq) (by rw[hs,qq])) zh (by rw[hs,qq]) (by rw[qq];rfl)) ?_
 rintro U H Q ⟨a,la,Z,G0,Y,q,row,u,q',j,e1,e2,hQ⟩;refine⟨.ref a,j.s,Bf (Z) Y U,j.x.aok,Y,j.x.good,Hs e1 λrv H1 sm rr=>?_⟩
 have j1:=j.same sm;refine xK (E:=E) (la:=la) (us:=[rv]) (ds:=[.str row]) rfl j1.x.aok j1.own (.inl j1.z) ⟨rr,trivial⟩ j1.dk ?_;rw[e2];exact λv x H2 kb rn jb=>hQ v H2 (j1.kb' kb jb.un) (rn.rep λ_ h=>h)
noncomputable abbrev Î(K:Fg)(CL:ClA)(C:Ak)(d:Ag)(G:Dk->Ac D->RK)(fe:Rho->R D):TE:=λU H Q=>∃ a la Z G0 Y q row u q',DS K CL C d Z G0 a la Y q U H/\fe Y=.ok (.str row)/\G q [.str row]=.ok u q'/\∀ v H',DS K CL C d Z G0 a la Y q' U H'->Y6 K CL H' (Bf (Z) Y U) v u->Q v H'
def JX(G:Dk->Ac D->RK)(fe ϊ:Rho->R D):Rho->Dk->Rho->Dk->Prop:=λY q Y' q'=>Y'=Y/\∃ row u u2,fe Y=.ok (.str row)/\G q [.str row]=.ok u q'/\ϊ Y=.ok u2/\J8 5 u=Ab/\J8 5 u2=Ab/\J0 u u2=Ab
theorem Ol(hu:X.A.units+64<BD)(ha:PE X a (Î X.K CL C d G fe))(h2:SE X CL W e2 ϊ)(hm:DQ .NotEq e2=Ad):PS X (.If (.Compare a [.NotEq] [e2] p) [r] [] pos) (xg X.K CL C d (JX G fe ϊ)):=
 PS.weak (Fw (Ra λA=>LF (Kh (W:=W) (CL:=CL) hu .NotEq A) ha (JK λA=>h2 A) hm) M7 Gf) λD U H zz=>by
  obtain⟨a,la,Z,G0,Y,q,Y',q',j,⟨e0,row,u,u2,e1,e2,e3,f1,f2,f3⟩,k⟩:=zz
  subst e0;refine⟨Bf (Z) Y' U,a,la,Z,G0,Y',q,row,u,q',j,e1,e2,λv H1 j1 r1=>⟨Bf (Z) Y' U,j1.x.aok,Y',j1.x.good,Hs e3 λv2 H2 sm r2=>?_⟩⟩
  have j2:=j1.same sm;exact⟨j2.x.aok,u,u2,.inl (r1.same sm),.inl r2,Hs (Vk f1 f2 f3) λb H3 xk rb=>⟨Ad,rb,k U H3 (j2.same xk)⟩⟩
def OQ(G:Dk->Ac D->RK)(fe:Rho->R D)(s:Ah):Rho->Dk->Rho->Dk->Prop:=λY q Y' q'=>Y'=Y/\∃ row x,fe Y=.ok (.str row)/\G q [.str row]=.ok (.H [.str s,x]) q'
theorem lN(hu:X.A.units+64<BD)(ha:PE X a (Î X.K CL C d G fe)):PS X (.If (.Compare (.Subscript a (.Constant (.int 0) k1 p4) p5) [.NotEq] [.Constant (.str s) k2 p6] p) [r] [] pos) (xg X.K CL C d (OQ G fe s)):=
  PS.weak (Fw (Ra λA=>LF (Kh (W:=W0) (CL:=CL) hu .NotEq A) (Q6 UC ha QM (λ_ _=>rfl)) Mu rfl) M7 Gf) λD U H zz=>by
    obtain⟨a,la,Z,G0,Y,q,Y',q',j,⟨e0,row,x,e1,e2⟩,k⟩:=zz
    subst e0;refine⟨Bf (Z) Y' U,a,la,Z,G0,Y',q,row,_,q',j,e1,e2,λv H1 j1 r1=>?_⟩
    obtain⟨t,us,ev,_,sq,rs⟩:=r1
    match us,rs with
    |[y1,y2],rs=>
      have ey:y1=.str s:=rs.1;subst ey;exact⟨t,_,0,.str s,ev,rfl,sq,rfl,j1.x.aok,.str s,.str s,.inl rfl,.inl rfl,Hs (Vk rfl rfl (show (s==s)=Ab from Ck s)) λb H3 xk rb=>⟨Ad,rb,k U H3 (j1.same xk)⟩⟩
theorem sY{E:XK}(cl:we X.K C)(hm:zf X.K C "say" f')(F:Y0 X.prog X.w X.K X.mg X.base (CXR X.prog X.w) k f' fd' ps' (xh X.K CL C 1 G))(hr:PP k X.A)(hb:Cv X.K fd' ps' [])(hx:G7 (CXR X.prog X.w) X E)(pd:PE X (.Name nd p1) (BS d))(he:SE X CL W e fe)(hl:(p2.endLine==p3.line)=Ab)(qq:At [e] X.env=[(Ad,eval e X.env)]:=by rfl)(yt:DZ ([e].length+([]:Ac CK).length) (Br p3 (At [e] X.env)) (DY p3 (CO [] X.env))=Ab:=by rfl)(nu:Dp (.Call (.Attribute (.Name nd p1) "say" p2) [e] [] p3) Ae pos.line X.env=pure Ad:=by rfl):
  PS X (.Expr (.Call (.Attribute (.Name nd p1) "say" p2) [e] [] p3) pos) (xg X.K CL C d (ME G fe)):=
 PS.weak (K9 (LL pd cl hm F hr hb hx (Bm (JK λA=>he A) B9 qq) hl yt rfl qq rfl) nu) λD U H zz=>by
  obtain⟨a,la,Z,G0,Y,q,Y',q',j,⟨e0,row,u,e1,e2⟩,k⟩:=zz
  subst e0;have uj:=j.dk;obtain⟨dx,v1,v2,v3,xs,h1,h2,_⟩:=j.dk;refine⟨.ref a,j.s,a,dx,_,rfl,h1,rfl,Bf (Z) Y' U,j.x.aok,Y',j.x.good,Hs e1 λrv H1 sm rr=>?_⟩
  have j1:=j.same sm;refine JI (E:=E) (la:=la) (us:=[rv]) (ds:=[.str row]) rfl j1.x.aok j1.own (.inl j1.z) ⟨rr,trivial⟩ j1.dk ?_;rw[e2];exact λv H2 kb rn jb=>k U H2 (j1.kb' kb jb.un)
theorem tD(hu:X.A.units+64<BD)(ha:PE X a (Î X.K CL C d G fe))(h2:SE X CL W e2 ϊ)(hm:DQ .Eq e2=Ad)(hb:PE X b (Î X.K CL C d G ω))(h3:SE X CL W e3 fe3)(hm3:DQ .Eq e3=Ad):PS X (.Return (Aa (.BoolOp .And [.Compare a [.Eq] [e2] p,.Compare b [.Eq] [e3] p5] p6)) pos) (Í X.K CL C d λY q=>∃ q1 q2,JX G fe ϊ Y q Y q1/\JX G ω fe3 Y q1 Y q2):=
 PS.weak (Ft (U_3 (JK λA=>Qo (Kh (W:=W) (CL:=CL) hu .Eq A) ha (JK λA=>h2 A) hm) (UZ (JK λA=>Qo (Kh (W:=W) (CL:=CL) hu .Eq A) hb (JK λA=>h3 A) hm3)))) λD U H zz=>by
  obtain⟨a,la,Z,G0,Y,q,j,⟨q1,q2,⟨_,row,u,u2,e1,e2,e3,f1,f2,f3⟩,⟨_,row',u',u2',Ũ,ς,e3',jc,υ,χ⟩⟩,k⟩:=zz
  refine⟨Bf (Z) Y U,a,la,Z,G0,Y,q,row,u,q1,j,e1,e2,λv H1 j1 r1=>⟨Bf (Z) Y U,j1.x.aok,Y,j1.x.good,Hs e3 λv2 H2 sm r2=>?_⟩⟩
  have j2:=j1.same sm;refine⟨j2.x.aok,u,u2,.inl (r1.same sm),.inl r2,Hs (Uz f1 f2 f3) λb H3 xk rb=>⟨Ab,rb,?_⟩⟩
  rw[Au rfl];refine⟨Bf (Z) Y U,a,la,Z,G0,Y,q1,row',u',q2,j2.same xk,Ũ,ς,λv H4 j4 r4=>⟨Bf (Z) Y U,j4.x.aok,Y,j4.x.good,Hs e3' λv5 H5 t8 r5=>?_⟩⟩
  have j5:=j4.same t8;refine⟨j5.x.aok,u',u2',.inl (r4.same t8),.inl r5,Hs (Uz jc υ χ) λb H6 ri rb=>?_⟩
  have eb:b=.bl Ab:=rb;subst eb;exact k H6
theorem zD(hr:PP k X.A)(hx:∀ A,G7 (CXR X.prog X.w) X (EKW X.K CL A W))(ha:PE X a t)(hms:∀ c id C,ms.lookup c=Aa id->OC X.K c=Aa C->∃ f fd ps fr,we X.K C/\zf X.K C m f/\Cv X.K fd ps []/\Y0 X.prog X.w X.K X.mg X.base (CXR X.prog X.w) k f fd ps (spD X.K CL 1 fr (F id)))(My:BW a m X.env (eval a X.env)=eval a X.env)(J7:(apos.endLine==pos.line)=Ab):PE X (.Call (.Attribute a m apos) [] [] pos) (λU H Q=>t U H λv H1=>∃ A d,J4 H1 A/\Y6 X.K CL H1 A v d/\AX (λH2=>Y6 X.K CL H2 A) W H1 (Lj F m ms d) Q):=by
 intro pI s U H Q I h;rw[FG,My];refine Al (J5 (ha pI s U H _ I h) λu s1 ⟨v,H1,I1,rv,A,d,hA,rp,p1⟩=>?_)
 refine Al (CJ ?_);have yt:DZ (([]:Ac Aq).length+([]:Ac CK).length) (Br pos (At [] X.env)) (DY pos (CO [] X.env))=Ab:=rfl;have wj:CI Ab a X.env apos pos=pure pos:=by
  unfold CI;simp[J7]
 unfold Hm;rw[yt];cases d with
 |obj c fs=>
  have p2:AX (λH2=>Y6 X.K CL H2 A) W H1 (match ms.lookup c with|some id=>if (fs.lookup m).isNone=Ab then F id [.obj c fs] else .bad|none=>.bad) Q:=p1
  cases el:ms.lookup c with
  |none=>rw[el]at p2;exact p2.elim
  |some id=>
   rw[el]at p2;dsimp only at p2;split at p2
   .rename_i hn;obtain⟨e,C,dx,vs,rfl,na,hc,hH,rf⟩:=rp;obtain⟨f,fd,ps,fr,cl,me,hb,G⟩:=hms c id C el hc;cases rv;refine Al (BA (M8 I1 hH cl me (Py rf (F1.mp hn)) ?_));refine Al (Eo wj ?_);refine HJ (first:=[.ref e]) I1.kIn me.kp (Nm (us:=[.ref e]) (vs:=[.ref e]) G hr hb .nil (hx A) I1 (.cons rfl .nil) ?_)
    refine⟨[.obj c fs],A,rfl,hA,⟨⟨e,C,dx,vs,rfl,na,hc,hH,rf⟩,trivial⟩,?_⟩;cases e2:F id [.obj c fs] with
    |ok d=>rw[e2]at p2;exact λv H2 s2 r2=>p2 v H2 s2 r2.1
    |exn y=>rw[e2]at p2;exact λcls dx H2 s2 xr=>⟨y,xr,p2 H2 s2⟩
    |bad=>rw[e2]at p2;exact p2.elim
   .exact p2.elim
 |_=>exact p1.elim
theorem rK(v:VX J CL k W T X)(hc:c<3)(hg:xj T g=Ab)(e6:g=LX c)(zh:(g==("__debug__" : Ah))=Ad)(kp:∀ C,OC X.K c=Aa C->AM X.K (.ref C)=Ab)(ha:PA X (e::es) t)(he:At (e::es) X.env=(Ad,eval e X.env)::At es X.env:=by rfl)(zj:(Br pos (At es X.env)).any (·.1)=Ad:=by rfl)(hcm:T.cm=Ab:=by rfl):PE X (.Call (.Name g np) (e::es) [] pos) (λU H Q=>t U H λvs H1=>∃ A ds,J4 H1 A/\ds.length=2/\Y9 X.K CL H1 A vs ds/\AX (λH=>Y6 X.K CL H A) W H1 (J.F (900+c) ds) Q):=by
 intro pI s U H Q I h;obtain⟨C,o2,o3⟩:=v.os.at_ c hc;have gl:Gl X g:=by unfold xj at hg;show X.env.scope.names.lookup g=_;rw[v.sc];exact eq_of_beq hg
 rw[<-e6]at o3;refine DC (JG I gl o3 ?_ zh);have o:=v.os.oc c C o2;rcases v.mkr c hc with hb|⟨C',f,fd,G,k',o1,M,hb,hk,FI,hF,hG⟩
 .refine CZ (h₀:=X.base) I.ok.mod.kin (kp C o2) (J5 (ha pos pI s U H _ I h) λus s1 ⟨vs,H1,I1,r,A,ds,hA,hl,ra,q⟩=>?_) he zj
  rw[hb ds]at q;exact q.elim
 .have:C'=C:=by rw[o1]at o2;exact Bj o2
  subst this;subst hk;refine CZ (h₀:=X.base) I.ok.mod.kin M.kp (J5 (ha pos pI s U H _ I h) λus s1 ⟨vs,H1,I1,r,A,ds,hA,hl,ra,q⟩=>⟨I1.kIn,?_⟩) he zj
  rcases hF ds hl with z|z
  .rw[z]at q;exact q.elim
  .rw[z]at q;cases e2:G ds with
   |bad=>rw[e2]at q;exact q.elim
   |exn y=>exact absurd e2 (hG ds y)
   |ok d=>
    rw[e2]at q;have q':AX (λH=>Y6 X.K CL H A) W H1 (ES c d) Q:=q
    obtain⟨d1,d2,rfl,em⟩:=Uc q';rw[em]at q';refine Qf (Q:=Q) (E:=EKW X.K CL A W) M FI (v.room hcm) hb .nil (v.px A) I1 r λx dx nx lq ne=>?_
    refine⟨x,C',dx,vs,ds,A,H1,by rw[Bp],by rw[ra.length];exact hl,o.cl,o.np,o.nt,B1,nx,λb ob h=>?_,hA,ra,?_⟩
    .have n1:b≠x:=λz=>by rw[z,nx]at h;cases h
     have n2:b≠dx:=λz=>by rw[z,lq]at h;cases h
     rw[AW n1,AW n2];exact h
    .rw[e2];exact λe1 e3 ee v1 v2 H' yy ϱ r1 r2=>by
      cases ee;exact⟨rfl,q' _ H' yy ⟨x,C',dx,_,rfl,hA.new nx,o1,ϱ,⟨⟨rfl,r1⟩,⟨rfl,r2⟩,trivial⟩⟩⟩
def Θ(J:J9)(id c ids:Ag)(p cv fm:D):R D:=(J.F id [p,cv,fm]).bind λd=>(J.F (900+c) [p,d]).bind λo=>Lj J.F "shown" [(c,ids)] o
theorem UY(v:VX J CL k W T X)(dc:uv X.K C)(ps:∀ p,PE X (.Name "self" p) (BS 0))(pf:∀ p,PE X (.Name "form" p) (BS 2))(hc:c<3){id:Ag}(hm:(f,id,3)∈T.fns)(hmt:Gk.lookup f=Ae)(hgf:xj T f=Ab)(fdb:(f==("__debug__" : Ah))=Ad)(hg:xj T g=Ab)(e6:g=LX c)(zh:(g==("__debug__" : Ah))=Ad)(kp:∀ C,OC X.K c=Aa C->AM X.K (.ref C)=Ab)(hs:(sh,ids,1)∈T.fns)(e1:Gk.lookup sh=Aa (c,("shown" : Ah)))(hl:(p12.endLine==p13.line)=Ab)(hcm:T.cm=Ab:=by rfl):
  PE X (.Call (.Attribute (.Call (.Name g p1) [.Attribute (.Name "self" p2) "p" p3,.Call (.Name f p4) [.Attribute (.Name "self" p5) "p" p6,.Attribute (.Name "self" p7) "curve" p8,.Name "form" p9] [] p10] [] p11) "shown" p12) [] [] p13)
   (λU H Q=>∃ a dx v1 v2 v3 la y A d1 d3 d,U[0]?=Aa (Aa (.ref a))/\H a=Aa (.ins C dx (yh v1 v2 v3 la))/\U[2]?=Aa (Aa y)/\J4 H A/\Y6 X.K CL H A v1 d1/\Y6 X.K CL H A v3 d3/\Y6 X.K CL H A y d/\AX (λH=>Y6 X.K CL H A) W H (Θ J id c ids d1 d3 d) Q):=by
 refine PE.weak (zD (W:=W) (v.room hcm) v.px (rK (hcm:=hcm) v hc hg e6 zh kp (Bm (Li dc ps) (Bm (Lh (hcm:=hcm) v hm (by decide) hmt hgf (Bm (Li dc ps) (Bm (MF dc ps) (Bm (pf p9) B9 rfl) rfl) rfl) fdb) B9 rfl) rfl)) (ms:=[(c,ids)]) (F:=J.F) (λc' id' C' jr hC=>?_) rfl hl) ?_
 .have ec:c'=c/\id'=ids:=by
   by_cases z:c'=c
   .subst z;simp[BM]at jr;exact⟨rfl,jr.symm⟩
   .have:(c'==c)=Ad:=BO.mpr z;simp[BM,this]at jr
  obtain⟨rfl,rfl⟩:=ec;obtain⟨fa,fd,ps',m1,m2,m3,m4,m5,_⟩:=v.fn _ hs;have m5:=m5 (show (1:Ag)<1000 by decide)
  have oz:=Tn m1 e1 hC;exact⟨fa,fd,ps',_,(v.os.oc c' C' hC).cl,⟨oz,v.os.mf c' C' _ fa hC rfl oz,m2⟩,m3,m5⟩
 .rintro U H Q ⟨a,dx,v1,v2,v3,la,y,A,d1,d3,d,s0,ha,s2,hA,r1,r3,r,hp⟩;refine⟨a,dx,v1,v2,v3,la,s0,ha,a,dx,v1,v2,v3,la,s0,ha,a,dx,v1,v2,v3,la,s0,ha,y,s2,[d1,d3,d],A,rfl,hA,⟨r1,r3,r,trivial⟩,?_⟩;unfold Θ at hp;cases e:J.F id [d1,d3,d] with
  |bad=>rw[e]at hp;exact hp.elim
  |exn x=>rw[e]at hp;exact λcls dx H2 s2 xr=>⟨x,xr,hp H2 s2⟩
  |ok d4=>
   rw[e]at hp;intro u H1 sm ru;refine⟨A,[d1,d4],hA.same sm,rfl,⟨r1.same sm,ru.1,trivial⟩,?_⟩;have hp:AX (λH=>Y6 X.K CL H A) W H ((J.F (900+c) [d1,d4]).bind λo=>Lj J.F "shown" [(c,ids)] o) Q:=hp
   refine AX.bind (AX.same sm hp) λo w2 H2 _ yy vf p2=>⟨A,o,hA.same (sm.trans yy),vf,p2⟩
noncomputable def MH(r:R D)(q:Dk):RK:=match r with
  |.ok (.str s)=>.ok (.str s) q
  |.exn x=>.exn x
  |_=>.bad
def MT(J:J9)(is ip io ik s1 s2:Ag)(p c:D)(w:Ah)(fm:D):R D:=if w = "side" then J.F is [p,c,fm] else if w = "polar" then Θ J ip 2 s2 p c fm else if w = "pole" then Θ J io 1 s1 p c fm else J.F ik [p,c]
def Wu(J:J9)(is ip io ik s1 s2:Ag)(q:Dk):Ac D->RK
 |[.str w,fm]=>MH (MT J is ip io ik s1 s2 q.p q.c w fm) q
 |_=>.bad
theorem vO(t:wg K mg CL fns bl rzs exs gls Pg){st:AT}(dc:uv K C)(hf:yp K x qual st f fd)(hs:t5 ["self", "word", "form"] ["self", "word", "form"] st=Ab)(hb:Dt st=[.If c1 [.Return (Aa (.Call (.Name "side" p1) [.Attribute (.Name "self" p2) "p" p3,.Attribute (.Name "self" p4) "curve" p5,.Name "form" p6] [] p7)) p8] [] p9,
      .If c2 [.Return (Aa (.Call (.Attribute (.Call (.Name "Line" p10) [.Attribute (.Name "self" p11) "p" p12,.Call (.Name "polar" p13) [.Attribute (.Name "self" p14) "p" p15,.Attribute (.Name "self" p16) "curve" p17,.Name "form" p18] [] p19] [] p20) "shown" p21) [] [] p22)) p23] [] p24,
      .If c3 [.Return (Aa (.Call (.Attribute (.Call (.Name "Point" p25) [.Attribute (.Name "self" p26) "p" p27,.Call (.Name "pole" p28) [.Attribute (.Name "self" p29) "p" p30,.Attribute (.Name "self" p31) "curve" p32,.Name "form" p33] [] p34] [] p35) "shown" p36) [] [] p37)) p38] [] p39,
      .Return (Aa (.Call (.Name "kind_text" p40) [.Attribute (.Name "self" p41) "p" p42,.Attribute (.Name "self" p43) "curve" p44] [] p45)) p46])(hl:((p21.endLine==p22.line)&&(p36.endLine==p37.line))=Ab)(hm:((("side",is,3):Ah×Ag×Ag)∈fns/\(("polar",ip,3):Ah×Ag×Ag)∈fns/\(("pole",io,3):Ah×Ag×Ag)∈fns/\(("kind_text",ik,2):Ah×Ag×Ag)∈fns/\(("1.shown",s1,1):Ah×Ag×Ag)∈fns/\(("2.shown",s2,1):Ah×Ag×Ag)∈fns))(vj:(["side", "polar", "pole", "kind_text", "Line", "Point"]:Ac Ah).all (xj ⟨AB st,["self", "word", "form"],fns,bl,rzs,exs,gls,Ab,Ab⟩)=Ab)(kp:∀ c C,c<3->OC K c=Aa C->AM K (.ref C)=Ab)(k1:Tb ⟨AB st,["self", "word", "form"],fns,bl,rzs,exs,gls,Ab,Ab⟩ c1 (.cmp .Eq (.v 1) (.str "side")))(k2:Tb ⟨AB st,["self", "word", "form"],fns,bl,rzs,exs,gls,Ab,Ab⟩ c2 (.cmp .Eq (.v 1) (.str "polar")))(k3:Tb ⟨AB st,["self", "word", "form"],fns,bl,rzs,exs,gls,Ab,Ab⟩ c3 (.cmp .Eq (.v 1) (.str "pole"))):
    Y0 P w K mg base (CXR P w) (n+1) f fd ["self", "word", "form"] (xh K CL C 2 (Wu (Y7 Pg n) is ip io ik s1 s2)):=by
  obtain⟨oc,od,dV,kV,doc,pm,an,cdv,ct,osl,rfl,lk,ze⟩:=hf.ex;have sc:=JJ hs;refine Hw lk ze sc.fs (λ_ _ _ _ h=>LD h) λA outer s H vs Q E hr h=>LI h λa la us ds B q e RL hA ha zb rs dk hp=>?_
  subst e;rw[hb];have v:=Lp (P:=P) (w:=w) (base:=base) (outer:=outer) (H:=H) (E:=E) t sc hr;obtain⟨m1,m2,m3,m4,m5,m6⟩:=hm;obtain⟨jt,nk⟩:=Be hl;simp only[DO,List.all_nil,Ix,As]at vj;obtain⟨g1,g2,g3,g4,g5,g6⟩:=vj;have Y5:∀ p,PE (Bu (CXR P w) P w K mg base ["self", "word", "form"] qual (AB st) f cdv A outer s H E) (.Name "self" p) (BS 0):=λp=>DF rfl (.inl (sc.loc "self" (by simp)))
  have yx:∀ p,PE (Bu (CXR P w) P w K mg base ["self", "word", "form"] qual (AB st) f cdv A outer s H E) (.Name "form" p) (BS 2):=λp=>DF rfl (.inl (sc.loc "form" (by simp)))
  have C1:=k1.h v B;have C2:=k2.h v B;have C3:=k3.h v B;refine⟨_,CF (Fw C1 (DE (Ft (Lh v m1 (by decide) rfl g1 (Bm (Li dc Y5) (Bm (MF dc Y5) (Bm (yx p6) B9 rfl) rfl) rfl)))) Gf)
    (CF (Fw C2 (DE (Ft (UY v dc Y5 yx (c:=2) (by decide) m2 rfl g2 (by decide) g5 rfl (by decide) (λC h=>kp 2 C (by decide) h) m6 rfl jt))) Gf)
    (CF (Fw C3 (DE (Ft (UY v dc Y5 yx (c:=1) (by decide) m3 rfl g3 (by decide) g6 rfl (by decide) (λC h=>kp 1 C (by decide) h) m5 rfl nk))) Gf)
    (DE (Ft (Lh v m4 (by decide) rfl g4 (Bm (Li dc Y5) (Bm (MF dc Y5) B9 rfl) rfl)))))),?_⟩
  have uj:=dk;obtain⟨dx,v1,v2,v3,xs,h1,h2,r4,r5,r6,r7⟩:=dk;obtain⟨u1,d1,u2,d2,rfl,rfl,ue,v8⟩:=Qg RL rs;cases d1 with
  |str z=>
    have hp:w4 (MH (MT (Y7 Pg n) is ip io ik s1 s2 q.p q.c z d2) q) (λd q'=>∀ v H',KB a la H H'->B0 K CL Ab H B H' v d->DK K CL H' (AV B v) C a la q'->Q v H') (λx=>∀ cls dx H',Aw H H'->Db K CL H' cls dx x->E cls dx H'):=hp
    have ύ:∀(s:Ah)(v:V)(H':Hp),Aw H H'->Y6 K CL H' B v (.str s)->(∀ v H',KB a la H H'->B0 K CL Ab H B H' v (.str s)->DK K CL H' (AV B v) C a la q->Q v H')->Q v H':=λs v H' sm r k=>by
      have ev:v=.str s:=r;subst ev;exact k _ H' (KB.of sm) ⟨rfl,λ_ _ z=>nomatch z⟩ ((uj.same sm).sub λb h=>h.elim id λz=>nomatch z)
    have ϋ:∀(r:R D)(fr:Ao)(H1:Hp),Aw H H1->w4 (MH r q) (λd q'=>∀ v H',KB a la H H'->B0 K CL Ab H B H' v d->DK K CL H' (AV B v) C a la q'->Q v H') (λx=>∀ cls dx H',Aw H H'->Db K CL H' cls dx x->E cls dx H')->(match r with
        |.ok d=>∀ v H',Aw H1 H'->B0 K CL fr H1 B H' v d->Q v H'
        |.exn x=>∀ cls dx H',Aw H1 H'->Db K CL H' cls dx x->EKW K CL A0 (WE K CL E) cls dx H'
        | .bad=>AN):=λr fr H1 sm h=>by
      cases r with
      |bad=>exact h.elim
      |exn y=>exact λcls dx H2 s2 xr=>⟨y,xr,λcls dx xr=>h cls dx H2 (sm.trans s2) xr⟩
      |ok d=>
        cases d with
        |str s=>exact λv H' s2 rc=>ύ s v H' (sm.trans s2) rc.1 h
        |_=>exact h.elim
    have ό:∀(r:R D)(H1:Hp),Aw H H1->w4 (MH r q) (λd q'=>∀ v H',KB a la H H'->B0 K CL Ab H B H' v d->DK K CL H' (AV B v) C a la q'->Q v H') (λx=>∀ cls dx H',Aw H H'->Db K CL H' cls dx x->E cls dx H')->AX (λH=>Y6 K CL H B) (WE K CL E) H1 r Q:=λr H1 sm h=>by
      cases r with
      |bad=>exact h.elim
      |exn y=>exact λH2 s2 cls dx xr=>h cls dx H2 (sm.trans s2) xr
      |ok d=>
        cases d with
        |str s=>exact λv H' s2 rc=>ύ s v H' (sm.trans s2) rc h
        |_=>exact h.elim
    have gd:∀ H',Aw H H'->U9 K CL B [Ae,Aa (.str z,Ad),Aa (d2,Ad)] [Aa (.ref a),Aa u1,Aa u2] H':=λH' sm=>jd K CL B H' _ _ ⟨⟨rfl,u1,rfl,ue.same sm⟩,⟨rfl,u2,rfl,v8.same sm⟩,trivial⟩
    have mw:∀ s:Ah,((top [Ae,Aa (D.str z,Ad),Aa (d2,Ad)] (.cmp .Eq (.v 1) (.str s)) (evE (Y7 Pg n) [Ae,Aa (D.str z,Ad),Aa (d2,Ad)] (.cmp .Eq (.v 1) (.str s)))).bind Ci)=.ok (decide (z=s)):=λs=>by
      show R.ok (z==s)=_
      congr 1
    refine⟨hA,_,gd H (Aw.refl H),?_⟩;dsimp only;rw[mw "side"];intro H1 vo;unfold MT at hp;by_cases z1:z = "side"
    · rw[Au z1]at hp;rw[Au (Di z1)];exact⟨a,dx,v1,v2,v3,la,rfl,vo _ _ h1,a,dx,v1,v2,v3,la,rfl,vo _ _ h1,u2,rfl,[q.p,q.c,d2],B,rfl,hA.same vo,⟨r4.same vo,r6.same vo,v8.same vo,trivial⟩,ϋ _ _ H1 vo hp⟩
    · rw[AA z1]at hp;rw[AA (by rw[Bq z1];exact BC)]
      show IH _ _ H1;refine⟨hA.same vo,_,gd H1 vo,?_⟩;dsimp only;rw[mw "polar"];intro H2 yy;have og:=vo.trans yy;by_cases z2:z = "polar"
      · rw[Au z2]at hp;rw[Au (Di z2)];exact⟨a,dx,v1,v2,v3,la,u2,B,q.p,q.c,d2,rfl,og _ _ h1,rfl,hA.same og,r4.same og,r6.same og,v8.same og,ό _ H2 og hp⟩
      · rw[AA z2]at hp;rw[AA (by rw[Bq z2];exact BC)]
        show IH _ _ H2;refine⟨hA.same og,_,gd H2 og,?_⟩;dsimp only;rw[mw "pole"];intro H3 xk;have tm:=og.trans xk;by_cases z3:z = "pole"
        · rw[Au z3]at hp;rw[Au (Di z3)];exact⟨a,dx,v1,v2,v3,la,u2,B,q.p,q.c,d2,rfl,tm _ _ h1,rfl,hA.same tm,r4.same tm,r6.same tm,v8.same tm,ό _ H3 tm hp⟩
        · rw[AA z3]at hp;rw[AA (by rw[Bq z3];exact BC)]
          show IH _ _ H3;exact⟨a,dx,v1,v2,v3,la,rfl,tm _ _ h1,a,dx,v1,v2,v3,la,rfl,tm _ _ h1,[q.p,q.c],B,rfl,hA.same tm,⟨r4.same tm,r6.same tm,trivial⟩,ϋ _ _ H3 tm hp⟩
  |_=>exact hp.elim
def LU(J:J9)(er:E)(q:Dk)(r:R D):RK:=match r with
  | .ok c=>if q.ps.length<900 then (match evE J [Ae,Ae,Aa (c,Ad)] er with
    |.ok (.L ts)=>.ok (.L ts) (Hz q q.l c)
    | _=>.bad) else .bad
  |.exn x=>.exn x
  |.bad=>.bad
def NO(J:J9)(it:Ag)(er:E)(q:Dk):Ac D->RK
  | [fm]=>(match BZ .Is fm .O with
    |.ok (.bl b)=>LU J er q (if b=Ab then J.F it [q.p,.L q.l] else .ok fm)
    | _=>.bad)
  |_=>.bad
theorem wG(t:wg K mg CL fns bl rzs exs gls Pg){st:AT}(dc:uv K C)(hf:yp K x qual st f fd)(hs:t5 ["self", "form"] ["self", "form", "curve"] st=Ab)(hb:Dt st=[.Assign [.Name "curve" p1] (.Name "form" p2) p3,.If c1 [.Assign [.Name "curve" p4] (.Call (.Name "curve_through" p5) [.Attribute (.Name "self" p6) "p" p7,.Attribute (.Name "self" p8) "points" p9] [] p10) p11] [] p12,.Expr (.Call (.Attribute (.Name "self" p13) "changed" p14) [.Attribute (.Name "self" p15) "points" p16,.Name "curve" p17] [] p18) p19,.Return (Aa er) p20])(hm:((("curve_through" : Ah),it,2):Ah×Ag×Ag)∈fns)(vj:xj ⟨AB st,["self", "form", "curve"],fns,bl,rzs,exs,gls,Ab,Ab⟩ "curve_through" = Ab)(hl:(p14.endLine==p18.line)=Ab)(k1:Tb ⟨AB st,["self", "form", "curve"],fns,bl,rzs,exs,gls,Ab,Ab⟩ c1 (.cmp .Is (.v 2) .O))(k2:Te ⟨AB st,["self", "form", "curve"],fns,bl,rzs,exs,gls,Ab,Ab⟩ er (.L ce))(me:zf K C "changed" g)(hbg:Cv K gd ["self", "points", "curve"] [])(G:Y0 P w K mg base (CXR P w) n g gd ["self", "points", "curve"] (xh K CL C 2 MS)):
    Y0 P w K mg base (CXR P w) (n+1) f fd ["self", "form"] (xh K CL C 1 (NO (Y7 Pg n) it (.L ce))):=by
  obtain⟨oc,od,dV,kV,doc,pm,an,cdv,ct,osl,rfl,lk,ze⟩:=hf.ex;have sc:=JJ hs;refine Hw lk ze sc.fs (λ_ _ _ _ h=>LD h) λA outer s H vs Q E hr h=>LI h λa la us ds B q e RL hA ha zb rs dk hp=>?_
  subst e;rw[hb];have v:=Lp (P:=P) (w:=w) (base:=base) (outer:=outer) (H:=H) (E:=E) t sc hr;have Y5:∀ p,PE (Bu (CXR P w) P w K mg base ["self", "form", "curve"] qual (AB st) f cdv A outer s H E) (.Name "self" p) (BS 0):=λp=>DF rfl (.inl (sc.loc "self" (by simp)))
  have yx:∀ p,PE (Bu (CXR P w) P w K mg base ["self", "form", "curve"] qual (AB st) f cdv A outer s H E) (.Name "form" p) (BS 1):=λp=>DF rfl (.inl (sc.loc "form" (by simp)))
  have ke:∀ p,PE (Bu (CXR P w) P w K mg base ["self", "form", "curve"] qual (AB st) f cdv A outer s H E) (.Name "curve" p) (BS 2):=λp=>DF rfl (.inl (sc.loc "curve" (by simp)))
  have C1:=k1.h v B;have r':=(k2.h v).nw rfl B;refine⟨_,CF (G6 (i:=2) sc.fs.nd rfl (.inl (sc.loc "curve" (by simp))) (yx p2) rfl (.inl rfl)) (CF (Fw C1 (DE (G6 (i:=2) sc.fs.nd rfl (.inl (sc.loc "curve" (by simp))) (Lh v hm (by decide) rfl vj (Bm (Li dc Y5) (Bm (LM dc Y5) B9 rfl) rfl)) rfl (.inl rfl))) Gf)
    (CF (K9 (LL (Y5 p13) dc.cl me G (v.room rfl) hbg (v.px A0) (Bm (LM dc Y5) (Bm (ke p17) B9 rfl) rfl) hl) rfl) (DE (Ft r')))),?_⟩
  have uj:=dk;obtain⟨dx,v1,v2,v3,xs,h1,h2,r4,r5,r6,r7⟩:=dk;obtain⟨u,d,rfl,rfl,ru⟩:=N7 RL rs;have gd:∀{u2:Am V}{y:V}{c:D}{H':Hp},Y6 K CL H' B y c->U9 K CL B [Ae,Ae,Aa (c,Ad)] [Aa (.ref a),u2,Aa y] H':=λ{u2 y c H'} r=>jd K CL B H' _ [Aa (.ref a),u2,Aa y] ⟨⟨rfl,y,rfl,r⟩,trivial⟩
  have hp:w4 (match BZ .Is d .O with
    |.ok (.bl b)=>LU (Y7 Pg n) (.L ce) q (if b=Ab then (Y7 Pg n).F it [q.p,.L q.l] else .ok d)
    | _=>.bad) (λd q'=>∀ v H',KB a la H H'->B0 K CL Ab H B H' v d->DK K CL H' (AV B v) C a la q'->Q v H') (λx=>∀ cls dx H',Aw H H'->Db K CL H' cls dx x->E cls dx H'):=hp
  have fin:∀(c:D)(y:V)(H2:Hp),Aw H H2->Y6 K CL H2 B y c->w4 (LU (Y7 Pg n) (.L ce) q (.ok c)) (λd q'=>∀ v H',KB a la H H'->B0 K CL Ab H B H' v d->DK K CL H' (AV B v) C a la q'->Q v H') (λx=>∀ cls dx H',Aw H H'->Db K CL H' cls dx x->E cls dx H')->(OX (OL (LO C "changed" (xh K CL C 2 MS) [] (EKW K CL A0 (WE K CL E)) (BS 0) (Lg (λU H Q=>∃ a dx v1 v2 v3 la,U[0]?=Aa (Aa (V.ref a))/\H a=Aa (HO.ins C dx (yh v1 v2 v3 la))/\Q v2 H) (Lg (BS 2) MO)))) (OY λU H Q=>J4 H B/\∃ Y,U9 K CL B Y U H/\AX (B0 K CL Ab H B) (WE K CL E) H (evE (Y7 Pg n) Y (.L ce)) Q)) {nx:=λ_ H'=>Q .O H',rt:=Q} [Aa (.ref a),Aa u,Aa y] H2:=λc y H2 sm ry hq=>by
    have hq:w4 (if q.ps.length<900 then (match evE (Y7 Pg n) [Ae,Ae,Aa (c,Ad)] (.L ce) with
      |.ok (.L ts)=>RK.ok (.L ts) (Hz q q.l c)
      | _=>.bad) else .bad) _ _:=hq
    by_cases hz:q.ps.length<900
    · rw[Au hz]at hq;refine⟨.ref a,rfl,a,dx,_,rfl,sm _ _ h1,rfl,a,dx,v1,v2,v3,la,rfl,sm _ _ h1,y,rfl,JI (ds:=[.L q.l,c]) rfl (hA.same sm) ha zb ⟨r5.same sm,ry,trivial⟩ (uj.same sm) ?_⟩;show w4 (if q.ps.length<900 then RK.ok .O (Hz q q.l c) else .bad) _ _
      rw[Au hz];intro v' H3 kb _ qg;have qg:=qg.un;have î:J4 H3 B:=qg.aok kb (hA.same sm);refine⟨î,_,gd (Y6.kp (kb.kp ha zb) _ ry),?_⟩;cases ev:evE (Y7 Pg n) [Ae,Ae,Aa (c,Ad)] (.L ce) with
      |bad=>rw[ev]at hq;exact hq.elim
      |exn x=>rw[ev]at hq;exact hq.elim
      |ok d4=>
        rw[ev]at hq;cases d4 with
        |L ts=>
          intro v4 H4 s4 Á;obtain⟨l4,ys4,f1,f2,_,_⟩:=Á.2 rfl _ rfl;subst f1;exact hq _ H4 (((KB.of sm).trans kb).trans (KB.of s4)) (Uk ((KB.of sm).trans kb) qg Á) ((qg.new f2).same s4)
        |_=>exact hq.elim
    · rw[AA hz]at hq;exact hq.elim
  refine⟨u,rfl,hA,_,gd ru,?_⟩;show Dx _ _ ((BZ .Is d .O).bind Ci) _;cases eb:BZ .Is d .O with
  |bad=>rw[eb]at hp;exact hp.elim
  |exn x=>rw[eb]at hp;exact hp.elim
  |ok db=>
    rw[eb]at hp;cases db with
    |bl b=>
      intro H1 sm;cases b with
      |true=>
        have hp:w4 (LU (Y7 Pg n) (.L ce) q ((Y7 Pg n).F it [q.p,.L q.l])) _ _:=hp;refine⟨a,dx,v1,v2,v3,la,rfl,sm _ _ h1,a,dx,v1,v2,v3,la,rfl,sm _ _ h1,[q.p,.L q.l],B,rfl,hA.same sm,⟨r4.same sm,r5.same sm,trivial⟩,?_⟩;cases eF:(Y7 Pg n).F it [q.p,.L q.l] with
        |bad=>rw[eF]at hp;exact hp.elim
        |exn y=>rw[eF]at hp;exact λcls dx H2 s2 xr=>⟨y,xr,λcls dx xr=>hp cls dx H2 (sm.trans s2) xr⟩
        |ok c=>
          rw[eF]at hp;intro y H2 s2 ry;exact fin c y H2 (sm.trans s2) ry.1 hp
      |false=>exact fin d u H1 sm (ru.same sm) hp
    |_=>exact hp.elim
noncomputable def NJ(r:RK):RK:=match r with
  |.ok (.str s) q=>.ok (.L [.str s]) q
  |.exn y=>.exn y
  |_=>.bad
def LS(la lm ll:Ac Ah)(Gc Gm Gl Gu Ga:Dk->Ac D->RK)(q:Dk)(w:Ah)(fm:D):RK:=
  if qs la w=Ab then (match BZ .Is q.c .O with
    |.ok (.bl b)=>if b=Ab then .exn ⟨5,[]⟩ else NJ (Gc q [.str w,fm])
    | _=>.bad)
  else if qs lm w=Ab then Gm q [fm] else if qs ll w=Ab then Gl q [.str w,fm] else if w = "undo" then Gu q [] else Ga q [.str w]
noncomputable def Jk(SW:Dk->Ah->D->RK)(cs:Ah->R D)(FR FT:Ac D->R D)(q:Dk):Ac D->RK
  | [.str r]=>(match cs r with
    | .ok (.L (.str w::ws))=>(match FR [q.p,.L (.str w::ws)] with
      | .ok rs=>(match FT [q.p,rs] with
        |.ok fm=>SW q w fm
        |.exn y=>.exn y
        | .bad=>.bad)
      |.exn y=>.exn y
      | .bad=>.bad)
    | _=>.bad)
  |_=>.bad
theorem gP{FR:Ac D->R D}{SW:Dk->Ah->D->RK}{cs:Ah->R D}{FT:Ac D->R D}{q:Dk}{d:D}:Jk SW cs FR FT q [d]=.bad\/∃ r w ws,d=.str r/\cs r=.ok (.L (.str w::ws))/\Jk SW cs FR FT q [d]=(match FR [q.p,.L (.str w::ws)] with
      | .ok rs=>(match FT [q.p,rs] with
        |.ok fm=>SW q w fm
        |.exn y=>.exn y
        | .bad=>.bad)
      |.exn y=>.exn y
      | .bad=>.bad):=by
  cases d with
  |str r=>
    cases e:cs r with
    |ok d=>
      have no:(∀ w ws,d≠.L (.str w::ws))->Jk SW cs FR FT q [.str r]=.bad:=λh=>by
        unfold Jk;simp only[e];split
        · rename_i w ws z;exact absurd (by injection z) (h w ws)
        · rfl
      by_cases h:∃ w ws,d=.L (.str w::ws)
      · obtain⟨w,ws,rfl⟩:=h;exact .inr ⟨r,w,ws,rfl,e,by unfold Jk;simp only[e]⟩
      · exact .inl (no λw ws z=>h ⟨w,ws,z⟩)
    |exn y=>exact .inl (by unfold Jk;simp only[e])
    |bad=>exact .inl (by unfold Jk;simp only[e])
  |_=>exact .inl rfl
theorem lR(t:wg K mg CL fns bl rzs exs gls Pg){st:AT}(dc:uv K C)(hf:yp K x qual st f fd)(hs:t5 ["self", "row"] ["self", "row", "words", "word", "form"] st=Ab)
  (hb:Dt st=[.Assign [.Name "words" p1] e1 p2,.Assign [.Name "word" p3] e2 p4,.Assign [.Name "form" p5] (.Call (.Name "told_by" p6) [.Attribute (.Name "self" p7) "p" p8,.Call (.Name "rests_of_row" p9) [.Attribute (.Name "self" p10) "p" p11,.Name "words" p12] [] p13] [] p14) p15,.If (.BoolOp .And [c4,.Compare (.Attribute (.Name "self" q1) "curve" q2) [.Is] [.Constant .none kk q3] q4] p16) [sr] [] p17,.If c5 [.Return (Aa (.List [.Call (.Attribute (.Name "self" q5) "curve_asked" q6) [.Name "word" q7,.Name "form" q8] [] q9] q10)) q11] [] p18,.If c6 [.Return (Aa (.Call (.Attribute (.Name "self" q12) "curve_made" q13) [.Name "form" q14] [] q15)) q16] [] p19,.If c7 [.Return (Aa (.Call (.Attribute (.Name "self" p20) "list_changed" p21) [.Name "word" p22,.Name "form" p23] [] p24)) p25] [] p26,.If c8 [.Return (Aa (.Call (.Attribute (.Name "self" p27) "undone" p28) [] [] p29)) p30] [] p31,.Return (Aa (.Call (.Attribute (.Name "self" p32) "list_asked" p33) [.Name "word" p34] [] p35)) p36])
  (hl:((p21.endLine==p24.line)&&((p28.endLine==p29.line)&&(p33.endLine==p35.line)))=Ab) (hl2':((q6.endLine==q9.line)&&(q13.endLine==q15.line))=Ab)
  (hm:((("told_by" : Ah),tb,2):Ah×Ag×Ag)∈fns) (vj:(xj ⟨AB st,["self", "row", "words", "word", "form"],fns,bl,rzs,exs,gls,Ab,Ab⟩ "told_by" && xj ⟨AB st,["self", "row", "words", "word", "form"],fns,bl,rzs,exs,gls,Ab,Ab⟩ "rests_of_row")=Ab)
  (k1:Te ⟨AB st,["self", "row", "words", "word", "form"],fns,bl,rzs,exs,gls,Ab,Ab⟩ e1 cs) (k2:Te ⟨AB st,["self", "row", "words", "word", "form"],fns,bl,rzs,exs,gls,Ab,Ab⟩ e2 (.idx (.v 2) (.int 0))) (nc:(FV e1&&FV e2)=Ab)
  (k4:Tb ⟨AB st,["self", "row", "words", "word", "form"],fns,bl,rzs,exs,gls,Ab,Ab⟩ c4 (.cmp .In (.v 3) (.glob ga))) (k5:Tb ⟨AB st,["self", "row", "words", "word", "form"],fns,bl,rzs,exs,gls,Ab,Ab⟩ c5 (.cmp .In (.v 3) (.glob ga))) (k6:Tb ⟨AB st,["self", "row", "words", "word", "form"],fns,bl,rzs,exs,gls,Ab,Ab⟩ c6 (.cmp .In (.v 3) (.glob gm))) (k7:Tb ⟨AB st,["self", "row", "words", "word", "form"],fns,bl,rzs,exs,gls,Ab,Ab⟩ c7 (.cmp .In (.v 3) (.glob gl))) (k8:Tb ⟨AB st,["self", "row", "words", "word", "form"],fns,bl,rzs,exs,gls,Ab,Ab⟩ c8 (.cmp .Eq (.v 3) (.str "undo")))
  (kr':Ts ⟨AB st,["self", "row", "words", "word", "form"],fns,bl,rzs,exs,gls,Ab,Ab⟩ sr (.rais 5 (.cons (.str txt) .nil))) (tf:Pg.xn 5 [.str txt]=.ok ⟨5,[]⟩)
  (ha':Pg.G ga=.H (la.map .str)) (ju:Pg.G gm=.H (lm.map .str)) (jr:Pg.G gl=.H (ll.map .str))
  (mr:mg "rests_of_row" = Aa (.ref fr)) (kr:AM K (.ref fr)=Ab) (br:Cv K frd ["p", "words"] []) (FRok:Y0 P w K mg base (CXR P w) n fr frd ["p", "words"] (spD K CL 2 Ad FR))
  (mc:zf K C "curve_asked" fc) (blc:Cv K fcd ["self", "word", "form"] []) (GC:Y0 P w K mg base (CXR P w) n fc fcd ["self", "word", "form"] (xh K CL C 2 Gc))
  (mm:zf K C "curve_made" fm) (blm:Cv K fmd ["self", "form"] []) (GM:Y0 P w K mg base (CXR P w) n fm fmd ["self", "form"] (xh K CL C 1 Gm))
  (ml:zf K C "list_changed" fl) (bll:Cv K fld ["self", "word", "form"] []) (GL:Y0 P w K mg base (CXR P w) n fl fld ["self", "word", "form"] (xh K CL C 2 Gl'))
  (mu:zf K C "undone" fu) (blu:Cv K fud ["self"] []) (GU:Y0 P w K mg base (CXR P w) n fu fud ["self"] (xh K CL C 0 Gu))
  (ma:zf K C "list_asked" fa) (bla:Cv K fad ["self", "word"] []) (GA:Y0 P w K mg base (CXR P w) n fa fad ["self", "word"] (xh K CL C 1 Ga)):
  Y0 P w K mg base (CXR P w) (n+1) f fd ["self", "row"] (xh K CL C 1 (Jk (LS la lm ll Gc Gm Gl' Gu Ga) (λr=>evE (Y7 Pg n) [Ae,Aa (.str r,Ad),Ae,Ae,Ae] cs) FR ((Y7 Pg n).F tb))):=by
 obtain⟨oc,od,dV,kV,doc,pm,an,cdv,ct,osl,rfl,lk,ze⟩:=hf.ex;have sc:=JJ hs;refine Hw lk ze sc.fs (λ_ _ _ _ h=>LD h) λA outer s H vs Q E hr h=>LI h λa pk us ds B q e RL hA ha zb rs dk hp=>?_
 subst e;rw[hb];have v:=Lp (P:=P) (w:=w) (base:=base) (outer:=outer) (H:=H) (E:=E) t sc hr;obtain⟨jk,va⟩:=Be vj;obtain⟨jt,nk⟩:=Be hl;obtain⟨nk,hl3⟩:=Be nk;obtain⟨nc1,nc2⟩:=Be nc;obtain⟨hl4,hl5⟩:=Be hl2';have SR:=kr'.h v ⟨λ_=>rfl,λ_=>rfl,λ_=>rfl,λ_=>rfl⟩ ⟨λb o=>H b=Aa o,λ_ _ _=>AN⟩ B
 have Y5:∀ p,PE (Bu (CXR P w) P w K mg base ["self", "row", "words", "word", "form"] qual (AB st) f cdv A outer s H E) (.Name "self" p) (BS 0):=λp=>DF rfl (.inl (sc.loc "self" (by simp)))
 have kf:∀ p,PE (Bu (CXR P w) P w K mg base ["self", "row", "words", "word", "form"] qual (AB st) f cdv A outer s H E) (.Name "words" p) (BS 2):=λp=>DF rfl (.inl (sc.loc "words" (by simp)))
 have qz:∀ p,PE (Bu (CXR P w) P w K mg base ["self", "row", "words", "word", "form"] qual (AB st) f cdv A outer s H E) (.Name "word" p) (BS 3):=λp=>DF rfl (.inl (sc.loc "word" (by simp)))
 have yx:∀ p,PE (Bu (CXR P w) P w K mg base ["self", "row", "words", "word", "form"] qual (AB st) f cdv A outer s H E) (.Name "form" p) (BS 4):=λp=>DF rfl (.inl (sc.loc "form" (by simp)))
 have E1:=(k1.h v).se B;have E2:=(k2.h v).se B;have C4:=k4.h v B;have C5:=k5.h v B;have C6:=k6.h v B;have C7:=k7.h v B;have C8:=k8.h v B;have hgr:Gl (Bu (CXR P w) P w K mg base ["self", "row", "words", "word", "form"] qual (AB st) f cdv A outer s H E) "rests_of_row" := A2.mp va;refine⟨_,CF (G6 (i:=2) sc.fs.nd rfl (.inl (sc.loc "words" (by simp))) E1 (Kj nc1) (.inl rfl)) (CF (G6 (i:=3) sc.fs.nd rfl (.inl (sc.loc "word" (by simp))) E2 (Kj nc2) (.inl rfl)) (CF (G6 (i:=4) sc.fs.nd rfl (.inl (sc.loc "form" (by simp))) (Lh v hm (by decide) rfl jk (Bm (Li dc Y5) (Bm (Ng FRok (v.room rfl) hgr mr kr br .nil (v.px A0) (Bm (Li dc Y5) (Bm (kf p12) B9 rfl) rfl) (by decide) rfl rfl) B9 rfl) rfl)) rfl (.inl rfl))
  (CF (Fw (PW.pt (UW C4 (TY (LF (Kh (W:=WE K CL E) (CL:=CL) v.un .Is B) (MF dc Y5) On rfl)))) (DE SR) Gf) (CF (Fw C5 (DE (Ft (Nn (Bm (LL (Y5 q5) dc.cl mc GC (v.room rfl) blc (v.px A0) (Bm (qz q7) (Bm (yx q8) B9 rfl) rfl) hl4) B9 rfl)))) Gf) (CF (Fw C6 (DE (Ft (LL (Y5 q12) dc.cl mm GM (v.room rfl) blm (v.px A0) (Bm (yx q14) B9 rfl) hl5))) Gf) (CF (Fw C7 (DE (Ft (LL (Y5 p20) dc.cl ml GL (v.room rfl) bll (v.px A0) (Bm (qz p22) (Bm (yx p23) B9 rfl) rfl) jt))) Gf) (CF (Fw C8 (DE (Ft (rJ (Y5 p27) dc.cl mu GU (v.room rfl) blu (v.px A0) nk))) Gf) (DE (Ft (LL (Y5 p32) dc.cl ma GA (v.room rfl) bla (v.px A0) (Bm (qz p34) B9 rfl) hl3)))))))))),?_⟩
 obtain⟨u,d,rfl,rfl,ru⟩:=N7 RL rs;rcases gP (SW:=LS la lm ll Gc Gm Gl' Gu Ga) (cs:=λr=>evE (Y7 Pg n) [Ae,Aa (.str r,Ad),Ae,Ae,Ae] cs) (FR:=FR) (FT:=(Y7 Pg n).F tb) (q:=q) (d:=d) with hz|⟨r,wd,ws,rfl,ecs,eG⟩
 .rw[hz]at hp;exact hp.elim
 rw[eG]at hp;have uj:=dk;obtain⟨dx,v1,v2,v3,xs,h1,h2,r4,r5,r6,r7⟩:=dk;refine⟨hA,[Ae,Aa (.str r,Ad),Ae,Ae,Ae],jd K CL B H _ [Aa (.ref a),Aa u,Ae,Ae,Ae] ⟨⟨rfl,u,rfl,ru⟩,trivial⟩,?_⟩;show AX _ _ _ (evE (Y7 Pg n) [Ae,Aa (.str r,Ad),Ae,Ae,Ae] cs) _;rw[show evE (Y7 Pg n) [Ae,Aa (.str r,Ad),Ae,Ae,Ae] cs=.ok (.L (.str wd::ws)) from ecs]
 intro y2 H1 vo Â;refine⟨hA.same vo,[Ae,Aa (.str r,Ad),Aa (.L (.str wd::ws),Ad),Ae,Ae],jd K CL B H1 _ [Aa (.ref a),Aa u,Aa y2,Ae,Ae] ⟨⟨rfl,u,rfl,ru.same vo⟩,⟨rfl,y2,rfl,Â⟩,trivial⟩,?_⟩;refine Hs (Rg (x:=.str wd) (ws:=ws) rfl) λy3 H2 yy Γ=>?_
 have s2:=vo.trans yy;refine⟨a,dx,v1,v2,v3,pk,rfl,s2 _ _ h1,a,dx,v1,v2,v3,pk,rfl,s2 _ _ h1,y2,rfl,[q.p,.L (.str wd::ws)],B,rfl,hA.same s2,⟨r4.same s2,Â.same yy,trivial⟩,?_⟩;cases eR:FR [q.p,.L (.str wd::ws)] with
 |bad=>rw[eR]at hp;exact hp.elim
 |exn y=>rw[eR]at hp;exact λcls dx H3 xk xr=>⟨y,xr,λcls dx xr=>hp cls dx H3 (s2.trans xk) xr⟩
 |ok uu=>
  rw[eR]at hp;dsimp only at hp;intro yr H3 xk ryr;have s3:=s2.trans xk;refine⟨[q.p,uu],B,rfl,hA.same s3,⟨r4.same s3,ryr.1,trivial⟩,?_⟩;cases eT:(Y7 Pg n).F tb [q.p,uu] with
  |bad=>rw[eT]at hp;exact hp.elim
  |exn y=>rw[eT]at hp;exact λcls dx H4 wa xr=>⟨y,xr,λcls dx xr=>hp cls dx H4 (s3.trans wa) xr⟩
  |ok fm=>
   rw[eT]at hp;dsimp only at hp;intro yf H4 wa Δ;have s4:=s3.trans wa;have gd:∀ H',Aw H4 H'->U9 K CL B [Ae,Aa (.str r,Ad),Aa (.L (.str wd::ws),Ad),Aa (.str wd,Ad),Aa (fm,Ad)] [Aa (.ref a),Aa u,Aa y2,Aa y3,Aa yf] H':=λH' sm=>jd K CL B H' _ _ ⟨⟨rfl,u,rfl,ru.same (s4.trans sm)⟩,⟨rfl,y2,rfl,Â.same (((yy.trans xk).trans wa).trans sm)⟩,⟨rfl,y3,rfl,Γ.same ((xk.trans wa).trans sm)⟩,⟨rfl,yf,rfl,Δ.1.same sm⟩,trivial⟩
   have hGa:(Y7 Pg n).G ga=.H (la.map .str):=by rw[Lk];exact ha'
   have hGm:(Y7 Pg n).G gm=.H (lm.map .str):=by rw[Lk];exact ju
   have hGl:(Y7 Pg n).G gl=.H (ll.map .str):=by rw[Lk];exact jr
   refine⟨hA.same s4,_,gd H4 (Aw.refl _),?_⟩;refine Kk (Nx (w:=wd) hGa rfl) λH5 t8=>?_
   have step:∀(r:RK)(H':Hp),Aw H H'->w4 r (λd q'=>∀ v H',KB a pk H H'->B0 K CL Ab H B H' v d->DK K CL H' (AV B v) C a pk q'->Q v H') (λx=>∀ cls dx H',Aw H H'->Db K CL H' cls dx x->E cls dx H')->w4 r (λd q'=>∀ v H2,KB a pk H' H2->B0 K CL Ab H' B H2 v d->DK K CL H2 (AV B v) C a pk q'->Q v H2) (λx=>∀ cls dx H2,Aw H' H2->Db K CL H2 cls dx x->EKW K CL A0 (WE K CL E) cls dx H2):=λr H' sm h=>by
    cases r with
    |bad=>exact h.elim
    |exn y=>exact λcls dx H2 s2 xr=>⟨y,xr,λcls dx xr=>h cls dx H2 (sm.trans s2) xr⟩
    |ok d q'=>exact λv H2 kb rc dk=>h v H2 ((KB.of sm).trans kb) (Qh sm rc) dk
   unfold LS at hp;cases ia:qs la wd with
   |true=>
    rw[ia,Au rfl]at hp;have s5:=s4.trans t8;rw[Au rfl];refine⟨a,dx,v1,v2,v3,pk,rfl,s5 _ _ h1,hA.same s5,q.c,.O,.inl (r6.same s5),.inl rfl,?_⟩;cases eb:BZ .Is q.c .O with
    |bad=>rw[eb]at hp;exact hp.elim
    |exn x=>rw[eb]at hp;exact hp.elim
    |ok db=>
     rw[eb]at hp;cases db with
     |bl b=>
      have hp:w4 (if b=Ab then RK.exn ⟨5,[]⟩ else NJ (Gc q [.str wd,fm])) _ _:=hp
      intro yb H6 ri ryb;refine⟨b,ryb,?_⟩;have s6:=s5.trans ri;cases b with
      |true=>
       have g:=IE (K:=K) (CL:=CL) (A:=B) (H:=H6) (Y:=[Ae,Ae,Ae,Ae,Ae]) (U:=[Aa (.ref a),Aa u,Aa y2,Aa y3,Aa yf]) trivial;refine⟨[Ae,Ae,Ae,Ae,Ae],Sx.mono (Fy:=⟨λb o=>H6 b=Aa o,λ_ _ _=>AN⟩) (λb o z=>s6 b o z) (λ_ _ _ z=>z) (OM (hA.same s6) g.1 g.2),?_⟩
       have e2:w5 (Y7 Pg n) [Ae,Ae,Ae,Ae,Ae] (.cons (.str txt) .nil)=.ok [.str txt]:=rfl;show B6 K CL _ B (WE K CL E) (yk (Y7 Pg n) [Ae,Ae,Ae,Ae,Ae] (.rais 5 (.cons (.str txt) .nil))) _;rw[P9,e2];show B6 K CL _ B (WE K CL E) (O.of _ ((Y7 Pg n).xn 5 [.str txt]) λx=>.exn x _) _
       rw[Le,tf];exact λH2 s2 cls dx xr=>hp cls dx H2 (λb o z=>s2 b o z) xr
      |false=>
       show IH _ _ H6;have lw:=t8.trans ri;refine⟨hA.same s6,_,gd H6 lw,?_⟩;refine Kk ((Nx (w:=wd) hGa rfl).trans (by rw[ia])) λH7 û=>?_
       have s7:=s6.trans û;have ù:=lw.trans û;have hp:w4 (NJ (Gc q [.str wd,fm])) _ _:=hp;refine⟨.ref a,rfl,a,dx,_,rfl,s7 _ _ h1,rfl,y3,rfl,yf,rfl,JI (ds:=[.str wd,fm]) rfl (hA.same s7) ha zb ⟨Γ.same ((xk.trans wa).trans ù),Δ.1.same ù,trivial⟩ (uj.same s7) ?_⟩;cases eg:Gc q [.str wd,fm] with
       |bad=>rw[eg]at hp;exact hp.elim
       |exn y=>rw[eg]at hp;exact λcls dx H8 s8 xr=>⟨y,xr,λcls dx xr=>hp cls dx H8 (s7.trans s8) xr⟩
       |ok d q2=>
        rw[eg]at hp;cases d with
        |str s'=>
         have hp:∀ v H',KB a pk H H'->B0 K CL Ab H B H' v (.L [.str s'])->DK K CL H' (AV B v) C a pk q2->Q v H':=hp;intro y H8 kb rc jb;have ey:y=.str s':=rc.1;subst ey;refine⟨by rw[BE];exact AK rfl,λtt ht=>?_⟩
         have hA8:=jb.un.aok kb (hA.same s7);have kb':KB a pk H H8:=(KB.of s7).trans kb;have sn:=FW ht (.L [V.str s']);have Htn:H tt=Ae:=by
          cases eh:H tt with
          |none=>rfl
          |some o=>
           obtain⟨dx',v1',v2',v3',Ψ,pj,Ŭ,_⟩:=jb;rw[kb' tt o eh (λz=>by rw[z,pj]at ht;cases ht) λz=>by rw[z,Ŭ]at ht;cases ht]at ht
           cases ht
         refine hp (.ref tt) _ (kb'.trans (KB.of sn)) ⟨⟨tt,[.str s'],rfl,.inl (hA8.new ht),zr.of B1,rfl,trivial⟩,λ_ es ee=>?_⟩ ((jb.un.new ht).same sn)
         cases ee;exact⟨tt,[.str s'],rfl,Htn,B1,rfl,trivial⟩
        |_=>exact hp.elim
     |_=>exact hp.elim
   |false=>
   rw[ia,AA BC]at hp;show IH _ _ H5;refine⟨(hA.same s4).same t8,_,gd H5 t8,?_⟩;refine Kk ((Nx (w:=wd) hGa rfl).trans (by rw[ia])) λH6 ri=>?_
   show IH _ _ H6;have lw:=t8.trans ri;refine⟨(hA.same s4).same lw,_,gd H6 lw,?_⟩;refine Kk (Nx (w:=wd) hGm rfl) λH7 û=>?_
   cases im:qs lm wd with
   |true=>
    rw[im,Au rfl]at hp;have s8:=(s4.trans lw).trans û;exact⟨.ref a,rfl,a,dx,_,rfl,s8 _ _ h1,rfl,yf,rfl,JI (ds:=[fm]) rfl (hA.same s8) ha zb ⟨Δ.1.same (lw.trans û),trivial⟩ (uj.same s8) (step _ H7 s8 hp)⟩
   |false=>
   rw[im,AA BC]at hp;show IH _ _ H7;have ù:=lw.trans û;refine⟨(hA.same s4).same ù,_,gd H7 ù,?_⟩;refine Kk (Nx (w:=wd) hGl rfl) λH8 sm8=>?_
   have Ä:=ù.trans sm8;have s8:=s4.trans Ä;cases il:qs ll wd with
   |true=>
    rw[il,Au rfl]at hp;exact⟨.ref a,rfl,a,dx,_,rfl,s8 _ _ h1,rfl,y3,rfl,yf,rfl,JI (ds:=[.str wd,fm]) rfl (hA.same s8) ha zb ⟨Γ.same ((xk.trans wa).trans Ä),Δ.1.same Ä,trivial⟩ (uj.same s8) (step _ H8 s8 hp)⟩
   |false=>
   rw[il,AA BC]at hp;show IH _ _ H8;refine⟨hA.same s8,_,gd H8 Ä,?_⟩;have mw:((top [Ae,Aa (D.str r,Ad),Aa (D.L (D.str wd::ws),Ad),Aa (D.str wd,Ad),Aa (fm,Ad)] (.cmp .Eq (.v 3) (.str "undo")) (evE (Y7 Pg n) [Ae,Aa (D.str r,Ad),Aa (D.L (D.str wd::ws),Ad),Aa (D.str wd,Ad),Aa (fm,Ad)] (.cmp .Eq (.v 3) (.str "undo")))).bind Ci)=.ok (decide (wd = "undo")):=by
    show R.ok (wd == "undo")=_
    congr 1
   refine Kk mw λH9 sm9=>?_
   have s9:=s8.trans sm9;by_cases iu:wd = "undo"
   .rw[Au iu]at hp;rw[Di iu];exact⟨.ref a,rfl,a,dx,_,rfl,s9 _ _ h1,rfl,JI (ds:=[]) rfl (hA.same s9) ha zb trivial (uj.same s9) (step _ H9 s9 hp)⟩
   .rw[AA iu]at hp;rw[Bq iu];show IH _ _ H9;exact⟨.ref a,rfl,a,dx,_,rfl,s9 _ _ h1,rfl,y3,rfl,JI (ds:=[.str wd]) rfl (hA.same s9) ha zb ⟨Γ.same (((xk.trans wa).trans Ä).trans sm9),trivial⟩ (uj.same s9) (step _ H9 s9 hp)⟩
noncomputable abbrev yq:Ac Ah:=["_law_script", "_law_p", "_law_desk", "_law_listed", "_law_k", "_law_point", "_law_curve", "_law_row", "_law_word", "_law_kinds"]
noncomputable abbrev yo:Ac Ah:=["#10"]
def P96(J:J9)(GS GY:Dk->Ac D->RK)(ys zs:Ac E)(ss:Ac S):Rho->Dk->Prop:=
 let y:=λi Y=>evE J Y (ys.getD i .O)
 let z:=λi Y=>evE J Y (zs.getD i .O)
 let s:=λi Y=>yk J Y (ss.getD i .pass)
 let b:=λi Y=>(top Y (ys.getD i .O) (evE J Y (ys.getD i .O))).bind Ci
 Ib (JX GS (y 0) (z 0)) <| Ib (Hx 2 (s 0)) <| Ib (ML 4 (λ_=>.ok (.int 0)) (y 1) (Ko (Hx 2 (s 1)) (NH (b 2) (Ko (Hx 2 (s 2)) (ME GY (y 3))) NI))) <|
 VI 3 <| Ib (Hx 2 (s 3)) <| Ib (NH (b 4) (ME GY (y 5)) NI) <| Ib (ML 4 (y 6) (y 7) (Ko (Hx 2 (s 4)) (JX GS (y 8) (z 1)))) <|
 Ib (JX GS (y 9) (z 2)) <| Ib (Hx 2 (s 5)) <| Ib (JX GS (y 10) (z 3)) <| Ib (ML 4 (λ_=>.ok (.int 0)) (y 11) (OQ GS (y 12) "told")) <|
 λY q=>∃ q1 q2,JX GS (y 13) (z 4) Y q Y q1/\JX GS (y 14) (z 5) Y q1 Y q2
theorem nO(t:wg K mg CL fns bl rzs exs gls Pg){st:AT}
  {p1 p2 p3 p4 p5 p6 p7:AH}
      (dc:uv K C) (hf:yp K x qual st f fd) (hs:uf ["_law_script"] yq yo st=Ab)
  (hb:Dt st=[.Assign [.Name "_law_p" p1] x1 p2,.Assign [.Name "_law_desk" p3] (.Call (.Name "Desk" p4) [.Name "_law_p" p5] [] p6) p7,
   .If (.Compare (.Call (.Name "_law_said" p8) [.Name "_law_desk" p9,.Constant (.str "undo") k1 p10] [] p11) [.NotEq] [.Tuple e0 k2 p12] p13) [r1] [] p14,
   s0,.For (.Name "_law_k" p15) (.Call (.Name "range" p16) [.BinOp a2 .Mod b2 p17] [] p18) [s1,.If c2 [s2,.Expr (.Call (.Attribute (.Name "_law_desk" p19) "say" p20) [.BinOp a3 .Add b3 p21] [] p22) p23] [] p24] [] p25,
   s3,.If tc1 [.Expr (.Call (.Attribute (.Name "_law_desk" p26) "say" p27) [.BinOp a5 .Add b5 p28] [] p29) p30] [] p31,
   .For (.Name "_law_k" p32) (.Call (.Name "range" p33) [.Constant (.int 5) k3 p34,.Call h7 l7 w7 p35] [] p36) [s4,.If (.Compare (.Call (.Name "_law_said" p37) [.Name "_law_desk" p38,.Name "_law_row" p39] [] p40) [.NotEq] [.Tuple e1 k4 p41] p42) [r2] [] p43] [] p44,
   .If (.Compare (.Call (.Name "_law_said" p45) [.Name "_law_desk" p46,.Constant (.str "points") k5 p47] [] p48) [.NotEq] [.Tuple e2 k6 p49] p50) [r3] [] p51,
   s5,.If (.Compare (.Call (.Name "_law_said" p52) [.Name "_law_desk" p53,.Constant (.str "kind") k7 p54] [] p55) [.NotEq] [.Subscript t3 tc2 p56] p57) [r4] [] p58,
   .For (.Name "_law_k" p59) (.Call (.Name "range" p60) [.BinOp ι .Add b11 p61] [] p62) [.If (.Compare (.Subscript (.Call (.Name "_law_said" p63) [.Name "_law_desk" p64,.Constant (.str "undo") k8 p65] [] p66) (.Constant (.int 0) k9 p67) p68) [.NotEq] [.Constant (.str "told") k10 p69] p70) [r5] [] p71] [] p72,
   .Return (Aa (.BoolOp .And [.Compare (.Call (.Name "_law_said" p73) [.Name "_law_desk" p74,.Constant (.str "undo") k11 p75] [] p76) [.Eq] [.Tuple e4 k12 p77] p78,.Compare (.Call (.Name "_law_said" p79) [.Name "_law_desk" p80,.Constant (.str "points") k13 p81] [] p82) [.Eq] [.Tuple e5 k14 p83] p84] p85)) p86])
  (hln:((p20.endLine==p22.line)&&(p27.endLine==p29.line))=Ab)
  (vj:(xj ⟨AB st,yq++yo,fns,bl,rzs,exs,gls,Ab,Ab⟩ "Desk" && (xj ⟨AB st,yq++yo,fns,bl,rzs,exs,gls,Ab,Ab⟩ "_law_said" && vm ⟨AB st,yq++yo,fns,bl,rzs,exs,gls,Ab,Ab⟩ "range"))=Ab)
  (nc:FV x1=Ab)
  (hE:∀ p∈([(x1,c1),(.Constant (.str "undo") k1 p10,y0),(.BinOp a2 .Mod b2 p17,y1),(.BinOp a3 .Add b3 p21,y3),(.BinOp a5 .Add b5 p28,y5),(.Constant (.int 5) k3 p34,y6),(.Call h7 l7 w7 p35,y7),(.Name "_law_row" p39,y8),(.Constant (.str "points") k5 p47,y9),(.Constant (.str "kind") k7 p54,y10),(.BinOp ι .Add b11 p61,y11),(.Constant (.str "undo") k8 p65,y12),(.Constant (.str "undo") k11 p75,y13),(.Constant (.str "points") k13 p81,y14),(.Tuple e0 k2 p12,z0),(.Tuple e1 k4 p41,z1),(.Tuple e2 k6 p49,z2),(.Subscript t3 tc2 p56,z3),(.Tuple e4 k12 p77,z4),(.Tuple e5 k14 p83,z5)]:Ac (Aq×E)),Te ⟨AB st,yq++yo,fns,bl,rzs,exs,gls,Ab,Ab⟩ p.1 p.2)
  (hB:∀ p∈([(c2,y2),(tc1,y4)]:Ac (Aq×E)),Tb ⟨AB st,yq++yo,fns,bl,rzs,exs,gls,Ab,Ab⟩ p.1 p.2)
  (hS:∀ p∈([(s0,u0),(s1,u1),(s2,u2),(s3,u3),(s4,u4),(s5,u5)]:Ac (AT×S)),Ts ⟨AB st,yq++yo,fns,bl,rzs,exs,gls,Ab,Ab⟩ p.1 p.2)
  (MI:Mk K C fI) (mD:mg "Desk" = Aa (.ref C)) (bI:Cv K fId ["self", "p"] []) (FI:Y0 P w K mg base (CXR P w) n fI fId ["self", "p"] (spN C))
  (mS:mg "_law_said" = Aa (.ref fs)) (kS:AM K (.ref fs)=Ab) (bS:Cv K fsd ["_law_desk", "_law_row"] []) (FS:Y0 P w K mg base (CXR P w) (n+1) fs fsd ["_law_desk", "_law_row"] (Λ K CL C 1 GS))
  (my:zf K C "say" fy) (by':Cv K fyd ["self", "row"] []) (GY:Y0 P w K mg base (CXR P w) n fy fyd ["self", "row"] (xh K CL C 1 G))
  (hL:∀ ns:Ac Ai,ns.length<=63->∃ p,evE (Y7 Pg (n+1)) (Aa (.L (ns.map .int),Ad)::Bs 10 Ae) c1=.ok p/\P96 (Y7 Pg (n+1)) GS G [y0,y1,y2,y3,y4,y5,y6,y7,y8,y9,y10,y11,y12,y13,y14] [z0,z1,z2,z3,z4,z5] [u0,u1,u2,u3,u4,u5] (Aa (.L (ns.map .int),Ad)::Aa (p,Ad)::Aa (.O,Ab)::Bs 8 Ae) ⟨p,[],.O,[]⟩):
  Y0 P w K mg base (CXR P w) (n+1+1) f fd ["_law_script"] (OI K):=by
 obtain⟨oc,od,dV,kV,doc,pm,an,cdv,ct,osl,rfl,lk,ze⟩:=hf.ex;have sc:=tF hs;refine Hw lk ze sc.fs (λvs H Q E ⟨a,ns,e,z,_⟩=>by rw[e];rfl) λA outer s H vs Q Y_ hr ⟨a0,ns,e,RL,hS0,hq⟩=>?_
 subst e;rw[hb];have v:=ie (P:=P) (w:=w) (base:=base) (outer:=outer) (H:=H) (E:=Y_) t sc.fs hr;obtain⟨jt,nk⟩:=Be hln;obtain⟨jk,va⟩:=Be vj;obtain⟨va,hg4⟩:=Be va;obtain⟨gr,mr,_,_⟩:=Ht v hg4;simp only[List.forall_mem_cons,Bo,false_imp_iff,implies_true,and_true]at hE hB hS;obtain⟨i0,i1,i2,i3,i4,i5,i6,i7,i8,i9,i10,i11,i12,i13,j0,j1,j2,j3,j4,j5⟩:=hE;have pv:∀(i:Ag)(nm:Ah)(p:AH),(yq++yo)[i]?=Aa nm->nm∈yq->(nm==("__debug__" : Ah))=Ad->(nm==("__classdict__" : Ah))=Ad->PE (Bu (CXR P w) P w K mg base (yq++yo) qual (AB st) f cdv A outer s H Y_) (.Name nm p) (BS i):=λi nm p h hm d1 d2=>DF h ((sc.loc nm hm).imp_right .inl) d1 d2
 have pd:∀ p,PE (Bu (CXR P w) P w K mg base (yq++yo) qual (AB st) f cdv A outer s H Y_) (.Name "_law_desk" p) (BS 2):=λp=>pv 2 _ p rfl (by simp) rfl rfl
 have gD:Gl (Bu (CXR P w) P w K mg base (yq++yo) qual (AB st) f cdv A outer s H Y_) "Desk" := A2.mp jk;have gS:Gl (Bu (CXR P w) P w K mg base (yq++yo) qual (AB st) f cdv A outer s H Y_) "_law_said" := A2.mp va;have qd:∀{x:Aq}{c:E},Te ⟨AB st,yq++yo,fns,bl,rzs,exs,gls,Ab,Ab⟩ x c->SE (Bu (CXR P w) P w K mg base (yq++yo) qual (AB st) f cdv A outer s H Y_) CL (WE K CL Y_) x (λY=>evE (Y7 Pg (n+1)) Y c):=λ{x c} h=>(h.h v).se
 have á:∀{x:AT}{c:S},Ts ⟨AB st,yq++yo,fns,bl,rzs,exs,gls,Ab,Ab⟩ x c->PS (Bu (CXR P w) P w K mg base (yq++yo) qual (AB st) f cdv A outer s H Y_) x (xg K CL C 2 (Hx 2 λY=>yk (Y7 Pg (n+1)) Y c)):=λ{x c} h=>lM (h.h v ⟨λ_=>rfl,λ_=>rfl,λ_=>rfl,λ_=>rfl⟩)
 have SD:∀{x:Aq}{c:E}{p1 p2 p3:AH},Te ⟨AB st,yq++yo,fns,bl,rzs,exs,gls,Ab,Ab⟩ x c->At [.Name "_law_desk" p2,x] (Bu (CXR P w) P w K mg base (yq++yo) qual (AB st) f cdv A outer s H Y_).env=[(Ad,eval (.Name "_law_desk" p2) (Bu (CXR P w) P w K mg base (yq++yo) qual (AB st) f cdv A outer s H Y_).env),(Ad,eval x (Bu (CXR P w) P w K mg base (yq++yo) qual (AB st) f cdv A outer s H Y_).env)]->At [x] (Bu (CXR P w) P w K mg base (yq++yo) qual (AB st) f cdv A outer s H Y_).env=[(Ad,eval x (Bu (CXR P w) P w K mg base (yq++yo) qual (AB st) f cdv A outer s H Y_).env)]->PE (Bu (CXR P w) P w K mg base (yq++yo) qual (AB st) f cdv A outer s H Y_) (.Call (.Name "_law_said" p1) [.Name "_law_desk" p2,x] [] p3) (Î K CL C 2 GS λY=>evE (Y7 Pg (n+1)) Y c):=λ{x c p1 p2 p3} h st1 st2=>zC FS (v.room rfl) gS mS kS bS (v.px A0) (pd p2) (qd h) (by decide) st1 st2
 have SY:∀{x:Aq}{c:E}{p1 p2 p3 p4:AH},Te ⟨AB st,yq++yo,fns,bl,rzs,exs,gls,Ab,Ab⟩ x c->(p2.endLine==p3.line)=Ab->At [x] (Bu (CXR P w) P w K mg base (yq++yo) qual (AB st) f cdv A outer s H Y_).env=[(Ad,eval x (Bu (CXR P w) P w K mg base (yq++yo) qual (AB st) f cdv A outer s H Y_).env)]->DZ ([x].length+([]:Ac CK).length) (Br p3 (At [x] (Bu (CXR P w) P w K mg base (yq++yo) qual (AB st) f cdv A outer s H Y_).env)) (DY p3 (CO [] (Bu (CXR P w) P w K mg base (yq++yo) qual (AB st) f cdv A outer s H Y_).env))=Ab->PS (Bu (CXR P w) P w K mg base (yq++yo) qual (AB st) f cdv A outer s H Y_) (.Expr (.Call (.Attribute (.Name "_law_desk" p1) "say" p2) [x] [] p3) p4) (xg K CL C 2 (ME G λY=>evE (Y7 Pg (n+1)) Y c)):=λ{x c p1 p2 p3 p4} h hl st2 hf=>sY dc.cl my GY ((v.room rfl).mono (Jx n)) by' (v.px A0) (pd p1) (qd h) hl st2 hf rfl
 have FR:∀{b:Ac AT}{U_:Rho->Dk->Rho->Dk->Prop}{x:Aq}{c:E}{p1 p2 p3 p4:AH},Te ⟨AB st,yq++yo,fns,bl,rzs,exs,gls,Ab,Ab⟩ x c->At [x] (Bu (CXR P w) P w K mg base (yq++yo) qual (AB st) f cdv A outer s H Y_).env=[(Ad,eval x (Bu (CXR P w) P w K mg base (yq++yo) qual (AB st) f cdv A outer s H Y_).env)]->zc (Bu (CXR P w) P w K mg base (yq++yo) qual (AB st) f cdv A outer s H Y_) b (xg K CL C 2 U_)->PS (Bu (CXR P w) P w K mg base (yq++yo) qual (AB st) f cdv A outer s H Y_) (.For (.Name "_law_k" p1) (.Call (.Name "range" p2) [x] [] p3) b [] p4) (xg K CL C 2 (ML 4 (λ_=>.ok (.int 0)) (λY=>evE (Y7 Pg (n+1)) Y c) U_)):=λ{b U_ x c p1 p2 p3 p4} h st2 hb=>lL (v.own rfl) rfl gr mr (qd h) (Mo (i:=4) sc.fs.nd rfl (sc.loc "_law_k" (by simp)) (.inl rfl)) (by decide) hb st2
 have E1:=(i0.h v).se A0;refine⟨_,CF (G6 (i:=1) sc.fs.nd rfl (sc.loc "_law_p" (by simp)) E1 (Kj nc) (.inl rfl))
  (CF (G6 (i:=2) sc.fs.nd rfl (sc.loc "_law_desk" (by simp)) (kW MI FI (v.room rfl) gD mD bI .nil (v.px A0) (Bm (pv 1 _ p5 rfl (by simp) rfl rfl) B9 rfl)) rfl (.inl rfl)) (JE (Ol v.un (SD i1 rfl rfl) (qd j0) rfl) <| JE (á hS.1) <| JE (FR i2 rfl (Qw (á hS.2.1) (Nl (VN (hB.1.h v) (Qw (á hS.2.2.1) (Nl (SY i3 jt rfl rfl))) UR)))) <| sZ (i:=3) <| JE (á hS.2.2.2.1) <| JE (VN (hB.2.h v) (Nl (SY i4 nk rfl rfl)) UR) <|
  JE (lK (v.own rfl) rfl gr mr (qd i5) (qd i6) (Mo (i:=4) sc.fs.nd rfl (sc.loc "_law_k" (by simp)) (.inl rfl)) (by decide) (Qw (á hS.2.2.2.2.1) (Nl (Ol v.un (SD i7 rfl rfl) (qd j1) rfl)))) <| JE (Ol v.un (SD i8 rfl rfl) (qd j2) rfl) <| JE (á hS.2.2.2.2.2) <| JE (Ol v.un (SD i9 rfl rfl) (qd j3) rfl) <|
  JE (FR i10 rfl (Nl (lN v.un (SD i11 rfl rfl)))) <| DE (tD v.un (SD i12 rfl rfl) (qd j4) rfl (SD i13 rfl rfl) (qd j5) rfl))),?_⟩
 have rs:∀ l:Ac Ai,Y9 K CL H A0 (l.map V.int) (l.map D.int):=λl=>by
  induction l with
  |nil=>trivial
  |cons x l ih=>exact⟨rfl,ih⟩
 have r0:Y6 K CL H A0 (.ref a0) (.L (ns.map .int)):=⟨a0,_,rfl,.inl (λz=>z),hS0,rs ns⟩
 obtain⟨p,ũ,hp⟩:=hL ns RL;generalize (D.L (ns.map .int))=zx at r0 ũ hp;refine⟨λ_ z=>z.elim,Aa (zx,Ad)::Bs 10 Ae,jd K CL A0 H _ (Aa (.ref a0)::Bs 10 Ae) ⟨⟨rfl,_,rfl,r0⟩,trivial⟩,Hs ũ λvp H1 vo rp=>?_⟩
 refine⟨vp,rfl,λa dx na lq ned=>?_⟩
 refine⟨a,dx,vp,rfl,B1,λH2 l1 la n1 n2 n12 ha hl1' zb keep=>⟨rfl,?_⟩⟩
 have n1a:l1≠a:=λz=>by rw[z,B1]at n1;cases n1
 have n2a:la≠a:=λz=>by rw[z,B1]at n2;cases n2
 have n2d:la≠dx:=λz=>by rw[AW n2a,z,B1]at n2;cases n2
 have n2':H1 la=Ae:=by rw[AW n2a,AW n2d]at n2;exact n2
 have sm12:Aw H1 H2:=λb o e=>by
  have z1:b≠a:=Fe e na;have z2:b≠dx:=Fe e lq;exact keep b o (by rw[AW z1,AW z2];exact e) z1
 exact⟨a,la,_,_,_,_,vZ (k:=8) (r0.same vo) rp sm12 na n2' ha hl1' zb n1a n12 n2a.symm,hp,λH'=>hq _ H' rfl⟩
structure DA6 (K:Fg) (C fi fs fq fm fl fc fu fa:Ak):Prop where
 x:DA K C fi fs fl fc fu fa
 q:zf K C "curve_asked" fq
 k:zf K C "curve_made" fm
theorem da_mk6{C:Ak}(n1:A1 K AJ "Desk" = Aa (Aa (.ref C)))(i:Ap K (.ref C) "__init__" = Aa (Aa (.ref fi)))(a1:Ap K (.ref C) "say" = Aa (Aa (.ref fs)))(b1:Ap K (.ref C) "curve_asked" = Aa (Aa (.ref fq)))(b2:Ap K (.ref C) "curve_made" = Aa (Aa (.ref fm)))(a2:Ap K (.ref C) "list_changed" = Aa (Aa (.ref fl)))(a3:Ap K (.ref C) "changed" = Aa (Aa (.ref fc)))(a4:Ap K (.ref C) "undone" = Aa (Aa (.ref fu)))(a5:Ap K (.ref C) "list_asked" = Aa (Aa (.ref fa)))(pg:DX K C Do=Ab)(hd:Eg K C=Ab)(po:E3 K C=Ab)(sa:Ap K (.ref C) "__setattr__" = Aa (Aa (.builtin "object.__setattr__")))(np:Ap K (.ref C) "p" = Aa Ae)(nl:Ap K (.ref C) "points" = Aa Ae)(nc:Ap K (.ref C) "curve" = Aa Ae)(nh:Ap K (.ref C) "past" = Aa Ae)(mk:F4 K C=Ab)(kp:AM K (.ref C)=Ab)(f0:Bw K (.ref fi)=Ab)(f1:Bw K (.ref fs)=Ab)(f2:Bw K (.ref fl)=Ab)(f3:Bw K (.ref fc)=Ab)(f4:Bw K (.ref fu)=Ab)(f5:Bw K (.ref fa)=Ab)(k1:AM K (.ref fs)=Ab)(k2:AM K (.ref fl)=Ab)(k3:AM K (.ref fc)=Ab)(k4:AM K (.ref fu)=Ab)(k5:AM K (.ref fa)=Ab)(f6:Bw K (.ref fq)=Ab)(f7:Bw K (.ref fm)=Ab)(k6:AM K (.ref fq)=Ab)(k7:AM K (.ref fm)=Ab):DA6 K C fi fs fq fm fl fc fu fa:=
 ⟨gy n1 i a1 a2 a3 a4 a5 pg hd po sa np nl nc nh mk kp f0 f1 f2 f3 f4 f5 k1 k2 k3 k4 k5,⟨b1,f6,k6⟩,⟨b2,f7,k7⟩⟩
theorem cb(a0:OA K "Triple" C0 t0 s0 f)(a1:OA K "Point" C1 t1 s1 f)(a2:OA K "Line" C2 t2 s2 f):∀ c C,c<3->OC K c=Aa C->AM K (.ref C)=Ab:=λc C hc h=>by
  match c,hc with
  |0,_=>rw[Ia (by decide:0<3) a0.n]at h;cases h;exact a0.m.kp
  |1,_=>rw[Ia (by decide:1<3) a1.n]at h;cases h;exact a1.m.kp
  |2,_=>rw[Ia (by decide:2<3) a2.n]at h;cases h;exact a2.m.kp
end Ov
namespace OvC
open PySem Ov
variable{k:Ai}
def eV:Df:=⟨4,Ad,{.ret (.call 1 {.v 0,.B .Add (.B .Sub (.B .Mult (.idx (.v 1) (.int 0)) (.B .Sub (.B .Mult (.idx (.v 2) (.int 1)) (.idx (.v 3) (.int 2))) (.B .Mult (.idx (.v 2) (.int 2)) (.idx (.v 3) (.int 1))))) (.B .Mult (.idx (.v 1) (.int 1)) (.B .Sub (.B .Mult (.idx (.v 2) (.int 0)) (.idx (.v 3) (.int 2))) (.B .Mult (.idx (.v 2) (.int 2)) (.idx (.v 3) (.int 0)))))) (.B .Mult (.idx (.v 1) (.int 2)) (.B .Sub (.B .Mult (.idx (.v 2) (.int 0)) (.idx (.v 3) (.int 1))) (.B .Mult (.idx (.v 2) (.int 1)) (.idx (.v 3) (.int 0)))))})}⟩
noncomputable abbrev tr(a b c:Ai):D:=.H [.int a,.int b,.int c]
noncomputable def det(a0 a1 a2 b0 b1 b2 c0 c1 c2:Ai):Ai:=a0*(b1*c2-b2*c1)-a1*(b0*c2-b2*c0)+a2*(b0*c1-b1*c0)
def Sm(x:Ai):Prop:=0<=x/\x<11
theorem mo(h:Sm x)(y:Ai):FX x y=Ab:=Ni (by have:=h.1;omega) (by have:=h.2;omega)
theorem RT(I:Rho->Prop)(g:Ai->Ao):∀(L:Ac Ai),(∀ t∈L,∀ Y,I Y->(g t=Ab/\body (.int t) Y=.ret (.int t) Ad)\/(g t=Ad/\∃ Y',body (.int t) Y=.next Y'/\I Y'))->∀ Y,I Y->(∃ t∈L,g t=Ab/\El body (L.map D.int) Y=.ret (.int t) Ad)\/((∀ t∈L,g t=Ad)/\∃ Y',El body (L.map D.int) Y=.next Y'/\I Y')
 |[],_,Y,i=>.inr ⟨(λ_ h=>nomatch h),Y,rfl,i⟩
 |m::L,h,Y,i=>by
  rcases h m (AR ..) Y i with ⟨e1,e2⟩|⟨e1,Y',e2,i'⟩
  .refine .inl ⟨m,AR ..,e1,?_⟩;show (body (.int m) Y).turn _=_;rw[e2];rfl
  .rcases RT I g L (λm' h'=>h m' (Ay _ h')) Y' i' with ⟨t,ht,a,b⟩|⟨a,r,b,c⟩
   .refine .inl ⟨t,Ay _ ht,a,?_⟩;show (body (.int m) Y).turn _=_;rw[e2];exact b
   .refine .inr ⟨λt ht=>?_,r,?_,c⟩
    .rcases AE.mp ht with rfl|ht
     .exact e1
     .exact a t ht
    .show (body (.int m) Y).turn _=_;rw[e2];exact b
def Mh:Ss:={.ife (.cmp .Eq (.call 1 {.v 0,.B .Mult (.v 1) (.v 2)}) (.int 1)) {.ret (.v 2)} .nil}
def N2:Df:=⟨3,Ad,{.fors 2 (.rng2 (.int 1) (.v 0)) Mh,.rais 2 {.str (Af "a number with the rest 0 is not turned over")}}⟩
noncomputable def MN(p:Ai):Ac Ai:=(B2 (p-1).toNat).map fun(k:Ag)=>1+(k:Ai)
theorem Qj:t∈MN p↔1<=t/\t<p:=by
 unfold MN;rw[List.mem_map];constructor
 .rintro⟨k,hk,rfl⟩;have:=DT.mp hk;omega
 .rintro⟨h1,h2⟩;exact⟨(t-1).toNat,DT.mpr (by omega),by omega⟩
theorem gU(h:P4 p):Fp 1 p=.ok ((MN p).map D.int):=by
 rcases h with rfl|rfl|rfl|rfl<;>rfl
theorem nS:∀ p:Fin 12,(p.val=3\/p.val=5\/p.val=7\/p.val=11)->∀ r:Fin 12,r.val<p.val->r.val≠0->∃ t:Fin 12,1<=t.val/\t.val<p.val/\r.val*t.val%p.val=1:=by decide+kernel
theorem Np(h:P4 p)(hn:n%p≠0):∃ t,1<=t/\t<p/\n*t%p=1:=by
 have p0:0<p/\p<12:=by rcases h with rfl|rfl|rfl|rfl<;>decide
 obtain⟨q,rfl⟩:∃ q:Ag,p=q:=⟨p.toNat,by omega⟩
 have h0:=Bz n (b:=(q:Ai)) (by omega)
 have h1:=Bn n p0.1;obtain⟨r,hr⟩:∃ r:Ag,n%(q:Ai)=r:=⟨(n%(q:Ai)).toNat,by omega⟩
 obtain⟨t,t1,t2,t3⟩:=nS ⟨q,by omega⟩ (by rcases h with e|e|e|e<;>simp<;>omega) ⟨r,by omega⟩ (by show r<q;omega) (by show r≠0;omega)
 refine⟨(t.val:Ai),by omega,by show (t.val:Ai)<q;exact Int.ofNat_lt.mpr t2,?_⟩
 have e:((r*t.val%q:Ag):Ai)=1:=by rw[show r*t.val%q=1 from t3];rfl
 rw[<-e,Int.natCast_emod,Int.natCast_mul,<-hr];exact(BN n _ _).trans (by rw[BN (n%(q:Ai)) (t.val:Ai) (q:Ai),Bi n (Ce _)])
def KA(p n t:Ai):Prop:=1<=t/\t<p/\n*t%p=1
theorem SU(h1:KA p n t)(h2:KA p n u):t=u:=by
 have hp:1<p:=by have:=h1.1;have:=h1.2.1;omega
 have e:t%p=u%p:=by
  have a:t%p=t*(n*u)%p:=by rw[BN,h2.2.2,WV,Bi _ (Ce p)]
  have b:u%p=(n*t)*u%p:=by rw[BN (n*t) u p,h1.2.2,EN,Bi _ (Ce p)]
  rw[a,b]
  congr 1
  rw[<-Iy,He t n]
 rwa [BG (by have:=h1.1;omega) h1.2.1,BG (by have:=h2.1;omega) h2.2.1]at e
theorem Op(hp:P4 p)(hc:c%p≠0)(hx:x%p≠0):c*x%p≠0:=λz=>by
 obtain⟨t,_,_,e⟩:=Np hp hc;refine hx ?_;have e1:x%p=(c*t)*x%p:=by rw[BN (c*t) x p,e,EN,Bi _ (Ce p)]
 rw[e1,show c*t*x=t*(c*x) by rw[He c t,Iy],BN,z,WW,W2]
noncomputable def ED(p:Ai):Ac Ai->Am Ai
 |[]=>Ae
 |x::xs=>if x%p=0 then ED p xs else Aa (x%p)
theorem SN(hp:0<p):∀{xs:Ac Ai},ED p xs=Aa l->l%p≠0/\0<l/\l<p
 |[],h=>by cases h
 |x::xs,h=>by
  unfold ED at h;by_cases hx:x%p=0
  .rw[Au hx]at h;exact SN hp h
  .rw[AA hx]at h;cases h;have h0:=Bz x (b:=p) (by omega)
   have h1:=Bn x hp;exact⟨by rw[Bi _ (Ce p)];exact hx,by omega,h1⟩
theorem Qk(hp:P4 p)(hc:c%p≠0)(hf:∀ x,f x%p=c*x%p):∀ xs:Ac Ai,ED p (xs.map f)=(ED p xs).map λl=>c*l%p
 |[]=>rfl
 |x::xs=>by
  rw[BU];unfold ED;rw[hf x];by_cases hx:x%p=0
  .rw[Au hx,Au (by rw[BN,hx,WW,W2]),Qk hp hc hf xs]
  .rw[AA hx,AA (Op hp hc hx),Xr]
   congr 1
   rw[BN c (x%p),Bi _ (Ce p),<-BN]
noncomputable def ds(xs:Ac Ai):Ac D:=xs.map D.int
def FB(b:Ao)(xs:Ac Ai):D:=if b=Ab then .H (ds xs) else .L (ds xs)
theorem bT(b xs):DD (FB b xs)=.ok (ds xs):=by unfold FB;cases b<;>rfl
theorem PY:∀(xs:Ac Ai),(∀ x∈xs,g (.int x)=.ok Ab/\f (.int x)=.ok (.int (φ x)))->Cu g f (ds xs)=.ok (ds (xs.map φ))
 |[],_=>rfl
 |x::xs,h=>by
  obtain⟨h1,h2⟩:=h x (AR ..);show (g (.int x)).bind _=_;rw[h1,R.bind_ok,Au rfl,h2,R.bind_ok];show (Cu g f (ds xs)).bind _=_;rw[PY xs λy hy=>h y (Ay _ hy)]
  rfl
noncomputable def D8:E:=(.bl Ab)
def Po:E:=(.call 1 {.v 0,.v 5})
def Pm:E:=(.call 1 {.v 0,.B .Mult (.v 4) (.v 6)})
def Jg:Ss:={.ife (.cmp .NotEq (.v 3) (.int 0)) {.asg 4 Ad (.call 9 {.v 0,.v 3}),.ret (.bi .tuple {.comp Pm 6 (.e (.v 2)) D8})} .nil}
def NX:Df:=⟨7,Ad,{.asg 2 Ad (.comp Po 5 (.e (.v 1)) D8),.fors 3 (.e (.v 2)) Jg,.rais 3 {.str (Af "all the numbers have the rest 0")}}⟩
noncomputable def lc(p t:Ai)(xs:Ac Ai):Ac Ai:=xs.map λx=>t*(x%p)%p
abbrev own(xs:Ac Ai):Sl:=Aa (.L (ds xs),Ab)
theorem fL(hp:P4 p)(hc:c%p≠0)(hl:l%p≠0)(it:KA p l t)(hf:∀ x,f x%p=c*x%p)(xs:Ac Ai):∃ u,KA p (c*l%p) u/\lc p u (xs.map f)=lc p t xs:=by
 have h1:(c*l%p)%p≠0:=by rw[Bi _ (Ce p)];exact Op hp hc hl
 obtain⟨u,u1,u2,u3⟩:=Np hp h1;refine⟨u,⟨u1,u2,u3⟩,?_⟩;unfold lc;rw[F7];refine FN λx _=>?_
 show u*(f x%p)%p=t*(x%p)%p;have u4:c*l*u%p=1:=by rw[<-u3,BN (c*l%p) u p,Bi _ (Ce p),<-BN]
 have e1:u*(f x%p)%p=u*(c*x)%p:=by rw[hf,BN u (c*x%p) p,Bi _ (Ce p),<-BN]
 have e2:t*(x%p)%p=t*x%p:=by rw[BN t (x%p) p,Bi _ (Ce p),<-BN]
 have e3:u*(c*x)%p=(l*t)*(u*(c*x))%p:=by rw[BN (l*t) _ p,it.2.2,EN,Bi _ (Ce p)]
 have e4:t*x%p=(c*l*u)*(t*x)%p:=by rw[BN (c*l*u) _ p,u4,EN,Bi _ (Ce p)]
 rw[e1,e2,e3,e4]
 congr 1
 grind
def Cg(p x y:Ai):Prop:=x%p=y%p
theorem Cg.rfl:Cg p a a:=Eq.refl _
theorem Cg.of(h:a=b):Cg p a b:=by unfold Cg;rw[h]
theorem Cg.trans(h:Cg p a b)(g:Cg p b c):Cg p a c:=Eq.trans h g
theorem Cg.symm(h:Cg p a b):Cg p b a:=NQ h
theorem Cg.add(h:Cg p a b)(g:Cg p c d):Cg p (a+c) (b+d):=by unfold Cg at *;rw[WR,h,g,<-WR]
theorem Cg.sub(h:Cg p a b)(g:Cg p c d):Cg p (a-c) (b-d):=by unfold Cg at *;rw[WZ,h,g,<-WZ]
theorem Cg.mul(h:Cg p a b)(g:Cg p c d):Cg p (a*c) (b*d):=by unfold Cg at *;rw[BN,h,g,<-BN]
theorem P4.o1(h:P4 p):(1:Ai)%p≠0:=by rcases h with rfl|rfl|rfl|rfl<;>decide
abbrev R3:=Ai×Ai×Ai
variable{a:R3}
noncomputable def MQ(a:R3):D:=.L [.int a.1,.int a.2.1,.int a.2.2]
def Zo(a b c:R3):Ai:=det a.1 a.2.1 a.2.2 b.1 b.2.1 b.2.2 c.1 c.2.1 c.2.2
def yn(p:Ai)(a:R3):Prop:=(0<=a.1/\a.1<p)/\(0<=a.2.1/\a.2.1<p)/\(0<=a.2.2/\a.2.2<p)
theorem mM{ns:Ac Ai}(h0:0<=k)(h1:k<ns.length):Ee (ns.map D.int) k=.ok (.int (ns.getD k.toNat 0)):=Tu h0 (by
 have:k.toNat<ns.length:=by omega
 simp[this])
abbrev qw(a b c:R3):Sl:=Aa (.L [MQ a,MQ b,MQ c],Ab)
noncomputable def nine(a b c:R3):Ac Ai:=[a.1,a.2.1,a.2.2,b.1,b.2.1,b.2.2,c.1,c.2.1,c.2.2]
def Bd(n:Ag)(x:Ai):Prop:=x.natAbs<2 ^ n
def Az(q:Ao)(a:R3):D:=FB q [a.1,a.2.1,a.2.2]
def bM:Df:=⟨3,Ad,{.ife (.cmp .Eq (.call 61 {.v 0,.idx (.v 1) (.int 0),.idx (.v 1) (.int 1),.idx (.v 1) (.int 2)}) (.int 0)) {.rais 4 {.str (Af "the measure of the rows is 0")}} .nil,.asg 2 Ad (.call 17 {.v 0,.B .Add (.B .Add (.bi .list {.idx (.v 1) (.int 0)}) (.bi .list {.idx (.v 1) (.int 1)})) (.bi .list {.idx (.v 1) (.int 2)})}),.ret (.H {.sl (.v 2) .O (.int 3),.sl (.v 2) (.int 3) (.int 6),.sl (.v 2) (.int 6) .O})}⟩
def P6(J:J9):Prop:=∀ p n:Ai,P4 p->n%p≠0->∃ t,1<=t/\t<p/\n*t%p=1/\J.F 9 [.int p,.int n]=.ok (.int t)
def Ob(J:J9):Prop:=∀(p:Ai)(b:Ao)(xs:Ac Ai)(l t:Ai),P4 p->ED p xs=Aa l->KA p l t->J.F 17 [.int p,FB b xs]=.ok (.H (ds (lc p t xs)))
theorem cX(hr:Og J)(p n:Ai)(hp:P4 p)(z:n%p≠0):∃ t,1<=t/\t<p/\n*t%p=1/\N2.run J [.int p,.int n]=.ok (.int t):=by
 have p0:=hp.pos;have ph:=hp.hi;have body:∀ t∈MN p,∀ Y,(∃ s,Y=[si p,si n,s])->(decide (n*t%p=1)=Ab/\Ff J 2 Mh (.int t) Y=.ret (.int t) Ad)\/(decide (n*t%p=1)=Ad/\∃ Y',Ff J 2 Mh (.int t) Y=.next Y'/\∃ s,Y'=[si p,si n,s]):=by
  rintro t ht Y ⟨s,rfl⟩;obtain⟨t1,t2⟩:=Qj.mp ht;have m:FX n t=Ab:=Oe (by omega) (by omega)
  by_cases e:n*t%p=1
  .exact .inl ⟨by simp[e],by simp[Ff,Mh,hr p (n*t) p0,m,e]⟩
  .exact .inr ⟨by simp[e],_,by simp[Ff,Mh,hr p (n*t) p0,m,e];rfl,_,rfl⟩
 have run:∀ o,El (Ff J 2 Mh) ((MN p).map D.int) [si p,si n,Ae]=o->N2.run J [.int p,.int n]=(Ig J (.cons (.rais 2 (.cons (.str (Af "a number with the rest 0 is not turned over")) .nil)) .nil) o).ans Ad:=by
  rintro o rfl;simp[N2,Df.run,BX,gU hp]
 rcases RT (λY=>∃ s,Y=[si p,si n,s]) (λt=>decide (n*t%p=1)) (MN p) body [si p,si n,Ae] ⟨_,rfl⟩ with ⟨t,ht,a,b⟩|⟨a,r,b,s,rfl⟩
 .obtain⟨t1,t2⟩:=Qj.mp ht;have a':n*t%p=1:=by simpa using a
  exact⟨t,t1,t2,a',by rw[run _ b];rfl⟩
 .obtain⟨t,t1,t2,e⟩:=Np hp z;have:=a t (Qj.mpr ⟨t1,t2⟩);simp[e]at this
section
variable{xs:Ac Ai}{b:Ao}
theorem Tj(hr:Og J)(ht:P6 J)(hp:P4 p)(rs:Ac Ai):∀(ys:Ac Ai),(∀ y∈ys,0<=y/\y<p)->∀ s3,(ED p ys=Ae->∃ s3',El (Ff J 3 Jg) (ds ys) [si p,sh (FB b xs),sh (.L (ds rs)),s3,Ae,Ae,Ae]=.next [si p,sh (FB b xs),sh (.L (ds rs)),s3',Ae,Ae,Ae])/\(∀ l t,ED p ys=Aa l->KA p l t->El (Ff J 3 Jg) (ds ys) [si p,sh (FB b xs),sh (.L (ds rs)),s3,Ae,Ae,Ae]=.ret (.H (ds (rs.map λr=>t*r%p))) Ad)
 |[],_,s3=>⟨λ_=>⟨s3,rfl⟩,(λl t h=>nomatch h)⟩
 |y::ys,hy,s3=>by
  obtain⟨y0,y1⟩:=hy y (AR ..);have ym:y%p=y:=BG y0 y1;have ih:=Tj hr ht hp rs ys (λz hz=>hy z (Ay _ hz)) (si y)
  have step:∀ o,Ff J 3 Jg (.int y) [si p,sh (FB b xs),sh (.L (ds rs)),s3,Ae,Ae,Ae]=o->El (Ff J 3 Jg) (ds (y::ys)) [si p,sh (FB b xs),sh (.L (ds rs)),s3,Ae,Ae,Ae]=o.turn (El (Ff J 3 Jg) (ds ys)):=by
   rintro o rfl;rfl
  unfold ED;rw[ym];by_cases hz:y=0
  .have e:Ff J 3 Jg (.int y) [si p,sh (FB b xs),sh (.L (ds rs)),s3,Ae,Ae,Ae]=.next [si p,sh (FB b xs),sh (.L (ds rs)),si y,Ae,Ae,Ae]:=by
    simp[Ff,Jg,hz]
   rw[Au hz,step _ e];exact ih
  .rw[AA hz];refine⟨(λz=>nomatch z),λl t e it=>?_⟩
   cases e;obtain⟨u,u1,u2,u3,u4⟩:=ht p y hp (by rw[ym];exact hz)
   have:t=u:=SU it ⟨u1,u2,u3⟩;subst this;have p0:=hp.pos;have ph:=hp.hi;have cp:Cu (cG J [si p,sh (FB b xs),sh (.L (ds rs)),si y,si t,Ae,Ae] 6 D8) (cF J [si p,sh (FB b xs),sh (.L (ds rs)),si y,si t,Ae,Ae] 6 Pm) (ds rs)=.ok (ds (rs.map λr=>t*r%p)):=by
    refine PY rs λr _=>⟨rfl,?_⟩
    have m:FX t r=Ab:=Ni (by omega) (by omega)
    simp[cF,Pm,m,hr p (t*r) p0]
   have e:Ff J 3 Jg (.int y) [si p,sh (FB b xs),sh (.L (ds rs)),s3,Ae,Ae,Ae]=.ret (.H (ds (rs.map λr=>t*r%p))) Ad:=by
    simp[Ff,Jg,hz,u4,cp]
   rw[step _ e];rfl
theorem kG(hr:Og J)(ht:P6 J)(hp:P4 p)(e:ED p xs=Aa l)(it:KA p l t):NX.run J [.int p,FB b xs]=.ok (.H (ds (lc p t xs))):=by
 have p0:=hp.pos;have cp:Cu (cG J [si p,sh (FB b xs),Ae,Ae,Ae,Ae,Ae] 5 D8) (cF J [si p,sh (FB b xs),Ae,Ae,Ae,Ae,Ae] 5 Po) (ds xs)=.ok (ds (xs.map λx=>x%p)):=by
  refine PY xs λx _=>⟨rfl,?_⟩
  simp[cF,Po,hr p x p0]
 have run:∀ o,El (Ff J 3 Jg) (ds (xs.map λx=>x%p)) [si p,sh (FB b xs),sh (.L (ds (xs.map λx=>x%p))),Ae,Ae,Ae,Ae]=o->NX.run J [.int p,FB b xs]=(Ig J (.cons (.rais 3 (.cons (.str (Af "all the numbers have the rest 0")) .nil)) .nil) o).ans Ad:=by
  rintro o rfl;simp[NX,Df.run,BX,bT,cp]
 have le:ED p (xs.map λx=>x%p)=ED p xs:=by
  have:=Qk (c:=1) hp (by rcases hp with rfl|rfl|rfl|rfl<;>decide) (f:=λx=>x%p) (λx=>by rw[EN,Bi _ (Ce p)]) xs
  rw[this];cases e:ED p xs with
  |none=>rfl
  |some l=>
   obtain⟨_,l0,l1⟩:=SN p0 e;simp[BG (Int.le_of_lt l0) l1]
 obtain⟨a,c⟩:=Tj (b:=b) (xs:=xs) hr ht hp (xs.map λx=>x%p) (xs.map λx=>x%p) (λy hy=>by
  obtain⟨x,_,rfl⟩:=F8.mp hy;exact⟨Bz _ (by omega),Bn _ p0⟩) Ae
 rw[le]at a c;rw[run _ (c l t e it)];simp[lc,F7,Function.comp_def]
end
theorem QO(q:Ao)(a:R3):DD (Az q a)=.ok [.int a.1,.int a.2.1,.int a.2.2]:=by cases q<;>rfl
noncomputable def O7(a b c:R3):R3:=(a.1,b.1,c.1)
noncomputable def O6(a b c:R3):R3:=(a.2.1,b.2.1,c.2.1)
noncomputable def O5(a b c:R3):R3:=(a.2.2,b.2.2,c.2.2)
def eX:Df:=⟨1,Ad,{.ret (.tupI (.zip3 (.idx (.v 0) (.int 0)) (.idx (.v 0) (.int 1)) (.idx (.v 0) (.int 2))))}⟩
noncomputable def Kt(a x:R3):Ai:=a.1*x.1+a.2.1*x.2.1+a.2.2*x.2.2
def aO:E:=(.call 1 {.v 0,.B .Add (.B .Add (.B .Mult (.idx (.v 3) (.int 0)) (.idx (.v 2) (.int 0))) (.B .Mult (.idx (.v 3) (.int 1)) (.idx (.v 2) (.int 1)))) (.B .Mult (.idx (.v 3) (.int 2)) (.idx (.v 2) (.int 2)))})
def eS:Df:=⟨4,Ad,{.ret (.bi .tuple {.comp aO 3 (.e (.v 1)) D8})}⟩
noncomputable def m7(a b:R3):R3:=(a.2.1*b.2.2-a.2.2*b.2.1,a.2.2*b.1-a.1*b.2.2,a.1*b.2.1-a.2.1*b.1)
theorem Uv:∀ xs ys:Ac Ai,zw (ds xs) (ds ys)=decide (xs=ys)
 |[],[]=>rfl
 |[],_::_=>rfl
 |_::_,[]=>rfl
 |x::xs,y::ys=>by
  show ((x==y)&&zw (ds xs) (ds ys))=_;rw[Uv xs ys,EF];simp
theorem Vi(a b:R3):J0 (Az Ab a) (Az Ab b)=decide (a=b):=by
 show zw (ds [a.1,a.2.1,a.2.2]) (ds [b.1,b.2.1,b.2.2])=_;rw[Uv,EF];simp only[List.cons.injEq,and_true,Bh];exact⟨λ⟨h1,h2,h3⟩=>by obtain⟨a1,a2,a3⟩:=a;obtain⟨b1,b2,b3⟩:=b;simp at h1 h2 h3;rw[h1,h2,h3],λh=>by rw[h];exact⟨rfl,rfl,rfl⟩⟩
def eW:Df:=⟨2,Ad,{.ife (.cmp .Eq (.v 0) (.v 1)) {.rais 7 {.v 0}} .nil,.ret (.H {.B .Sub (.B .Mult (.idx (.v 0) (.int 1)) (.idx (.v 1) (.int 2))) (.B .Mult (.idx (.v 0) (.int 2)) (.idx (.v 1) (.int 1))),.B .Sub (.B .Mult (.idx (.v 0) (.int 2)) (.idx (.v 1) (.int 0))) (.B .Mult (.idx (.v 0) (.int 0)) (.idx (.v 1) (.int 2))),.B .Sub (.B .Mult (.idx (.v 0) (.int 0)) (.idx (.v 1) (.int 1))) (.B .Mult (.idx (.v 0) (.int 1)) (.idx (.v 1) (.int 0)))})}⟩
def Z1:Df:=⟨1,Ad,{.ret (.H {.call 23 {.idx (.v 0) (.int 1),.idx (.v 0) (.int 2)},.call 23 {.idx (.v 0) (.int 2),.idx (.v 0) (.int 0)},.call 23 {.idx (.v 0) (.int 0),.idx (.v 0) (.int 1)}})}⟩
def aN:Df:=⟨2,Ad,{.ret (.call 78 {.v 0,.call 104 {.call 98 {.v 1}}})}⟩
def qf(a b c:R3):R3:=O7 (m7 b c) (m7 c a) (m7 a b)
def kx(a b c:R3):R3:=O6 (m7 b c) (m7 c a) (m7 a b)
def ky(a b c:R3):R3:=O5 (m7 b c) (m7 c a) (m7 a b)
def bQ:E:=(.call 91 {.v 0,.v 3,.v 4})
def oQ:Df:=⟨5,Ad,{.asg 3 Ad (.call 104 {.v 2}),.ret (.call 78 {.v 0,.comp bQ 4 (.e (.v 1)) D8})}⟩
noncomputable def bD:E:=(.B .Mult (.v 0) (.v 2))
def iD:Df:=⟨3,Ad,{.ret (.comp bD 2 (.e (.v 1)) D8)}⟩
noncomputable def JP(k:Ai)(a:R3):R3:=(k*a.1,k*a.2.1,k*a.2.2)
def aF:Df:=⟨3,Ad,{.asg 2 Ad (.H {.call 110 {.call 61 {.v 0,.idx (.v 1) (.int 3),.idx (.v 1) (.int 1),.idx (.v 1) (.int 2)},.idx (.v 1) (.int 0)},.call 110 {.call 61 {.v 0,.idx (.v 1) (.int 0),.idx (.v 1) (.int 3),.idx (.v 1) (.int 2)},.idx (.v 1) (.int 1)},.call 110 {.call 61 {.v 0,.idx (.v 1) (.int 0),.idx (.v 1) (.int 1),.idx (.v 1) (.int 3)},.idx (.v 1) (.int 2)}}),.ret (.call 78 {.v 0,.call 104 {.v 2}})}⟩
def fk0(p:Ai)(a b c d:R3):Ai:=Zo d b c%p
def fs0(p:Ai)(a b c d:R3):R3:=JP (fk0 p a b c d) a
def ZY:Ss:={.ife (.cmp .Eq (.call 61 {.v 0,.v 3,.idx (.v 1) (.v 4),.idx (.v 1) (.v 5)}) (.int 0)) {.ret (.H {.v 3,.idx (.v 1) (.v 4),.idx (.v 1) (.v 5)})} .nil}
def ZX:Ss:={.fors 5 (.rng2 (.B .Add (.v 4) (.int 1)) (.bi .len {.v 1})) ZY}
def ZW:Ss:=(.cons (.fors 4 (.rng2 (.B .Add (.v 2) (.int 1)) (.bi .len (.cons (.v 1) .nil))) ZX) .nil)
def aG:Df:=⟨6,Ad,{.forT [2,3] (.enm (.v 1)) ZW,.ret .O}⟩
def Z2:Df:=⟨3,Ad,{.asg 2 Ad (.call 65 {.v 0,.v 1}),.ife (.cmp .IsNot (.v 2) .O) {.rais 18 {.v 2}} .nil}⟩
def aR:Df:=⟨3,Ad,{.ife (.or {.cmp .NotEq (.bi .len {.v 1}) (.int 4),.cmp .NotEq (.bi .len {.v 2}) (.int 4)}) {.rais 13 {.str (Af "a frame has four points")}} .nil,.expr (.call 109 {.v 0,.v 1}),.expr (.call 109 {.v 0,.v 2}),.ret (.call 105 {.v 0,.call 111 {.v 0,.v 2},.call 106 {.v 0,.call 111 {.v 0,.v 1}}})}⟩
def wy(p:Ai)(x y:R3):Prop:=Cg p x.1 y.1/\Cg p x.2.1 y.2.1/\Cg p x.2.2 y.2.2
theorem wy.rfl:wy p a a:=⟨Cg.rfl,Cg.rfl,Cg.rfl⟩
theorem wy.of(h:a=b):wy p a b:=by rw[h];exact wy.rfl
theorem wy.trans(h:wy p a b)(g:wy p b c):wy p a c:=⟨h.1.trans g.1,h.2.1.trans g.2.1,h.2.2.trans g.2.2⟩
theorem wy.symm(h:wy p a b):wy p b a:=⟨h.1.symm,h.2.1.symm,h.2.2.symm⟩
theorem wy.sc(hk:Cg p k k')(h:wy p a b):wy p (JP k a) (JP k' b):=⟨hk.mul h.1,hk.mul h.2.1,hk.mul h.2.2⟩
def ap(a b c x:R3):R3:=(Kt a x,Kt b x,Kt c x)
theorem VO(k l:Ai)(x:R3):JP k (JP l x)=JP (k*l) x:=by
 unfold JP;simp only[Iy]
theorem fF(a b:R3):Kt a b=Kt b a:=by unfold Kt;grind
def aH:E:=(.call 1 {.v 0,.v 3})
def bP:Df:=⟨4,Ad,{.asg 2 Ad (.comp aH 3 (.e (.v 1)) D8),.ife (.no (.bi .any {.v 2})) {.rais 5 {.str (Af "all six numbers have the rest 0")}} .nil,.ret (.call 17 {.v 0,.v 2})}⟩
def aE:Df:=⟨1,Ad,{.ret (.call 122 {.v 0,.H {.int 0,.int 1,.int 0,.int 0,.un .USub (.int 1),.int 0}})}⟩
set_option genInjectivity true in
structure C6 where
 c0:Ai
 c1:Ai
 c2:Ai
 c3:Ai
 c4:Ai
 c5:Ai
noncomputable def C6.l(C:C6):Ac Ai:=[C.c0,C.c1,C.c2,C.c3,C.c4,C.c5]
def MR(C:C6):D:=.H (ds C.l)
noncomputable def vI(C:C6)(x:R3):Ai:=C.c0*x.1*x.1+C.c1*x.2.1*x.2.1+C.c2*x.2.2*x.2.2+(C.c3*x.1*x.2.1+C.c4*x.1*x.2.2+C.c5*x.2.1*x.2.2)
noncomputable def Ξ(C:C6):R3:=(2*C.c0,C.c3,C.c4)
noncomputable def Τ(C:C6):R3:=(C.c3,2*C.c1,C.c5)
noncomputable def Υ(C:C6):R3:=(C.c4,C.c5,2*C.c2)
def bI(C:C6)(x y:R3):Ai:=Kt (ap (Ξ C) (Τ C) (Υ C) x) y
noncomputable def uf(k:Ai)(C:C6):C6:=⟨k*C.c0,k*C.c1,k*C.c2,k*C.c3,k*C.c4,k*C.c5⟩
def ww(p:Ai)(C D:C6):Prop:=Cg p C.c0 D.c0/\Cg p C.c1 D.c1/\Cg p C.c2 D.c2/\Cg p C.c3 D.c3/\Cg p C.c4 D.c4/\Cg p C.c5 D.c5
def pb(C:C6)(a b c:R3):C6:=⟨vI C (O7 a b c),vI C (O6 a b c),vI C (O5 a b c),bI C (O7 a b c) (O6 a b c),bI C (O7 a b c) (O5 a b c),bI C (O6 a b c) (O5 a b c)⟩
section
variable{D E:C6}
theorem ww.rfl:ww p C C:=⟨Cg.rfl,Cg.rfl,Cg.rfl,Cg.rfl,Cg.rfl,Cg.rfl⟩
theorem ww.of(h:C=D):ww p C D:=by rw[h];exact ww.rfl
theorem ww.symm(h:ww p C D):ww p D C:=⟨h.1.symm,h.2.1.symm,h.2.2.1.symm,h.2.2.2.1.symm,h.2.2.2.2.1.symm,h.2.2.2.2.2.symm⟩
theorem ww.trans(h:ww p C D)(g:ww p D E):ww p C E:=⟨h.1.trans g.1,h.2.1.trans g.2.1,h.2.2.1.trans g.2.2.1,h.2.2.2.1.trans g.2.2.2.1,h.2.2.2.2.1.trans g.2.2.2.2.1,h.2.2.2.2.2.trans g.2.2.2.2.2⟩
theorem ww.sc(hk:Cg p k k')(h:ww p C D):ww p (uf k C) (uf k' D):=⟨hk.mul h.1,hk.mul h.2.1,hk.mul h.2.2.1,hk.mul h.2.2.2.1,hk.mul h.2.2.2.2.1,hk.mul h.2.2.2.2.2⟩
theorem US(k l:Ai)(C:C6):uf k (uf l C)=uf (k*l) C:=by
 unfold uf;simp only[Iy]
theorem lO(C:C6):uf 1 C=C:=by unfold uf;simp only[EN]
def gV(p:Ai)(C D:C6):Prop:=∃ d,d%p≠0/\ww p C (uf d D)
theorem gV.trans(hp:P4 p)(i:gV p C D)(j:gV p D E):gV p C E:=by
 obtain⟨d,dz,e⟩:=i;obtain⟨d',dz',e'⟩:=j;exact⟨d*d',Op hp dz dz',e.trans ((ww.sc Cg.rfl e').trans (ww.of (US _ _ _)))⟩
theorem uE(hp:P4 p)(dz:k%p≠0):∃ u,u%p≠0/\Cg p (u*k) 1:=by
 obtain⟨u,u1,u2,u3⟩:=Np hp dz;refine⟨u,by rw[BG (by omega) u2];omega,?_⟩
 show u*k%p=1%p;rw[He,u3,BG (by decide) (by have:=hp.lo;omega)]
theorem gV.symm(hp:P4 p)(i:gV p C D):gV p D C:=by
 obtain⟨d,dz,e⟩:=i;obtain⟨u,uz,o⟩:=uE hp dz;refine⟨u,uz,?_⟩;have q:=ww.sc (k:=u) (k':=u) Cg.rfl e;rw[US]at q;exact(q.trans ((ww.sc o ww.rfl).trans (ww.of (lO D)))).symm
end
def oM:Df:=⟨5,Ad,{.asg 3 Ad (.B .Add (.B .Add (.B .Mult (.B .Mult (.idx (.v 1) (.int 0)) (.idx (.v 2) (.int 0))) (.idx (.v 2) (.int 0))) (.B .Mult (.B .Mult (.idx (.v 1) (.int 1)) (.idx (.v 2) (.int 1))) (.idx (.v 2) (.int 1)))) (.B .Mult (.B .Mult (.idx (.v 1) (.int 2)) (.idx (.v 2) (.int 2))) (.idx (.v 2) (.int 2)))),.asg 4 Ad (.B .Add (.B .Add (.B .Mult (.B .Mult (.idx (.v 1) (.int 3)) (.idx (.v 2) (.int 0))) (.idx (.v 2) (.int 1))) (.B .Mult (.B .Mult (.idx (.v 1) (.int 4)) (.idx (.v 2) (.int 0))) (.idx (.v 2) (.int 2)))) (.B .Mult (.B .Mult (.idx (.v 1) (.int 5)) (.idx (.v 2) (.int 1))) (.idx (.v 2) (.int 2)))),.ret (.call 1 {.v 0,.B .Add (.v 3) (.v 4)})}⟩
def Z9:Df:=⟨2,Ad,{.ret (.H {.H {.call 1 {.v 0,.B .Mult (.int 2) (.idx (.v 1) (.int 0))},.idx (.v 1) (.int 3),.idx (.v 1) (.int 4)},.H {.idx (.v 1) (.int 3),.call 1 {.v 0,.B .Mult (.int 2) (.idx (.v 1) (.int 1))},.idx (.v 1) (.int 5)},.H {.idx (.v 1) (.int 4),.idx (.v 1) (.int 5),.call 1 {.v 0,.B .Mult (.int 2) (.idx (.v 1) (.int 2))}}})}⟩
def bN:Df:=⟨3,Ad,{.asg 2 Ad (.call 131 {.v 0,.v 1}),.ret (.cmp .NotEq (.call 61 {.v 0,.idx (.v 2) (.int 0),.idx (.v 2) (.int 1),.idx (.v 2) (.int 2)}) (.int 0))}⟩
theorem ix6(C:C6):D4 (MR C) (.int 0)=.ok (.int C.c0)/\D4 (MR C) (.int 1)=.ok (.int C.c1)/\D4 (MR C) (.int 2)=.ok (.int C.c2)/\D4 (MR C) (.int 3)=.ok (.int C.c3)/\D4 (MR C) (.int 4)=.ok (.int C.c4)/\D4 (MR C) (.int 5)=.ok (.int C.c5):=⟨rfl,rfl,rfl,rfl,rfl,rfl⟩
noncomputable def t0(p:Ai)(C:C6):R3:=(2*C.c0%p,C.c3,C.c4)
noncomputable def t1(p:Ai)(C:C6):R3:=(C.c3,2*C.c1%p,C.c5)
noncomputable def t2(p:Ai)(C:C6):R3:=(C.c4,C.c5,2*C.c2%p)
def Pr(p:Ai)(x y:R3):Prop:=∃ d,d%p≠0/\wy p x (JP d y)
theorem tE(x:R3):JP 1 x=x:=by unfold JP;simp only[EN]
theorem Pr.trans(hp:P4 p)(i:Pr p x y)(j:Pr p y z):Pr p x z:=by
 obtain⟨d,dz,e⟩:=i;obtain⟨d',dz',e'⟩:=j;exact⟨d*d',Op hp dz dz',e.trans ((wy.sc Cg.rfl e').trans (wy.of (VO _ _ _)))⟩
theorem Pr.symm(hp:P4 p)(i:Pr p x y):Pr p y x:=by
 obtain⟨d,dz,e⟩:=i;obtain⟨u,u1,u2,u3⟩:=Np hp dz;have uz:u%p≠0:=by rw[BG (by omega) u2];omega
 have o:Cg p (u*d) 1:=by
  show u*d%p=1%p;rw[He,u3,BG (by decide) (by have:=hp.lo;omega)]
 refine⟨u,uz,?_⟩;have q:=wy.sc (k:=u) (k':=u) Cg.rfl e;rw[VO]at q;exact(q.trans ((wy.sc o wy.rfl).trans (wy.of (tE y)))).symm
noncomputable def tri(g:R3):Ac Ai:=[g.1,g.2.1,g.2.2]
def L3(a b c:R3):Ac D:=[MQ a,MQ b,MQ c]
def Oh(J:J9)(mid:Ag)(ns:Ac Ai):Prop:=∀ k:Ai,0<=k->∃ m,0<=m/\J.F mid [zx ns,.int k]=.ok (.int m)
theorem vB(h:1<p):ED p [0,0,1]=Aa 1:=by
 simp[ED,BG (by decide:(0:Ai)<=1) h]
theorem bw(h:1<p)(z:Ai):ED p [0,1,z]=Aa 1:=by
 simp[ED,BG (by decide:(0:Ai)<=1) h]
theorem Zd(h:1<p)(y z:Ai):ED p [1,y,z]=Aa 1:=by
 simp[ED,BG (by decide:(0:Ai)<=1) h]
def cw:Df:=⟨3,Ad,{.ret (.call 17 {.v 0,.call 91 {.v 0,.v 1,.v 2}})}⟩
def bG:Df:=⟨2,Ad,{.ife (.no (.call 136 {.v 0,.v 1})) {.rais 14 {.str (Af "the curve is not whole")}} .nil}⟩
def aD:Df:=⟨2,Ad,{.expr (.call 147 {.v 0,.v 1}),.ret (.call 78 {.v 0,.call 131 {.v 0,.v 1}})}⟩
def oO:Df:=⟨3,Ad,{.ret (.call 92 {.v 0,.call 148 {.v 0,.v 1},.v 2})}⟩
def vQ:Df:=⟨3,Ad,{.ret (.call 92 {.v 0,.call 106 {.v 0,.call 148 {.v 0,.v 1}},.v 2})}⟩
def vR:Df:=⟨3,Ad,{.ret (.call 17 {.v 0,.call 23 {.v 1,.v 2}})}⟩
def NF(p:Ai)(x:R3):Prop:=yn p x/\ED p (tri x)=Aa 1
noncomputable def n8(p n:Ai):R3:=if n=0 then (0,0,1) else if n<=p then (0,1,n-1) else (1,(n-p-1)/p,(n-p-1)%p)
theorem yY(hp:P4 p)(h0:0<=n)(h1:n<p*p+p+1):NF p (n8 p n):=by
 have p1:1<p:=by have:=hp.lo;omega
 have p0:=hp.pos;unfold n8;by_cases z:n=0
 .rw[Au z];exact⟨⟨⟨by decide,p0⟩,⟨by decide,p0⟩,⟨by decide,p1⟩⟩,vB p1⟩
 .rw[AA z];by_cases z1:n<=p
  .rw[Au z1];exact⟨⟨⟨WT 0,p0⟩,⟨(by decide:(0:Ai)<=1),p1⟩,⟨by show 0<=n-1;omega,by show n-1<p;omega⟩⟩,bw p1 _⟩
  .rw[AA z1];have d0:0<=(n-p-1)/p:=WS (by omega) (by omega)
   have d1:(n-p-1)/p<p:=by rw[Int.ediv_lt_iff_lt_mul p0];omega
   exact⟨⟨⟨(by decide:(0:Ai)<=1),p1⟩,⟨d0,d1⟩,⟨Bz _ (by omega),Bn _ p0⟩⟩,Zd p1 _ _⟩
noncomputable def nrm(p:Ai)(r:R3):R3:=open Classical in if h:∃ y,NF p y/\Pr p y r then IX h else r
noncomputable def q4(w:Ag)(k:Ai)(y:R3):Ai:=match w with
  |0=>y.1*y.2.2-y.2.1*y.2.1
  |1=>y.1*y.1
  |2=>y.1*y.2.1
  |_=>y.1*y.1-k*(y.2.1*y.2.1)
noncomputable def Ó(p:Ai)(w:Ag):Ag:=match w with
  |0=>(p+1).toNat
  |1=>(p+1).toNat
  |2=>(2*p+1).toNat
  |_=>1
def aL:Ss:={.app 1 (.H {.int 0,.int 1,.v 2})}
def aM:E:=(.H {.int 1,.v 3,.v 4})
def aK:Ss:={.ext 1 (.comp aM 4 (.rng (.v 0)) D8)}
def eQ:Df:=⟨5,Ab,{.asg 1 Ab (.L {.H {.int 0,.int 0,.int 1}}),.fors 2 (.rng (.v 0)) aL,.fors 3 (.rng (.v 0)) aK,.ret (.v 1)}⟩
def Z0:E:=(.cmp .Eq (.call 126 {.v 0,.v 1,.v 2}) (.int 0))
noncomputable def NT:E:=(.v 2)
def bE:Df:=⟨3,Ab,{.ret (.comp NT 2 (.e (.call 69 {.v 0})) Z0)}⟩
noncomputable def sp7:Ah:=Af " "
noncomputable def dg(n:Ag):Ah:=if n<10 then ⟨#[48+n]⟩ else ⟨#[49,48]⟩
theorem qN:∀ n:Ag,n<11->Af (toString (n:Ai))=dg n:=by decide+kernel
noncomputable def br0(s:Ao):Ah:=if s=Ab then Af "[" else Af "("
noncomputable def br1(s:Ao):Ah:=if s=Ab then Af "]" else Af ")"
def jn(a b c:Ag):Ah:=ER sp7 [dg a,dg b,dg c]
def tx(s:Ao)(a b c:Ag):Ah:=br0 s++jn a b c++br1 s
def Sg(u:Ah):Prop:=(∃ x,u=⟨#[x]⟩)\/∃ x y,u=⟨#[x,y]⟩
theorem Ri(a:Ag):Sg (dg a):=by
 unfold dg;by_cases h:a<10
 .rw[Au h];exact .inl ⟨_,rfl⟩
 .rw[AA h];exact .inr ⟨_,_,rfl⟩
structure JF (u v w:Ah):Prop where
 jo:KZ sp7 [u,v,w]=Ab
 ln:(ER sp7 [u,v,w]).length<=10
 cut:∀ b d:Ag,Kw ((⟨#[b]⟩:Ah)++ER sp7 [u,v,w]++⟨#[d]⟩) (Aa 1) (Aa (-1))=ER sp7 [u,v,w]
 tl:∀ b d:Ag,((⟨#[b]⟩:Ah)++ER sp7 [u,v,w]++⟨#[d]⟩).length<=20
 i0:∀ b d:Ag,D4 (.str ((⟨#[b]⟩:Ah)++ER sp7 [u,v,w]++⟨#[d]⟩)) (.int 0)=.ok (.str ⟨#[b]⟩)
 i1:∀ b d:Ag,D4 (.str ((⟨#[b]⟩:Ah)++ER sp7 [u,v,w]++⟨#[d]⟩)) (.int (-1))=.ok (.str ⟨#[d]⟩)
theorem jf(hu:Sg u)(hv:Sg v)(hw:Sg w):JF u v w:=by
 rcases hu with ⟨x,rfl⟩|⟨x,x',rfl⟩<;>rcases hv with ⟨y,rfl⟩|⟨y,y',rfl⟩<;>rcases hw with ⟨z,rfl⟩|⟨z,z',rfl⟩ <;>
  exact⟨by kernel_rfl,AK (by kernel_rfl),λb d=>by kernel_rfl,λb d=>AK (by kernel_rfl),λb d=>by kernel_rfl,λb d=>by kernel_rfl⟩
theorem oS(s:Ao):∃ b,br0 s=⟨#[b]⟩:=by
 cases s with
 |false=>exact⟨40,by kernel_rfl⟩
 |true=>exact⟨91,by kernel_rfl⟩
theorem oR(s:Ao):∃ b,br1 s=⟨#[b]⟩:=by
 cases s with
 |false=>exact⟨41,by kernel_rfl⟩
 |true=>exact⟨93,by kernel_rfl⟩
theorem xJ(h:En x y=l)(hl:l.length=3)(hx:x.length<=20):JO x y=Ab:=by
 unfold En at h;have no:¬ ([x]=l):=λz=>by rw[<-z]at hl;simp at hl
 by_cases h1:(decide (x.length<y.length)||decide (FO x<FO y))=Ab
 .rw[Au h1]at h;exact absurd h no
 .rw[AA h1]at h;by_cases h2:(EA x y 0 x.length (x.length+1)).isEmpty=Ab
  .rw[Au h2]at h;exact absurd h no
  .rw[AA h2]at h;unfold JO;rw[h,hl,As];exact⟨Gp.mpr (by omega),rfl⟩
def HZ(a:Ag):Ao:=(B2 11).all λb=>(B2 11).all λc=>En (jn a b c) sp7==[dg a,dg b,dg c]
theorem tA0:HZ 0=Ab:=by decide+kernel
theorem tA1:HZ 1=Ab:=by decide+kernel
theorem tA2:HZ 2=Ab:=by decide+kernel
theorem tA3:HZ 3=Ab:=by decide+kernel
theorem tA4:HZ 4=Ab:=by decide+kernel
theorem tA5:HZ 5=Ab:=by decide+kernel
theorem tA6:HZ 6=Ab:=by decide+kernel
theorem tA7:HZ 7=Ab:=by decide+kernel
theorem tA8:HZ 8=Ab:=by decide+kernel
theorem tA9:HZ 9=Ab:=by decide+kernel
theorem ZB:HZ 10=Ab:=by decide+kernel
theorem yC:∀ a:Ag,a<11->HZ a=Ab
 |0,_=>tA0
 |1,_=>tA1
 |2,_=>tA2
 |3,_=>tA3
 |4,_=>tA4
 |5,_=>tA5
 |6,_=>tA6
 |7,_=>tA7
 |8,_=>tA8
 |9,_=>tA9
 |10,_=>ZB
 |n+11,h=>absurd h (by omega)
def Mg:E:=(.bi .str {.v 1})
def Qd:Df:=⟨2,Ad,{.ret (.bi .sjoin {.str (Af " "),.comp Mg 1 (.e (.v 0)) D8})}⟩
def NS:Ss:={.ife (.cmp .Eq (.v 1) (.bi .str {.v 2})) {.ret (.v 2)} .nil}
def N1:Df:=⟨3,Ad,{.fors 2 (.rng (.v 0)) NS,.ret .O}⟩
def Pt:E:=(.call 33 {.v 0,.v 3})
def N4:Df:=⟨4,Ad,{.asg 2 Ad (.comp Pt 3 (.e (.v 1)) D8),.ife (.cmp .In .O (.v 2)) {.ret .O} .nil,.ret (.v 2)}⟩
def aA:Df:=⟨1,Ad,{.ret (.ofl (.v 0) (Af "triple"))}⟩
def Pl:Df:=⟨1,Ad,{.ret (.B .Add (.B .Add (.str (Af "(")) (.call 25 {.ofl (.v 0) (Af "triple")})) (.str (Af ")")))}⟩
def aQ:Df:=⟨1,Ad,{.ret (.B .Add (.B .Add (.str (Af "[")) (.call 25 {.ofl (.v 0) (Af "triple")})) (.str (Af "]")))}⟩
structure TxF (a b c:Ag):Prop where
 jo:KZ sp7 [dg a,dg b,dg c]=Ab
 spl:En (jn a b c) sp7=[dg a,dg b,dg c]
 spo:JO (jn a b c) sp7=Ab
 ln:(jn a b c).length<=10
 cut:∀ s,Kw (tx s a b c) (Aa 1) (Aa (-1))=jn a b c
 tl:∀ s,(tx s a b c).length<=20
 i0:∀ s,D4 (.str (tx s a b c)) (.int 0)=.ok (.str (br0 s))
 i1:∀ s,D4 (.str (tx s a b c)) (.int (-1))=.ok (.str (br1 s))
theorem txf{a:Ag}(ha:a<11)(hb:b<11)(hc:c<11):TxF a b c:=by
 have h:=yC a ha;unfold HZ at h;rw[A6]at h;have h:=h b (DT.mpr hb);rw[A6]at h;have h:=eq_of_beq (h c (DT.mpr hc));have j:=jf (Ri a) (Ri b) (Ri c);have ln:(jn a b c).length<=10:=j.ln;have tw:∀ s,∃ b' d',tx s a b c=(⟨#[b']⟩:Ah)++ER sp7 [dg a,dg b,dg c]++⟨#[d']⟩/\br0 s=⟨#[b']⟩/\br1 s=⟨#[d']⟩:=λs=>by
  obtain⟨b',e1⟩:=oS s;obtain⟨d',e2⟩:=oR s;exact⟨b',d',by unfold tx;rw[e1,e2];rfl,e1,e2⟩
 refine⟨j.jo,h,xJ h rfl (by omega),ln,λs=>?_,λs=>?_,λs=>?_,λs=>?_⟩<;>obtain⟨b',d',e,e1,e2⟩:=tw s
 .rw[e];exact j.cut b' d'
 .rw[e];exact j.tl b' d'
 .rw[e,e1];exact j.i0 b' d'
 .rw[e,e2];exact j.i1 b' d'
def jq(q:R3):Ah:=jn q.1.toNat q.2.1.toNat q.2.2.toNat
def tq(s:Ao)(q:R3):Ah:=tx s q.1.toNat q.2.1.toNat q.2.2.toNat
theorem QG(hp:P4 p)(h:yn p q):TxF q.1.toNat q.2.1.toNat q.2.2.toNat:=by
 have:=hp.hi;obtain⟨⟨a0,a1⟩,⟨b0,b1⟩,c0,c1⟩:=h;exact txf (by omega) (by omega) (by omega)
theorem Ox(h0:0<=x)(h1:x<11):zm .str [.int x]=.ok (.str (dg x.toNat)):=by
 obtain⟨n,rfl⟩:=Ez h0;show (if MP (n:Ai)=Ab then R.ok (D.str (Af (toString (n:Ai)))) else .bad)=_
 have:MP (n:Ai)=Ab:=by unfold MP;simp;omega
 rw[Au this,qN n (by omega)]
 rfl
theorem TW(hp:P4 p)(h:yn p q):zm .str [.int q.1]=.ok (.str (dg q.1.toNat))/\zm .str [.int q.2.1]=.ok (.str (dg q.2.1.toNat))/\zm .str [.int q.2.2]=.ok (.str (dg q.2.2.toNat)):=by
 have:=hp.hi;obtain⟨⟨a0,a1⟩,⟨b0,b1⟩,c0,c1⟩:=h;exact⟨Ox a0 (by omega),Ox b0 (by omega),Ox c0 (by omega)⟩
theorem VS(hp:P4 p)(h:yn p q):zm .sjoin [.str (Af " "),.L [.str (dg q.1.toNat),.str (dg q.2.1.toNat),.str (dg q.2.2.toNat)]]=.ok (.str (jq q)):=by
 show (if KZ sp7 [dg q.1.toNat,dg q.2.1.toNat,dg q.2.2.toNat]=Ab then R.ok (D.str (ER sp7 [dg q.1.toNat,dg q.2.1.toNat,dg q.2.2.toNat])) else .bad)=_
 rw[Au (QG hp h).jo];rfl
theorem vA(s:Ao):(br0 s).length=1/\(br1 s).length=1:=by cases s<;>exact⟨rfl,rfl⟩
theorem sz7(h:n<=1000):Dd n=Ab:=Gp.mpr (by omega)
theorem Wh(hp:P4 p)(h:yn p q)(s:Ao):Cw .Add (.str (br0 s)) (.str (jq q))=.ok (.str (br0 s++jq q))/\Cw .Add (.str (br0 s++jq q)) (.str (br1 s))=.ok (.str (tq s q)):=by
 have t:=QG hp h;have l:=vA s;have lj:(jq q).length<=10:=t.ln;have la:(br0 s++jq q).length=(br0 s).length+(jq q).length:=Array.size_append;rw[JD,JD,Au (sz7 (by omega)),Au (sz7 (by omega))]
 exact⟨rfl,rfl⟩
def Vs(J:J9):Prop:=∀(p:Ai)(q:R3),P4 p->yn p q->J.F 25 [Az Ab q]=.ok (.str (jq q))
theorem rX(J:J9)(p:Ai)(q:R3)(hp:P4 p)(h:yn p q):Qd.run J [Az Ab q]=.ok (.str (jq q)):=by
 obtain⟨s0,s1,s2⟩:=TW hp h;have e:Cu (cG J [sh (Az Ab q),Ae] 1 D8) (cF J [sh (Az Ab q),Ae] 1 Mg) [.int q.1,.int q.2.1,.int q.2.2]=.ok [.str (dg q.1.toNat),.str (dg q.2.1.toNat),.str (dg q.2.2.toNat)]:=by
  simp[Cu,cG,cF,D8,Mg,s0,s1,s2]
 have j:=VS hp h;have sq:=QO Ab q;generalize Az Ab q=Q at *;simp[Qd,Df.run,BX,sq,e,j]
noncomputable def cl7(s:Ao):Ag:=if s=Ab then 2 else 1
def pq(p:Ai)(s:Ao)(q:R3):D:=.obj (cl7 s) [("p",.int p),("triple",Az Ab q)]
theorem zN(p:Ai)(s:Ao)(q:R3):Ϲ (pq p s q) (Af "triple")=.ok (Az Ab q):=rfl
theorem av(hr:Vs J)(p:Ai)(q:R3)(hp:P4 p)(h:yn p q):Pl.run J [pq p Ad q]=.ok (.str (tq Ad q)):=by
 have e:=zN p Ad q;have r:=hr p q hp h;obtain⟨a1,a2⟩:=Wh hp h Ad;have b0:br0 Ad=Af "(" := rfl
 have b1:br1 Ad=Af ")" := rfl
 rw[b0]at a1 a2;rw[b1]at a2;generalize pq p Ad q=o,Az Ab q=Q at *;simp[Pl,Df.run,BX,e,r,a1,a2,-JD]
def Fm(p:Ai)(q a:R3):Prop:=∃ l u,ED p (tri q)=Aa l/\KA p l u/\lc p u (tri q)=tri a
def V6(J:J9):Prop:=∀(p:Ai)(b:Ao)(q a:R3),P4 p->Fm p q a->J.F 910 [.int p,Az b q]=.ok (.H [.int p,Az Ab a])
theorem VU(hf:Ob J)(b:Ao)(hp:P4 p)(h:Fm p q a):J.F 17 [.int p,Az b q]=.ok (Az Ab a):=by
 obtain⟨l,u,h1,h2,h3⟩:=h;have e:=hf p b (tri q) l u hp h1 h2
 rwa [h3]at e
theorem yT(hf:Ob J)(p:Ai)(b:Ao)(q a:R3)(hp:P4 p)(h:Fm p q a):j8.run J [.int p,Az b q]=.ok (.H [.int p,Az Ab a]):=by
 have e:=VU hf b hp h;generalize Az b q=Q,Az Ab a=A at *;simp[j8,Df.run,BX,e]
theorem yS(hi:V6 J)(c:Ag)(p:Ai)(b:Ao)(q a:R3)(hp:P4 p)(h:Fm p q a):(tj c).run J [.int p,Az b q]=.ok (.obj c [("p",.int p),("triple",Az Ab a)]):=by
 have e:=hi p b q a hp h;have m:ES c (.H [.int p,Az Ab a])=.ok (.obj c [("p",.int p),("triple",Az Ab a)]):=rfl;generalize Az b q=Q,Az Ab a=A at *;simp[tj,Df.run,BX,e,m,yu]
abbrev Th:=Ao×R3×Ai
def Thv(p:Ai)(t:Th):Prop:=NF p t.2.1/\1<=t.2.2/\t.2.2<p
noncomputable def Η(p:Ai)(t:Th):R3:=(t.2.2*t.2.1.1%p,t.2.2*t.2.1.2.1%p,t.2.2*t.2.1.2.2%p)
theorem Rm(hp:P4 p):KA p 1 1:=by
 have:=hp.lo;exact⟨by omega,by omega,BG (by omega) (by omega)⟩
theorem Re(hp:P4 p)(h:NF p a):Fm p a a:=by
 refine⟨1,1,h.2,Rm hp,?_⟩;obtain⟨⟨⟨a0,a1⟩,⟨b0,b1⟩,c0,c1⟩,_⟩:=h;have e:∀ x:Ai,0<=x->x<p->1*(x%p)%p=x:=λx h0 h1=>by rw[EN,Bi _ (Ce p),BG h0 h1]
 simp only[lc,tri,BU,KQ,e _ a0 a1,e _ b0 b1,e _ c0 c1]
theorem UG(hp:P4 p)(t:Th):yn p (Η p t):=by
 have p0:=hp.pos;have f:∀ x:Ai,0<=x%p/\x%p<p:=λx=>⟨Bz _ (by omega),Bn _ p0⟩
 exact⟨f _,f _,f _⟩
theorem tS(hp:P4 p)(h:Thv p t):Fm p (Η p t) t.2.1:=by
 obtain⟨hn,f1,f2⟩:=h;have hc:t.2.2%p≠0:=by rw[BG (by omega) f2];omega
 have hl:(1:Ai)%p≠0:=hp.o1;have hf:∀ x:Ai,(t.2.2*x%p)%p=t.2.2*x%p:=λx=>Bi _ (Ce p)
 obtain⟨u,h1,h2⟩:=fL hp hc hl (Rm hp) (f:=λx=>t.2.2*x%p) hf (tri t.2.1)
 have e:=Qk hp hc (f:=λx=>t.2.2*x%p) hf (tri t.2.1)
 rw[hn.2]at e;obtain⟨l',u',g1,g2,g3⟩:=Re hp hn;rw[hn.2]at g1;cases g1;have:u'=1:=SU g2 (Rm hp);subst this;exact⟨_,u,e,h1,h2.trans g3⟩
def M6:Df:=⟨2,Ad,{.asg 1 Ad (.B .Mod (.v 1) (.B .Add (.B .Add (.B .Mult (.v 0) (.v 0)) (.v 0)) (.int 1))),.ife (.cmp .Eq (.v 1) (.int 0)) {.ret (.H {.int 0,.int 0,.int 1})} .nil,.ife (.cmp .LtE (.v 1) (.v 0)) {.ret (.H {.int 0,.int 1,.B .Sub (.v 1) (.int 1)})} .nil,.ret (.H {.int 1,.B .FloorDiv (.B .Sub (.B .Sub (.v 1) (.v 0)) (.int 1)) (.v 0),.B .Mod (.B .Sub (.B .Sub (.v 1) (.v 0)) (.int 1)) (.v 0)})}⟩
def QV(J:J9):Prop:=∀(p n:Ai),P4 p->J.F 93 [.int p,.int n]=.ok (Az Ab (n8 p (n%(p*p+p+1))))
theorem pN(hp:P4 p):0<p*p+p+1/\0<=n%(p*p+p+1)/\n%(p*p+p+1)<p*p+p+1:=by
 have p0:=hp.pos;have N0:0<p*p+p+1:=by have:=Int.mul_pos p0 p0;omega
 exact⟨N0,Bz n (WY N0),Bn n N0⟩
theorem sE(J:J9)(p n:Ai)(hp:P4 p):M6.run J [.int p,.int n]=.ok (Az Ab (n8 p (n%(p*p+p+1)))):=by
 have pp:FX p p=Ab:=Ni (by have:=hp.lo;omega) (by have:=hp.hi;omega)
 have p0:=hp.pos;have ph:=hp.hi;obtain⟨N0,h0,h1⟩:=pN (n:=n) hp;have pb:p<1073741824:=by omega
 generalize hr:n%(p*p+p+1)=r at *;unfold n8;by_cases z0:r=0
 .rw[Au z0];simp[M6,Df.run,BX,pp,N0,hr,z0];rfl
 .rw[AA z0];by_cases z1:r<=p
  .rw[Au z1];simp[M6,Df.run,BX,pp,N0,hr,z0,z1];rfl
  .rw[AA z1];simp[M6,Df.run,BX,pp,N0,hr,z0,z1,p0,pb];rfl
theorem Ur(x:R3)(l:Ac R3):(l.map (Az Ab)).any (λy=>J0 y (Az Ab x))=decide (x∈l):=by
 induction l with
 |nil=>simp
 |cons y l ih=>
  rw[BU,Iz,ih,Vi,EF,Ca,Bh,Bh,Bh,AE];exact or_congr ⟨NQ,NQ⟩ Iff.rfl
def NU:Df:=⟨3,Ad,{.asg 2 Ad (.int 0),.ife (.cmp .Gt (.bi .len {.v 0}) (.int 0)) {.asg 2 Ad (.idx (.v 0) (.B .Mod (.v 1) (.bi .len {.v 0})))} .nil,.ret (.B .Mod (.B .Mult (.B .Mod (.B .Mult (.B .Add (.B .Add (.B .Mod (.v 2) (.int 1000003)) (.B .Mult (.int 7919) (.v 1))) (.int 11)) (.int 48271)) (.int 1000033)) (.int 69621)) (.int 999983))}⟩
def Pw:Df:=⟨1,Ad,{.ret (.idx (.L {.int 3,.int 5,.int 7,.int 11}) (.B .Mod (.call 354 {.v 0,.int 0}) (.int 4)))}⟩
def PH:Df:=⟨2,Ad,{.ret (.bi .sjoin {.str (Af " "),.comp Mg 1 (.e (.v 0)) D8})}⟩
def Pq:Df:=⟨1,Ad,{.ret (.B .Add (.B .Add (.str (Af "(")) (.call 357 {.v 0})) (.str (Af ")")))}⟩
noncomputable def Pu:E:=(.B .Mod (.B .Mult (.v 4) (.v 3)) (.v 0))
def Pp:Df:=⟨5,Ad,{.asg 3 Ad (.B .Add (.int 1) (.B .Mod (.v 2) (.B .Sub (.v 0) (.int 1)))),.ret (.call 357 {.comp Pu 4 (.e (.v 1)) D8})}⟩
noncomputable def RF:E:=(.isi (.v 1) [.str])
def Pv:Df:=⟨2,Ad,{.ret (.and {.isi (.v 0) [.list],.bi .all {.comp RF 1 (.e (.v 0)) D8}})}⟩
def RN:Df:=⟨3,Ad,{.asg 1 Ad (.L {.isi (.v 0) [.cls 12],.isi (.v 0) [.cls 3],.isi (.v 0) [.cls 5],.isi (.v 0) [.cls 107]}),.asg 1 Ad (.B .Add (.v 1) (.L {.isi (.v 0) [.cls 108],.isi (.v 0) [.cls 15],.isi (.v 0) [.cls 17]})),.asg 1 Ad (.B .Add (.v 1) (.L {.isi (.v 0) [.cls 13],.isi (.v 0) [.cls 118],.isi (.v 0) [.cls 14]})),.asg 2 Ad (.L {.str (Af "row"),.str (Af "triple"),.str (Af "curve"),.str (Af "alike"),.str (Af "not on"),.str (Af "many"),.str (Af "nothing"),.str (Af "count"),.str (Af "line"),.str (Af "not whole")}),.ife (.or {.cmp .NotEq (.bi .count {.v 1,.bl Ab}) (.int 1),.no (.isi (.v 0) [.verr])}) {.ret (.str (Af "none of these"))} .nil,.ret (.idx (.v 2) (.bi .index {.v 1,.bl Ab}))}⟩
def N6:Df:=⟨2,Ab,{.ife (.cmp .In (.v 1) (.v 0)) {.rais 107 {.v 1}} .nil,.ife (.cmp .GtE (.bi .len {.v 0}) (.glob 5)) {.rais 15 {.str (Af "there are thirty points already")}} .nil,.ret (.B .Add (.v 0) (.L {.v 1}))}⟩
noncomputable def NR:E:=(.cmp .NotEq (.v 2) (.v 1))
def NZ:Df:=⟨3,Ab,{.ife (.cmp .NotIn (.v 1) (.v 0)) {.rais 108 {.v 1}} .nil,.ret (.comp NT 2 (.e (.v 0)) NR)}⟩
def M5:E:=(.meth (Af "shown") [(1,931)] (.mkn 1 {.v 0,.v 2}))
def Pk:Df:=⟨3,Ab,{.ret (.comp M5 2 (.e (.v 1)) D8)}⟩
theorem kF(J:J9)(ns:Ac Ai)(k:Ai)(h0:0<=k):∃ m,0<=m/\NU.run J [zx ns,.int k]=.ok (.int m):=by
 have m1:FX 7919 k=Ab:=Ni (by decide) (by decide)
 have m2:∀ x,FX x 48271=Ab:=λx=>Oe (by decide) (by decide)
 have m3:∀ x,FX x 69621=Ab:=λx=>Oe (by decide) (by decide)
 by_cases h1:(0:Ai)<ns.length
 .have g:=mM (ns:=ns) (k:=k%ns.length) (Bz _ (by omega)) (Bn _ h1)
  generalize ns.getD (k%(ns.length:Ai)).toNat 0=x at g;refine⟨(x%1000003+7919*k+11)*48271%1000033*69621%999983,Bz _ (by decide),?_⟩
  have h1n:0<ns.length:=by omega
  simp[NU,Df.run,BX,h1n,g,m1,m2,m3]
 .refine⟨(0%1000003+7919*k+11)*48271%1000033*69621%999983,Bz _ (by decide),?_⟩
  have h1n:¬ 0<ns.length:=by omega
  simp[NU,Df.run,BX,h1n,m1,m2,m3]
theorem sF(h:Oh J 354 ns):∃ p,P4 p/\Pw.run J [zx ns]=.ok (.int p):=by
 obtain⟨m,m0,e⟩:=h 0 (by decide)
 refine⟨_,sO m,?_⟩;simp[Pw,Df.run,BX,e,eZ]
def OT(J:J9):Prop:=∀(p:Ai)(b:Ao)(q:R3),P4 p->yn p q->J.F 357 [Az b q]=.ok (.str (jq q))
theorem ar(J:J9)(p:Ai)(b:Ao)(q:R3)(hp:P4 p)(h:yn p q):PH.run J [Az b q]=.ok (.str (jq q)):=by
 obtain⟨s0,s1,s2⟩:=TW hp h;have e:Cu (cG J [sh (Az b q),Ae] 1 D8) (cF J [sh (Az b q),Ae] 1 Mg) [.int q.1,.int q.2.1,.int q.2.2]=.ok [.str (dg q.1.toNat),.str (dg q.2.1.toNat),.str (dg q.2.2.toNat)]:=by
  simp[Cu,cG,cF,D8,Mg,s0,s1,s2]
 have j:=VS hp h;have sq:=QO b q;generalize Az b q=Q at *;simp[PH,Df.run,BX,sq,e,j]
def Rr(J:J9):Prop:=∀(p:Ai)(q:R3),P4 p->yn p q->J.F 358 [Az Ab q]=.ok (.str (tq Ad q))
theorem yR(hr:OT J)(p:Ai)(q:R3)(hp:P4 p)(h:yn p q):Pq.run J [Az Ab q]=.ok (.str (tq Ad q)):=by
 have r:=hr p Ab q hp h;obtain⟨a1,a2⟩:=Wh hp h Ad;have b0:br0 Ad=Af "(" := rfl
 have b1:br1 Ad=Af ")" := rfl
 rw[b0]at a1 a2;rw[b1]at a2;generalize Az Ab q=Q at *;simp[Pq,Df.run,BX,r,a1,a2,-JD]
def OU(J:J9):Prop:=∀(p m:Ai)(q:R3),P4 p->0<=m->NF p q->∃ a,yn p a/\Fm p a q/\J.F 359 [.int p,Az Ab q,.int m]=.ok (.str (jq a))
theorem aw(hr:OT J)(p m:Ai)(q:R3)(hp:P4 p)(m0:0<=m)(h:NF p q):∃ a,yn p a/\Fm p a q/\Pp.run J [.int p,Az Ab q,.int m]=.ok (.str (jq a)):=by
 have lo:=hp.lo;have hi:=hp.hi;have t0:0<=m%(p-1):=Bz _ (by omega)
 have t1:m%(p-1)<p-1:=Bn _ (by omega)
 have hv:Thv p (Ad,q,1+m%(p-1)):=⟨h,by show 1<=1+m%(p-1);omega,by show 1+m%(p-1)<p;omega⟩
 refine⟨Η p (Ad,q,1+m%(p-1)),UG hp _,tS hp hv,?_⟩;have r:=hr p Ad _ hp (UG hp (Ad,q,1+m%(p-1)));have pm:0<p-1:=by omega
 have p0:=hp.pos;generalize ht:1+m%(p-1)=t at *;have mo:∀ x,FX x t=Ab:=λx=>Oe (by omega) (by omega)
 have cm:∀ x:Ai,x*t%p=t*x%p:=λx=>by rw[He]
 have e:Cu (cG J [si p,sh (Az Ab q),si m,si t,Ae] 4 D8) (cF J [si p,sh (Az Ab q),si m,si t,Ae] 4 Pu) [.int q.1,.int q.2.1,.int q.2.2]=.ok [.int (t*q.1%p),.int (t*q.2.1%p),.int (t*q.2.2%p)]:=by
  simp[Cu,cG,cF,D8,Pu,mo,p0,cm]
 have sq:=QO Ab q;have r':J.F 357 [.L [.int (t*q.1%p),.int (t*q.2.1%p),.int (t*q.2.2%p)]]=.ok (.str (jq (Η p (Ad,q,t)))):=r;generalize Az Ab q=Q at *;have p1:1<p:=by omega
 simp[Pp,Df.run,BX,p1,ht,sq,e,r']
theorem nf9(hp:P4 p)(n:Ai):NF p (n8 p (n%(p*p+p+1))):=let ⟨_,h0,h1⟩:=pN (n:=n) hp;yY hp h0 h1
def Wd9(w:Ah):Prop:=w=Af "put"\/w=Af "take"\/w=Af "undo"\/w=Af "points"
theorem i12(m:Ai):∃ a,0<a/\D4 (.L [.int 12,.int 133]) (.int (m%2))=.ok (.int a):=by
 have h0:0<=m%2:=Bz _ (by decide)
 have h1:m%2<2:=Bn _ (by decide)
 rcases (show m%2=0\/m%2=1 by omega) with e|e<;>rw[e]
 .exact⟨12,by decide,rfl⟩
 .exact⟨133,by decide,rfl⟩
def A9(l:Ac R3):D:=.L (l.map (Az Ab))
theorem ix9(h:l≠[]):∃ q∈l,D4 (A9 l) (.int (n%(l.length:Ai)))=.ok (Az Ab q):=by
 have hl:(0:Ai)<l.length:=by
  cases l with
  |nil=>exact absurd rfl h
  |cons x r=>simp
 have h0:=Bz n (WY hl);have h1:=Bn n hl;generalize n%(l.length:Ai)=k at h0 h1;obtain⟨j,rfl⟩:=Ez h0;have hj:j<l.length:=by omega
 refine⟨l[j],DR hj,?_⟩;show Ee (l.map (Az Ab)) (j:Ai)=_;unfold Ee pz;rw[Au h0,Bb,Au h1];simp[hj]
theorem ls9(l:Ac R3):zm .list [A9 l]=.ok (A9 l):=rfl
theorem ln9(l:Ac R3):zm .len [A9 l]=.ok (.int l.length):=by
 show R.ok (D.int (l.map (Az Ab)).length)=_;rw[Bb]
def dw(J:J9)(ns:Ac Ai):Prop:=∀(p k:Ai)(l:Ac R3),P4 p->0<=k->(∀ q∈l,NF p q)->∃ w q,Wd9 w/\NF p q/\J.F 363 [zx ns,.int p,.int k,A9 l]=.ok (.H [.str w,Az Ab q])
theorem in9(q:R3)(l:Ac R3):BZ .In (Az Ab q) (A9 l)=.ok (.bl (decide (q∈l))):=by
 show (if (J8 5 (Az Ab q)&&(l.map (Az Ab)).all (J8 5))=Ab then R.ok (D.bl ((l.map (Az Ab)).any λy=>J0 y (Az Ab q))) else .bad)=_
 rw[Ur,Au];rw[As];exact⟨rfl,by rw[E5,A6];intro _ _;rfl⟩
theorem Ry(q:R3)(l:Ac R3):BZ .NotIn (Az Ab q) (A9 l)=.ok (.bl (!decide (q∈l))):=by
 show (if (J8 5 (Az Ab q)&&(l.map (Az Ab)).all (J8 5))=Ab then R.ok (D.bl (!(l.map (Az Ab)).any λy=>J0 y (Az Ab q))) else .bad)=_
 rw[Ur,Au];rw[As];exact⟨rfl,by rw[E5,A6];intro _ _;rfl⟩
theorem Y_8(l:Ac R3)(q:R3)(h:l.length<=900):Cw .Add (A9 l) (.L [Az Ab q])=.ok (A9 (l++[q])):=by
 show (if Dd ((l.map (Az Ab)).length+1)=Ab then R.ok (D.L (l.map (Az Ab)++[Az Ab q])) else .bad)=_
 rw[Au (show Dd ((l.map (Az Ab)).length+1)=Ab from Gp.mpr (by rw[Bb];omega))]
 unfold A9;rw[Jo];rfl
def ja(q:R3):Prop:=∃ p,P4 p/\yn p q
theorem cu(q:R3):∀(l:Ac R3),Cu (cG J [sh (A9 l),sh (Az Ab q),Ae] 2 NR) (cF J [sh (A9 l),sh (Az Ab q),Ae] 2 NT) (l.map (Az Ab))=.ok ((l.filter λx=>!decide (x=q)).map (Az Ab)):=λl=>by
 generalize A9 l=L
 induction l with
 |nil=>rfl
 |cons x l ih=>
  have e:cG J [sh L,sh (Az Ab q),Ae] 2 NR (Az Ab x)=.ok (!decide (x=q)):=by
   have:BZ .NotEq (Az Ab x) (Az Ab q)=.ok (.bl (!decide (x=q))):=by
    show (if (J8 5 (Az Ab x)&&J8 5 (Az Ab q))=Ab then R.ok (D.bl (!J0 (Az Ab x) (Az Ab q))) else .bad)=_
    rw[Vi,Au (by rfl)]
   show (BZ .NotEq (Az Ab x) (Az Ab q)).bind Ci=_;rw[this];rfl
  have e2:cF J [sh L,sh (Az Ab q),Ae] 2 NT (Az Ab x)=.ok (Az Ab x):=rfl;rw[BU];show (cG J [sh L,sh (Az Ab q),Ae] 2 NR (Az Ab x)).bind _=_;rw[e];by_cases c:x=q
  .simp[c];exact ih
  .simp[c,e2];rw[ih];rfl
def HA(l:Ac R3):Ac D:=l.map λq=>.str (tq Ad q)
theorem sD(hm:∀(p:Ai)(b:Ao)(q a:R3),P4 p->Fm p q a->J.F 901 [.int p,Az b q]=.ok (pq p Ad a))(hs:∀(p:Ai)(q:R3),P4 p->yn p q->J.F 931 [pq p Ad q]=.ok (.str (tq Ad q)))(p:Ai)(l:Ac R3)(hp:P4 p)(hl:∀ q∈l,NF p q):Pk.run J [.int p,A9 l]=.ok (.L (HA l)):=by
 have e:∀(L:D)(l:Ac R3),(∀ q∈l,NF p q)->Cu (cG J [si p,sh L,Ae] 2 D8) (cF J [si p,sh L,Ae] 2 M5) (l.map (Az Ab))=.ok (HA l):=λL l hl=>by
  induction l with
  |nil=>rfl
  |cons x l ih=>
   have hx:=hl x (by simp)
   have e1:cG J [si p,sh L,Ae] 2 D8 (Az Ab x)=.ok Ab:=rfl;have e2:cF J [si p,sh L,Ae] 2 M5 (Az Ab x)=.ok (.str (tq Ad x)):=by
    have m':=hm p Ab x x hp (Re hp hx);have s':=hs p x hp hx.1;have md:Lj J.F (Af "shown") [(1,931)] (pq p Ad x)=J.F 931 [pq p Ad x]:=rfl;generalize pq p Ad x=O,Az Ab x=X at *;simp[cF,M5,m',s',md,yu]
   rw[BU];show (cG J [si p,sh L,Ae] 2 D8 (Az Ab x)).bind _=_;rw[e1];show (cF J [si p,sh L,Ae] 2 M5 (Az Ab x)).bind _=_;rw[e2];show (Cu _ _ (l.map (Az Ab))).bind _=_;rw[ih λq hq=>hl q (Ay _ hq)]
   rfl
 have e:=e (A9 l) l hl;have sq:DD (A9 l)=.ok (l.map (Az Ab)):=rfl;generalize l.map (Az Ab)=M at e sq;generalize A9 l=L at *;simp[Pk,Df.run,BX,sq,e]
 all_goals rfl
noncomputable def õ(n:Ag):D:=.str (Af (toString (n:Ai)))
def ND(hs:Ac (Ac R3)):D:=.L (hs.map A9)
noncomputable def pr9(x:Ah)(d:D):D:=.H [.str x,d]
theorem rV(J:J9)(ts:Ac Ah):Pv.run J [.L (ts.map .str)]=.ok (.bl Ab):=by
 have e:∀(L:D)(ts:Ac Ah),Cu (cG J [sh L,Ae] 1 D8) (cF J [sh L,Ae] 1 RF) (ts.map .str)=.ok (ts.map λ_=>.bl Ab):=λL ts=>by
  induction ts with
  |nil=>rfl
  |cons x l ih=>
   rw[BU];show (Cu _ _ (l.map D.str)).bind _=_;rw[ih];rfl
 have a:∀ ts:Ac Ah,zm .all [.L (ts.map λ_=>D.bl Ab)]=.ok (.bl Ab):=λts=>by
  have:∀ ts:Ac Ah,Hy (ts.map λ_=>D.bl Ab)=.ok Ab:=λts=>by
   induction ts with
   |nil=>rfl
   |cons x l ih=>rw[BU];show (Hy (l.map λ_=>D.bl Ab)).bind _=_;rw[ih];rfl
  show (Hy (ts.map λ_=>D.bl Ab)).bind _=_
  rw[this];rfl
 have e1:=e (.L (ts.map .str)) ts;have e2:=a ts;have is:EV J.up [.list] (.L (ts.map .str))=.ok (.bl Ab):=rfl;have sq:DD (.L (ts.map .str))=.ok (ts.map D.str):=rfl;generalize (ts.map λ_=>D.bl Ab)=B,ts.map D.str=M at *
 generalize D.L M=L at *;simp[Pv,Df.run,BX,e1,e2,is,sq]
noncomputable def nb(w:Ah):Ao:=w.cps.toList.all λc=>!(c==32)
noncomputable def mz:Ac (Ac Ag)->Ac Ag
 |[]=>[]
 |[x]=>x
 |x::y::r=>x++32::mz (y::r)
theorem hU:∀(xs ys:Ac (Ac Ag)),xs≠[]->ys≠[]->(∀ x∈xs,32∉x)->(∀ y∈ys,32∉y)->mz xs=mz ys->xs=ys:=by
 have cut:∀(a b u v:Ac Ag),32∉a->32∉b->a++32::u=b++32::v->a=b/\u=v:=λa=>by
  induction a with
  |nil=>
   intro b u v _ hb e;cases b with
   |nil=>simp at e;exact⟨rfl,e⟩
   |cons y b=>simp at e;exact absurd (by simp[<-e.1]) hb
  |cons x a ih=>
   intro b u v ha hb e;cases b with
   |nil=>simp at e;exact absurd (by simp[e.1]) ha
   |cons y b=>
    simp at e ha hb;obtain⟨e1,e2⟩:=ih b u v ha.2 hb.2 e.2;exact⟨by rw[e.1,e1],e2⟩
 intro xs
 induction xs with
 |nil=>exact λ_ h=>absurd rfl h
 |cons x xs ih=>
  intro ys _ hy hx hys e;cases ys with
  |nil=>exact absurd rfl hy
  |cons y ys=>
   cases xs with
   |nil=>
    cases ys with
    |nil=>have e:x=y:=e;rw[e]
    |cons z r=>
     have e:x=y++32::mz (z::r):=e;exact absurd (by rw[e];simp) (hx x (by simp))
   |cons x2 xs=>
    cases ys with
    |nil=>
     have e:x++32::mz (x2::xs)=y:=e;exact absurd (by rw[<-e];simp) (hys y (by simp))
    |cons y2 ys=>
     obtain⟨e1,e2⟩:=cut x y _ _ (hx x (by simp)) (hys y (by simp)) e
     rw[e1,ih (y2::ys) (by simp) (by simp) (λz hz=>hx z (Ay _ hz)) (λz hz=>hys z (Ay _ hz)) e2]
theorem Ql:∀ ws:Ac Ah,(DV sp7 ws).cps.toList=mz (ws.map λw=>w.cps.toList)
 |[]=>rfl
 |[x]=>rfl
 |x::y::r=>by
  show (x++sp7++DV sp7 (y::r)).cps.toList=_;have e:=Ql (y::r);have s:sp7.cps.toList=[32]:=rfl;show ((x.cps++sp7.cps)++(DV sp7 (y::r)).cps).toList=_;rw[WQ,WQ,e,s];simp[mz]
theorem cK(ws:Ac Ah)(hn:ws≠[])(h:ws.all nb=Ab):En (DV sp7 ws) sp7=ws:=by
 have e1:=StrLaws.join_split (DV sp7 ws) sp7;have f1:=StrLaws.split_free (DV sp7 ws) 32;have p1:=PyProof.Rows.split_pos (DV sp7 ws) sp7;have e2:mz ((En (DV sp7 ws) sp7).map λw=>w.cps.toList)=mz (ws.map λw=>w.cps.toList):=by
  rw[<-Ql,<-Ql,e1]
 have e3:=hU _ _ (λz=>by rw[List.map_eq_nil_iff]at z;rw[z]at p1;simp at p1) (λz=>hn (List.map_eq_nil_iff.mp z)) (λx hx=>by
  obtain⟨w,hw,rfl⟩:=F8.mp hx;exact f1 w hw) (λx hx=>by
  obtain⟨w,hw,rfl⟩:=F8.mp hx;have:=A6.mp h w hw;unfold nb at this;rw[A6]at this;intro z;have:=this 32 z;simp at this) e2
 have inj:∀(a b:Ac Ah),a.map (λw=>w.cps.toList)=b.map (λw=>w.cps.toList)->a=b:=λa=>by
  induction a with
  |nil=>intro b e;cases b with|nil=>rfl|cons=>cases e
  |cons x a ih=>
   intro b e;cases b with
   |nil=>cases e
   |cons y b=>
    simp at e;rw[ih b (by simpa using e.2)]
    congr 1
    obtain⟨c⟩:=x;obtain⟨d⟩:=y;have:=e.1;simp at this;rw[this]
 exact inj _ _ e3
theorem kX(h:x.length<=1000):JO x sp7=Ab:=by
 unfold JO;rw[As];refine⟨Gp.mpr (by omega),Gp.mpr ?_⟩
 rw[PySem.length_partsBetween];have:=PySem.StrLaws.occ_length_le x sp7 0 x.length (x.length+1);omega
theorem cs6{J:J9}(ws:Ac Ah)(hn:ws≠[])(h:ws.all nb=Ab)(hl:(DV sp7 ws).length<=1000):zm .ssplit [.str (DV sp7 ws),.str sp7]=.ok (.L (ws.map .str)):=by
 show (if (!(sp7.length==0)&&JO (DV sp7 ws) sp7)=Ab then R.ok (D.L ((En (DV sp7 ws) sp7).map D.str)) else .bad)=_
 rw[kX hl,cK ws hn h];rfl
theorem bn(n:Ag):nb (dg n)=Ab:=by
 unfold dg nb;split
 .rename_i h;simp;omega
 .rfl
def wu(p:Ai)(w:Ah):Am Ag:=(B2 p.toNat).find? λn=>dg n==w
noncomputable def oD:Am Ag->D
 |some n=>.int (n:Ai)
 |none=>.O
theorem VQ(I:Rho->Prop)(g:Ag->Ao):∀(l:Ac Ag),(∀ j∈l,∀ Y,I Y->(g j=Ab->body (.int (j:Ai)) Y=.ret (.int (j:Ai)) Ad)/\(g j=Ad->∃ Y',body (.int (j:Ai)) Y=.next Y'/\I Y'))->∀ Y,I Y->(∀ n,l.find? g=Aa n->El body (l.map fun(k:Ag)=>D.int (k:Ai)) Y=.ret (.int (n:Ai)) Ad)/\(l.find? g=Ae->∃ Y',El body (l.map fun(k:Ag)=>D.int (k:Ai)) Y=.next Y'/\I Y')
 |[],_,Y,hI=>⟨λn z=>(nomatch z),λ_=>⟨Y,rfl,hI⟩⟩
 |j::l,h,Y,hI=>by
  obtain⟨h1,h2⟩:=h j (AR ..) Y hI;have st:El body ((j::l).map fun(k:Ag)=>D.int (k:Ai)) Y=(body (.int (j:Ai)) Y).turn (El body (l.map fun(k:Ag)=>D.int (k:Ai))):=rfl
  rw[st,List.find?_cons];cases e:g j with
  |true=>
   rw[h1 e];exact⟨λn z=>by cases z;rfl,λz=>by cases z⟩
  |false=>
   obtain⟨Y',e1,I'⟩:=h2 e;rw[e1];exact VQ I g l (λk hk=>h k (Ay _ hk)) Y' I'
theorem rg8(hp:P4 p):Fp 0 p=.ok ((B2 p.toNat).map fun(k:Ag)=>D.int (k:Ai)):=by
 have:=hp.hi;have:=hp.pos;rw[dP (by omega) (by omega)]
 simp[Jl]
theorem ZO(hp:P4 p)(h:j∈B2 p.toNat):zm .str [.int (j:Ai)]=.ok (.str (dg j)):=by
 have:=hp.hi;have:=DT.mp h;exact Ox (by omega) (by omega)
def V5(J:J9):Prop:=∀(p:Ai)(w:Ah),P4 p->J.F 33 [.int p,.str w]=.ok (oD (wu p w))
theorem yQ(J:J9)(p:Ai)(w:Ah)(hp:P4 p):N1.run J [.int p,.str w]=.ok (oD (wu p w)):=by
 have rg:=rg8 hp;have key:=VQ (body:=Ff J 2 NS) (λY=>∃ s,Y=[si p,sh (.str w),s]) (λn=>dg n==w) (B2 p.toNat) (by
  rintro j hj Y ⟨s,rfl⟩;have st:=ZO hp hj;generalize dg j=dj at *;refine⟨λe=>?_,λe=>⟨[si p,sh (.str w),si (j:Ai)],?_,_,rfl⟩⟩
  .have e:=eq_of_beq e;subst e;simp[Ff,NS,st,Ek]
  .have ne:¬ w=dj:=λz=>by rw[z]at e;simp at e
   simp[Ff,NS,st,ne]) [si p,sh (.str w),Ae] ⟨_,rfl⟩
 have er:(B2 p.toNat).find? (λn=>dg n==w)=wu p w:=rfl
 rw[er]at key;cases e:wu p w with
 |some n=>
  have k1:=key.1 n e;simp[N1,Df.run,BX,rg,k1,oD]
 |none=>
  obtain⟨Y',k1,s,rfl⟩:=key.2 e;simp[N1,Df.run,BX,rg,k1,oD]
theorem TB:∀ l:Ac Ah,(∀ w∈l,g (.str w)=.ok Ab/\f (.str w)=.ok (ψ w))->Cu g f (l.map D.str)=.ok (l.map ψ)
 |[],_=>rfl
 |w::l,h=>by
  obtain⟨h1,h2⟩:=h w (AR ..);show (g (.str w)).bind _=_;rw[h1,R.bind_ok,Au rfl,h2,R.bind_ok];show (Cu g f (l.map D.str)).bind _=_;rw[TB l λy hy=>h y (Ay _ hy)]
  rfl
def kg(p:Ai)(ws:Ac Ah):D:=if (ws.all λw=>(wu p w).isSome)=Ab then .L (ws.map λw=>oD (wu p w)) else .O
theorem bf(o:Am Ag):J8 5 (oD o)=Ab:=by cases o<;>rfl
theorem ck(p:Ai)(ws:Ac Ah):BZ .In .O (.L (ws.map λw=>oD (wu p w)))=.ok (.bl (!(ws.all λw=>(wu p w).isSome))):=by
 have fl:(ws.map λw=>oD (wu p w)).all (J8 5)=Ab:=by
  rw[E5];exact List.all_eq_true.mpr λw _=>bf _
 show (if (Ab&&(ws.map λw=>oD (wu p w)).all (J8 5))=Ab then R.ok (D.bl ((ws.map λw=>oD (wu p w)).any λy=>J0 y .O)) else .bad)=_
 rw[fl,Au (show (Ab&&Ab)=Ab from rfl),KP]
 congr 2
 induction ws with
 |nil=>rfl
 |cons w ws ih=>
  rw[Iz,DO,ih (by rw[BU,DO,As]at fl;exact fl.2)]
  show (J0 (oD (wu p w)) .O||_)=_;cases wu p w<;>rfl
def Vr(J:J9):Prop:=∀(p:Ai)(ws:Ac Ah),P4 p->J.F 34 [.int p,.L (ws.map D.str)]=.ok (kg p ws)
theorem rW(hr:V5 J)(p:Ai)(ws:Ac Ah)(hp:P4 p):N4.run J [.int p,.L (ws.map D.str)]=.ok (kg p ws):=by
 have cp:∀ X:D,Cu (cG J [si p,sh X,Ae,Ae] 3 D8) (cF J [si p,sh X,Ae,Ae] 3 Pt) (ws.map D.str)=.ok (ws.map λw=>oD (wu p w)):=λX=>TB ws λw _=>by
  have e:=hr p w hp;generalize oD (wu p w)=o at *;exact⟨rfl,by simp[cF,Pt,e]⟩
 have ci:=ck p ws;unfold kg;generalize (ws.map λw=>oD (wu p w))=L,ws.map D.str=M,(ws.all λw=>(wu p w).isSome)=B at *
 cases B with
 |true=>
  have ci:BZ .In .O (.L L)=.ok (.bl Ad):=ci;simp[N4,Df.run,BX,cp,ci,-RB]
 |false=>
  have ci:BZ .In .O (.L L)=.ok (.bl Ab):=ci;simp[N4,Df.run,BX,cp,ci,-RB]
theorem UU{n:Ag}(hp:P4 p)(h:(n:Ai)<p):wu p (dg n)=Aa n:=by
 have k:∀ p:Ag,p<12->∀ n:Ag,n<p->wu (p:Ai) (dg n)=Aa n:=by decide+kernel
 have h1:=hp.hi;have h0:=hp.pos;obtain⟨m,rfl⟩:=Ez (show 0<=p by omega)
 exact k m (by omega) n (by omega)
theorem tR(hp:P4 p)(ns:Ac Ag)(h:∀ n∈ns,(n:Ai)<p):kg p (ns.map dg)=.L (ns.map fun(n:Ag)=>D.int (n:Ai)):=by
 unfold kg;rw[Au]
 .rw[F7]
  congr 1
  refine FN λn hn=>?_
  show oD (wu p (dg n))=_;rw[UU hp (h n hn)];rfl
 .rw[E5,A6];intro n hn;show (wu p (dg n)).isSome=Ab;rw[UU hp (h n hn)];rfl
noncomputable def ô:Ac Ah:=["kind", "side", "polar", "pole"]
noncomputable def lmW:Ac Ah:=["five", "curve"]
noncomputable def llW:Ac Ah:=["put", "take", "grow"]
noncomputable def JW:Ac (Ah×Ai):=[("put",3),("take",3),("grow",0),("five",0),("curve",6),("undo",0),("points",0),("look",0),("draw",0),("kind",0),("side",3),("polar",3),("pole",3)]
def csE:E:=.bi .ssplit {.v 1,.str (Af " ")}
structure H9 (J1 J2:J9) (p:Ai):Prop where
 put:∀(l:Ac R3)(q:R3),yn p q->l.length<=30->J1.F 348 [A9 l,Az Ab q]=if q∈l then .exn ⟨107,[(("triple" : Ah),Az Ab q)]⟩ else if l.length=30 then .exn ⟨15,[]⟩ else .ok (A9 (l++[q]))
 take:∀(l:Ac R3)(q:R3),yn p q->J1.F 349 [A9 l,Az Ab q]=if q∈l then .ok (A9 (l.filter λx=>!decide (x=q))) else .exn ⟨108,[(("triple" : Ah),Az Ab q)]⟩
 pts:∀ l:Ac R3,(∀ q∈l,NF p q)->J1.F 350 [.int p,A9 l]=.ok (.L (HA l))
 rr3:∀ a:R3,yn p a->J1.F 34 [.int p,.L [.str (dg a.1.toNat),.str (dg a.2.1.toNat),.str (dg a.2.2.toNat)]]=.ok (Az Ad a)
 rr0:J1.F 34 [.int p,.L []]=.ok (.L [])
 tb3:∀ a q:R3,Fm p a q->J2.F 347 [.int p,Az Ad a]=.ok (Az Ab q)
 tb0:J2.F 347 [.int p,.L []]=.ok .O
noncomputable def ig:Ag->Ac Ag
 |0=>[0]
 |12=>[12,0]
 |15=>[15,0]
 |17=>[17,0]
 |107=>[107,0]
 |108=>[108,0]
 |_=>[]
theorem Wq(x:Ah)(l:Ac R3):J8 5 (pr9 x (.L (HA l)))=Ab:=by
 show (Ab&&((HA l).all (J8 3)&&Ab))=Ab;rw[Bool.true_and,Ix];unfold HA;rw[E5,A6];intro _ _;rfl
theorem Ws:∀ ts:Ac Ah,zw (ts.map .str) (ts.map .str)=Ab
 |[]=>rfl
 |t::ts=>by
  show ((t==t)&&zw (ts.map .str) (ts.map .str))=Ab;rw[Ws ts,Ck];rfl
theorem Qt(l:Ac R3):HA l=(l.map λq=>tq Ad q).map D.str:=by
 unfold HA;rw[F7];rfl
theorem Rh(x:Ah)(ts:Ac Ah):J0 (pr9 x (.L (ts.map .str))) (pr9 x (.L (ts.map .str)))=Ab:=by
 show ((x==x)&&(zw (ts.map .str) (ts.map .str)&&Ab))=Ab;rw[Ws,Ck];rfl
theorem OE(x:Ah):J0 (pr9 x .O) (pr9 x .O)=Ab:=by
 show ((x==x)&&(Ab&&Ab))=Ab;rw[Ck];rfl
def VP:S:=.asgT [6,7] (.call 363 {.v 0,.v 1,.v 5,.v 3})
noncomputable def xU:S:=.asg 8 Ad (.v 6)
structure H9l (J:J9) (ns:Ac Ai):Prop where
 mi:Oh J 354 ns
 rw:dw J ns
 rs:OU J
 pt:Rr J
 dp:∀(q:R3)(l:Ac R3)(hs:Ac (Ac R3)),l.length<=30->J.F 364 [.str (Af "put"),Az Ab q,A9 l,ND hs]=.ok (if q∈l then pr9 (Af "alike") .O else if l.length=30 then pr9 (Af "many") .O else pr9 (Af "told") (.L [õ (l.length+1)]))
 dt:∀(q:R3)(l:Ac R3)(hs:Ac (Ac R3)),l.length<=30->J.F 364 [.str (Af "take"),Az Ab q,A9 l,ND hs]=.ok (if q∈l then pr9 (Af "told") (.L [õ (l.length-1)]) else pr9 (Af "not on") .O)
 dq:∀(p:Ai)(q:R3)(l:Ac R3)(hs:Ac (Ac R3)),P4 p->(∀ x∈l,NF p x)->J.F 364 [.str (Af "points"),Az Ab q,A9 l,ND hs]=.ok (pr9 (Af "told") (.L (HA l)))
 d0:∀(q:R3)(l:Ac R3),J.F 364 [.str (Af "undo"),Az Ab q,A9 l,ND []]=.ok (pr9 (Af "nothing") .O)
 d1:∀(q:R3)(l h:Ac R3)(hs:Ac (Ac R3)),h.length<=30->J.F 364 [.str (Af "undo"),Az Ab q,A9 l,ND (hs++[h])]=.ok (pr9 (Af "told") (.L [õ h.length]))
 up:J.up=ig
theorem Pe{a b:R α}{k:α->O}(e:a=b)(h:O.of Y b k=o):O.of Y a k=o:=e ▸ h
theorem st1(h:H9l J ns)(hp:P4 p)(k0:0<=k)(hl:∀ x∈l,NF p x):∃ w q,Wd9 w/\NF p q/\yk J (Ï (η (U8 (A9 l)) (U8 (.int k)) Ae Ae Ae Ae (zx ns) (.int p))) VP=.next (Ï (η (U8 (A9 l)) (U8 (.int k)) (U8 (.str w)) (U8 (Az Ab q)) Ae Ae (zx ns) (.int p))):=by
 obtain⟨w,q,hw,hq,e⟩:=h.rw p k l hp k0 hl;refine⟨w,q,hw,hq,?_⟩;generalize A9 l=L,Az Ab q=Q,zx ns=S at *;have e2:evE J (Ï (η (U8 L) (U8 (.int k)) Ae Ae Ae Ae S (.int p))) (.call 363 (.cons (.v 0) (.cons (.v 1) (.cons (.v 5) (.cons (.v 3) .nil)))))=.ok (.H [.str w,Q]):=by
  show (J.F 363 [S,.int p,.int k,L]).bind _=_;rw[e];rfl
 unfold VP;exact Pe e2 rfl
theorem st2{S:D}:yk J (Ï (η (U8 L) (U8 (.int k)) (U8 (.str w)) (U8 Q) Ae Ae S (.int p))) xU=.next (Ï (η (U8 L) (U8 (.int k)) (U8 (.str w)) (U8 Q) (U8 (.str w)) Ae S (.int p))):=rfl
def Lx:Df:=⟨3,Ad,{.asg 2 Ad (.L {.str (Af ""),.str (Af " "),.str (Af "put"),.str (Af "put 1"),.str (Af "put 1 0"),.str (Af "put 1 0 0 0"),.B .Add (.str (Af "put 1 0 ")) (.bi .str {.v 0}),.str (Af "put 01 0 0"),.str (Af "put -1 0 0")}),.asg 2 Ad (.B .Add (.v 2) (.L {.str (Af "put 1  0 0"),.str (Af " put 1 0 0"),.str (Af "put 1 0 0 "),.str (Af "Put 1 0 0"),.str (Af "put 1 0 x"),.str (Af "take"),.str (Af "take 1 2"),.str (Af "grow 1")})),.asg 2 Ad (.B .Add (.v 2) (.L {.str (Af "five 1 0 0"),.str (Af "grow "),.str (Af "curve"),.str (Af "curve 1 0 0"),.str (Af "curve 1 0 0 0 0"),.str (Af "curve 1 0 0 0 0 0 0")})),.asg 2 Ad (.B .Add (.v 2) (.L {.B .Add (.str (Af "curve 1 0 0 0 0 ")) (.bi .str {.B .Add (.v 0) (.int 1)}),.str (Af "undo 1"),.str (Af "points 0"),.str (Af "look 1"),.str (Af "draw 1"),.str (Af "kind 1 0 0"),.str (Af "side")})),.asg 2 Ad (.B .Add (.v 2) (.L {.str (Af "side 1 0"),.str (Af "polar 1"),.str (Af "pole"),.str (Af "poles 1 0 0")})),.asg 2 Ad (.B .Add (.v 2) (.L {.str (Af "point"),.str (Af "(1 0 0)"),.str (Af "1 0 0"),.str (Af "five."),.str (Af "undo undo"),.str (Af "side 1 0 0 0"),.str (Af "put +1 0 0"),.str (Af "kinds")})),.asg 2 Ad (.B .Add (.v 2) (.L {.str (Af "none 1 0 0 0 0 0 0"),.str (Af "put 1.0 0 0"),.str (Af "look\n"),.str (Af "put 00 0 1")})),.ret (.idx (.v 2) (.B .Mod (.v 1) (.bi .len {.v 2})))}⟩
def D9:Df:=⟨7,Ad,{.asg 4 Ad (.B .Mod (.v 1) (.int 7)),.ife (.cmp .Eq (.v 4) (.int 0)) {.ret (.H {.idx (.L {.str (Af "put 0 0 0"),.str (Af "take 0 0 0"),.str (Af "side 0 0 0"),.str (Af "polar 0 0 0"),.str (Af "pole 0 0 0")}) (.B .Mod (.B .FloorDiv (.v 1) (.int 7)) (.int 5)),.str (Af "triple")})} .nil,.ife (.cmp .Eq (.v 4) (.int 1)) {.ret (.H {.str (Af "curve 0 0 0 0 0 0"),.str (Af "curve")})} .nil,.ife (.and {.cmp .Eq (.v 4) (.int 2),.cmp .Lt (.v 3) (.int 2)}) {.asg 5 Ad (.B .Add (.B .Add (.idx (.L {.str (Af "side"),.str (Af "polar"),.str (Af "pole")}) (.B .Mod (.B .FloorDiv (.v 1) (.int 7)) (.int 3))) (.str (Af " "))) (.call 359 {.v 0,.call 93 {.v 0,.B .FloorDiv (.v 1) (.int 21)},.B .FloorDiv (.v 1) (.int 3)})),.ret (.H {.v 5,.idx (.L {.str (Af "curve"),.str (Af "not whole")}) (.v 3)})} .nil,.ife (.and {.cmp .Eq (.v 4) (.int 3),.cmp .Eq (.v 3) (.int 0)}) {.ret (.H {.str (Af "kind"),.str (Af "curve")})} .nil,.ife (.and {.cmp .Eq (.v 4) (.int 4),.cmp .NotEq (.bi .len {.bi .list {.v 2}}) (.int 0)}) {.ret (.H {.B .Add (.str (Af "put ")) (.call 359 {.v 0,.idx (.v 2) (.B .Mod (.B .FloorDiv (.v 1) (.int 7)) (.bi .len {.v 2})),.B .FloorDiv (.v 1) (.int 3)}),.str (Af "alike")})} .nil,.ife (.cmp .Eq (.v 4) (.int 5)) {.asg 6 Ad (.call 93 {.v 0,.B .FloorDiv (.v 1) (.int 7)}),.ife (.cmp .NotIn (.v 6) (.v 2)) {.ret (.H {.B .Add (.str (Af "take ")) (.call 359 {.v 0,.v 6,.B .FloorDiv (.v 1) (.int 3)}),.str (Af "not on")})} .nil} .nil,.ife (.cmp .Eq (.v 4) (.int 6)) {.ret (.H {.str (Af "five"),.str (Af "count")})} .nil,.ret (.H {.call 368 {.v 0,.B .FloorDiv (.v 1) (.int 7)},.str (Af "row")})}⟩
def PF:Df:=⟨2,Ad,{.ife (.cmp .Eq (.bi .len {.v 1}) (.int 3)) {.ret (.call 17 {.v 0,.v 1})} .nil,.ife (.cmp .Eq (.bi .len {.v 1}) (.int 6)) {.ret (.call 122 {.v 0,.v 1})} .nil,.ret .O}⟩
noncomputable def Z5:E:=(.bl Ab)
def Z6:E:=(.meth (Af "shown") [(2,932)] (.mkn 2 {.v 0,.v 2}))
def aP:Df:=⟨3,Ad,{.ret (.comp Z6 2 (.e (.v 1)) Z5)}⟩
def bF:Df:=⟨3,Ad,{.asg 2 Ad (.call 154 {.v 0,.v 1}),.ife (.cmp .Eq (.idx (.v 2) (.int 0)) (.str (Af "whole"))) {.ret (.str (Af "whole"))} .nil,.ife (.cmp .Eq (.idx (.v 2) (.int 0)) (.str (Af "point"))) {.ret (.B .Add (.str (Af "point ")) (.meth (Af "shown") [(1,931)] (.mkn 1 {.v 0,.idx (.v 2) (.int 1)})))} .nil,.ret (.bi .sjoin {.str (Af " "),.B .Add (.L {.idx (.v 2) (.int 0)}) (.call 351 {.v 0,.sl (.v 2) (.int 1) .O})})}⟩
noncomputable def Lz:E:=(.bl Ab)
def LB:E:=(.call 358 {.v 10})
noncomputable def QY:E:=(.str (Af "undo"))
def Q5:E:=(.B .Mod (.call 354 {.v 0,.int 1}) (.int 5))
noncomputable def Lf:E:=(.cmp .NotIn (.v 5) (.v 3))
def Nw:E:=(.B .Add (.str (Af "put ")) (.call 357 {.v 5}))
noncomputable def VE:E:=(.cmp .Gt (.v 6) (.int 0))
def Q4:E:=(.B .Add (.str (Af "curve ")) (.idx (.L {.str (Af "1 0 0 0 0 0"),.B .Add (.B .Add (.str (Af "0 1 0 0 ")) (.bi .str {.B .Sub (.v 1) (.int 1)})) (.str (Af " 0"))}) (.B .Sub (.v 6) (.int 1))))
noncomputable def VD:E:=(.int 5)
def Q3:E:=(.bi .min {.bi .len {.v 0},.int 40})
noncomputable def Q2:E:=(.v 7)
noncomputable def VC:E:=(.str (Af "points"))
noncomputable def Vc:E:=(.str (Af "kind"))
def Ow:E:=(.B .Add (.bi .len {.v 3}) (.bi .int {.cmp .Gt (.v 6) (.int 0)}))
noncomputable def Ou:E:=(.str (Af "undo"))
noncomputable def Vb:E:=(.str (Af "undo"))
noncomputable def Va:E:=(.str (Af "points"))
def VB:E:=(.H {.str (Af "nothing"),.O})
def Q1:E:=(.H {.v 8,.O})
def OD:E:=(.H {.str (Af "told"),.comp LB 10 (.e (.v 3)) Lz})
noncomputable def VA:E:=(.idx (.v 9) (.v 6))
def Vz:E:=(.H {.str (Af "nothing"),.O})
def Vy:E:=(.H {.str (Af "told"),.L .nil})
noncomputable def VH:S:=(.asg 3 Ab (.L .nil))
def MC:S:=(.asg 5 Ad (.call 93 {.v 1,.B .Add (.B .Mult (.int 5) (.v 4)) (.B .Mod (.B .Mod (.call 354 {.v 0,.int 2}) (.int 5)) (.v 1))}))
noncomputable def Nv:S:=(.app 3 (.v 5))
def QZ:S:=(.asg 6 Ad (.B .Mod (.call 354 {.v 0,.int 3}) (.int 3)))
def Nu:S:=(.asgT [7,8] (.call 369 {.v 1,.call 354 {.v 0,.v 4},.v 3,.v 6}))
def VG:S:=(.asg 9 Ad (.L {.H {.str (Af "curve"),.O},.H {.str (Af "told"),.L {.str (Af "twice [1 0 0]")}},.H {.str (Af "told"),.L {.str (Af "whole")}}}))
noncomputable def six(a b c d e f:Ai):D := .H [.int a,.int b,.int c,.int d,.int e,.int f]
def cv6(p:Ai)(c:Ai):D:=if c=0 then .O else if c=1 then six 1 0 0 0 0 0 else six 0 1 0 0 (p-1) 0
noncomputable def er6:Es := {.B .Add (.str (Af "curve ")) (.call 25 {.v 2})}
def ã(J:J9)(r:Ah):R D:=evE J [Ae,Aa (.str r,Ad),Ae,Ae,Ae] csE
def rk(J1:J9):Dk->Ah->D->RK:=LS ô lmW llW (Wu J1 186 180 149 353 931 932) (NO J1 198 (.L er6)) (Lo J1 348 349) Ic (Ph J1 350)
def Em(J1 J2:J9):Dk->Ac D->RK:=Jk (rk J1) (λr=>evE J2 [Ae,Aa (.str r,Ad),Ae,Ae,Ae] csE) (JS J1 34 JW) (J2.F 347)
def EU(J1 J2:J9)(p:Ai)(r:Ah):R D:=match ã J2 r with
  | .ok (.L (.str w::ws))=>(match JS J1 34 JW [.int p,.L (.str w::ws)] with
    | .ok rs=>(match J2.F 347 [.int p,rs] with
      |.ok fm => .ok (.H [.str w,fm])
      |.exn y => .exn y
      | .bad => .bad)
    |.exn y => .exn y
    | .bad => .bad)
  |_ => .bad
theorem Jh(hq:q.p = .int p)(h:EU J1 J2 p r = .ok (.H [.str w,fm])):Em J1 J2 q [.str r]=rk J1 q w fm:=by
  unfold EU at h;unfold Em Jk;dsimp only;rw[hq];show (match ã J2 r with
    | .ok (.L (.str w::ws))=>(match JS J1 34 JW [.int p,.L (.str w::ws)] with
      | .ok rs=>(match J2.F 347 [.int p,rs] with
        |.ok fm=>rk J1 q w fm
        |.exn y => .exn y
        | .bad => .bad)
      |.exn y => .exn y
      | .bad => .bad)
    | _ => .bad)=_
  cases e:ã J2 r with
  |bad=>rw[e]at h;cases h
  |exn z=>rw[e]at h;cases h
  |ok d=>
    rw[e]at h;cases d with
    |L xs=>
      cases xs with
      |nil=>cases h
      |cons x ws=>
        cases x with
        |str w'=>
          dsimp only at h ⊢;cases e2:JS J1 34 JW [.int p,.L (.str w'::ws)] with
          |bad=>rw[e2]at h;cases h
          |exn z=>rw[e2]at h;cases h
          |ok rs=>
            rw[e2]at h;dsimp only at h ⊢;cases e3:J2.F 347 [.int p,rs] with
            |bad=>rw[e3]at h;cases h
            |exn z=>rw[e3]at h;cases h
            |ok fm'=>rw[e3]at h;cases h;rfl
        |_=>cases h
    |_=>cases h
theorem QT(hq:q.p = .int p)(h:EU J1 J2 p r = .exn y):Em J1 J2 q [.str r] = .exn y:=by
  unfold EU at h;unfold Em Jk;dsimp only;rw[hq];show (match ã J2 r with
    | .ok (.L (.str w::ws))=>(match JS J1 34 JW [.int p,.L (.str w::ws)] with
      | .ok rs=>(match J2.F 347 [.int p,rs] with
        |.ok fm=>rk J1 q w fm
        |.exn y => .exn y
        | .bad => .bad)
      |.exn y => .exn y
      | .bad => .bad)
    | _ => .bad)=_
  cases e:ã J2 r with
  |bad=>rw[e]at h;cases h
  |exn z=>rw[e]at h;cases h
  |ok d=>
    rw[e]at h;cases d with
    |L xs=>
      cases xs with
      |nil=>cases h
      |cons x ws=>
        cases x with
        |str w'=>
          dsimp only at h ⊢;cases e2:JS J1 34 JW [.int p,.L (.str w'::ws)] with
          |bad=>rw[e2]at h;cases h
          |exn z=>rw[e2]at h;cases h;rfl
          |ok rs=>
            rw[e2]at h;dsimp only at h ⊢;cases e3:J2.F 347 [.int p,rs] with
            |bad=>rw[e3]at h;cases h
            |exn z=>rw[e3]at h;cases h;rfl
            |ok fm'=>rw[e3]at h;cases h
        |_=>cases h
    |_=>cases h
def rw6(w:Ah)(a:R3):Ah:=w++sp7++jq a
def θ(w:Ah):Prop:=w=Af "put" \/ w=Af "take" \/ w=Af "side" \/ w=Af "polar" \/ w=Af "pole"
theorem kP(hr:Vr J1)(ht : ∀ a q:R3,Fm p a q->J2.F 347 [.int p,Az Ad a] = .ok (Az Ab q))(hp:P4 p)(hw:θ w)(ha:yn p a)(hf:Fm p a q):EU J1 J2 p (rw6 w a) = .ok (.H [.str w,Az Ab q]):=by
 have hi:=hp.hi;obtain⟨⟨a0,a1⟩,⟨b0,b1⟩,c0,c1⟩:=ha;have ej:rw6 w a=DV sp7 [w,dg a.1.toNat,dg a.2.1.toNat,dg a.2.2.toNat]:=by
  unfold rw6 jq jn;show w++sp7++Builtin.Str.glued sp7 _=_;rw[StrLaws.glued_eq_join];rfl
 have wl:nb w=Ab/\w.length<=5/\JW.lookup w=Aa 3:=by
  rcases hw with rfl|rfl|rfl|rfl|rfl <;> exact⟨by decide,by decide,by decide⟩
 have len : ∀ n:Ag,(dg n).length<=2:=λn=>by
  unfold dg;split
  .exact(by decide:1<=2)
  .exact(by decide:2<=2)
 have ln:(DV sp7 [w,dg a.1.toNat,dg a.2.1.toNat,dg a.2.2.toNat]).length<=1000:=by
  have h:=StrLaws.join_length_le sp7 [w,dg a.1.toNat,dg a.2.1.toNat,dg a.2.2.toNat];have s:sp7.length=1:=rfl;have:=len a.1.toNat;have:=len a.2.1.toNat;have:=len a.2.2.toNat;simp only[BU,KQ,Xk,List.sum_nil,Ba,Xc]at h;omega
 have ec:ã J2 (rw6 w a) = .ok (.L [.str w,.str (dg a.1.toNat),.str (dg a.2.1.toNat),.str (dg a.2.2.toNat)]):=by
  rw[ej];show zm .ssplit [.str _,.str sp7]=_;exact cs6 (J:=J2) [w,dg a.1.toNat,dg a.2.1.toNat,dg a.2.2.toNat] (by simp) (by simp[wl.1,bn]) ln
 have er:J1.F 34 [.int p,.L [.str (dg a.1.toNat),.str (dg a.2.1.toNat),.str (dg a.2.2.toNat)]] = .ok (Az Ad a):=by
  have e:=hr p [dg a.1.toNat,dg a.2.1.toNat,dg a.2.2.toNat] hp;have e2:=tR hp [a.1.toNat,a.2.1.toNat,a.2.2.toNat] (λn hn=>by simp at hn;omega)
  have e3:kg p [dg a.1.toNat,dg a.2.1.toNat,dg a.2.2.toNat]=Az Ad a:=by
   refine(show kg p ([a.1.toNat,a.2.1.toNat,a.2.2.toNat].map dg)=_ from e2).trans ?_
   show D.L [.int (a.1.toNat:Ai),.int (a.2.1.toNat:Ai),.int (a.2.2.toNat:Ai)]=D.L [.int a.1,.int a.2.1,.int a.2.2];rw[HE a0,HE b0,HE c0]
  rwa [e3]at e
 have e2:JS J1 34 JW [.int p,.L [.str w,.str (dg a.1.toNat),.str (dg a.2.1.toNat),.str (dg a.2.2.toNat)]] = .ok (Az Ad a):=by
  unfold JS;dsimp only;rw[er];show (match JW.lookup w with|none=>R.exn ⟨12,[]⟩|some k=>if (([D.int a.1,.int a.2.1,.int a.2.2]:Ac D).length:Ai)=k then .ok (D.L [.int a.1,.int a.2.1,.int a.2.2]) else .exn ⟨12,[]⟩)=_
  rw[wl.2.2];rfl
 unfold EU;rw[ec];dsimp only;rw[e2];dsimp only;rw[ht a q hf]
noncomputable def JT(p:Ai):Ac Ah:=["", " ", "put", "put 1", "put 1 0", "put 1 0 0 0"].map Af++(Af "put 1 0 " ++ Af (toString p))::(["put 01 0 0", "put -1 0 0", "put 1  0 0", " put 1 0 0", "put 1 0 0 ", "Put 1 0 0", "put 1 0 x", "take", "take 1 2", "grow 1", "five 1 0 0", "grow ", "curve", "curve 1 0 0", "curve 1 0 0 0 0", "curve 1 0 0 0 0 0 0"].map Af++(Af "curve 1 0 0 0 0 " ++ Af (toString (p+1)))::["undo 1", "points 0", "look 1", "draw 1", "kind 1 0 0", "side", "side 1 0", "polar 1", "pole", "poles 1 0 0", "point", "(1 0 0)", "1 0 0", "five.", "undo undo", "side 1 0 0 0", "put +1 0 0", "kinds", "none 1 0 0 0 0 0 0", "put 1.0 0 0", "look\n", "put 00 0 1"].map Af)
noncomputable def JN:Ac Ah:=["put 0 0 0", "take 0 0 0", "side 0 0 0", "polar 0 0 0", "pole 0 0 0"]
def O4(p c:Ai):Ah:=if c=1 then Af "curve 1 0 0 0 0 0" else Af "curve 0 1 0 0 " ++ dg (p-1).toNat++Af " 0"
noncomputable def LZ(c:Ai):Ah:=if c=1 then Af "twice [1 0 0]" else Af "whole"
def vq(c:Ai):Prop:=c=1\/c=2
structure H6 (J1 J2:J9) (p:Ai):Prop where
 odd : ∀ r∈JT p,EU J1 J2 p r = .exn ⟨12,[]⟩
 tri : ∀ r∈JN,EU J1 J2 p r = .exn ⟨3,[]⟩
 c00:EU J1 J2 p (Af "curve 0 0 0 0 0 0") = .exn ⟨5,[]⟩
 crv : ∀ c,vq c->EU J1 J2 p (O4 p c) = .ok (.H [.str (Af "curve"),cv6 p c])
 wrd : ∀ w∈([Af "undo",Af "points",Af "kind",Af "five"]:Ac Ah),EU J1 J2 p w = .ok (.H [.str w,.O])
 txt : ∀(w:Ah)(a q:R3),θ w->yn p a->Fm p a q->EU J1 J2 p (rw6 w a) = .ok (.H [.str w,Az Ab q])
 kin : ∀ c,vq c->J1.F 353 [.int p,cv6 p c] = .ok (.str (LZ c))
 nwh : ∀(w:Ah)(fm:D),w=Af "side" \/ w=Af "polar" \/ w=Af "pole" -> MT J1 186 180 149 353 931 932 (.int p) (cv6 p 1) w fm = .exn ⟨14,[]⟩
 fiv : ∀ l:Ac D,l.length≠5->J1.F 198 [.int p,.L l] = .exn ⟨13,[]⟩
 mad : ∀ c,vq c -> ∃ s,evE J1 [Ae,Ae,Aa (cv6 p c,Ad)] (.L er6) = .ok (.L [.str s])
 put : ∀(l:Ac R3)(q:R3),yn p q->l.length<=20->J1.F 348 [A9 l,Az Ab q]=if q∈l then .exn ⟨107,[(("triple" : Ah),Az Ab q)]⟩ else .ok (A9 (l++[q]))
 take : ∀(l:Ac R3)(q:R3),yn p q->J1.F 349 [A9 l,Az Ab q]=if q∈l then .ok (A9 (l.filter λx => !decide (x=q))) else .exn ⟨108,[(("triple" : Ah),Az Ab q)]⟩
 pts : ∀ l:Ac R3,(∀ q∈l,NF p q)->J1.F 350 [.int p,A9 l] = .ok (.L (HA l))
def K6(p:Ai)(l:Ac R3)(c:Ai)(ps:Ac D):Dk:=⟨.int p,l.map (Az Ab),cv6 p c,ps⟩
def ut(p:Ai)(l:Ac R3)(c:Ai):D := .H [A9 l,cv6 p c]
theorem Ŵ(p:Ai)(h:c=0\/vq c):BZ .Is (cv6 p c) .O = .ok (.bl (decide (c=0))):=by
 rcases h with rfl|rfl|rfl <;> rfl
theorem su0(h:H6 J1 J2 p):Em J1 J2 (K6 p l c []) [.str (Af "undo")] = .exn ⟨17,[]⟩:=by
 rw[Jh rfl (h.wrd _ (by simp))]
 rfl
theorem su1(h:H6 J1 J2 p)(hg:g.length<=30):Em J1 J2 (K6 p l c (ps++[ut p g c'])) [.str (Af "undo")] = .ok (.L [õ g.length]) (K6 p g c' ps):=by
 rw[Jh rfl (h.wrd _ (by simp))]
 show Ic (K6 p l c (ps++[ut p g c'])) []=_;have e:(K6 p l c (ps++[ut p g c'])).ps.getLast? = Aa (.H [.L (g.map (Az Ab)),cv6 p c']):=by
  show (ps++[ut p g c']).getLast? = _;rw[List.getLast?_concat];rfl
 have e2:(K6 p l c (ps++[ut p g c'])).ps.dropLast=ps:=by
  show (ps++[ut p g c']).dropLast=_;simp
 unfold Ic;simp only[e,e2];rw[Au (by rw[Bb];omega),Bb]
 rfl
theorem ZE(h:H6 J1 J2 p)(hq:yn p q)(ha:yn p a)(hf:Fm p a q)(hl:l.length<=20)(hz:ps.length<900)(hn:q ∉ l):Em J1 J2 (K6 p l c ps) [.str (rw6 (Af "put") a)] = .ok (.L [õ (l.length+1)]) (K6 p (l++[q]) c (ps++[ut p l c])):=by
 rw[Jh rfl (h.txt _ a q (.inl rfl) ha hf)];show Lo J1 348 349 (K6 p l c ps) [.str (Af "put"),Az Ab q]=_;unfold Lo;dsimp only;rw[Au (show Af "put" = ("put" : Ah) from rfl)]
 have e:=h.put l q hq hl;rw[AA hn]at e;rw[show D.L (K6 p l c ps).l=A9 l from rfl,e]
 show (if ps.length<900/\((l++[q]).map (Az Ab)).length<900 then RK.ok (.L [.str (toString (((l++[q]).map (Az Ab)).length:Ai))]) (Hz (K6 p l c ps) ((l++[q]).map (Az Ab)) (K6 p l c ps).c) else .bad)=_
 have e1:((l++[q]).map (Az Ab)).length=l.length+1:=by simp
 rw[Au (by rw[e1];omega),e1]
 rfl
theorem xI(h:H6 J1 J2 p)(hq:yn p q)(ha:yn p a)(hf:Fm p a q)(hl:l.length<=20)(hn:q∈l):Em J1 J2 (K6 p l c ps) [.str (rw6 (Af "put") a)] = .exn ⟨107,[(("triple" : Ah),Az Ab q)]⟩:=by
 rw[Jh rfl (h.txt _ a q (.inl rfl) ha hf)];show Lo J1 348 349 (K6 p l c ps) [.str (Af "put"),Az Ab q]=_;unfold Lo;dsimp only;rw[Au (show Af "put" = ("put" : Ah) from rfl)]
 have e:=h.put l q hq hl;rw[Au hn]at e;rw[show D.L (K6 p l c ps).l=A9 l from rfl,e]
theorem qO(h:H6 J1 J2 p)(hq:yn p q)(ha:yn p a)(hf:Fm p a q)(hn:q ∉ l):Em J1 J2 (K6 p l c ps) [.str (rw6 (Af "take") a)] = .exn ⟨108,[(("triple" : Ah),Az Ab q)]⟩:=by
 rw[Jh rfl (h.txt _ a q (.inr (.inl rfl)) ha hf)];show Lo J1 348 349 (K6 p l c ps) [.str (Af "take"),Az Ab q]=_;unfold Lo;dsimp only;rw[AA (show ¬ Af "take" = ("put" : Ah) by decide),Au (show Af "take" = ("take" : Ah) from rfl)]
 have e:=h.take l q hq;rw[AA hn]at e;rw[show D.L (K6 p l c ps).l=A9 l from rfl,e]
theorem Wb(h:H6 J1 J2 p)(hl : ∀ q∈l,NF p q):Em J1 J2 (K6 p l c ps) [.str (Af "points")] = .ok (.L (HA l)) (K6 p l c ps):=by
 rw[Jh rfl (h.wrd _ (by simp))]
 show Ph J1 350 (K6 p l c ps) [.str (Af "points")]=_;unfold Ph;dsimp only;rw[Au rfl,show (K6 p l c ps).p=D.int p from rfl,show D.L (K6 p l c ps).l=A9 l from rfl,h.pts l hl]
 rfl
theorem ZJ(h:H6 J1 J2 p)(hc:vq c')(hz:ps.length<900) : ∃ s,Em J1 J2 (K6 p l c ps) [.str (O4 p c')] = .ok (.L [.str s]) (K6 p l c' (ps++[ut p l c])):=by
 obtain⟨s,e⟩:=h.mad c' hc;refine⟨s,?_⟩;rw[Jh rfl (h.crv c' hc)];show NO J1 198 (.L er6) (K6 p l c ps) [cv6 p c']=_;unfold NO;dsimp only;rw[Ŵ p (.inr hc),Bq (by rcases hc with rfl|rfl <;> decide)]
 show LU J1 (.L er6) (K6 p l c ps) (.ok (cv6 p c'))=_;unfold LU;dsimp only;rw[e,Au (show (K6 p l c ps).ps.length<900 from hz)]
 rfl
theorem Rb(h:H6 J1 J2 p)(hw:qs ô w=Ab)(hr:EU J1 J2 p r = .ok (.H [.str w,fm])):Em J1 J2 (K6 p l 0 ps) [.str r] = .exn ⟨5,[]⟩:=by
 rw[Jh rfl hr];unfold rk LS;rw[Au hw,show (K6 p l 0 ps).c=cv6 p 0 from rfl,Ŵ p (.inl rfl)]
 rfl
theorem xM(h:H6 J1 J2 p)(hw:w=Af "side" \/ w=Af "polar" \/ w=Af "pole")(ha:yn p a)(hf:Fm p a q):Em J1 J2 (K6 p l 1 ps) [.str (rw6 w a)] = .exn ⟨14,[]⟩:=by
 rw[Jh rfl (h.txt w a q (by rcases hw with z|z|z <;> rw[z] <;> simp[θ]) ha hf)]
 have il:qs ô w=Ab:=by rcases hw with rfl|rfl|rfl <;> rfl
 unfold rk LS;rw[Au il,show (K6 p l 1 ps).c=cv6 p 1 from rfl,Ŵ p (.inr (.inl rfl))]
 show NJ (MH (MT J1 186 180 149 353 931 932 (.int p) (cv6 p 1) w (Az Ab q)) _)=_;rw[h.nwh w _ hw];rfl
theorem ZG(h:H6 J1 J2 p)(hc:vq c):Em J1 J2 (K6 p l c ps) [.str (Af "kind")] = .ok (.L [.str (LZ c)]) (K6 p l c ps):=by
 rw[Jh rfl (h.wrd _ (by simp))]
 unfold rk LS;rw[Au (show qs ô (Af "kind")=Ab from rfl),show (K6 p l c ps).c=cv6 p c from rfl,Ŵ p (.inr hc),Bq (by rcases hc with rfl|rfl <;> decide)]
 show NJ (MH (J1.F 353 [.int p,cv6 p c]) (K6 p l c ps))=_;rw[h.kin c hc];rfl
theorem ZI(h:H6 J1 J2 p)(hl:l.length<5):Em J1 J2 (K6 p l c ps) [.str (Af "five")] = .exn ⟨13,[]⟩:=by
 rw[Jh rfl (h.wrd _ (by simp))]
 show NO J1 198 (.L er6) (K6 p l c ps) [.O]=_;show LU J1 (.L er6) (K6 p l c ps) (J1.F 198 [.int p,.L (l.map (Az Ab))])=_;rw[h.fiv _ (by rw[Bb];omega)]
 rfl
noncomputable def NC:Ag->Ac Ag
 |0=>[0]
 |3=>[3,0]
 |5=>[5,0]
 |12=>[12,0]
 |13=>[13,0]
 |14=>[14,0]
 |17=>[17,0]
 |107=>[107,0]
 |108=>[108,0]
 |_=>[]
noncomputable def nm6:Ag->Ah
 |3 => "triple"
 |5 => "curve"
 |12 => "row"
 |13 => "count"
 |14 => "not whole"
 |17 => "nothing"
 |107 => "alike"
 |_ => "not on"
def ý(y:Ex):Prop:=y∈([⟨3,[]⟩,⟨5,[]⟩,⟨12,[]⟩,⟨13,[]⟩,⟨14,[]⟩,⟨17,[]⟩]:Ac Ex) \/ ∃ d,y=⟨107,[(("triple" : Ah),d)]⟩\/y=⟨108,[(("triple" : Ah),d)]⟩
theorem ZL(hu:J.up=NC)(h:ý y):RN.run J [.exc y.c y.fs] = .ok (.str (nm6 y.c)):=by
 obtain⟨F,G,up,fr,xn⟩:=J;have hu:up=NC:=hu;subst hu;rcases h with h|⟨d,rfl|rfl⟩
 .simp only[AE,Bo,Dm]at h;rcases h with rfl|rfl|rfl|rfl|rfl|rfl <;> rfl
 .rfl
 .rfl
theorem bh(h:ý y):(NC y.c).contains 0=Ab/\nm6 y.c≠Af "told" := by
 rcases h with h|⟨d,rfl|rfl⟩
 .simp only[AE,Bo,Dm]at h;rcases h with rfl|rfl|rfl|rfl|rfl|rfl <;> exact⟨rfl,by decide⟩
 .exact⟨rfl,show Af "alike" ≠ _ by decide⟩
 .exact⟨rfl,show Af "not on" ≠ _ by decide⟩
def oh(J1 J2 J3:J9):Dk->Ac D->RK:=mh NC (J3.F 356) (J3.F 360) (Em J1 J2)
structure Ù (J3:J9):Prop where
 tx : ∀ ts:Ac Ah,J3.F 356 [.L (ts.map .str)] = .ok (.bl Ab)
 rf : ∀ y,ý y->J3.F 360 [.exc y.c y.fs] = .ok (.str (nm6 y.c))
section
variable{ds:Ac D}
theorem Oj{J1 J2 J3:J9}{k k':Dk}(h:Ù J3){ts:Ac Ah}(e:Em J1 J2 k ds = .ok (.L (ts.map .str)) k'):oh J1 J2 J3 k ds = .ok (pr9 (Af "told") (.L (ts.map .str))) k':=by
 unfold oh mh;rw[e];dsimp only;rw[h.tx];rfl
theorem OP{y:Ex}{J1 J2 J3:J9}{k:Dk}(h:Ù J3)(e:Em J1 J2 k ds = .exn y)(hy:ý y):oh J1 J2 J3 k ds = .ok (pr9 (nm6 y.c) .O) k:=by
 unfold oh mh;rw[e];dsimp only;rw[h.rf y hy];exact Au (bh hy)
end
theorem zO(hp:P4 p)(J:J9)(m:Ai):(JT p).length=46/\J6 J [Aa (.int p,Ad),Aa (.int m,Ad),Ae] (Lx.body.take 7) = .next [Aa (.int p,Ad),Aa (.int m,Ad),Aa (.L ((JT p).map .str),Ad)]:=by
 rcases hp with rfl|rfl|rfl|rfl <;> exact⟨rfl,rfl⟩
def Vt(J:J9):Prop := ∀(p m:Ai),P4 p -> ∃ r∈JT p,J.F 368 [.int p,.int m] = .ok (.str r)
theorem sG(J:J9)(p m:Ai)(hp:P4 p) : ∃ r∈JT p,Lx.run J [.int p,.int m] = .ok (.str r):=by
 obtain⟨hl,e⟩:=zO hp J m;generalize JT p=L at *;have h0:0<=m%46:=Bz _ (by decide)
 have h1:m%46<46:=Bn _ (by decide)
 obtain⟨j,hj⟩:=Ez h0;have qm:j<L.length:=by omega
 refine⟨L[j],DR qm,?_⟩;have eb:Cw .Mod (.int m) (.int (L.map D.str).length) = .ok (.int (j:Ai)):=by
  rw[Bb,hl];show (if ((46:Ag):Ai)=0 then R.bad else R.ok (D.int (m%((46:Ag):Ai))))=_
  rw[AA (by decide),<-hj]
  rfl
 have ei:D4 (.L (L.map D.str)) (.int (j:Ai)) = .ok (.str L[j]):=by
  show Ee (L.map D.str) (j:Ai)=_;unfold Ee pz;rw[Au (by omega),Bb,Au (by omega)]
  simp[qm]
 have el:evE J [Aa (.int p,Ad),Aa (.int m,Ad),Aa (.L (L.map D.str),Ad)] (.idx (.v 2) (.B .Mod (.v 1) (.bi .len (.cons (.v 2) .nil)))) = .ok (.str L[j]):=by
  show ((Cw .Mod (.int m) (.int (L.map D.str).length)).bind λy=>D4 (.L (L.map D.str)) y)=_
  rw[eb];exact ei
 have ed:Lx.body.drop 7 = .cons (.ret (.idx (.v 2) (.B .Mod (.v 1) (.bi .len (.cons (.v 2) .nil))))) .nil:=rfl;have eb2:J6 J [Aa (.int p,Ad),Aa (.int m,Ad),Ae] Lx.body = .ret (.str L[j]) Ad:=by
  rw[Tx J 7,e,ed];show (O.of _ (evE J _ _) _).seq _=_;rw[el];rfl
 unfold Df.run;show O.ans Lx.fr (J6 J [Aa (.int p,Ad),Aa (.int m,Ad),Ae] Lx.body)=_;rw[eb2];rfl
def Rf6(J1 J2:J9)(p:Ai)(l:Ac R3)(c:Ai)(r:Ah)(y:Ex):Prop:=ý y /\ ∀ ps,Em J1 J2 (K6 p l c ps) [.str r] = .exn y
def O3(y:Ex)(r:Ah):D := .H [.str r,.str (nm6 y.c)]
theorem NL(hw:w.length<=5)(hp:P4 p)(ha:yn p a)(e:w++sp7=s):Cw .Add (.str s) (.str (jq a)) = .ok (.str (rw6 w a)):=by
 have lj:(jq a).length<=10:=(QG hp ha).ln;rw[<-e,JD,Au]
 .rfl
 .rw[Str.length_append];have:sp7.length=1:=rfl;exact sz7 (by omega)
theorem Y_4(J:J9)(h:m%7=0)(L c:D)(er:D4 (.L (JN.map .str)) (.int (m/7%5)) = .ok (.str r)):D9.run J [.int p,.int m,L,c] = .ok (.H [.str r,.str (Af "triple")]):=by
 have er:D4 (.L [.str (Af "put 0 0 0"),.str (Af "take 0 0 0"),.str (Af "side 0 0 0"),.str (Af "polar 0 0 0"),.str (Af "pole 0 0 0")]) (.int (m/7%5)) = .ok (.str r):=er;simp[D9,Df.run,BX,h,er]
theorem Zt(J:J9)(h:m%7=1)(L c:D):D9.run J [.int p,.int m,L,c] = .ok (.H [.str (Af "curve 0 0 0 0 0 0"),.str (Af "curve")]):=by
 simp[D9,Df.run,BX,h]
theorem Wt(h:m%7=2)(hc:c=0\/c=1)(L Q:D)(e1:D4 (.L [.str (Af "side"),.str (Af "polar"),.str (Af "pole")]) (.int (m/7%3)) = .ok (.str w))(e2:Cw .Add (.str w) (.str (Af " ")) = .ok (.str s))(e3:J.F 93 [.int p,.int (m/21)] = .ok Q)(e4:J.F 359 [.int p,Q,.int (m/3)] = .ok (.str J_))(e5:Cw .Add (.str s) (.str J_) = .ok (.str r))(e6:D4 (.L [.str (Af "curve"),.str (Af "not whole")]) (.int c) = .ok (.str nm)):D9.run J [.int p,.int m,L,.int c] = .ok (.H [.str r,.str nm]):=by
 have c2:c<2:=by omega
 simp[D9,Df.run,BX,h,c2,e1,e2,e3,e4,e5,e6,-JD]
theorem Zs(J:J9)(h:m%7=3)(L:D):D9.run J [.int p,.int m,L,.int 0] = .ok (.H [.str (Af "kind"),.str (Af "curve")]):=by
 simp[D9,Df.run,BX,h]
theorem Zr(h:m%7=4)(n0:0<n)(a1:zm .list [L] = .ok L)(a2:zm .len [L] = .ok (.int n))(e3:D4 L (.int (m/7%n)) = .ok Q)(e4:J.F 359 [.int p,Q,.int (m/3)] = .ok (.str J_))(e5:Cw .Add (.str (Af "put ")) (.str J_) = .ok (.str r)):D9.run J [.int p,.int m,L,c] = .ok (.H [.str r,.str (Af "alike")]):=by
 have n1 : ¬ n=0:=by omega
 simp[D9,Df.run,BX,h,a1,a2,n0,n1,e3,e4,e5,-JD]
theorem Zq(h:m%7=5)(e3:J.F 93 [.int p,.int (m/7)] = .ok Q)(ni:BZ .NotIn Q L = .ok (.bl Ab))(e4:J.F 359 [.int p,Q,.int (m/3)] = .ok (.str J_))(e5:Cw .Add (.str (Af "take ")) (.str J_) = .ok (.str r)):D9.run J [.int p,.int m,L,c] = .ok (.H [.str r,.str (Af "not on")]):=by
 simp[D9,Df.run,BX,h,ni,e3,e4,e5,-JD]
theorem Zp(J:J9)(h:m%7=6)(L c:D):D9.run J [.int p,.int m,L,c] = .ok (.H [.str (Af "five"),.str (Af "count")]):=by
 simp[D9,Df.run,BX,h]
theorem ic(h:m%7=2)(L:D)(e:J.F 368 [.int p,.int (m/7)] = .ok (.str r)):D9.run J [.int p,.int m,L,.int 2] = .ok (.H [.str r,.str (Af "row")]):=by
 simp[D9,Df.run,BX,h,e]
theorem ib(h:m%7=3)(hc : ¬ c=0)(L:D)(e:J.F 368 [.int p,.int (m/7)] = .ok (.str r)):D9.run J [.int p,.int m,L,.int c] = .ok (.H [.str r,.str (Af "row")]):=by
 simp[D9,Df.run,BX,h,hc,e]
theorem h9(h:m%7=4)(c:D)(e:J.F 368 [.int p,.int (m/7)] = .ok (.str r)):D9.run J [.int p,.int m,.L [],c] = .ok (.H [.str r,.str (Af "row")]):=by
 simp[D9,Df.run,BX,h,e]
theorem gz(h:m%7=5)(e3:J.F 93 [.int p,.int (m/7)] = .ok Q)(ni:BZ .NotIn Q L = .ok (.bl Ad))(e:J.F 368 [.int p,.int (m/7)] = .ok (.str r)):D9.run J [.int p,.int m,L,c] = .ok (.H [.str r,.str (Af "row")]):=by
 simp[D9,Df.run,BX,h,ni,e3,e]
theorem i3w(m:Ai) : ∃ w s,(w=Af "side" \/ w=Af "polar" \/ w=Af "pole")/\w++sp7=s/\D4 (.L [.str (Af "side"),.str (Af "polar"),.str (Af "pole")]) (.int (m%3)) = .ok (.str w)/\Cw .Add (.str w) (.str (Af " ")) = .ok (.str s):=by
 have h0:0<=m%3:=Bz _ (by decide)
 have h1:m%3<3:=Bn _ (by decide)
 rcases (show m%3=0\/m%3=1\/m%3=2 by omega) with e|e|e <;> rw[e]
 .exact⟨_,_,.inl rfl,rfl,rfl,rfl⟩
 .exact⟨_,_,.inr (.inl rfl),rfl,rfl,rfl⟩
 .exact⟨_,_,.inr (.inr rfl),rfl,rfl,rfl⟩
theorem i5w(m:Ai) : ∃ r∈JN,D4 (.L (JN.map .str)) (.int (m%5)) = .ok (.str r):=by
 have h0:0<=m%5:=Bz _ (by decide)
 have h1:m%5<5:=Bn _ (by decide)
 rcases (show m%5=0\/m%5=1\/m%5=2\/m%5=3\/m%5=4 by omega) with e|e|e|e|e <;> rw[e]
 .exact⟨_,by simp[JN],rfl⟩
 .exact⟨"take 0 0 0",by simp[JN],rfl⟩
 .exact⟨"side 0 0 0",by simp[JN],rfl⟩
 .exact⟨"polar 0 0 0",by simp[JN],rfl⟩
 .exact⟨"pole 0 0 0",by simp[JN],rfl⟩
theorem sH(h:H6 J1 J2 p)(hr:OU J)(ht:QV J)(ho:Vt J)(hp:P4 p)(hl : ∀ q∈l,NF p q)(ln:l.length<5)(hc:c=0\/vq c)(m0:0<=m) : ∃ r y,Rf6 J1 J2 p l c r y/\D9.run J [.int p,.int m,A9 l,.int c] = .ok (O3 y r):=by
 have h0:0<=m%7:=Bz _ (by decide)
 have h1:m%7<7:=Bn _ (by decide)
 have odd:(∀ r,J.F 368 [.int p,.int (m/7)] = .ok (.str r)->D9.run J [.int p,.int m,A9 l,.int c] = .ok (.H [.str r,.str (Af "row")])) -> ∃ r y,Rf6 J1 J2 p l c r y/\D9.run J [.int p,.int m,A9 l,.int c] = .ok (O3 y r):=λk=>by
  obtain⟨r,hr',e⟩:=ho p (m/7) hp;exact⟨r,⟨12,[]⟩,⟨.inl (by simp),λps=>QT rfl (h.odd r hr')⟩,k r e⟩
 have sm : ∀ q,NF p q -> ∀ k,0<=k -> ∃ a,yn p a/\Fm p a q/\J.F 359 [.int p,Az Ab q,.int k] = .ok (.str (jq a)):=λq hq k hk=>hr p k q hp hk hq
 have d3:0<=m/3:=WS m0 (by decide)
 rcases (show m%7=0\/m%7=1\/m%7=2\/m%7=3\/m%7=4\/m%7=5\/m%7=6 by omega) with e|e|e|e|e|e|e
 .obtain⟨r,hr',er⟩:=i5w (m/7);exact⟨r,⟨3,[]⟩,⟨.inl (by simp),λps=>QT rfl (h.tri r hr')⟩,Y_4 J e _ _ er⟩
 .exact⟨_,⟨5,[]⟩,⟨.inl (by simp),λps=>QT rfl h.c00⟩,Zt J e _ _⟩
 .have n2:=nf9 hp (m/21);have t2:=ht p (m/21) hp;generalize n8 p (m/21%(p*p+p+1))=q at n2 t2;obtain⟨a,ha,hf,ea⟩:=sm q n2 (m/3) d3;obtain⟨w,s,hw,es,ew,eb⟩:=i3w (m/7);have wl:w.length<=5:=by rcases hw with rfl|rfl|rfl <;> decide
  have W:θ w:=by rcases hw with rfl|rfl|rfl <;> simp[θ]
  rcases hc with rfl|rfl|rfl
  .exact⟨_,⟨5,[]⟩,⟨.inl (by simp),λps=>Rb h (by rcases hw with rfl|rfl|rfl <;> rfl) (h.txt w a q W ha hf)⟩,Wt e (.inl rfl) _ _ ew eb t2 ea (NL wl hp ha es) rfl⟩
  .exact⟨_,⟨14,[]⟩,⟨.inl (by simp),λps=>xM h hw ha hf⟩,Wt e (.inr rfl) _ _ ew eb t2 ea (NL wl hp ha es) rfl⟩
  .exact odd λr er=>ic e _ er
 .by_cases c0:c=0
  .subst c0;exact⟨_,⟨5,[]⟩,⟨.inl (by simp),λps=>Rb (w:=Af "kind") h rfl (h.wrd _ (by simp))⟩,Zs J e _⟩
  .exact odd λr er=>ib e c0 _ er
 .by_cases l0:l=[]
  .subst l0;exact odd λr er=>h9 e _ er
  .obtain⟨q,hq,e5⟩:=ix9 (n:=m/7) l0;have n2:=hl q hq;obtain⟨a,ha,hf,ea⟩:=sm q n2 (m/3) d3;have lp:(0:Ai)<l.length:=by
    have:=Xd.mpr l0;omega
   exact⟨_,⟨107,[(("triple" : Ah),Az Ab q)]⟩,⟨.inr ⟨_,.inl rfl⟩,λps=>xI h n2.1 ha hf (by omega) hq⟩,Zr e lp (ls9 l) (ln9 l) e5 ea (NL (w:=Af "put") (by decide) hp ha rfl)⟩
 .have n2:=nf9 hp (m/7);have t2:=ht p (m/7) hp;generalize n8 p (m/7%(p*p+p+1))=q at n2 t2;have ni:=Ry q l;by_cases hq:q∈l
  .rw[Di hq]at ni;exact odd λr er=>gz e t2 ni er
  .rw[Bq hq]at ni;obtain⟨a,ha,hf,ea⟩:=sm q n2 (m/3) d3;exact⟨_,⟨108,[(("triple" : Ah),Az Ab q)]⟩,⟨.inr ⟨_,.inr rfl⟩,λps=>qO h n2.1 ha hf hq⟩,Zq e t2 ni ea (NL (w:=Af "take") (by decide) hp ha rfl)⟩
 .exact⟨_,⟨13,[]⟩,⟨.inl (by simp),λps=>ZI h ln⟩,Zp J e _ _⟩
def R6(S:D)(p:Ai)(L k pt cv rw wd kn:Sl):Rho:=[U8 S,U8 (.int p),Aa (.O,Ab),L,k,pt,cv,rw,wd,kn,Ae]
def v7(l:Ac R3):Sl:=Aa (A9 l,Ab)
def ET(p:Ai)(l:Ac R3):Ac D:=(B2 l.length).map λi=>ut p (l.take i) 0
theorem Td(p:Ai)(l:Ac R3)(q:R3):ET p (l++[q])=ET p l++[ut p l 0]:=by
 unfold ET;rw[Cy,G9,List.range_succ,Jo,List.map_singleton]
 congr 1
 .refine FN λi hi => ?_
  rw[List.take_append_of_le_length (by have:=DT.mp hi;omega)]
 .rw[List.take_left]
theorem TZ(p:Ai)(l:Ac R3):(ET p l).length=l.length:=by unfold ET;simp
theorem JH(a:U_ Y q Y' q')(b:P Y' q'):Ib U_ P Y q:=⟨Y',q',a,b⟩
structure L6 (J:J9) (ns:Ac Ai):Prop where
 mi:Oh J 354 ns
 pt:QV J
 tx:OT J
 px:Rr J
 rs:OU J
 du : ∀(J1 J2:J9)(p:Ai)(l:Ac R3)(c m:Ai),H6 J1 J2 p->P4 p->(∀ q∈l,NF p q)->l.length<5->(c=0\/vq c)->0<=m -> ∃ r y,Rf6 J1 J2 p l c r y/\J.F 369 [.int p,.int m,A9 l,.int c] = .ok (O3 y r)
section
variable{J:J9}{ps:Ac D}
theorem bd6(h:L6 J ns)(h1:H6 J1 J2 p)(hp:P4 p)(k0:0<=k)(hl : ∀ q∈l,NF p q)(ln:l.length<=10){ks:Sl} :∃ l' ya,l'.length<=l.length+1/\(∀ q∈l',NF p q)/\Ko (Hx 2 λY=>yk J Y MC) (NH (λY=>(top Y Lf (evE J Y Lf)).bind Ci) (Ko (Hx 2 λY=>yk J Y Nv) (ME (Em J1 J2) λY=>evE J Y Nw)) NI) (R6 (zx ns) p (v7 l) (U8 (.int k)) pt Ae Ae Ae Ae) (K6 p l 0 (ET p l)) (R6 (zx ns) p (v7 l') (U8 (.int k)) ya Ae Ae Ae Ae) (K6 p l' 0 (ET p l')):=by
 obtain⟨m,m0,em⟩:=h.mi 2 (by decide)
 have t:=h.pt p (5*k+m%5%p) hp;have n2:=nf9 hp (5*k+m%5%p);generalize n8 p ((5*k+m%5%p)%(p*p+p+1))=q at t n2;have p0:=hp.pos;have e1:evE J (R6 (zx ns) p (v7 l) (U8 (.int k)) pt Ae Ae Ae Ae) (.call 93 (.cons (.v 1) (.cons (.B .Add (.B .Mult (.int 5) (.v 4)) (.B .Mod (.B .Mod (.call 354 (.cons (.v 0) (.cons (.int 2) .nil))) (.int 5)) (.v 1))) .nil))) = .ok (Az Ab q):=by
  generalize zx ns=S,v7 l=L,Az Ab q=Q at *;have m5:FX 5 k=Ab:=Ni (by decide) (by decide)
  simp[R6,em,m5,t,p0]
 have s1:yk J (R6 (zx ns) p (v7 l) (U8 (.int k)) pt Ae Ae Ae Ae) MC = .next (R6 (zx ns) p (v7 l) (U8 (.int k)) (U8 (Az Ab q)) Ae Ae Ae Ae):=by
  unfold MC;exact Pe e1 rfl
 have e2:((top (R6 (zx ns) p (v7 l) (U8 (.int k)) (U8 (Az Ab q)) Ae Ae Ae Ae) Lf (evE J (R6 (zx ns) p (v7 l) (U8 (.int k)) (U8 (Az Ab q)) Ae Ae Ae Ae) Lf)).bind Ci) = .ok (!decide (q∈l)):=by
  show ((BZ .NotIn (Az Ab q) (A9 l)).bind Ci)=_;rw[Ry];rfl
 by_cases hq:q∈l
 .rw[Di hq]at e2;exact⟨l,U8 (Az Ab q),by omega,hl,_,_,⟨rfl,s1,rfl⟩,_,e2,rfl,rfl⟩
 .rw[Bq hq]at e2;have s2:yk J (R6 (zx ns) p (v7 l) (U8 (.int k)) (U8 (Az Ab q)) Ae Ae Ae Ae) Nv = .next (R6 (zx ns) p (v7 (l++[q])) (U8 (.int k)) (U8 (Az Ab q)) Ae Ae Ae Ae):=by
   have sz:Dd ((l.map (Az Ab)).length+1)=Ab:=Gp.mpr (by rw[Bb];omega)
   show (if Dd ((l.map (Az Ab)).length+1)=Ab then _ else _)=_
   rw[Au sz];unfold v7 A9;rw[Jo];rfl
  have tx:=h.tx p Ab q hp n2.1;have ad:=NL (w:=Af "put") (s:=Af "put ") (by decide) hp n2.1 rfl
  have e3:evE J (R6 (zx ns) p (v7 (l++[q])) (U8 (.int k)) (U8 (Az Ab q)) Ae Ae Ae Ae) Nw = .ok (.str (rw6 (Af "put") q)):=by
   show ((R.ok (D.str (Af "put "))).bind λx=>((J.F 357 [Az Ab q]).bind λd => .ok d).bind λy=>Cw .Add x y)=_
   rw[tx];exact ad
  refine⟨l++[q],U8 (Az Ab q),by simp,λx hx => ?_,_,_,⟨rfl,s1,rfl⟩,_,e2,_,_,⟨rfl,s2,rfl⟩,rfl,_,.L [õ (l.length+1)],e3,?_⟩
  .rcases Hg.mp hx with z|z
   .exact hl x z
   .rw[BH.mp z];exact n2
  .have:=ZE (ps:=ET p l) (c:=0) h1 n2.1 n2.1 (Re hp n2) (by omega) (by rw[TZ];omega) hq
   rwa [<-Td]at this
theorem lp6(h:L6 J ns)(h1:H6 J1 J2 p)(hp:P4 p) :∀(ks:Ac Ai)(l:Ac R3)(k0 pt:Sl),(∀ k∈ks,0<=k)->(∀ q∈l,NF p q)->l.length+ks.length<=4->∃ l' k' ya,l'.length<=4/\(∀ q∈l',NF p q)/\ku (Ko (Hx 2 λY=>yk J Y MC) (NH (λY=>(top Y Lf (evE J Y Lf)).bind Ci) (Ko (Hx 2 λY=>yk J Y Nv) (ME (Em J1 J2) λY=>evE J Y Nw)) NI)) 4 ks (R6 (zx ns) p (v7 l) k0 pt Ae Ae Ae Ae) (K6 p l 0 (ET p l)) (R6 (zx ns) p (v7 l') k' ya Ae Ae Ae Ae) (K6 p l' 0 (ET p l'))
 |[],l,k0,pt,_,hl,ln=>⟨l,k0,pt,by simp at ln;omega,hl,rfl,rfl⟩
 |k::ks,l,k0,pt,hk,hl,ln=>by
  have ln':l.length+(ks.length+1)<=4:=ln;obtain⟨l1,pt1,n1,f1,u1⟩:=bd6 (J1:=J1) (J2:=J2) (k:=k) (pt:=pt) (ks:=Ae) h h1 hp (hk k (by simp)) hl (by omega)
  obtain⟨l2,k2,pt2,n2,f2,u2⟩:=lp6 h h1 hp ks l1 (U8 (.int k)) pt1 (λx hx=>hk x (Ay _ hx)) f1 (by omega)
  exact⟨l2,k2,pt2,n2,f2,_,_,u1,u2⟩
theorem lq6(h:L6 J ns)(h1:H6 J1 J2 p)(h3:Ù J3)(hp:P4 p)(hl : ∀ q∈l,NF p q)(ln:l.length<5)(hc:c=0\/vq c) :∀(ks:Ac Ai)(k0 rw wd:Sl),(∀ k∈ks,0<=k)->∃ k' wk wd',ku (Ko (Hx 2 λY=>yk J Y Nu) (JX (oh J1 J2 J3) (λY=>evE J Y Q2) λY=>evE J Y Q1)) 4 ks (R6 (zx ns) p (U8 (A9 l)) k0 pt (U8 (.int c)) rw wd kn) (K6 p l c ps) (R6 (zx ns) p (U8 (A9 l)) k' pt (U8 (.int c)) wk wd' kn) (K6 p l c ps)
 |[],k0,rw,wd,_=>⟨k0,rw,wd,rfl,rfl⟩
 |k::ks,k0,rw,wd,hk=>by
  obtain⟨m,m0,em⟩:=h.mi k (hk k (by simp))
  obtain⟨r,y,⟨ey,es⟩,ed⟩:=h.du J1 J2 p l c m h1 hp hl ln hc m0;have e1:evE J (R6 (zx ns) p (U8 (A9 l)) (U8 (.int k)) pt (U8 (.int c)) rw wd kn) (.call 369 (.cons (.v 1) (.cons (.call 354 (.cons (.v 0) (.cons (.v 4) .nil))) (.cons (.v 3) (.cons (.v 6) .nil))))) = .ok (.H [.str r,.str (nm6 y.c)]):=by
   unfold O3 at ed;generalize zx ns=S,A9 l=L at *;simp[R6,em,ed]
  have s1:yk J (R6 (zx ns) p (U8 (A9 l)) (U8 (.int k)) pt (U8 (.int c)) rw wd kn) Nu = .next (R6 (zx ns) p (U8 (A9 l)) (U8 (.int k)) pt (U8 (.int c)) (U8 (.str r)) (U8 (.str (nm6 y.c))) kn):=by
   unfold Nu;exact Pe e1 rfl
  obtain⟨k2,vf,ol,u2⟩:=lq6 h h1 h3 hp hl ln hc ks (U8 (.int k)) (U8 (.str r)) (U8 (.str (nm6 y.c))) (λx hx=>hk x (Ay _ hx))
  exact⟨k2,vf,ol,_,_,⟨_,_,⟨rfl,s1,rfl⟩,rfl,r,pr9 (nm6 y.c) .O,pr9 (nm6 y.c) .O,rfl,OP h3 (es ps) ey,rfl,rfl,rfl,OE _⟩,u2⟩
def wr(p:Ai)(l:Ac R3)(c:Ai):Ac D:=ET p l++if c=0 then [] else [ut p l 0]
theorem lu6(h1:H6 J1 J2 p)(h3:Ù J3){S:D} : ∀(ks:Ac Ai)(l:Ac R3)(c:Ai)(k0:Sl),(c=0\/vq c)->l.length<=20->ks.length=l.length+(if c=0 then 0 else 1) -> ∃ k',
  ku (OQ (oh J1 J2 J3) (λY=>evE J Y Ou) "told") 4 ks (R6 S p L k0 pt cv rw wd kn) (K6 p l c (wr p l c)) (R6 S p L k' pt cv rw wd kn) (K6 p [] 0 [])
 |[],l,c,k0,hc,_,e=>by
  by_cases c0:c=0
  .rw[Au c0]at e;have:l=[]:=EZ (by simp at e;omega)
   subst this c0;exact⟨k0,rfl,rfl⟩
  .rw[AA c0]at e;simp at e
 |k::ks,l,c,k0,hc,hl,e=>by
  have step : ∀{q q':Dk}{s:Ah},Em J1 J2 q [.str (Af "undo")] = .ok (.L [.str s]) q'->OQ (oh J1 J2 J3) (λY=>evE J Y Ou) "told" (R6 S p L (U8 (.int k)) pt cv rw wd kn) q (R6 S p L (U8 (.int k)) pt cv rw wd kn) q':=λ{q q' s} z=>⟨rfl,_,_,rfl,Oj (ts:=[s]) h3 z⟩
  by_cases c0:c=0
  .rw[Au c0]at e;subst c0;have ne:l≠[]:=λz=>by rw[z]at e;simp at e
   obtain⟨i,x,rfl⟩ : ∃ i x,l=i++[x]:=⟨l.dropLast,l.getLast ne,(List.dropLast_concat_getLast ne).symm⟩;have li:i.length+1<=20:=by simpa using hl
   obtain⟨k',u⟩:=lu6 h1 h3 ks i 0 (U8 (.int k)) (.inl rfl) (by omega) (by simp at e ⊢;omega)
   have:=su1 (l:=i++[x]) (c:=0) (ps:=ET p i) (g:=i) (c':=0) h1 (by omega)
   refine⟨k',_,_,step (s:=Af (toString (i.length:Ai))) ?_,u⟩;have e6:wr p (i++[x]) 0=ET p i++[ut p i 0]:=by unfold wr;rw[Au rfl,Bp,Td]
   have e7:wr p i 0=ET p i:=by unfold wr;rw[Au rfl,Bp]
   rw[e6,e7];exact this
  .rw[AA c0]at e;obtain⟨k',u⟩:=lu6 h1 h3 ks l 0 (U8 (.int k)) (.inl rfl) hl (by simp at e ⊢;omega)
   have:=su1 (l:=l) (c:=c) (ps:=ET p l) (g:=l) (c':=0) h1 (by omega)
   refine⟨k',_,_,step (s:=Af (toString (l.length:Ai))) ?_,u⟩;have e6:wr p l c=ET p l++[ut p l 0]:=by unfold wr;rw[AA c0]
   have e7:wr p l 0=ET p l:=by unfold wr;rw[Au rfl,Bp]
   rw[e6,e7];exact this
end
theorem Wr:ý ⟨17,[]⟩ := .inl (by simp)
theorem ex5:ý ⟨5,[]⟩ := .inl (by simp)
theorem U_6(h:0<=lo) : ∀ k∈vn lo n,0<=k:=λk hk=>by
 unfold vn at hk;obtain⟨i,_,rfl⟩:=F8.mp hk;omega
def yL6:Ac E:=[QY,Q5,Lf,Nw,VE,Q4,VD,Q3,Q2,VC,Vc,Ow,Ou,Vb,Va]
def zL6:Ac E:=[VB,Q1,OD,VA,Vz,Vy]
def uL6:Ac S:=[VH,MC,Nv,QZ,Nu,VG]
section
variable{S:D}
theorem mR{p c:Ai}{k pt rw wd kn:Sl}(J:J9)(hp:P4 p)(hc:vq c)(L:D):evE J (R6 S p (U8 L) k pt (U8 (.int c)) rw wd kn) Q4 = .ok (.str (O4 p c)):=by
 rcases hp with rfl|rfl|rfl|rfl <;> rcases hc with rfl|rfl <;> rfl
theorem tV{J:J9}{ns:Ac Ai}{p:Ai}{l:Ac R3}{k pt rw wd kn:Sl}(h:L6 J ns)(hp:P4 p)(hl : ∀ q∈l,NF p q)(cv:Sl):evE J (R6 S p (U8 (A9 l)) k pt cv rw wd kn) OD = .ok (pr9 (Af "told") (.L (HA l))):=by
 have e : ∀(L:D)(l:Ac R3),(∀ q∈l,NF p q)->Cu (cG J (R6 S p (U8 L) k pt cv rw wd kn) 10 Lz) (cF J (R6 S p (U8 L) k pt cv rw wd kn) 10 LB) (l.map (Az Ab)) = .ok (HA l):=λL l hl=>by
  induction l with
  |nil=>rfl
  |cons x l ih=>
   have hx:=hl x (by simp)
   have s:=h.px p x hp hx.1;have e1:cG J (R6 S p (U8 L) k pt cv rw wd kn) 10 Lz (Az Ab x) = .ok Ab:=rfl;have e2:cF J (R6 S p (U8 L) k pt cv rw wd kn) 10 LB (Az Ab x) = .ok (.str (tq Ad x)):=by
    show (J.F 358 [Az Ab x]).bind _=_;rw[s];rfl
   rw[BU];show (cG J _ 10 Lz (Az Ab x)).bind _=_;rw[e1];show (cF J _ 10 LB (Az Ab x)).bind _=_;rw[e2];show (Cu _ _ (l.map (Az Ab))).bind _=_;rw[ih λq hq=>hl q (Ay _ hq)]
   rfl
 have ec:evE J (R6 S p (U8 (A9 l)) k pt cv rw wd kn) (.comp LB 10 (.e (.v 3)) Lz) = .ok (.L (HA l)):=by
  show (yu (Cu (cG J _ 10 Lz) (cF J _ 10 LB) (l.map (Az Ab)))).bind _=_;rw[e (A9 l) l hl];rfl
 unfold OD;show ((R.ok (D.str (Af "told"))).bind λx=>((evE J (R6 S p (U8 (A9 l)) k pt cv rw wd kn) (.comp LB 10 (.e (.v 3)) Lz)).bind λy=>(R.ok []).bind λz=>R.ok (y::z)).bind λxs=>R.ok (x::xs)).bind (λxs=>R.ok (D.H xs))=_
 rw[ec];rfl
theorem tW{p c:Ai}{l:Ac R3}{k pt rw wd kn:Sl}(J:J9)(hc:c=0\/vq c):evE J (R6 S p (U8 (A9 l)) k pt (U8 (.int c)) rw wd kn) Ow = .ok (.int ((l.length:Ai)+if c=0 then 0 else 1)):=by
 have e : ∀ L:D,zm .len [L] = .ok (.int l.length)->evE J (R6 S p (U8 L) k pt (U8 (.int c)) rw wd kn) Ow = .ok (.int ((l.length:Ai)+if c=0 then 0 else 1)):=λL e=>by
  show (zm .len [L]).bind (λx=>(zm .int [.bl (decide (0<c))]).bind λy=>Cw .Add x y)=_
  rw[e];rcases hc with rfl|rfl|rfl <;> rfl
 exact e (A9 l) (ln9 l)
theorem p96(h:L6 J ns)(h1:H6 J1 J2 p)(h3:Ù J3)(hp:P4 p)(hn:ns.length<=63):P96 J (oh J1 J2 J3) (Em J1 J2) yL6 zL6 uL6 (R6 (zx ns) p Ae Ae Ae Ae Ae Ae Ae) (K6 p [] 0 []):=by
 have hu : ∀{Y:Rho},evE J Y QY = .ok (.str (Af "undo")):=λ{Y}=>rfl
 refine JH (Y':=R6 (zx ns) p Ae Ae Ae Ae Ae Ae Ae) (q':=K6 p [] 0 []) ⟨rfl,_,pr9 (Af "nothing") .O,pr9 (Af "nothing") .O,rfl,OP h3 (su0 h1) Wr,rfl,rfl,rfl,OE _⟩ ?_;refine JH (Y':=R6 (zx ns) p (v7 []) Ae Ae Ae Ae Ae Ae) (q':=K6 p [] 0 []) ⟨rfl,rfl,rfl⟩ ?_;obtain⟨m1,m10,em1⟩:=h.mi 1 (by decide)
 have b0:0<=m1%5:=Bz _ (by decide)
 have b1:m1%5<5:=Bn _ (by decide)
 obtain⟨l,k',ya,ln,hl,u⟩:=lp6 (J1:=J1) (J2:=J2) h h1 hp (vn 0 (m1%5-0).toNat) [] Ae Ae (U_6 (by decide)) (λ_ z=>by simp at z) (by simp[vn];omega)
 have e1:evE J (R6 (zx ns) p (v7 []) Ae Ae Ae Ae Ae Ae) Q5 = .ok (.int (m1%5)):=by
  generalize zx ns=S at *;show ((J.F 354 [S,.int 1]).bind λd => .ok d).bind (λx=>Cw .Mod x (.int 5))=_
  rw[em1];rfl
 refine JH (Y':=R6 (zx ns) p (v7 l) k' ya Ae Ae Ae Ae) (q':=K6 p l 0 (ET p l)) ⟨0,m1%5,rfl,e1,⟨by decide,by decide,by omega,by omega⟩,u⟩ ?_
 clear u e1
 refine⟨l.map (Az Ab),rfl,?_⟩;show Ib (Hx 2 λY=>yk J Y QZ) _ (R6 (zx ns) p (U8 (A9 l)) k' ya Ae Ae Ae Ae) _
 obtain⟨m3,m30,em3⟩:=h.mi 3 (by decide)
 have c0:0<=m3%3:=Bz _ (by decide)
 have c1:m3%3<3:=Bn _ (by decide)
 have e2:evE J (R6 (zx ns) p (U8 (A9 l)) k' ya Ae Ae Ae Ae) (.B .Mod (.call 354 (.cons (.v 0) (.cons (.int 3) .nil))) (.int 3)) = .ok (.int (m3%3)):=by
  generalize zx ns=S at *;show ((J.F 354 [S,.int 3]).bind λd => .ok d).bind (λx=>Cw .Mod x (.int 3))=_
  rw[em3];rfl
 refine JH (Y':=R6 (zx ns) p (U8 (A9 l)) k' ya (U8 (.int (m3%3))) Ae Ae Ae) (q':=K6 p l 0 (ET p l)) ⟨rfl,Pe e2 rfl,rfl⟩ ?_;have hc:m3%3=0\/vq (m3%3):=by unfold vq;omega
 clear e2
 generalize m3%3=c at hc;refine JH (Y':=R6 (zx ns) p (U8 (A9 l)) k' ya (U8 (.int c)) Ae Ae Ae) (q':=K6 p l c (wr p l c)) ?_ ?_
 .rcases hc with rfl|hc
  .refine⟨Ad,rfl,?_⟩;rw[AA BC];refine⟨rfl,?_⟩;unfold wr;rw[Au rfl,Bp]
  .obtain⟨s,e⟩:=ZJ (l:=l) (c:=0) (ps:=ET p l) h1 hc (by rw[TZ];omega)
   refine⟨Ab,by rcases hc with rfl|rfl <;> rfl,?_⟩
   rw[Au rfl];refine⟨rfl,_,.L [.str s],mR J hp hc _,?_⟩;have:wr p l c=ET p l++[ut p l 0]:=by
    unfold wr;rw[AA (by rcases hc with rfl|rfl <;> decide)]
   rw[this];exact e
 have Ŷ:l.length<5:=by omega
 obtain⟨k2,vf,ol,u⟩:=lq6 (J1:=J1) (J2:=J2) (J3:=J3) (ps:=wr p l c) (pt:=ya) (kn:=Ae) h h1 h3 hp hl Ŷ hc (vn 5 ((if (40:Ai)<(ns.length:Ai) then 40 else (ns.length:Ai))-5).toNat) k' Ae Ae (U_6 (by decide))
 have e3:evE J (R6 (zx ns) p (U8 (A9 l)) k' ya (U8 (.int c)) Ae Ae Ae) Q3 = .ok (.int (if (40:Ai)<(ns.length:Ai) then 40 else (ns.length:Ai))):=by
  show R.ok (D.int (if (40:Ai)<((ns.map D.int).length:Ag) then 40 else ((ns.map D.int).length:Ag)))=_
  rw[Bb]
 refine JH (Y':=R6 (zx ns) p (U8 (A9 l)) k2 ya (U8 (.int c)) vf ol Ae) (q':=K6 p l c (wr p l c)) ⟨5,_,rfl,e3,⟨by decide,by decide,by split <;> omega,by split <;> omega⟩,u⟩ ?_
 clear u e3
 have ep:=Wb (c:=c) (ps:=wr p l c) h1 hl;have ez:=tV (S:=zx ns) (k:=k2) (pt:=ya) (rw:=vf) (wd:=ol) (kn:=Ae) h hp hl (U8 (.int c));rw[Qt]at ep ez;refine JH (Y':=R6 (zx ns) p (U8 (A9 l)) k2 ya (U8 (.int c)) vf ol Ae) (q':=K6 p l c (wr p l c)) ⟨rfl,_,_,_,rfl,Oj h3 ep,ez,by rw[<-Qt];exact Wq _ l,by rw[<-Qt];exact Wq _ l,Rh _ _⟩ ?_
 clear ep ez
 refine JH (Y':=R6 (zx ns) p (U8 (A9 l)) k2 ya (U8 (.int c)) vf ol (U8 (.L [pr9 (Af "curve") .O,pr9 (Af "told") (.L [.str (Af "twice [1 0 0]")]),pr9 (Af "told") (.L [.str (Af "whole")])]))) (q':=K6 p l c (wr p l c)) ⟨rfl,rfl,rfl⟩ ?_;refine JH (Y':=R6 (zx ns) p (U8 (A9 l)) k2 ya (U8 (.int c)) vf ol (U8 (.L [pr9 (Af "curve") .O,pr9 (Af "told") (.L [.str (Af "twice [1 0 0]")]),pr9 (Af "told") (.L [.str (Af "whole")])]))) (q':=K6 p l c (wr p l c)) ?_ ?_
 .rcases hc with rfl|hc
  .exact⟨rfl,_,pr9 (Af "curve") .O,pr9 (Af "curve") .O,rfl,OP h3 (Rb (w:=Af "kind") h1 rfl (h1.wrd _ (by simp))) ex5,rfl,rfl,rfl,OE _⟩
  .have e:=ZG (l:=l) (ps:=wr p l c) h1 hc;refine⟨rfl,_,pr9 (Af "told") (.L [.str (LZ c)]),pr9 (Af "told") (.L [.str (LZ c)]),rfl,Oj (ts:=[LZ c]) h3 e,?_,rfl,rfl,Rh _ [LZ c]⟩;rcases hc with rfl|rfl <;> rfl
 obtain⟨k3,u⟩:=lu6 (J:=J) (S:=zx ns) (L:=U8 (A9 l)) (pt:=ya) (cv:=U8 (.int c)) (rw:=vf) (wd:=ol) (kn:=U8 (.L [pr9 (Af "curve") .O,pr9 (Af "told") (.L [.str (Af "twice [1 0 0]")]),pr9 (Af "told") (.L [.str (Af "whole")])])) h1 h3 (vn 0 (((l.length:Ai)+if c=0 then 0 else 1)-0).toNat) l c k2 hc (by omega) (by
  unfold vn;rw[Bb,List.length_range];split <;> omega)
 refine JH (Y':=R6 (zx ns) p (U8 (A9 l)) k3 ya (U8 (.int c)) vf ol (U8 (.L [pr9 (Af "curve") .O,pr9 (Af "told") (.L [.str (Af "twice [1 0 0]")]),pr9 (Af "told") (.L [.str (Af "whole")])]))) (q':=K6 p [] 0 []) ⟨0,_,rfl,tW J hc,⟨by decide,by decide,by split <;> omega,by split <;> omega⟩,u⟩ ?_
 refine⟨K6 p [] 0 [],K6 p [] 0 [],⟨rfl,_,pr9 (Af "nothing") .O,pr9 (Af "nothing") .O,rfl,OP h3 (su0 h1) Wr,rfl,rfl,rfl,OE _⟩,rfl,_,pr9 (Af "told") (.L []),pr9 (Af "told") (.L []),rfl,Oj (ts:=[]) h3 (Wb (l:=[]) h1 (λ_ z=>by simp at z)),rfl,rfl,rfl,Rh _ []⟩
end
noncomputable def b4(u v:R3):Ai:=u.1*v.2.2+u.2.2*v.1-2*(u.2.1*v.2.1)
def vP:Df:=⟨3,Ad,{.ret (.idx (.glob 0) (.bi .len {.call 184 {.v 0,.v 1,.call 180 {.v 0,.v 1,.v 2}}}))}⟩
noncomputable def sides:D := .H [.str (Af "inner"),.str (Af "on"),.str (Af "outer")]
def pole(p:Ai)(C:C6)(l:R3):R3:=nrm p (ap (qf (Ξ C) (Τ C) (Υ C)) (kx (Ξ C) (Τ C) (Υ C)) (ky (Ξ C) (Τ C) (Υ C)) l)
end OvC
namespace OvC
open PySem Ov
end OvC
namespace OvC
open PySem Ov
theorem swp(h:Kt U_ m%p=0):Kt m U_%p=0:=by rw[fF];exact h
def bO:Df:=⟨3,Ad,{.ret (.L {.idx (.v 2) (.int 0),.idx (.v 2) (.int 1),.call 149 {.v 0,.v 1,.call 57 {.v 0,.idx (.v 2) (.int 0),.idx (.v 2) (.int 1)}},.idx (.v 2) (.int 2)})}⟩
def aS:Df:=⟨3,Ad,{.expr (.call 147 {.v 0,.v 1}),.expr (.call 147 {.v 0,.v 2}),.ret (.call 112 {.v 0,.call 150 {.v 0,.v 1,.sl (.call 128 {.v 0,.v 1}) .O (.int 3)},.call 150 {.v 0,.v 2,.sl (.call 128 {.v 0,.v 2}) .O (.int 3)}})}⟩
def Ps:Df:=⟨3,Ad,{.ife (.cmp .NotEq (.bi .len {.v 1}) (.int 5)) {.rais 13 {.str (Af "a curve is told by five points")}} .nil,.expr (.bi .len .nil)}⟩
def eU:Df:=⟨3,Ab,{.expr (.bi .len .nil)}⟩
def oP:Df:=⟨4,Ad,{.ife (.call 136 {.v 0,.v 1}) {.ret (.H {.str (Af "whole"),.call 151 {.v 0,.call 123 {.v 0},.v 1}})} .nil,.asg 2 Ad (.call 128 {.v 0,.v 1}),.ife (.cmp .Eq (.bi .len {.v 2}) (.int 1)) {.ret (.H {.str (Af "point"),.idx (.v 2) (.int 0)})} .nil,.ife (.cmp .Eq (.bi .len {.v 2}) (.B .Add (.v 0) (.int 1))) {.ret (.H {.str (Af "twice"),.call 57 {.v 0,.idx (.v 2) (.int 0),.idx (.v 2) (.int 1)}})} .nil,.expr (.bi .len .nil)}⟩
theorem mk6(c:Ag)(q:R3)(h:ja q):ϲ c "triple" [Az Ab q] = .ok ⟨c,[(("triple" : Ah),Az Ab q)]⟩:=by
 obtain⟨p,hp,⟨a0,a1⟩,⟨b0,b1⟩,c0,c1⟩:=h;have:=hp.hi;refine Au ?_;rw[Ca];refine .inl ?_;show (Ab&&((decide (0<=q.1)&&decide (q.1<100))&&((decide (0<=q.2.1)&&decide (q.2.1<100))&&((decide (0<=q.2.2)&&decide (q.2.2<100))&&Ab))))=Ab;simp only[As,Bh];exact⟨trivial,⟨a0,by omega⟩,⟨b0,by omega⟩,⟨c0,by omega⟩,trivial⟩
def Rt:Ag->Ac D->R Ex
 |3,ds => .ok ⟨3,[]⟩
 |5,ds => .ok ⟨5,[]⟩
 |12,ds => .ok ⟨12,[]⟩
 |13,ds => .ok ⟨13,[]⟩
 |14,ds => .ok ⟨14,[]⟩
 |17,ds => .ok ⟨17,[]⟩
 |107,ds=>ϲ 107 "triple" ds
 |108,ds=>ϲ 108 "triple" ds
 |_,_ => .bad
noncomputable def G96:Ag->D
 |0 => .H [.str "inner",.str "on",.str "outer"]
 |2 => .H (llW.map .str)
 |3 => .H (lmW.map .str)
 |4 => .H (ô.map .str)
 |5 => .int 30
 |_ => .O
def Q96:Prg:=⟨Ab,fun
 |1=>QX
 |9=>N2
 |17=>NX
 |23=>eW
 |25=>Qd
 |33=>N1
 |34=>N4
 |57=>vR
 |61=>eV
 |65=>aG
 |69=>eQ
 |78=>bM
 |91=>eS
 |92=>cw
 |93=>M6
 |98=>Z1
 |104=>eX
 |105=>oQ
 |106=>aN
 |109=>Z2
 |110=>iD
 |111=>aF
 |112=>aR
 |122=>bP
 |123=>aE
 |126=>oM
 |128=>bE
 |131=>Z9
 |136=>bN
 |147=>bG
 |148=>aD
 |149=>vQ
 |150=>bO
 |151=>aS
 |154=>oP
 |180=>oO
 |184=>eU
 |186=>vP
 |198=>Ps
 |347=>PF
 |348=>N6
 |349=>NZ
 |350=>Pk
 |351=>aP
 |353=>bF
 |354=>NU
 |355=>Pw
 |356=>Pv
 |357=>PH
 |358=>Pq
 |359=>Pp
 |360=>RN
 |368=>Lx
 |369=>D9
 |900=>tj 0
 |901=>tj 1
 |902=>tj 2
 |910=>j8
 |920=>aA
 |931=>Pl
 |932=>aQ
 | _=>⟨0,Ad,.nil⟩,G96,NC,Rt⟩
noncomputable def Lm(c:Ag):R D->Ao
 |.exn ⟨k,[]⟩=>k==c
 |_=>Ad
theorem UD(h:Lm c r=Ab):r = .exn ⟨c,[]⟩:=by
 cases r with
 |exn y=>
  obtain⟨k,fs⟩:=y;cases fs with
  |nil=>have h:(k==c)=Ab:=h;rw[eq_of_beq h]
  |cons=>cases h
 |_=>cases h
theorem Ny{L:Ac Ah}{f:Ah->R D}(h:(L.all λr=>Lm c (f r))=Ab) : ∀ r∈L,f r = .exn ⟨c,[]⟩:=λr hr=>UD (A6.mp h r hr)
theorem yM:((JT 3).all λr=>Lm 12 (EU (Y7 Q96 10) (Y7 Q96 11) 3 r))=Ab:=by kernel_rfl
theorem yL:((JT 5).all λr=>Lm 12 (EU (Y7 Q96 10) (Y7 Q96 11) 5 r))=Ab:=by kernel_rfl
theorem yK:((JT 7).all λr=>Lm 12 (EU (Y7 Q96 10) (Y7 Q96 11) 7 r))=Ab:=by kernel_rfl
theorem uP:((JT 11).all λr=>Lm 12 (EU (Y7 Q96 10) (Y7 Q96 11) 11 r))=Ab:=by kernel_rfl
theorem xY:(([3,5,7,11]:Ac Ai).all λp=>JN.all λr=>Lm 3 (EU (Y7 Q96 10) (Y7 Q96 11) p r))=Ab:=by kernel_rfl
theorem cx:(([3,5,7,11]:Ac Ai).all λp=>Lm 5 (EU (Y7 Q96 10) (Y7 Q96 11) p (Af "curve 0 0 0 0 0 0")))=Ab:=by kernel_rfl
theorem cq(p c:Ai)(hp:P4 p)(hc:vq c):EU (Y7 Q96 10) (Y7 Q96 11) p (O4 p c) = .ok (.H [.str (Af "curve"),cv6 p c]):=by
 rcases hp with rfl|rfl|rfl|rfl <;> rcases hc with rfl|rfl <;> kernel_rfl
theorem wV(p:Ai)(hp:P4 p) : ∀ w∈([Af "undo",Af "points",Af "kind",Af "five"]:Ac Ah),EU (Y7 Q96 10) (Y7 Q96 11) p w = .ok (.H [.str w,.O]):=λw hw=>by
 simp only[AE,Bo,Dm]at hw;rcases hp with rfl|rfl|rfl|rfl <;> rcases hw with rfl|rfl|rfl|rfl <;> kernel_rfl
theorem cf(p c:Ai)(hp:P4 p)(hc:vq c):(Y7 Q96 10).F 353 [.int p,cv6 p c] = .ok (.str (LZ c)):=by
 rcases hp with rfl|rfl|rfl|rfl <;> rcases hc with rfl|rfl <;> kernel_rfl
theorem yN(p:Ai)(hp:P4 p)(w:Ah)(fm:D)(hw:w=Af "side" \/ w=Af "polar" \/ w=Af "pole"):MT (Y7 Q96 10) 186 180 149 353 931 932 (.int p) (cv6 p 1) w fm = .exn ⟨14,[]⟩:=by
 rcases hp with rfl|rfl|rfl|rfl <;> rcases hw with rfl|rfl|rfl <;> kernel_rfl
theorem bt(p c:Ai)(hp:P4 p)(hc:vq c) : ∃ s,evE (Y7 Q96 10) [Ae,Ae,Aa (cv6 p c,Ad)] (.L er6) = .ok (.L [.str s]):=by
 rcases hp with rfl|rfl|rfl|rfl <;> rcases hc with rfl|rfl <;> exact⟨_,rfl⟩
theorem yU(J:J9)(hx : ∀ d,J.xn 13 [d] = .ok ⟨13,[]⟩)(p:Ai)(l:Ac D)(h:l.length≠5):Ps.run J [.int p,.L l] = .exn ⟨13,[]⟩:=by
 have e:zm .len [.L l] = .ok (.int l.length):=rfl;have h' : ¬ (l.length:Ai)=5:=by omega
 have x:=hx (.str (Af "a curve is told by five points"))
 generalize D.L l=L at *;simp[Ps,Df.run,BX,e,h',x,yu]
theorem rZ(hx : ∀ q,ja q->J.xn 107 [Az Ab q] = .ok ⟨107,[(("triple" : Ah),Az Ab q)]⟩)(g5:J.G 5 = .int 30)(l:Ac R3)(q:R3)(hq:ja q)(h:l.length<=20):N6.run J [A9 l,Az Ab q]=if q∈l then .exn ⟨107,[(("triple" : Ah),Az Ab q)]⟩ else .ok (A9 (l++[q])):=by
 have e1:=in9 q l;have e2:=ln9 l;have e3:=Y_8 l q (by omega)
 have x1:=hx q hq;generalize A9 (l++[q])=L',A9 l=L,Az Ab q=Q at *;by_cases c1:q∈l
 .rw[Au c1];simp[N6,Df.run,BX,e1,c1,x1,yu]
 .rw[AA c1];have c3 : ¬ (30:Ai)<=(l.length:Ai):=by omega
  simp[N6,Df.run,BX,e1,c1,e2,c3,g5,e3];exact λz=>nomatch (show Ab=Ad from z)
theorem kE(hx : ∀ q,ja q->J.xn 108 [Az Ab q] = .ok ⟨108,[(("triple" : Ah),Az Ab q)]⟩)(l:Ac R3)(q:R3)(hq:ja q):NZ.run J [A9 l,Az Ab q]=if q∈l then .ok (A9 (l.filter λx => !decide (x=q))) else .exn ⟨108,[(("triple" : Ah),Az Ab q)]⟩:=by
 have e1:=Ry q l;have e2:=cu (J:=J) q l;have x1:=hx q hq;have sq:DD (A9 l) = .ok (l.map (Az Ab)):=rfl;have e3:A9 (l.filter λx => !decide (x=q)) = .L ((l.filter λx => !decide (x=q)).map (Az Ab)):=rfl
 rw[e3];generalize (l.filter λx => !decide (x=q)).map (Az Ab)=M' at *
 generalize l.map (Az Ab)=M at e2 sq;generalize A9 l=L,Az Ab q=Q at *;by_cases c1:q∈l
 .rw[Au c1];simp[NZ,Df.run,BX,e1,c1,sq,e2]
  all_goals rfl
 .rw[AA c1];simp[NZ,Df.run,BX,e1,c1,x1,yu]
theorem au(hf:Ob J)(p:Ai)(a q:R3)(hp:P4 p)(h:Fm p a q):PF.run J [.int p,Az Ad a] = .ok (Az Ab q):=by
 have e:=VU hf Ad hp h;have l:zm .len [Az Ad a] = .ok (.int 3):=rfl;generalize Az Ad a=A,Az Ab q=Q at *;simp[PF,Df.run,BX,e,l]
theorem bx(ns:Ac Ai)(hl:ns.length<=63) : ∃ p,evE (Y7 Q96 13) (Aa (.L (ns.map .int),Ad)::Bs 10 Ae) (.call 355 (.cons (.v 0) .nil)) = .ok p/\P96 (Y7 Q96 13) (oh (Y7 Q96 10) (Y7 Q96 11) (Y7 Q96 12)) (Em (Y7 Q96 10) (Y7 Q96 11)) yL6 zL6 uL6 (Aa (.L (ns.map .int),Ad)::Aa (p,Ad)::Aa (.O,Ab)::Bs 8 Ae) ⟨p,[],.O,[]⟩:=by
  have rs : ∀ n,Og (Y7 Q96 (n+1)):=λn p m hp=>rY (Y7 Q96 n) p m hp
  have tu : ∀ n,P6 (Y7 Q96 (n+2)):=λn p m hp z=>cX (rs n) p m hp z
  have fo : ∀ n,Ob (Y7 Q96 (n+3)):=λn p b xs l t hp e it=>kG (rs (n+1)) (tu n) hp e it
  have ii : ∀ n,V6 (Y7 Q96 (n+4)):=λn p b q a hp h=>yT (fo n) p b q a hp h
  have ma : ∀ n (p:Ai) (b:Ao) (q a:R3),P4 p->Fm p q a->(Y7 Q96 (n+5)).F 901 [.int p,Az b q] = .ok (pq p Ad a):=λn p b q a hp h=>yS (ii n) 1 p b q a hp h
  have ro : ∀ n,Vs (Y7 Q96 (n+1)):=λn p q hp h=>rX (Y7 Q96 n) p q hp h
  have sw : ∀ n (p:Ai) (q:R3),P4 p->yn p q->(Y7 Q96 (n+2)).F 931 [pq p Ad q] = .ok (.str (tq Ad q)):=λn p q hp h=>av (ro n) p q hp h
  have rr : ∀ n,V5 (Y7 Q96 (n+1)):=λn p w hp=>yQ (Y7 Q96 n) p w hp
  have rsr : ∀ n,Vr (Y7 Q96 (n+2)):=λn p ws hp=>rW (rr n) p ws hp
  have tx : ∀ n,OT (Y7 Q96 (n+1)):=λn p b q hp h=>ar (Y7 Q96 n) p b q hp h
  have pt : ∀ n,Rr (Y7 Q96 (n+2)):=λn p q hp h=>yR (tx n) p q hp h
  have rd : ∀ n,OU (Y7 Q96 (n+2)):=λn p m q hp m0 h=>aw (tx n) p m q hp m0 h
  have mi : ∀ n,Oh (Y7 Q96 (n+1)) 354 ns:=λn k hk=>kF (Y7 Q96 n) ns k hk
  have tr : ∀ n,QV (Y7 Q96 (n+1)):=λn p k hp=>sE (Y7 Q96 n) p k hp
  have od : ∀ n,Vt (Y7 Q96 (n+1)):=λn p m hp=>sG (Y7 Q96 n) p m hp
  have x7 : ∀ n q,ja q->(Y7 Q96 (n+1)).xn 107 [Az Ab q] = .ok ⟨107,[(("triple" : Ah),Az Ab q)]⟩:=λn q h=>mk6 107 q h
  have x8 : ∀ n q,ja q->(Y7 Q96 (n+1)).xn 108 [Az Ab q] = .ok ⟨108,[(("triple" : Ah),Az Ab q)]⟩:=λn q h=>mk6 108 q h
  obtain⟨p,hp,ep⟩:=sF (mi 11);have p4:p∈([3,5,7,11]:Ac Ai):=by rcases hp with rfl|rfl|rfl|rfl <;> simp
  have H1:H6 (Y7 Q96 10) (Y7 Q96 11) p:=⟨by
      rcases hp with rfl|rfl|rfl|rfl
      · exact Ny yM
      · exact Ny yL
      · exact Ny yK
      · exact Ny uP,Ny (A6.mp xY p p4),UD (A6.mp cx p p4),λc hc=>cq p c hp hc,wV p hp,λw a q hw ha hf=>kP (rsr 8) (λa q h=>au (fo 7) p a q hp h) hp hw ha hf,λc hc=>cf p c hp hc,λw fm hw=>yN p hp w fm hw,λl h=>yU (Y7 Q96 9) (λd=>rfl) p l h,λc hc=>bt p c hp hc,λl q hq h=>rZ (x7 8) rfl l q ⟨p,hp,hq⟩ h,λl q hq=>kE (x8 8) l q ⟨p,hp,hq⟩,λl h=>sD (ma 4) (sw 7) p l hp h⟩
  have H3:Ù (Y7 Q96 12):=⟨λts=>rV (Y7 Q96 11) ts,λy h=>ZL (J:=Y7 Q96 11) rfl h⟩
  have HL:L6 (Y7 Q96 13) ns:=⟨mi 12,tr 12,tx 12,pt 11,rd 11,λJ1 J2 p l c m h1 hp hl ln hc m0=>sH h1 (rd 10) (tr 11) (od 11) hp hl ln hc m0⟩
  have ì:(Y7 Q96 13).F 355 [zx ns] = .ok (.int p):=ep;refine⟨.int p,?_,p96 HL H1 H3 hp hl⟩;show ((Y7 Q96 13).F 355 [zx ns]).bind _=_;rw[ì];rfl
end OvC
namespace OvC
open PySem PySem.Spec PyProof.Rows Ov L2
variable{l:GV}
local macro_rules | `(tactic| trivial) => `(tactic| first|exact xP (by decide +kernel)|apply yI|apply qR|apply xH|apply xS|apply tP|apply tO|apply tJ|apply xN|apply xQ|apply tK|apply tL|apply xT|apply xO|apply xR|apply tM|apply vD|apply bz|apply et|apply gh|apply fj|apply gv|apply gk|refine mZ rfl ?_ ?_|apply vX|apply Zn|apply fg|apply gb|apply fx|apply Zl|apply vY|apply gw|apply gu|apply vW|apply Zm|apply vV|apply dh|apply dm|apply Y_7|apply jD|apply rH|apply rG|apply xX|apply d9|apply de|apply d8|apply uS|apply uR|apply yB|apply yA|apply b6|apply uH|apply b7|apply i_e|apply gc|apply gg|apply gf|apply tY|apply mY|apply gp|apply fw|apply tX|apply fz|apply gq|apply gi|apply Tk.mk|refine aCn ?_ ?_|exact aNl|exact fun _ _ => rfl|exact fun _ => rfl|exact fun _ z => nomatch z|kernel_rfl|decide +kernel)
noncomputable def MM:Ac (Ah × Ag × Ag):=([("rest",1,2),("turned_over",9,2),("one_form",17,2),("crossed",23,2),("row_of",25,1),("join",57,3),("measure",61,4),("first_three",65,2),("ask_no_three",109,2),("triples",69,1),("columns",104,1),("sums_by",91,3),("table_of",78,2),("crossed_rows",98,1),("led",92,3),("after",105,3),("table_back",106,2),("curve_of",122,2),("plain_curve",123,1),("value",126,3),("points_of",128,2),("twice_table",131,2),("is_whole",136,2),("scaled",110,2),("frame_table",111,2),("frame_move",112,3),("ask_whole",147,2),("polar_table",148,2),("polar",180,3),("pole",149,3)]:Ac (Ah × Ag × Ag))++([("met_by",184,3),("side",186,3),("frame_on",150,3),("curve_move",151,3),("kind",154,2),("curve_through",198,2),("rest_read",33,2),("rests_read",34,2),("told_by",347,2),("put_in",348,2),("taken_out",349,2),("point_texts",350,2),("line_texts",351,2),("kind_text",353,2),("_law_mixed",354,2),("_law_prime",355,1),("_law_triple",93,2),("_law_texts",356,1),("_law_text",357,1),("_law_point_text",358,1),("_law_rested",359,3),("_law_refusal",360,1001),("_law_odd",368,2),("_law_due",369,4),("1.told",920,1),("2.told",920,1),("1.shown",931,1),("2.shown",932,1)]:Ac (Ah × Ag × Ag))
noncomputable def MU:Ac Ah:=["ValueError", "all", "any", "enumerate", "int", "isinstance", "len", "list", "min", "range", "str", "tuple", "zip"]
noncomputable def LK:Ac (Ah × Ag):=[("NoTriple",3),("Alike",107),("NoCurve",5),("NoCount",13),("NotWhole",14),("NoRow",12),("NotOn",108),("NothingDone",17),("OvalError",0)]
noncomputable def LQ:Ac (Ah × Ag):=[("NoRow",12),("NoTriple",3),("NoCurve",5),("Alike",107),("NotOn",108),("TooMany",15),("NothingDone",17),("NoCount",13),("OnLine",118),("NotWhole",14),("OvalError",0)]
noncomputable def MK:Ac (Ah × Ag):=[("SIDES",0),("OF_THE_LIST",2),("MAKE_A_CURVE",3),("ASK_THE_CURVE",4),("MOST",5)]
abbrev zt(h:Ao)(n:Ag)(N:Ac Ah)(i d:Ag):Prop:=Tk h MM MU LK LQ MK (N.take n) N (tp96 i) (Q96.defs d)
theorem wQ:zt Ad 2 ["p", "n"] 16 1:=by repeat' trivial
theorem wP:zt Ad 2 ["p", "n", "turned"] 17 9:=by repeat' trivial
theorem wO:zt Ad 2 ["p", "numbers", "rests", "first", "factor", "#5", "#6"] 19 17:=by repeat' trivial
theorem wN:zt Ad 2 ["one", "other"] 20 23:=by repeat' trivial
theorem wM:zt Ad 1 ["triple", "#1"] 22 25:=by repeat' trivial
theorem wL:zt Ad 3 ["p", "one", "other"] 28 57:=by repeat' trivial
theorem wK:zt Ad 4 ["p", "one", "other", "third"] 29 61:=by repeat' trivial
theorem wJ:zt Ad 2 ["p", "points", "i", "one", "j", "k"] 30 65:=by repeat' trivial
theorem wI:zt Ad 2 ["p", "points", "three"] 32 109:=by repeat' trivial
theorem wH:zt Ad 1 ["p", "told", "z", "y", "#4"] 33 69:=by repeat' trivial
theorem oJ:zt Ad 1 ["rows"] 36 104:=by repeat' trivial
theorem oH:zt Ad 3 ["p", "rows", "numbers", "#3"] 37 91:=by repeat' trivial
theorem oG:zt Ad 2 ["p", "rows", "nine"] 38 78:=by repeat' trivial
theorem oF:zt Ad 1 ["table"] 39 98:=by repeat' trivial
theorem oE:zt Ad 3 ["p", "table", "point"] 40 92:=by repeat' trivial
theorem oC:zt Ad 3 ["p", "one", "other", "sides", "#4"] 41 105:=by repeat' trivial
theorem oB:zt Ad 2 ["p", "table"] 42 106:=by repeat' trivial
theorem oA:zt Ad 2 ["p", "numbers", "rests", "#3"] 44 122:=by repeat' trivial
theorem nZ:zt Ad 1 ["p"] 45 123:=by repeat' trivial
theorem nY:zt Ad 3 ["p", "curve", "point", "squares", "products"] 46 126:=by repeat' trivial
theorem nX:zt Ad 2 ["p", "curve", "#2"] 47 128:=by repeat' trivial
theorem pX:zt Ad 2 ["p", "curve"] 48 131:=by repeat' trivial
theorem pW:zt Ad 2 ["p", "curve", "rows"] 49 136:=by repeat' trivial
theorem pV:zt Ad 2 ["factor", "point", "#2"] 53 110:=by repeat' trivial
theorem pU:zt Ad 2 ["p", "four", "sides"] 54 111:=by repeat' trivial
theorem pT:zt Ad 3 ["p", "four", "goals"] 55 112:=by repeat' trivial
theorem pS:zt Ad 2 ["p", "curve"] 58 147:=by repeat' trivial
theorem pR:zt Ad 2 ["p", "curve"] 59 148:=by repeat' trivial
theorem pQ:zt Ad 3 ["p", "curve", "point"] 60 180:=by repeat' trivial
theorem pP:zt Ad 3 ["p", "curve", "line"] 61 149:=by repeat' trivial
theorem pO:zt Ad 3 ["p", "curve", "line"] 62 184:=by repeat' trivial
theorem pM:zt Ad 3 ["p", "curve", "point"] 63 186:=by repeat' trivial
theorem pL:zt Ad 3 ["p", "curve", "three"] 65 150:=by repeat' trivial
theorem pK:zt Ad 3 ["p", "one", "other"] 66 151:=by repeat' trivial
theorem pJ:zt Ad 2 ["p", "curve", "points", "lines"] 70 154:=by repeat' trivial
theorem pH:zt Ad 2 ["p", "points", "four"] 79 198:=by repeat' trivial
theorem pG:zt Ad 2 ["p", "word", "number"] 91 33:=by repeat' trivial
theorem pF:zt Ad 2 ["p", "words", "rests", "#3"] 92 34:=by repeat' trivial
theorem pE:zt Ad 2 ["p", "rests"] 100 347:=by repeat' trivial
theorem pC:zt Ad 2 ["points", "point"] 101 348:=by repeat' trivial
theorem pB:zt Ad 2 ["points", "point", "#2"] 102 349:=by repeat' trivial
theorem pA:zt Ad 2 ["p", "points", "#2"] 103 350:=by repeat' trivial
theorem oZ:zt Ad 2 ["p", "lines", "#2"] 104 351:=by repeat' trivial
theorem oY:zt Ad 2 ["p", "curve", "told"] 106 353:=by repeat' trivial
theorem oX:zt Ad 2 ["_law_script", "_law_k", "_law_cell"] 109 354:=by repeat' trivial
theorem oW:zt Ad 1 ["_law_script"] 110 355:=by repeat' trivial
theorem oV:zt Ad 2 ["_law_p", "_law_number"] 111 93:=by repeat' trivial
theorem mG:zt Ad 1 ["_law_found", "#1"] 113 356:=by repeat' trivial
theorem mF:zt Ad 1 ["_law_numbers", "#1"] 114 357:=by repeat' trivial
theorem mE:zt Ad 1 ["_law_point"] 115 358:=by repeat' trivial
theorem mC:zt Ad 3 ["_law_p", "_law_triple_here", "_law_cell", "_law_times", "#4"] 116 359:=by repeat' trivial
theorem mB:zt Ab 1 ["_law_error", "_law_told", "_law_names"] 117 360:=by repeat' trivial
theorem lZ:zt Ad 2 ["_law_p", "_law_cell", "_law_odd_here"] 119 368:=by repeat' trivial
theorem lY:zt Ad 4 ["_law_p", "_law_cell", "_law_listed", "_law_curve", "_law_way", "_law_row", "_law_point"] 120 369:=by repeat' trivial
theorem S7:Tk Ad MM MU LK LQ MK ["self"] ["self"] (GK (tp96 23) 1) (Q96.defs 920):=by repeat' trivial
theorem iA:Tk Ad MM MU LK LQ MK ["self"] ["self"] (GK (tp96 24) 0) (Q96.defs 931):=by repeat' trivial
theorem hZ:Tk Ad MM MU LK LQ MK ["self"] ["self"] (GK (tp96 25) 0) (Q96.defs 932):=by repeat' trivial
theorem Y_6:O9 MM MU LK LQ MK (GK (tp96 23) 0):=⟨by kernel_rfl,_,_,_,_,_,_,_,_,rfl,by kernel_rfl,by repeat' trivial⟩
theorem mI:NG "OvalError" "triple" "triple" (OJ (tp96 12))=Ab:=by decide+kernel
theorem mH:NG "OvalError" "triple" "triple" (OJ (tp96 13))=Ab:=by decide+kernel
set_option maxHeartbeats 0 in
theorem all96{w:AD}{K:Fg}{h:AC}{mg:Ah->Am Aj}{fa f0 f1 f2 f3 f4 f5 f6 f7 f8 f9 f10 f11 f12 f13 f14 f15 f16 f17 f18 f19 f20 f21 f22 f23 f24 f25 f26 f27 f28 f29 f30 f31 f32 f33 f34 f35 f36 f37 f38 f39 f40 f41 f42 f43 f44 f45 f46 f47 f48 f49 f50 f51 f52 f53 f54 f55 f56 x0 x1 x2 x3 x4 x5 x6 x7 x8 x9 x10 ix1 ix6:Ak}(X:K.In h)(G:h.Ns AJ mg)(hfa:mg "law" = Aa (.ref fa)){o0 o1 o2 mt ms0 ms1 ms2 fi:Ak}{oD d0 d1 d2 d3 d4 d5 d6 d7 gC:Ak}{eC:Ag}{tC0 uC0 tC1 uC1 tC2 uC2 tC3 uC3 tC4 uC4 tC5 uC5 tC6 uC6 tC7 uC7 tC8 uC8 tC9 uC9 Ê Ð Ë Ñ Ì Ò:Ch}{g0:Ak}{gd0:Am Ak}{gm0:Ag}{gs0:A3 (Am Aj)}{ϒ ϓ ϔ:Ch}{g2:Ak}{ϐ:Am Ak}{gm2:Ag}{gs2:A3 (Am Aj)}{ϕ ϖ ϗ:Ch}{g3:Ak}{ū:Am Ak}{gm3:Ag}{gs3:A3 (Am Aj)}{Ϙ ϙ:Ch}{g4:Ak}{gd4:Am Ak}{gm4:Ag}{gs4:A3 (Am Aj)}{Ϛ ϛ Ϝ ϝ:Ch}{gu5:Ch}(a0:zy K f0 "rest" (tp96 16))(a1:zy K f1 "turned_over" (tp96 17))(a2:zy K f2 "one_form" (tp96 19))(a3:zy K f3 "crossed" (tp96 20))(a4:zy K f4 "row_of" (tp96 22))(a5:zy K f5 "join" (tp96 28))(a6:zy K f6 "measure" (tp96 29))(a7:zy K f7 "first_three" (tp96 30))(a8:zy K f8 "ask_no_three" (tp96 32))(a9:zy K f9 "triples" (tp96 33))(a10:zy K f10 "columns" (tp96 36))(ι:zy K f11 "sums_by" (tp96 37))(a12:zy K f12 "table_of" (tp96 38))(a13:zy K f13 "crossed_rows" (tp96 39))(a14:zy K f14 "led" (tp96 40))(a15:zy K f15 "after" (tp96 41))(a16:zy K f16 "table_back" (tp96 42))(a17:zy K f17 "curve_of" (tp96 44))(a18:zy K f18 "plain_curve" (tp96 45))(a19:zy K f19 "value" (tp96 46))(a20:zy K f20 "points_of" (tp96 47))(a21:zy K f21 "twice_table" (tp96 48))(a22:zy K f22 "is_whole" (tp96 49))(a23:zy K f23 "scaled" (tp96 53))(a24:zy K f24 "frame_table" (tp96 54))(a25:zy K f25 "frame_move" (tp96 55))(a26:zy K f26 "ask_whole" (tp96 58))(a27:zy K f27 "polar_table" (tp96 59))(a28:zy K f28 "polar" (tp96 60))(a29:zy K f29 "pole" (tp96 61))(a30:zy K f30 "met_by" (tp96 62))(a31:zy K f31 "side" (tp96 63))(a32:zy K f32 "frame_on" (tp96 65))(a33:zy K f33 "curve_move" (tp96 66))(a34:zy K f34 "kind" (tp96 70))(a35:zy K f35 "curve_through" (tp96 79))(a36:zy K f36 "rest_read" (tp96 91))(a37:zy K f37 "rests_read" (tp96 92))(a38:zy K f38 "rests_of_row" (tp96 99))(a39:zy K f39 "told_by" (tp96 100))(a40:zy K f40 "put_in" (tp96 101))(a41:zy K f41 "taken_out" (tp96 102))(a42:zy K f42 "point_texts" (tp96 103))(a43:zy K f43 "line_texts" (tp96 104))(a44:zy K f44 "kind_text" (tp96 106))(a45:zy K f45 "_law_mixed" (tp96 109))(a46:zy K f46 "_law_prime" (tp96 110))(a47:zy K f47 "_law_triple" (tp96 111))(a48:zy K f48 "_law_texts" (tp96 113))(a49:zy K f49 "_law_text" (tp96 114))(a50:zy K f50 "_law_point_text" (tp96 115))(a51:zy K f51 "_law_rested" (tp96 116))(a52:zy K f52 "_law_refusal" (tp96 117))(a53:zy K f53 "_law_said" (tp96 118))(a54:zy K f54 "_law_odd" (tp96 119))(a55:zy K f55 "_law_due" (tp96 120))(a56:zy K f56 "law" (tp96 121))(ϸ:OA K "Triple" o0 mt ms0 fi)(nv:OA K "Point" o1 mt ms1 fi)(n5:OA K "Line" o2 mt ms2 fi)(kt0:Ü K o0 [(o0,Ab),(o1,Ad),(o2,Ad)])(kt1:Ü K o1 [(o0,Ab),(o1,Ab),(o2,Ad)])(kt2:Ü K o2 [(o0,Ab),(o1,Ad),(o2,Ab)])(ii:Û K fi "Triple.__init__" (GK (tp96 23) 0))(uq:rq K mt "told" "Triple.told" (GK (tp96 23) 1))(qt:rq K ms1 "shown" "Point.shown" (GK (tp96 24) 0))(qu:rq K ms2 "shown" "Line.shown" (GK (tp96 25) 0))(da:DA6 K oD d0 d1 d2 d3 d4 d5 d6 d7)(di:Û K d0 "Desk.__init__" (GK (tp96 107) 0))(dm1:rq K d1 "say" "Desk.say" (GK (tp96 107) 1))(dm2:rq K d2 "curve_asked" "Desk.curve_asked" (GK (tp96 107) 2))(dm3:rq K d3 "curve_made" "Desk.curve_made" (GK (tp96 107) 3))(dm4:rq K d4 "list_changed" "Desk.list_changed" (GK (tp96 107) 4))(dm5:rq K d5 "changed" "Desk.changed" (GK (tp96 107) 5))(dm6:rq K d6 "undone" "Desk.undone" (GK (tp96 107) 6))(dm7:rq K d7 "list_asked" "Desk.list_asked" (GK (tp96 107) 7))(nC:A1 K AJ "COUNTS" = Aa (Aa (.ref gC)))(lC:K.lookup gC=Aa ⟨.type "dict",Ae,.dict #[⟨Cd w.params "put",.str "put" tC0,.int 3 uC0⟩,⟨Cd w.params "take",.str "take" tC1,.int 3 uC1⟩,⟨Cd w.params "grow",.str "grow" tC2,.int 0 uC2⟩,⟨Cd w.params "five",.str "five" tC3,.int 0 uC3⟩,⟨Cd w.params "curve",.str "curve" tC4,.int 6 uC4⟩,⟨Cd w.params "undo",.str "undo" tC5,.int 0 uC5⟩,⟨Cd w.params "points",.str "points" tC6,.int 0 uC6⟩,⟨Cd w.params "look",.str "look" tC7,.int 0 uC7⟩,⟨Cd w.params "draw",.str "draw" tC8,.int 0 uC8⟩,⟨Cd w.params "kind",.str "kind" tC9,.int 0 uC9⟩,⟨Cd w.params "side",.str "side" Ê,.int 3 Ð⟩,⟨Cd w.params "polar",.str "polar" Ë,.int 3 Ñ⟩,⟨Cd w.params "pole",.str "pole" Ì,.int 3 Ò⟩] eC,#[]⟩)(sC:(gC==Hn)=Ad)(ä:XA K "NoTriple" x0 Ae)(å:XB K "Alike" x1 ix1 "Alike.__init__" (OJ (tp96 12)))(æ:XA K "NoCurve" x2 Ae)(ç:XA K "NoCount" x3 Ae)(è:XA K "NotWhole" x4 Ae)(é:XA K "NoRow" x5 Ae)(ê:XB K "NotOn" x6 ix6 "NotOn.__init__" (OJ (tp96 13)))(ë:XA K "NothingDone" x7 Ae)(lb:XA K "OvalError" x8 Ae)(ž:XO K x8)(ŧ:XE K "TooMany" x9)(m8:XE K "OnLine" x10)(sx5:sg K x5 [(x0,Ad),(x1,Ad),(x2,Ad),(x3,Ad),(x4,Ad),(x5,Ab),(x6,Ad),(x7,Ad),(x8,Ad)])(sx0:sg K x0 [(x0,Ab),(x1,Ad),(x2,Ad),(x3,Ad),(x4,Ad),(x5,Ad),(x6,Ad),(x7,Ad),(x8,Ad)])(sx2:sg K x2 [(x0,Ad),(x1,Ad),(x2,Ab),(x3,Ad),(x4,Ad),(x5,Ad),(x6,Ad),(x7,Ad),(x8,Ad)])(sx1:sg K x1 [(x0,Ad),(x1,Ab),(x2,Ad),(x3,Ad),(x4,Ad),(x5,Ad),(x6,Ad),(x7,Ad),(x8,Ad)])(rk:sg K x6 [(x0,Ad),(x1,Ad),(x2,Ad),(x3,Ad),(x4,Ad),(x5,Ad),(x6,Ab),(x7,Ad),(x8,Ad)])(sx9:sg K x9 [(x0,Ad),(x1,Ad),(x2,Ad),(x3,Ad),(x4,Ad),(x5,Ad),(x6,Ad),(x7,Ad),(x8,Ad)])(sx7:sg K x7 [(x0,Ad),(x1,Ad),(x2,Ad),(x3,Ad),(x4,Ad),(x5,Ad),(x6,Ad),(x7,Ab),(x8,Ad)])(sx3:sg K x3 [(x0,Ad),(x1,Ad),(x2,Ad),(x3,Ab),(x4,Ad),(x5,Ad),(x6,Ad),(x7,Ad),(x8,Ad)])(kl:sg K x10 [(x0,Ad),(x1,Ad),(x2,Ad),(x3,Ad),(x4,Ad),(x5,Ad),(x6,Ad),(x7,Ad),(x8,Ad)])(sx4:sg K x4 [(x0,Ad),(x1,Ad),(x2,Ad),(x3,Ad),(x4,Ab),(x5,Ad),(x6,Ad),(x7,Ad),(x8,Ad)])(sx8:sg K x8 [(x0,Ab),(x1,Ab),(x2,Ab),(x3,Ab),(x4,Ab),(x5,Ab),(x6,Ab),(x7,Ab),(x8,Ab)])(gn0:A1 K AJ "SIDES" = Aa (Aa (.ref g0)))(gk0:K.lookup g0=Aa ⟨.type "tuple",gd0,.seq #[.str (Af "inner") ϒ,.str (Af "on") ϓ,.str (Af "outer") ϔ] gm0,gs0⟩)(gn2:A1 K AJ "OF_THE_LIST" = Aa (Aa (.ref g2)))(gk2:K.lookup g2=Aa ⟨.type "tuple",ϐ,.seq #[.str (Af "put") ϕ,.str (Af "take") ϖ,.str (Af "grow") ϗ] gm2,gs2⟩)(gn3:A1 K AJ "MAKE_A_CURVE" = Aa (Aa (.ref g3)))(gk3:K.lookup g3=Aa ⟨.type "tuple",ū,.seq #[.str (Af "five") Ϙ,.str (Af "curve") ϙ] gm3,gs3⟩)(gn4:A1 K AJ "ASK_THE_CURVE" = Aa (Aa (.ref g4)))(gk4:K.lookup g4=Aa ⟨.type "tuple",gd4,.seq #[.str (Af "kind") Ϛ,.str (Af "side") ϛ,.str (Af "polar") Ϝ,.str (Af "pole") ϝ] gm4,gs4⟩)(gn5:A1 K AJ "MOST" = Aa (Aa (.int 30 gu5)))(z0:A1 K AJ "ValueError" = Aa Ae)(z1:A1 K AJ "all" = Aa Ae)(z2:A1 K AJ "any" = Aa Ae)(z3:A1 K AJ "enumerate" = Aa Ae)(z4:A1 K AJ "int" = Aa Ae)(z5:A1 K AJ "isinstance" = Aa Ae)(z6:A1 K AJ "len" = Aa Ae)(z7:A1 K AJ "list" = Aa Ae)(z8:A1 K AJ "min" = Aa Ae)(z9:A1 K AJ "range" = Aa Ae)(z10:A1 K AJ "str" = Aa Ae)(z11:A1 K AJ "tuple" = Aa Ae)(z12:A1 K AJ "zip" = Aa Ae):
  ∃ fd:A7,(∀(s:An)(v:Aj),Hb s fd ⟨[v],[]⟩ [("_law_script",v)]) /\ ∀ base:AC,K.In base->base.Ns AJ mg->Y0 l.prog w K mg base (CXR l.prog w) 14 fa fd ["_law_script"] (OI K):=by
 obtain⟨_,F,e⟩:=a56;obtain⟨_,_,_,_,_,_,_,_,_,rfl,_,_⟩:=F.ex;cases hfa.symm.trans (AU X G e);have XT96:XT Q96.up Q96.xn (kz [(3,x0),(107,x1),(5,x2),(13,x3),(14,x4),(12,x5),(108,x6),(17,x7),(0,x8)]) LK LQ K mg:=by
  refine wS (aCn (ä.row λ_=>by first|exact .inr rfl|exact .inl rfl) (aCn (XB.row X G å ž lb.n (.inl rfl) mI (λ_ _ _ _ _ _ _ _=>rfl) λ_=>rfl) (aCn (æ.row λ_=>by first|exact .inr rfl|exact .inl rfl) (aCn (ç.row λ_=>by first|exact .inr rfl|exact .inl rfl) (aCn (è.row λ_=>by first|exact .inr rfl|exact .inl rfl) (aCn (é.row λ_=>by first|exact .inr rfl|exact .inl rfl) (aCn (XB.row X G ê ž lb.n (.inl rfl) mH (λ_ _ _ _ _ _ _ _=>rfl) λ_=>rfl) (aCn (ë.row λ_=>by first|exact .inr rfl|exact .inl rfl) (aCn (lb.row λ_=>by first|exact .inr rfl|exact .inl rfl) (aNl)))))))))) (aCn ⟨_,rfl,AU X G ä.n⟩ (aCn ⟨_,rfl,AU X G å.a.n⟩ (aCn ⟨_,rfl,AU X G æ.n⟩ (aCn ⟨_,rfl,AU X G ç.n⟩ (aCn ⟨_,rfl,AU X G è.n⟩ (aCn ⟨_,rfl,AU X G é.n⟩ (aCn ⟨_,rfl,AU X G ê.a.n⟩ (aCn ⟨_,rfl,AU X G ë.n⟩ (aCn ⟨_,rfl,AU X G lb.n⟩ (aNl)))))))))) (aCn ⟨_,AU X G é.n,é.kc,sx5⟩ (aCn ⟨_,AU X G ä.n,ä.kc,sx0⟩ (aCn ⟨_,AU X G æ.n,æ.kc,sx2⟩ (aCn ⟨_,AU X G å.a.n,å.a.kc,sx1⟩ (aCn ⟨_,AU X G ê.a.n,ê.a.kc,rk⟩ (aCn ⟨_,AU X G ŧ.n,ŧ.kc,sx9⟩ (aCn ⟨_,AU X G ë.n,ë.kc,sx7⟩ (aCn ⟨_,AU X G ç.n,ç.kc,sx3⟩ (aCn ⟨_,AU X G m8.n,m8.kc,kl⟩ (aCn ⟨_,AU X G è.n,è.kc,sx4⟩ (aCn ⟨_,AU X G lb.n,lb.kc,sx8⟩ (aNl)))))))))))) ?_
  intro c q ds;show Rt c ds = .bad;unfold Rt;split <;> first|rfl|exact absurd rfl (q ("NoTriple",3) (by decide))|exact absurd rfl (q ("Alike",107) (by decide))|exact absurd rfl (q ("NoCurve",5) (by decide))|exact absurd rfl (q ("NoCount",13) (by decide))|exact absurd rfl (q ("NotWhole",14) (by decide))|exact absurd rfl (q ("NoRow",12) (by decide))|exact absurd rfl (q ("NotOn",108) (by decide))|exact absurd rfl (q ("NothingDone",17) (by decide))|exact absurd rfl (q ("OvalError",0) (by decide))
 have T:wg K mg (kz [(3,x0),(107,x1),(5,x2),(13,x3),(14,x4),(12,x5),(108,x6),(17,x7),(0,x8)]) MM MU LK LQ MK Q96:=⟨zF X G ϸ nv n5 kt0 kt1 kt2,cg ϸ nv n5 ii Y_6 rfl rfl rfl rfl λ_ _ _ _ _ _ _ _ _=>rfl,XT96,aCn (BJ X G z0) (aCn (BJ X G z1) (aCn (BJ X G z2) (aCn (BJ X G z3) (aCn (BJ X G z4) (aCn (BJ X G z5) (aCn (BJ X G z6) (aCn (BJ X G z7) (aCn (BJ X G z8) (aCn (BJ X G z9) (aCn (BJ X G z10) (aCn (BJ X G z11) (aCn (BJ X G z12) (aNl))))))))))))),aCn (Of (is:=[Af "inner",Af "on",Af "outer"]) (AU X G gn0) gk0 (.cons ⟨_,rfl⟩ (.cons ⟨_,rfl⟩ (.cons ⟨_,rfl⟩ (.nil)))) (by simp)) (aCn (Of (is:=[Af "put",Af "take",Af "grow"]) (AU X G gn2) gk2 (.cons ⟨_,rfl⟩ (.cons ⟨_,rfl⟩ (.cons ⟨_,rfl⟩ (.nil)))) (by simp)) (aCn (Of (is:=[Af "five",Af "curve"]) (AU X G gn3) gk3 (.cons ⟨_,rfl⟩ (.cons ⟨_,rfl⟩ (.nil))) (by simp)) (aCn (Of (is:=[Af "kind",Af "side",Af "polar",Af "pole"]) (AU X G gn4) gk4 (.cons ⟨_,rfl⟩ (.cons ⟨_,rfl⟩ (.cons ⟨_,rfl⟩ (.cons ⟨_,rfl⟩ (.nil))))) (by simp)) (aCn (uL (AU X G gn5)) (aNl))))),aCn (DM 2 1 (by decide+kernel) X G a0 wQ) (aCn (DM 2 9 (by decide+kernel) X G a1 wP) (aCn (DM 2 17 (by decide+kernel) X G a2 wO) (aCn (DM 2 23 (by decide+kernel) X G a3 wN) (aCn (JR 1 25 (by decide+kernel) X G a4 wM) (aCn (Ie 3 57 (by decide+kernel) X G a5 wL) (aCn (Wv 4 61 (by decide+kernel) X G a6 wK) (aCn (DM 2 65 (by decide+kernel) X G a7 wJ) (aCn (DM 2 109 (by decide+kernel) X G a8 wI) (aCn (JR 1 69 (by decide+kernel) X G a9 wH) (aCn (JR 1 104 (by decide+kernel) X G a10 oJ) (aCn (Ie 3 91 (by decide+kernel) X G ι oH) (aCn (DM 2 78 (by decide+kernel) X G a12 oG) (aCn (JR 1 98 (by decide+kernel) X G a13 oF) (aCn (Ie 3 92 (by decide+kernel) X G a14 oE) (aCn (Ie 3 105 (by decide+kernel) X G a15 oC) (aCn (DM 2 106 (by decide+kernel) X G a16 oB) (aCn (DM 2 122 (by decide+kernel) X G a17 oA) (aCn (JR 1 123 (by decide+kernel) X G a18 nZ) (aCn (Ie 3 126 (by decide+kernel) X G a19 nY) (aCn (DM 2 128 (by decide+kernel) X G a20 nX) (aCn (DM 2 131 (by decide+kernel) X G a21 pX) (aCn (DM 2 136 (by decide+kernel) X G a22 pW) (aCn (DM 2 110 (by decide+kernel) X G a23 pV) (aCn (DM 2 111 (by decide+kernel) X G a24 pU) (aCn (Ie 3 112 (by decide+kernel) X G a25 pT) (aCn (DM 2 147 (by decide+kernel) X G a26 pS) (aCn (DM 2 148 (by decide+kernel) X G a27 pR) (aCn (Ie 3 180 (by decide+kernel) X G a28 pQ) (aCn (Ie 3 149 (by decide+kernel) X G a29 pP) (aCn (Ie 3 184 (by decide+kernel) X G a30 pO) (aCn (Ie 3 186 (by decide+kernel) X G a31 pM) (aCn (Ie 3 150 (by decide+kernel) X G a32 pL) (aCn (Ie 3 151 (by decide+kernel) X G a33 pK) (aCn (DM 2 154 (by decide+kernel) X G a34 pJ) (aCn (DM 2 198 (by decide+kernel) X G a35 pH) (aCn (DM 2 33 (by decide+kernel) X G a36 pG) (aCn (DM 2 34 (by decide+kernel) X G a37 pF) (aCn (DM 2 347 (by decide+kernel) X G a39 pE) (aCn (DM 2 348 (by decide+kernel) X G a40 pC) (aCn (DM 2 349 (by decide+kernel) X G a41 pB) (aCn (DM 2 350 (by decide+kernel) X G a42 pA) (aCn (DM 2 351 (by decide+kernel) X G a43 oZ) (aCn (DM 2 353 (by decide+kernel) X G a44 oY) (aCn (DM 2 354 (by decide+kernel) X G a45 oX) (aCn (JR 1 355 (by decide+kernel) X G a46 oW) (aCn (DM 2 93 (by decide+kernel) X G a47 oV) (aCn (JR 1 356 (by decide+kernel) X G a48 mG) (aCn (JR 1 357 (by decide+kernel) X G a49 mF) (aCn (JR 1 358 (by decide+kernel) X G a50 mE) (aCn (Ie 3 359 (by decide+kernel) X G a51 mC) (aCn (JR 1001 360 (by decide+kernel) X G a52 mB) (aCn (DM 2 368 (by decide+kernel) X G a54 lZ) (aCn (Wv 4 369 (by decide+kernel) X G a55 lY) (aCn (Pc 920 (by decide+kernel) (Ia (by decide:1<3) nv.n) nv.ft uq S7 λ_ _ _ _ _ _ _=>rfl) (aCn (Pc 920 (by decide+kernel) (Ia (by decide:2<3) n5.n) n5.ft uq S7 λ_ _ _ _ _ _ _=>rfl) (aCn (Pc 931 (by decide+kernel) (Ia (by decide:1<3) nv.n) nv.fs qt iA λ_ _ _ _ _ _ _=>rfl) (aCn (Pc 932 (by decide+kernel) (Ia (by decide:2<3) n5.n) n5.fs qu hZ λ_ _ _ _ _ _ _=>rfl) (aNl))))))))))))))))))))))))))))))))))))))))))))))))))))))))))⟩
 obtain⟨_,Fi⟩:=di;obtain⟨_,Fs⟩:=dm1;obtain⟨_,Fq⟩:=dm2;obtain⟨_,Fm⟩:=dm3;obtain⟨_,Fl⟩:=dm4;obtain⟨_,Fc⟩:=dm5;obtain⟨_,Fu⟩:=dm6;obtain⟨_,Fa⟩:=dm7;obtain⟨_,Fr,er⟩:=a38;obtain⟨_,Fd,ed⟩:=a53;have cC:MB l.prog w K gC JW:=wE (xs:=[("put",3,tC0,uC0),("take",3,tC1,uC1),("grow",0,tC2,uC2),("five",0,tC3,uC3),("curve",6,tC4,uC4),("undo",0,tC5,uC5),("points",0,tC6,uC6),("look",0,tC7,uC7),("draw",0,tC8,uC8),("kind",0,tC9,uC9),("side",3,Ê,Ð),("polar",3,Ë,Ñ),("pole",3,Ì,Ò)]) sC lC rfl
 refine' ⟨_,?b,λbase _ _ => ?g⟩
 case g=>
  have CH:=wR (P:=l.prog) (w:=w) (base:=base) (mg:=mg) (CL:=(kz [(3,x0),(107,x1),(5,x2),(13,x3),(14,x4),(12,x5),(108,x6),(17,x7),(0,x8)])) (n:=9) da.x.d (Hv Fc) (by repeat' trivial) (by repeat' trivial) rfl
  have LC:=vC (P:=l.prog) (w:=w) (base:=base) (n:=10) (ip:=348) (it:=349) T da.x.d (Hv Fl) (by repeat' trivial) rfl (by repeat' trivial) (by repeat' trivial) (by repeat' trivial) (by repeat' trivial) ⟨rfl,rfl⟩ (by repeat' trivial) (by repeat' trivial) (by repeat' trivial) da.x.c (Fc.binds λkV doc pm an cdv ct=>NK λ_ _ _=>rfl) CH
  have CQ:=vO (P:=l.prog) (w:=w) (base:=base) (n:=10) (is:=186) (ip:=180) (io:=149) (ik:=353) (s1:=931) (s2:=932) T da.x.d (Hv Fq) (by repeat' trivial) rfl (by repeat' trivial) (by repeat' trivial) (by repeat' trivial) (cb ϸ nv n5) (by repeat' trivial) (by repeat' trivial) (by repeat' trivial)
  have CM:=wG (P:=l.prog) (w:=w) (base:=base) (n:=10) (it:=198) (ce:=er6) T da.x.d (Hv Fm) (by repeat' trivial) rfl (by repeat' trivial) (by repeat' trivial) (by repeat' trivial) (by repeat' trivial) (by repeat' trivial) da.x.c (Fc.binds λkV doc pm an cdv ct=>NK λ_ _ _=>rfl) CH
  have UN:=rE (P:=l.prog) (w:=w) (base:=base) (n:=10) (txt := "there is nothing to undo") T da.x.d (Hv Fu) (by repeat' trivial) rfl (by repeat' trivial) (by repeat' trivial) (by repeat' trivial) (by repeat' trivial) (by repeat' trivial) (by repeat' trivial) rfl
  have LA:=uZ (P:=l.prog) (w:=w) (base:=base) (n:=10) (id:=350) T da.x.d (Hv Fa) (by repeat' trivial) rfl (by repeat' trivial) (by repeat' trivial) rfl (by repeat' trivial)
  have RR:=rT (P:=l.prog) (w:=w) (base:=base) (n:=10) (ir:=34) (txt := "no row of a desk") T cC (AU X G nC) (Hv Fr) (by repeat' trivial) rfl (by repeat' trivial) (by repeat' trivial) (by repeat' trivial) (by repeat' trivial) (by repeat' trivial) (by repeat' trivial) (λ_ _=>rfl) (by repeat' trivial) (by repeat' trivial) rfl
  have SA:=lR (P:=l.prog) (w:=w) (base:=base) (n:=11) (tb:=347) (cs:=csE) (ga:=4) (gm:=3) (gl:=2) (la:=ô) (lm:=lmW) (ll:=llW) (txt := "the desk has no curve") T da.x.d (Hv Fs) (by repeat' trivial) rfl (by repeat' trivial) (by repeat' trivial) (by repeat' trivial) (by repeat' trivial) (by repeat' trivial) (by repeat' trivial) (by repeat' trivial) (by repeat' trivial) (by repeat' trivial) (by repeat' trivial) (by repeat' trivial) (by repeat' trivial) (by repeat' trivial) rfl rfl rfl rfl (AU X G er) Fr.kp (Fr.binds λkV doc pm an cdv ct=>Ln λ_ _=>rfl) RR da.q (Fq.binds λkV doc pm an cdv ct=>NK λ_ _ _=>rfl) CQ da.k (Fm.binds λkV doc pm an cdv ct=>Ln λ_ _=>rfl) CM da.x.l (Fl.binds λkV doc pm an cdv ct=>NK λ_ _ _=>rfl) LC da.x.u (Fu.binds λkV doc pm an cdv ct=>WI λ_=>rfl) UN da.x.a (Fa.binds λkV doc pm an cdv ct=>Ln λ_ _=>rfl) LA
  have SD:=lU (P:=l.prog) (w:=w) (base:=base) (n:=12) (tx:=356) (rf:=360) T (by repeat' trivial) (by repeat' trivial) da.x.d (Hv Fd) (by repeat' trivial) rfl (by repeat' trivial) (by repeat' trivial) (by repeat' trivial) (by repeat' trivial) da.x.s (Fs.binds λkV doc pm an cdv ct=>Ln λ_ _=>rfl) SA
  have IN:=uG (P:=l.prog) (w:=w) (base:=base) (mg:=mg) (n:=11) da.x.d (Hv Fi) (by repeat' trivial) rfl
  have LW:=nO (n:=12) (c1 := .call 355 (.cons (.v 0) .nil)) (y0:=QY) (y1:=Q5) (y2:=Lf) (y3:=Nw) (y4:=VE) (y5:=Q4) (y6:=VD) (y7:=Q3) (y8:=Q2) (y9:=VC) (y10:=Vc) (y11:=Ow) (y12:=Ou) (y13:=Vb) (y14:=Va) (z0:=VB) (z1:=Q1) (z2:=OD) (z3:=VA) (z4:=Vz) (z5:=Vy) (u0:=VH) (u1:=MC) (u2:=Nv) (u3:=QZ) (u4:=Nu) (u5:=VG) T da.x.d (Hv F) (by repeat' trivial) rfl (by repeat' trivial) (by repeat' trivial) (by repeat' trivial) (by repeat' trivial) (by repeat' trivial) (by repeat' trivial) da.x.m (AU X G da.x.n) (Fi.binds λkV doc pm an cdv ct=>Ln λ_ _=>rfl) IN (AU X G ed) Fd.kp (Fd.binds λkV doc pm an cdv ct=>Ln λ_ _=>rfl) SD da.x.s (Fs.binds λkV doc pm an cdv ct=>Ln λ_ _=>rfl) SA bx
  exact LW
 case b=>exact λs v => .of_eq rfl
theorem walk96{q:AG}{loose:Ac Ah}{XP:(Ah->Am Aj)->AC->Prop}{YP:AD->AC->Prop}{d:DefRec}{K:M3->Fg}(hn:l.most=Aa 63)(Ϥ:d.params.defaults=[])(hY : ∀(w:AD)(h:AC),YP w h->(K w.params).In h)(F : ∀(w:AD)(mg:Ah->Am Aj)(fa:Ak)(h:AC),(K w.params).In h->h.Ns AJ mg->mg d.name=Aa (.ref fa) ->
   ∃ fd:A7,(∀(s:An)(u:Aj),Hb s fd ⟨[u],[]⟩ [("_law_script",u)]) /\ ∀ base:AC,(K w.params).In base->base.Ns AJ mg->Y0 l.prog w (K w.params) mg base (CXR l.prog w) 14 fa fd ["_law_script"] (OI (K w.params))):Yz q loose XP YP l.row.toRowW d [] (λf vs=>Mc f vs):=
 L2.walk_of (n:=63) (k:=14) (x := "_law_script") (CX:=λw=>CXR l.prog w) (sp:=λw=>OI (K w.params)) hn (by decide) Ϥ ⟨rfl,by decide,by decide,rfl⟩ hY F (λ_ H a ns hl _ hS=>⟨a,ns,rfl,hl,hS,λ_ _ z=>z⟩) λ_ _ _ _ _ z=>wD z
end OvC
open PySem PySem.W PyProof.Rows
set_option hygiene false
set_option maxRecDepth 100000 in
set_option maxHeartbeats 0 in
theorem PySem.Challenge.cw_ovalfield_k96_rows_refused_holds : PySem.Challenge.rw_ovalfield_k96_rows_refused.Holds := by
 refine OvC.hold96.go (λw os=>(OvC.reckA96 w os).1) (λw os=>(OvC.reckA96 w os).2.1) (λw os=>(OvC.reckA96 w os).2.2.1) (λw os=>(OvC.reckA96 w os).2.2.2.1) (λw os=>(OvC.reckA96 w os).2.2.2.2.1) (λw os=>(OvC.reckA96 w os).2.2.2.2.2.1) (λw os=>(OvC.reckA96 w os).2.2.2.2.2.2.1) (λw os=>(OvC.reckA96 w os).2.2.2.2.2.2.2.1) (λw os=>(OvC.reckA96 w os).2.2.2.2.2.2.2.2.1) (λw os=>(OvC.reckA96 w os).2.2.2.2.2.2.2.2.2) (λw os=>OvC.reck96_2 w os) ?_
 intro Å;refine OvC.walk96 (l:=PySem.Challenge.rw_ovalfield_k96_rows_refused) rfl rfl (λw h Y_=>YC Y_) ?F
 case F=>
  intro w mg fa h KX G jw
  refine' OvC.all96 KX G jw ?a0 ?a1 ?a2 ?a3 ?a4 ?a5 ?a6 ?a7 ?a8 ?a9 ?a10 ?ι ?a12 ?a13 ?a14 ?a15 ?a16 ?a17 ?a18 ?a19 ?a20 ?a21 ?a22 ?a23 ?a24 ?a25 ?a26 ?a27 ?a28 ?a29 ?a30 ?a31 ?a32 ?a33 ?a34 ?a35 ?a36 ?a37 ?a38 ?a39 ?a40 ?a41 ?a42 ?a43 ?a44 ?a45 ?a46 ?a47 ?a48 ?a49 ?a50 ?a51 ?a52 ?a53 ?a54 ?a55 ?a56 ?ϸ ?nv ?n5 ?kt0 ?kt1 ?kt2 ?ii ?uq ?qt ?qu ?da ?di ?dm1 ?dm2 ?dm3 ?dm4 ?dm5 ?dm6 ?dm7 ?nC ?lC ?sC ?ä ?å ?æ ?ç ?è ?é ?ê ?ë ?lb ?ž ?ŧ ?m8 ?sx5 ?sx0 ?sx2 ?sx1 ?rk ?sx9 ?sx7 ?sx3 ?kl ?sx4 ?sx8 ?gn0 ?gk0 ?gn2 ?gk2 ?gn3 ?gk3 ?gn4 ?gk4 ?gn5 ?z0 ?z1 ?z2 ?z3 ?z4 ?z5 ?z6 ?z7 ?z8 ?z9 ?z10 ?z11 ?z12
  case a0|a1|a2|a3|a4|a5|a6|a7|a8|a9|a10|ι|a12|a13|a14|a15|a16|a17|a18|a19|a20|a21|a22|a23|a24|a25|a26|a27|a28|a29|a30|a31|a32|a33|a34|a35|a36|a37|a38|a39|a40|a41|a42|a43|a44|a45|a46|a47|a48|a49|a50|a51|a52|a53|a54|a55|a56=>(refine' Ov.fni ?a ?l ?c ?k;(case a=>k_is);(case l=>k_is);(case c=>k_is);(case k=>k_is))
  case ϸ|nv|n5=>(refine' Ov.oa_mk ?n ?i ?ft ?fs ?q1 ?q2 ?q3 ?q4 ?q5 ?q6 ?q7 ?q8 ?q9 ?r1 ?r2 ?r3 ?r4 ?r5 ?r6;(case n=>k_is);(case i=>k_is);(case ft=>k_is);(case fs=>k_is);(case q1|q2|q3|q4|q5|q6|q7|q8|q9|r1|r2|r3|r4|r5|r6=>k_is))
  case kt0|kt1|kt2=>(refine' Ov.aCn ?q0 (Ov.aCn ?q1 (Ov.aCn ?q2 Ov.aNl));(case q0|q1|q2=>dsimp only;kit_is))
  case ii=>(refine' Ov.ini_mk ?l ?m ?k;(case l=>k_is);(case m=>k_is);(case k=>k_is))
  case uq|qt|qu=>(refine' Ov.mei ?l ?m ?k;(case l=>k_is);(case m=>k_is);(case k=>k_is))
  case da=>(refine' Ov.da_mk6 ?n ?i ?a1 ?a2 ?a3 ?a4 ?a5 ?a6 ?a7 ?p1 ?p2 ?p3 ?p4 ?p5 ?p6 ?p7 ?p8 ?p9 ?p10 ?p11 ?p12 ?p13 ?p14 ?p15 ?p16 ?p17 ?p18 ?p19 ?p20 ?p21 ?p22 ?p23 ?p24 ?p25;(case n=>k_is);(case i=>k_is);(case a1=>k_is);(case a2=>k_is);(case a3=>k_is);(case a4=>k_is);(case a5=>k_is);(case a6=>k_is);(case a7=>k_is);(case p1|p2|p3|p4|p5|p6|p7|p8|p9|p10|p11|p12|p13|p14|p15|p16|p17|p18|p19|p20|p21|p22|p23|p24|p25=>k_is))
  case di=>(refine' Ov.ini_mk ?l ?m ?k;(case l=>k_is);(case m=>k_is);(case k=>k_is))
  case dm1|dm2|dm3|dm4|dm5|dm6|dm7=>(refine' Ov.mei ?l ?m ?k;(case l=>k_is);(case m=>k_is);(case k=>k_is))
  case nC=>k_is
  case lC=>k_is
  case sC=>rfl
  case ä|æ|ç|è|é|ë|lb=>(refine' Ov.xa_mk ?n (Ov.xcls_l ?e) ?d ?f ?g ?r ?a ?b ?c ?o ?h ?v;(case n=>k_is);(case e=>k_exc);(case d=>kernel_rfl);(case f|g|r|a|b|c|o|h|v=>k_is))
  case å|ê=>(refine' Ov.XB.mk ?i (Ov.xa_mk ?n ?e ?d ?f ?g ?r ?a ?b ?c ?o ?h ?v) (Ov.ini_mk ?l ?m ?k) ?t ?s;(case n=>k_is);(case i=>k_is);(case l=>k_is);(case e|d=>kernel_rfl);(case m|k|t|s|f|g|r|a|b|c|o|h|v=>k_is))
  case ŧ|m8=>(refine' Ov.XE.mk ?a ?b ?c;(case a=>k_is);(case b|c=>k_is))
  case ž=>(refine' Ov.XO.mk ?a ?b ?c;(case a|b|c=>k_is))
  case sx5|sx0|sx2|sx1|rk|sx9|sx7|sx3|kl|sx4|sx8=>(refine' Ov.aCn ?q0 (Ov.aCn ?q1 (Ov.aCn ?q2 (Ov.aCn ?q3 (Ov.aCn ?q4 (Ov.aCn ?q5 (Ov.aCn ?q6 (Ov.aCn ?q7 (Ov.aCn ?q8 (Ov.aNl)))))))));(case q0|q1|q2|q3|q4|q5|q6|q7|q8=>dsimp only;k_is))
  case gn0|gk0|gn2|gk2|gn3|gk3|gn4|gk4|gn5|z0|z1|z2|z3|z4|z5|z6|z7|z8|z9|z10|z11|z12=>k_is
import PyProof.Rows.All
import Wide.All
import OpenK.AllK
import Wide.FinOn
import PyProof.EqAt
import KE.KSortTup
import PyProof.EqKinds
import PyProof.TupleCall
import Lean
import PySem.Challenge.RW_ovalfield_k95_a_list_of_points
set_option Elab.async false
set_option linter.all false
set_option maxRecDepth 100000
set_option maxHeartbeats 4000000
open Option renaming some→Aa,none→Af,bind_eq_some_iff→AC,isSome_iff_exists→CA,isNone_iff_eq_none→DX,bind_some→Ii,getD_none→Yq,isSome→Yr,map_some→Ys
open Bool renaming true→Ab,false→Ae,and_eq_true→Am,false_ne_true→Ax,not_eq_true'→Bf,or_eq_true→BY,eq_iff_iff→DM,or_false→DQ,and_false→Jf,and_true→JV,or_true→J5,false_eq_true→XF
open _root_ renaming List→Ac,Nat→Ag,Int→Ai,Bool→An,Option→Ao,if_pos→Au,if_neg→Ay,beq_iff_eq→AD,decide_eq_true_eq→AG,False→AM,of_decide_eq_true→AN,beq_eq_false_iff_ne→Bg,Array→Bl,beq_self_eq_true→BE,decide_eq_false→BM,dif_neg→Cd,decide_eq_true→CI,String→CQ,Unit→Ea,if_true→EN,bne_iff_ne→E8,True→F8,ne_true_of_eq_false→Hd,Decidable→ID,if_false→JT,ne_eq→JU,not_or→NG
open PySem renaming Str→Ah,Addr→Ak,Value→Al,Expr→Aq,Shared→Ar,wpAny_bind→As,starEach→Aw,wpAny→AA,Pos→AF,World→AI,Heap→AJ,Program→AK,Stmt→AL,mainGlobals→AO,wpAny_pure→A2,Around→A4,FuncData→Bi,wpAny_mono→Bj,backTo→Bs,cLine→Bx,sizeLine_eq→Bz,attributeBase→BH,OsState→BU,Env→B7,Scope→Cc,wpAny_loadPart_at→Ce,Tok→Cf,binaryOp→Ch,wpAny_holding→Cm,excClassObj→Cu,assignEach→Cy,Keyword→CB,mem_of_lookup→CK,cellsFrom→CO,compareOp→CP,wpAny_standAt→CU,Obj→CZ,foldedSetIterable→Da,wpAny_truthy_bool→Db,treeTable→Dd,bootBuiltins→Dg,keywordEach→Dh,methodCallPos→Do,swapsWith→Dr,CmpOp→DC,wpAny_Call_Name_kw→DJ,wpAny_newObj_type→DV,codeAny_call_builtin→DZ,OwnTail→D2,NameKind→D7,backToKw→D9,GenState→Eo,codeAny→EF,codeAny_mono→EG,call_meets→EV,strKind→Fe,wpAny_newFunctionEnv_cells→Fh,sliceBounds→Fj,wpAny_field→Fk,Sem→Fo,wpAny_isSubtype_exc→Fp,wpAny_passesOwn→FD,PassesOwn→FM,noteFrame→FN,methodCallForm→FX,typeIs_str→FY,valueAt→FZ,wpAny_call→F0,wpAny_of_eq→Gj,arm_eval_Call→Gm,strLen_append→Go,Operator→Gr,checkBuiltinCall→Gs,BindsTo→GE,codeAny_call_function→GI,setFlight→GJ,letOwnedTupleGo→GW,sysModules→GX,wpAny_execs_nil→GZ,bindArgs→Hg,recursionLimit→Hh,Model→Hv,IsPart→Hz,pushCells→HB,rawInt→HC,behindInMarks→HF,swappedStores→HG,wpAny_pyIter_list→HX,methodCall→HY,callerA→Ia,ExcBaseFacts→Ij,Paired→Ik,Result→Il,handleBy→Im,Drawn→IE,importedModules→II,pushCells_keeps→IJ,boot_len→Jj,isTrue→Jk,newFunctionEnv→Jl,notedBy→Jm,wpAny_setField→Jn,bindC→Jq,bindL→Jr,builtinsNs→Js,isInstance→Jt,numAt→Ju,Comprehension→JX,swapsWithSole→J3,JoinOk→J8,Within→Kc,codeAny_func→Kd,concat_meets→Ke,onTheHeap→Kf,UnaryOp→K1,getAttr→K2,getItem→K3,PyData→LJ,StoreFacts→LL,call→LM,wpAny_Name→LN,setAttr→LP,Arguments→Mw,DictEntry→Mz,IntMulOk→MC,Params→MD,intItems→ME,pyNext→MF,noFill_tuple_add→ZU,pastItsLine_dict→ZV,plainObj_wpAny_Assign_Attribute→ZW,refuseLoop_ref→ZX,slot_list_getitem→ZY,wpAny_JoinedStr→ZZ,wpAny_Try_except→Z_0,wpAny_assign_Name→Z_1,wpAny_comprehension_free→Z_2,wpAny_execs_cons→Z_4,wpAny_loadPart→Z_5,wpAny_lookBehind→Z_6,wpAny_pyNext_list_end→Z_7,wpAny_pyNext_list_item→Z_8
open PySem.Str renaming ofString→Aj,empty→Dp
open PySem.W renaming findIn→At,mg_of→A3,keepIn→Ba,nsIn→Bb,subIn→BQ,fnOf→B4,kitOne→B8,mroIn→Ck,isFn→Co,kia_one→Cp,looks_findIn→Cq,look_both→CC,mg_none_of→CD,emptyDict→CJ,specialIn→C3,typeIn→Dq,instObj→Dw,clsIn→Dy,codeIn→DE,callWith_K→DI,plainGet→D8,boot_heap→El,hasDictIn→EA,findCls→FB,readsIn→FC,plainOver→F7,OpenLaw→Gh,cellsFrom_some→Gi,makesIn→GV,plainGet_of→Hc,lookIn→He,topFrame→Hf,codeRec_of→HA,methodObj→HW,topStub→HZ,takerIn→IG,takesIn→IH,kitAny→Ji,piecesOf→Jp,excIn→JZ,topRun→Kb,WalkO→ZJ,callWith_K0→ZK,handedIn→ZL,isNs_of_in→ZM,kIn_of→ZN,kitMeta→ZO,kitx_dict→ZP,kitx_list→ZQ,looks_subIn→ZR,nsOkIn→ZS,tail_of_in→ZT
open PySem.Heap renaming get?_push_of_some→AB,lt_size→AS,get?_push_size→Bp,get?_update_other→De,get?_none_of_le→Du,get?_update_self→DO,size_push→D1,SameBut→FK,MadeExcOf→Jh,ExtBut→Zf,get?_push_at→Zi,get?_update_ne→Zj
open List renaming mem_cons_of_mem→AE,length_set→AT,size_toArray→AX,mem_cons_self→AY,getElem?_eq_some_iff→A5,mem_cons→A6,length_cons→A8,length_map→Bc,all_eq_true→Bh,mem_append_right→Br,getElem?_set_self→By,append_nil→BA,map_cons→BP,range→BR,length_append→BW,mem_singleton→BX,lookup→B0,lookup_cons→Ct,getElem?_eq_getElem→Cz,isEmpty_eq_false_iff→CN,mem_range→CV,getD_eq_getElem?_getD→Dl,drop_eq_getElem_cons→DW,mem_append→Ei,eq_nil_of_length_eq_zero→Ey,getElem?_map→Ez,all_map→EC,dropLast_eq_take→ED,replicate→EE,any_eq_true→ER,getElem_mem→ES,mem_append_left→ET,all_cons→E9,getElem_of_mem→Fn,getElem?_append_left→Fw,toArray→FE,getElem?_set_self'→F3,drop_eq_nil_of_le→Ge,getElem?_set_ne→GM,mem_of_getElem?→GN,nodup_cons→GO,of_mem_zip→GP,filterMap_cons→Hb,contains_cons→Hx,length_take→Ie,map_map→Ig,mem_map→Ih,any_cons→JW,any_map→XX,contains_eq_mem→XY,drop_zero→XZ,flatten_cons→X1,forIn_nil→X2,getElem?_append_right→X3,getElem?_replicate→X4,getLast?_eq_getElem?→X5,length→X6,length_drop→X7,length_filter_le→X8,length_nil→X9,length_replicate→Yb,length_singleton→Yc,map_append→Yd,map_nil→Ye,mem_filter→Yg,nodup_nil→Yh,replicate_succ→Yi,reverse_cons→Yj,set_set→Yk
open Nat renaming le_of_ble_eq_true→AR,le_refl→AU,lt_of_lt_of_le→AZ,ne_of_lt→BB,lt_irrefl→BG,le_trans→B9,ble→CF,zero_le→Dt,lt_of_le_of_lt→FG,log2_le_self→Gp,lt_succ_self→Gq,ble_eq→GQ,le_of_lt→GR,lt_succ_of_lt→HU,le_succ→K4,blt→LO,le_of_eq→Yl,min_self→Ym,mod_eq_of_lt→Yn,ne_of_gt→Yo,not_lt→Yp
open False renaming elim→A7
open PySem.Value renaming ref→Bm,builtin→Dm,none→Dv,int→GH,bool→Jo,str→Ka,float→K5,bytes→ZB,type→ZC
open Int renaming emod_emod_of_dvd→Bo,emod_eq_of_lt→BF,mul_emod→BK,emod_lt_of_pos→BV,emod_nonneg→BZ,dvd_refl→Cn,one_mul→Em,eq_ofNat_of_zero_le→F2,mul_comm→GK,natAbs_natCast→Hw,mul_assoc→HE,add_emod→XH,le_refl→XI,le_trans→XJ,mul_one→XM,mul_zero→XN,ne_of_gt→XQ,sub_emod→XS,sub_zero→XU,zero_emod→XV
open Option.some renaming inj→BD
open PySem.F renaming plainAttrs_list→BJ,slot_list_append→D5,type_list_append→D6,slot_list_count→Ed,slot_str_split→En,excBase_ValueError→Fb,args_str_split_2→FJ,entry_str_split→F4,type_list_count→F5,attr_ValueError→F6,args_tuple_add_2→Y_5,entry_bexc_ga→Y_6,entry_tuple_add→Y_7,plainAttrs_str→Y_8,slot_list_index→Y_9,slot_list_pop→Za,slot_str_join→Zb,slot_tuple_add→Zc,typeOf_object_class→Zd,type_list_pop→Ze
open PySem.NameKind renaming cell→B1,free→DR
open PySem.PyData renaming keyHash→Cj,shownAll→DP,depthAll→IF,hasDictAll→Zn,showableAll→Zo
open Ne renaming symm→CG
open PySem.Builtin.Str renaming occurrences→DB,strKind→DD,strSliceIndices→EQ,partsBetween→YA
open PySem.Txt renaming split→DH,join→Ep
open Classical renaming choose_spec→DN,choose→XG
open PySem.Builtin.Slice renaming slicePlaces→DY,sliceAdjust→FA,sliceApplied→Yz
open PyProof.Rows renaming envOfC→D3,callWith_type1→EO,boot_isinstance→Fx,AllBare→FW,subscriptTail_builtinR→Gf,boot_str→GD,IntsAre→Jg,IsTup→LI,boot_list→Yt,boot_tuple→Yu,slicePart_none→Yv,slot_tuple_getitem→Yw
open PySem.Builtin.Tuple renaming tupleExact→D4
open ForInStep renaming yield→Eh
open PySem.Obj renaming data_mapFields→Ej,mapFields→Gk,isFreed_of_fields→GF,mapSeq→Zk
open PySem.SeqAt renaming EqAt→Ek,RcNeAt→J9,RcAt→LK
open PySem.Calls renaming evalArgs_plain→EU,callWith_builtin→Gg,Name_function_global→YB
open True renaming intro→F1
open Array renaming length_toList→Ha,toList→J4,append_assoc→Xy,find?_toList→Xz,getElem?_eq_getElem→XC,mem_toList_iff→XD
open PySem.Code renaming quiet_builtin→Hy,isFrame→J7,frames→YC
open PySem.PassesOwn renaming looking→HV,leaving→Zm
open Sum renaming inl→Ib,inr→Ic
open PySem.Value.ref renaming inj→JY
open PySem.Around renaming under→J6
open NeZero renaming ne→Mu
open PyProof.Rows.IsTup renaming new→Mv
open PySem.Data renaming cell→Mx,seq→MB
open Prod renaming ext→MA
open Eq renaming symm→NH
open PySem.Builtin.Int renaming intBits→Yx
open PySem.Builtin.ObjectAttr renaming storeInDict→Yy
open PySem.EntryCells renaming newEntry→YD
open PySem.Expr renaming Attribute→YE,BinOp→YG,BoolOp→YI,Call→YK,Compare→YM,Constant→YO,List→YR,ListComp→YT,Name→YV,Slice→YX,Subscript→YZ,Tuple→Y_1,UnaryOp→Y_3
open PySem.Expr.Attribute renaming elim→YF
open PySem.Expr.BinOp renaming elim→YH
open PySem.Expr.BoolOp renaming elim→YJ
open PySem.Expr.Call renaming elim→YL
open PySem.Expr.Compare renaming elim→YN
open PySem.Expr.Constant renaming elim→YQ
open PySem.Expr.List renaming elim→YS
open PySem.Expr.ListComp renaming elim→YU
open PySem.Expr.Name renaming elim→YW
open PySem.Expr.Slice renaming elim→YY
open PySem.Expr.Subscript renaming elim→Y_0
open PySem.Expr.Tuple renaming elim→Y_2
open PySem.Expr.UnaryOp renaming elim→Y_4
open PySem.Heap.Ns1 renaming of_empty→Zg
open PySem.Heap.SameBut renaming refl→Zh
open PySem.Paired renaming length→Zl
open PySem.SeqAt.EqAt renaming of_refs→Zp,same→Zq
open PySem.Stmt renaming Assign→Zr,Expr→Zt,Raise→Zx,Return→Zz
open PySem.Stmt.Assign renaming elim→Zs
open PySem.Stmt.Expr renaming elim→Zu
open PySem.Stmt.For renaming elim→Zv
open PySem.Stmt.If renaming elim→Zw
open PySem.Stmt.Raise renaming elim→Zy
open PySem.Stmt.Return renaming elim→ZA
open PySem.W.Fast renaming te10110043849684766642→ZD,te12563942051412417395→ZE,te14364793385576792824→ZF,tw14364793385576792824→ZG
open PySem.W.WData renaming int→ZH
open PySem.W.WShape renaming has→ZI
abbrev Fg:=PySem.W.Frag
abbrev Pn:=Ac (PySem.Addr×PySem.Obj)
abbrev Vq:=PySem.Value->PySem.Shared->Prop
set_option genSizeOfSpec false
section
open PySem PySem.W PyProof.Rows
variable{α:Type}
namespace OvC
noncomputable def tp95(i:Ag):AL:=PySem.Challenge.pw_ovalfield_k95_a_list_of_points.main.body.getD i (.Pass ⟨0,0,0,0⟩)
noncomputable def V9:Ag->BT->Ac CZ->BT
 |_,t,[]=>t
 |n,t,o::r=>V9 (n+1) (t.ins n o) r
noncomputable def jb(s:Ar):SharedT:=⟨V9 0 .nil s.heap.objs.toList,s.heap.objs.size,s.heap.life,s.gens,s.drawn,s.toks,s.os⟩
noncomputable abbrev EM:AK:=PySem.Challenge.pw_ovalfield_k95_a_list_of_points
noncomputable def KO:B7:={scope:=EM.main.scope,locals:=mainNs,globals:=mainNs,cells:=[],code:=.ref 13,frame:=Aa 14}
noncomputable def LH:Ac AL:=behindTheImports EM
noncomputable def IA:Code:=.body LH KO
noncomputable def S0(w:AI)(os:BU):Ar:=⟨El w.params,#[],boot_drawn,boot_toks,os⟩
noncomputable def Sa(w:AI)(os:BU):Ar:=match PySem.W.Fast.tw15667345088766844465 ZG EM w 11 (Aa (.ref 6)) 12 (S0 w os) (HZ EM) with
  |some (s,_)=>s
  |none=>S0 w os
noncomputable def sZ:Thread:=⟨(PySem.W.Fast.tw12563942051412417395 LH KO).wrap doneF deadEnd id id,IA,⟨0,0,0,0⟩,[Hf ⟨0,0,0,0⟩]⟩
noncomputable def ϲ(w:AI)(os:BU):SharedT:=match PySem.W.Fast.tw10110043849684766642 ZG EM w 11 (Aa (.ref 6)) 1 7122 (jb (Sa w os)) sZ with
  |some (_,s,_,_)=>s
  |none=>jb (Sa w os)
noncomputable def wF(b:An)(w:AI):AI:=w.withFollow "special-get-raises" b
noncomputable def Sf(w:AI)(os:BU):Ar:=(ϲ (wF Ae w) os).abs
noncomputable def W6(t:BT)(n a:Ag):Ao CZ:=match LO a n with
  |true=>alive ((t.get a).getD default)
  |false=>Af
theorem getT_eq(t:BT)(n:Ag)(life:Life):(absHeap t n life).get?=W6 t n:=by
 funext a
 unfold W6;by_cases h:a<n
 .have e:LO a n=Ab:=GQ.mpr h;rw[e];dsimp only;unfold Heap.get?;rw[absHeap_at,Au h];generalize (t.get a).getD default=o;obtain⟨c,d,dt,sl⟩:=o;cases dt<;>rfl
 .have e:LO a n=Ae:=by
   cases q:LO a n with
   |false=>rfl
   |true=>exact absurd (AR q) h
  rw[e,abs_get_none h]
theorem left_tree{p q:AK}{loose:Ac Ah}{Xt:Ar->An}{Yf:Ar->α}{Ya:AI->α}{N M m:Ag}{ann:Ao Al}{Z_:AI->BU->Ar}(o:∀ w:AI,(fencedOpening Dd p w N).map (λs=>(s.heap,s.gens,s.drawn,s.toks))=Aa (El w.params,#[],boot_drawn,boot_toks))(z:∀ w:AI,(El w.params).isNs AO=Ab/\(El w.params).objs.size=m/\(El w.params).nsMap AO "__annotations__" = ann)(r:∀ w os,Kb Dd p w m ann M (S0 w os) (HZ p)=Aa (Z_ w os))(le:M<=N)(l:∀ w os,(staticsOk (II p.main.body) (El w.params) (Z_ w os).heap&&namesBound p (Z_ w os).heap&&gensDone (Z_ w os)&&laidKept (El w.params) (Z_ w os).heap)=Ab)(k:∀ w os,(openSeen q loose (II p.main.body) Xt Ab (Z_ w os),Yf (Z_ w os))=(openGood q loose,Ya w)):LeftO p q loose Xt Yf Ya N:=λw=>by
 obtain⟨s,e1,e2⟩:=Option.map_eq_some_iff.mp (o w);obtain⟨z1,z2,z3⟩:=z w;cases s with
 |mk h g d t os=>
  cases e2;have e3:=topRun_mono (N-M) _ _ _ _ (r w os);have e4:M+(N-M)=N:=by omega
  rw[e4]at e3;unfold openEnds;rw[e1,Ii];have e5:topFrom Dd p w N (S0 w os)=Aa (Z_ w os):=by
   unfold topFrom;rw[show (S0 w os).heap=El w.params from rfl,z1,z2,z3,e3]
   show (match (staticsOk (II p.main.body) (El w.params) (Z_ w os).heap&&namesBound p (Z_ w os).heap&&gensDone (Z_ w os)&&laidKept (El w.params) (Z_ w os).heap) with|true=>Aa (Z_ w os)|false=>Af)=_
   rw[l w os]
  show (topFrom Dd p w N (S0 w os)).map _=_;rw[e5];exact congrArg Aa (k w os)
theorem pair_eq{β:Type}{a a':α}{b b':β}(h:a=a')(k:b=b'):(a,b)=(a',b'):=by rw[h,k]
theorem vA(w:AI)(os:BU):topGo Dd EM w 11 (Aa (.ref 6)) 12 (S0 w os) (HZ EM)=Aa (Sa w os,⟨denote Dd (.body LH KO),IA,⟨0,0,0,0⟩,[Hf ⟨0,0,0,0⟩]⟩):=by kernel_rfl
theorem xT(w:AI)(s:Ar):segRun Dd EM w 11 (Aa (.ref 6)) 1 1 s (blockOf LH KO IA ⟨0,0,0,0⟩ [Hf ⟨0,0,0,0⟩])=Aa (.next,s,IA,⟨0,0,0,0⟩):=by kernel_rfl
theorem xI(w:AI)(os:BU):(jb (Sa w os)).abs=Sa w os:=by kernel_rfl
theorem wN(w:AI)(s:Ar):Kb Dd EM w 11 (Aa (.ref 6)) 3 s (restOf [] KO IA ⟨517,0,544,58⟩ [Hf ⟨0,0,0,0⟩])=Aa s:=by
 cases s
 kernel_rfl
theorem iF(w:AI)(os:BU):segRunT Dd EM (wF Ae w) 11 (Aa (.ref 6)) 1 7122 (jb (Sa (wF Ae w) os)) (Jp LH KO IA ⟨0,0,0,0⟩ [Hf ⟨0,0,0,0⟩])=Aa (.next,ϲ (wF Ae w) os,IA,⟨517,0,544,58⟩):=by
 unfold Jp;rw[ZD,ZF,ZE]
 kernel_rfl
theorem iE(w:AI)(os:BU):segRunT Dd EM (wF Ab w) 11 (Aa (.ref 6)) 1 7122 (jb (Sa (wF Ab w) os)) (Jp LH KO IA ⟨0,0,0,0⟩ [Hf ⟨0,0,0,0⟩])=Aa (.next,ϲ (wF Ae w) os,IA,⟨517,0,544,58⟩):=by
 unfold Jp;rw[ZD,ZF,ZE]
 kernel_rfl
theorem run95(w:AI)(os:BU):Kb Dd EM w 11 (Aa (.ref 6)) (12+(1+(7122+3))) (S0 w os) (HZ EM)=Aa (Sf w os):=by
 have key:∀ w',segRunT Dd EM w' 11 (Aa (.ref 6)) 1 7122 (jb (Sa w' os)) (Jp LH KO IA ⟨0,0,0,0⟩ [Hf ⟨0,0,0,0⟩])=Aa (.next,ϲ (wF Ae w) os,IA,⟨517,0,544,58⟩)->Kb Dd EM w' 11 (Aa (.ref 6)) (12+(1+(7122+3))) (S0 w' os) (HZ EM)=Aa (Sf w os):=λw' h=>by
  have h1:=segRun_of h;rw[xI]at h1;have h2:=piece_app (rest:=[]) h1 (wN w' _);rw[BA]at h2;exact go_top (vA w' os) (piece_block (xT w' _) h2)
 have fin:∀ b,w.params.followText "special-get-raises" = b->Kb Dd EM (wF b w) 11 (Aa (.ref 6)) (12+(1+(7122+3))) (S0 (wF b w) os) (HZ EM)=Aa (Sf w os)->Kb Dd EM w 11 (Aa (.ref 6)) (12+(1+(7122+3))) (S0 w os) (HZ EM)=Aa (Sf w os):=λb hb h=>by
  generalize Sf w os=z at h ⊢;have e:wF b w=w:=by rw[<-hb];exact World.withFollow_self w "special-get-raises"
  rw[e]at h;exact h
 cases hb:w.params.followText "special-get-raises" with
 |false=>exact fin Ae hb (key _ (iF w os))
 |true=>exact fin Ab hb (key _ (iE w os))
theorem said95:PySem.Challenge.rw_ovalfield_k95_a_list_of_points.wellSaid=Ab:=by
 unfold OpenLaw.wellSaid;refine CC (CC (CC (CC (CC (CC (CC (CC (CC (CC (CC (CC (CC (CC (CC (CC (CC (CC ?c0 ?c1) ?c2) ?c3) ?c4) ?c5) ?c6) ?c7) ?c8) ?c9) ?c10) ?c11) ?c12) ?c13) ?c14) ?c15) ?c16) ?c17) ?c18
 case c0=>decide+kernel
 case c1=>decide+kernel
 case c2=>decide+kernel
 case c3=>decide+kernel
 case c4=>decide+kernel
 case c5=>decide+kernel
 case c6=>decide+kernel
 case c7=>decide+kernel
 case c8=>decide+kernel
 case c9=>decide+kernel
 case c10=>decide+kernel
 case c11=>decide+kernel
 case c12=>decide+kernel
 case c13=>decide+kernel
 case c14=>decide+kernel
 case c15=>decide+kernel
 case c16=>decide+kernel
 case c17=>decide+kernel
 case c18=>decide+kernel
set_option genInjectivity false in
structure Tre (P:Prop) where
 (α1 α2 α3 α4 α5 α6 α7 α8 α9 α10 α11  : Type)
 (l1 r1:AI->BU->α1)
 (l2 r2:AI->BU->α2)
 (l3 r3:AI->BU->α3)
 (l4 r4:AI->BU->α4)
 (l5 r5:AI->BU->α5)
 (l6 r6:AI->BU->α6)
 (l7 r7:AI->BU->α7)
 (l8 r8:AI->BU->α8)
 (l9 r9:AI->BU->α9)
 (l10 r10:AI->BU->α10)
 (l11 r11:AI->BU->α11)
 X:Prop
 go:(∀ w os,l1 w os=r1 w os)->(∀ w os,l2 w os=r2 w os)->(∀ w os,l3 w os=r3 w os)->(∀ w os,l4 w os=r4 w os)->(∀ w os,l5 w os=r5 w os)->(∀ w os,l6 w os=r6 w os)->(∀ w os,l7 w os=r7 w os)->(∀ w os,l8 w os=r8 w os)->(∀ w os,l9 w os=r9 w os)->(∀ w os,l10 w os=r10 w os)->(∀ w os,l11 w os=r11 w os)->X->P
noncomputable def loose95:Ac Ah:=(["_wall", "OvalError", "NoOver", "NoTriple", "NoTable", "NoCount", "NoCurve", "NotWhole", "TooMany", "NoRow", "NothingDone", "Alike", "NotOn", "OnLine", "rest", "turned_over", "one_form", "crossed", "lies", "row_of", "Triple", "Point", "Line", "on", "join", "measure", "first_three", "ask_unlike", "ask_no_three", "triples"]:Ac Ah)++(["points_on", "columns", "sums_by", "table_of", "crossed_rows", "led", "after", "table_back", "curve_of", "plain_curve", "value", "points_of", "twice_table", "is_whole", "mixed", "moved", "scaled", "frame_table", "frame_move", "SIDES", "ask_whole", "polar_table", "polar", "pole", "met_by", "side", "frame_on", "curve_move", "crossing", "two_lines"]:Ac Ah)++(["kind", "picture_rows", "row_drawn", "drawn", "first_four", "lines_multiplied", "five_curve", "curve_through", "on_any", "still_fitting", "fitting", "curve_on", "first_two", "end_rows", "look", "ask_set", "grown", "rest_read", "rests_read", "COUNTS", "OF_THE_LIST", "MAKE_A_CURVE", "ASK_THE_CURVE", "MOST", "rests_of_row", "told_by", "put_in", "taken_out", "point_texts", "line_texts"]:Ac Ah)++(["look_text", "kind_text", "Desk", "_law_mixed", "_law_prime", "_law_triple", "_law_whole", "_law_texts", "_law_text", "_law_point_text", "_law_rested", "_law_refusal", "_law_said", "_law_field", "_law_row", "_law_due"]:Ac Ah)
end OvC
noncomputable def OvC.view95:PySem.Program:={ PySem.Challenge.pw_ovalfield_k95_a_list_of_points with main:={PySem.Challenge.pw_ovalfield_k95_a_list_of_points.main with body:=[OvC.tp95 122]} }
set_option hygiene false
local macro_rules | `(tactic| o_head $H)=>`(tactic| refine holds_open (q:=OvC.view95) (loose:=OvC.loose95) (Xt:=fun s=>xlAt OvC.view95 [] s&&recOk (RowW.records (OpenRow.toRowW (PySem.Challenge.rw_ovalfield_k95_a_list_of_points.row))) s) (XP:=XL OvC.view95 []) (Yf:=Hook.obs $H) (Ya:=Hook.val $H) (YP:=Hook.says $H) (N:=14264) ?hl (Hook.of $H) (Hook.keeps $H) (fun s e=>xl_of s (Bool.and_eq_true_iff.mp e).1) XL.keeps (by rfl) (by rfl) (by rfl) (fun s e=>recFacts_of (Bool.and_eq_true_iff.mp e).2) (by rfl) (by first|assumption|decide +kernel) (by decide +kernel) ⟨rfl,rfl,rfl,rfl,rfl,by decide +kernel⟩ ?hw ?hc)
set_option maxRecDepth 100000 in
set_option maxHeartbeats 0 in
noncomputable def OvC.hold95:OvC.Tre PySem.Challenge.rw_ovalfield_k95_a_list_of_points.Holds:=by
 refine' ⟨_,_,_,_,_,_,_,_,_,_,_,_,_,_,_,_,_,_,_,_,_,_,_,_,_,_,_,_,_,_,_,_,_,_,λg1 g2 g3 g4 g5 g6 g7 g8 g9 g10 g11 x=>_⟩
 rotate_right
 w_on;refine holds_law OvC.said95 λcy=>?_;k_head
 (case hl=>refine OvC.left_tree (Z_:=OvC.Sf) (M:=7138) (m:=11) (ann:=Aa (.ref 6)) ?o ?z ?r ?le ?l ?k;(case o=>exact boot_open (by kernel_rfl) (by decide+kernel) (λs=>by kernel_rfl));(case z=>intro w;refine⟨?a,?b,?c⟩;all_goals kernel_rfl);(case r=>exact OvC.run95);(case le=>decide);(case l=>intro w os;exact g1 w os);(case k=>intro w os;refine OvC.pair_eq ?k1 ?k2;(case k1=>rw[PySem.W.Fast.te4187177175401517315];unfold PySem.W.Fast.tw4187177175401517315 openGood;refine OvC.pair_eq ?q1 (OvC.pair_eq ?q2 (OvC.pair_eq ?q3 (OvC.pair_eq ?q4 (OvC.pair_eq ?q5 (OvC.pair_eq ?q6 (OvC.pair_eq ?q7 (OvC.pair_eq ?q8 ?q9)))))));(case q1=>exact g2 w os);(case q2=>exact g3 w os);(case q3=>exact g4 w os);(case q4=>exact g5 w os);(case q5=>exact g6 w os);(case q6=>exact g7 w os);(case q7=>exact g8 w os);(case q8=>exact g9 w os);(case q9=>exact g10 w os));(case k2=>show List.map (absHeap _ _ _).get? _=_;rw[OvC.getT_eq];exact g11 w os)))
 (case hw=>w_witness2)
 k_fill
 revert cy
 exact x
theorem OvC.reck95_1(w:AI)(os:BU):(OvC.hold95.l1 w os,OvC.hold95.l2 w os,OvC.hold95.l3 w os,OvC.hold95.l4 w os,OvC.hold95.l5 w os,OvC.hold95.l6 w os,OvC.hold95.l7 w os,OvC.hold95.l8 w os,OvC.hold95.l9 w os,OvC.hold95.l10 w os)=(OvC.hold95.r1 w os,OvC.hold95.r2 w os,OvC.hold95.r3 w os,OvC.hold95.r4 w os,OvC.hold95.r5 w os,OvC.hold95.r6 w os,OvC.hold95.r7 w os,OvC.hold95.r8 w os,OvC.hold95.r9 w os,OvC.hold95.r10 w os):=by kernel_rfl
theorem OvC.reckA95(w:AI)(os:BU):OvC.hold95.l1 w os=OvC.hold95.r1 w os/\OvC.hold95.l2 w os=OvC.hold95.r2 w os/\OvC.hold95.l3 w os=OvC.hold95.r3 w os/\OvC.hold95.l4 w os=OvC.hold95.r4 w os/\OvC.hold95.l5 w os=OvC.hold95.r5 w os/\OvC.hold95.l6 w os=OvC.hold95.r6 w os/\OvC.hold95.l7 w os=OvC.hold95.r7 w os/\OvC.hold95.l8 w os=OvC.hold95.r8 w os/\OvC.hold95.l9 w os=OvC.hold95.r9 w os/\OvC.hold95.l10 w os=OvC.hold95.r10 w os:=by
 have h:=OvC.reck95_1 w os;simp only[Prod.mk.injEq]at h;exact h
theorem OvC.reck95_2(w:AI)(os:BU):OvC.hold95.l11 w os=OvC.hold95.r11 w os:=by kernel_rfl
end
namespace L2
open PySem PySem.Spec PyProof.Rows
variable{us:Ac Al}{a b it dx C:Ak}{P:AK}{h:AJ}{o:CZ}{g':Bl Eo}{t' i k n:Ag}{d':IE}{ch fp:Ac Ak}{x qual:Ah}{M:Hv}{u:Al}{Q:Ea->Ar->Prop}{e tg:Aq}{α:Type}{s:Ar}{pI:Pn}{pos p:AF}{es:Ac Aq}{body:Ac AL}{f:Al->Al->Fo Al}{g:Ai->Ai->Ai}{op:DC}{mA:Ah->Ao Al}{pl:Fo An}{kw:Ac (Ah×Al)}{fd:Bi}{ps:Ac Ah}{scope:Cc}
abbrev Key:=Sum Ai Ah
noncomputable def Wk:Key->Al->An
 |.inl k,v=>Value.isInt k v
 |.inr x,v=>Value.isStrOf x v
noncomputable def yI(w:AI):Key->Ai
 |.inl k=>hashInt k
 |.inr x=>hashStr w x
theorem Jv:∀{k:Key}{v:Al},Wk k v=Ab->(∃ i t,k=Ib i/\v=GH i t)\/(∃ x t,k=Ic x/\v=Ka x t)
 |.inl i,v,h=>by
  obtain⟨t,e⟩:=Value.isInt_shape (k:=i) (v:=v) h;exact .inl ⟨i,t,rfl,e⟩
 |.inr x,v,h=>by
  obtain⟨t,e⟩:=Value.isStrOf_shape (x:=x) (v:=v) h;exact .inr ⟨x,t,rfl,e⟩
theorem qA(a b:Ai):decide ((Ib a:Key)=Ib b)=(a==b):=by
 by_cases e:a=b
 .subst e;simp
 .have h:¬ (Ib a:Key)=Ib b:=λq=>e (Sum.inl.inj q)
  rw[BM h];exact(Bg.mpr e).symm
theorem pX(a b:Ah):decide ((Ic a:Key)=Ic b)=decide (a=b):=by
 by_cases e:a=b
 .subst e;simp
 .have h:¬ (Ic a:Key)=Ic b:=λq=>e (Sum.inr.inj q)
  rw[BM h,BM e]
theorem pZ(a:Ai)(b:Ah):decide ((Ib a:Key)=Ic b)=Ae:=BM (λq=>nomatch q)
theorem pY(a:Ah)(b:Ai):decide ((Ic a:Key)=Ib b)=Ae:=BM (λq=>nomatch q)
noncomputable def Qq(prog:AK)(w:AI):PySem.KeyKind prog w Key where
 is:=Wk
 hash:=yI w
 inj:=λv a b ha hb=>by
  rcases Jv ha with ⟨i,t,rfl,rfl⟩|⟨x,t,rfl,rfl⟩
  .rcases Jv hb with ⟨j,u,rfl,e⟩|⟨y,u,rfl,e⟩
   .injection e with e1 _;rw[e1]
   .exact nomatch e
  .rcases Jv hb with ⟨j,u,rfl,e⟩|⟨y,u,rfl,e⟩
   .exact nomatch e
   .injection e with e1 _;rw[e1]
 byValue:=λk v h=>by
  rcases Jv h with ⟨i,t,rfl,rfl⟩|⟨x,t,rfl,rfl⟩<;>rfl
 pyHash:=λhv h=>by
  rcases Jv hv with ⟨i,t,rfl,rfl⟩|⟨x,t,rfl,rfl⟩
  .exact wpAny_pyHash_int h
  .exact wpAny_pyHash_str h
 eqBool:=λhu hv h=>by
  rcases Jv hu with ⟨i,t,rfl,rfl⟩|⟨x,t,rfl,rfl⟩
  .rcases Jv hv with ⟨j,u,rfl,rfl⟩|⟨y,u,rfl,rfl⟩
   .rw[qA]at h;exact wpAny_eqBool_int h
   .rw[pZ]at h;exact SeqAt.EqAt.int_str i t y u _ _ _ _ h
  .rcases Jv hv with ⟨j,u,rfl,rfl⟩|⟨y,u,rfl,rfl⟩
   .rw[pY]at h;exact SeqAt.EqAt.str_int x t j u _ _ _ _ h
   .rw[pX]at h;exact wpAny_eqBool_str h
 «strs»:=λk x t v h=>by
  rcases Jv h with ⟨i,u,rfl,e⟩|⟨y,u,rfl,e⟩
  .exact nomatch e
  .injection e with e1 _
   subst e1;cases v<;>rfl
inductive V where
 |O|bl (b:An)|int (i:Ai)|str (x:Ah)|byt (b:Bl UInt8)|flt (b:UInt64)|ref (a:Ak)|ty (n:CQ)
 deriving DecidableEq
variable{xs vs:Ac V}{v y:V}
def Bt:V->Al->Prop
 |.O,u=>u=Dv
 |.bl b,u=>u=Jo b
 |.int i,u=>∃ t,u=GH i t
 |.str x,u=>∃ t,u=Ka x t
 |.byt b,u=>∃ t,u=ZB b t
 |.flt b,u=>∃ t,u=K5 b t
 |.ref a,u=>u=Bm a
 |.ty n,u=>u=ZC n
noncomputable abbrev A1:Ac V->Ac Al->Prop:=Ik Bt
theorem A1.length(r:A1 xs us):xs.length=us.length:=Zl r
theorem A1.get:∀{xs:Ac V}{us:Ac Al}{i:Ag}{x:V},A1 xs us->xs[i]?=Aa x->∃ u,us[i]?=Aa u/\Bt x u
 |_,_,_,_,.nil,e=>by simp at e
 |_,_,0,_,.cons r _,e=>by simp at e;subst e;exact⟨_,rfl,r⟩
 |_,_,i+1,x,.cons _ t,e=>by
  obtain⟨u,h1,h2⟩:=A1.get (i:=i) (x:=x) t (by simpa using e)
  exact⟨u,by simpa using h1,h2⟩
theorem A1.set{x:V}{u:Al}(r:Bt x u):∀{xs:Ac V}{us:Ac Al}(i:Ag),A1 xs us->A1 (xs.set i x) (us.set i u)
 |_,_,_,.nil=>.nil
 |_,_,0,.cons _ t=>.cons r t
 |_,_,i+1,.cons q t=>.cons q (A1.set r i t)
theorem A1.append:∀{xs ys:Ac V}{us ws:Ac Al},A1 xs us->A1 ys ws->A1 (xs++ys) (us++ws)
 |_,_,_,_,.nil,s=>s
 |_,_,_,_,.cons r t,s=>.cons r (A1.append t s)
theorem A1.take:∀{xs:Ac V}{us:Ac Al}(n:Ag),A1 xs us->A1 (xs.take n) (us.take n)
 |_,_,0,_=>.nil
 |_,_,_+1,.nil=>.nil
 |_,_,n+1,.cons r t=>.cons r (A1.take n t)
theorem A1.drop:∀{xs:Ac V}{us:Ac Al}(n:Ag),A1 xs us->A1 (xs.drop n) (us.drop n)
 |_,_,0,r=>r
 |_,_,_+1,.nil=>.nil
 |_,_,n+1,.cons _ t=>A1.drop n t
theorem A1.none_of:∀{xs:Ac V}{us:Ac Al}{i:Ag},A1 xs us->xs[i]?=Af->us[i]?=Af:=λ{xs us i} r e=>by
 have h1:=r.length;have h2:xs.length<=i:=List.getElem?_eq_none_iff.mp e;exact List.getElem?_eq_none_iff.mpr (by omega)
def IB:Ao V->Ao Al->Prop
 |some v,Aa u=>Bt v u
 |none,Af=>F8
 |_,_=>AM
def KV{κ:Type}:Ac (κ×V)->Ac (κ×Al)->Prop:=Ik fun(p:κ×V)(q:κ×Al)=>p.1=q.1/\Bt p.2 q.2
noncomputable def kV:Key->V
 |.inl i=>.int i
 |.inr x=>.str x
inductive HO where
 |L (xs:Ac V)
 |H (xs:Ac V)
 |dK (kvs:Ac (Key×V))|dT (kvs:Ac (Ac Key×V))
 |set (S:Ai->An) (n:Ag)
 |ins (C dx:Ak) (fs:Ac (Ah×V))
 |own (x:Ak)
 |xd (fs:Ac (Ah×V))
 |met (f x:Ak)
 |rng (lo hi:Ai)
 |frz (o:CZ) (u:HO)
 |tbl (ps:Bl Al)
 |ext (φ:AJ->Prop)
abbrev Hp:=Ak->Ao HO
noncomputable def upd(H:Hp)(a:Ak)(o:HO):Hp:=λb=>if b=a then Aa o else H b
theorem BO{H:Hp}{o:HO}:upd H a o a=Aa o:=by unfold upd;rw[Au rfl]
theorem AQ{H:Hp}{o:HO}(h:b≠a):upd H a o b=H b:=by unfold upd;rw[Ay h]
theorem Ul{H:Hp}{o u:HO}:upd (upd H a o) a u=upd H a u:=by
 funext b;unfold upd;split<;>rfl
theorem Et{H:Hp}{o:HO}(h:H a=Aa o)(h':H b=Af):a≠b:=by
 intro e;subst e;rw[h]at h';cases h'
section
variable(P:AK)(w:AI)
def ObjOk(H:Hp)(h:AJ)(a:Ak):HO->Prop
  |.L xs=>xs.length<=sizeLine/\∃(its:Ac Al)(n:Ag),A1 xs its/\h.get? a=Aa { cls:=.type "list",data:=.seq its.toArray n }
  |.H xs=>xs.length<=sizeLine/\∃ its:Ac Al,A1 xs its/\LI h a its.toArray
  |.dK kvs=>kvs.length<=sizeLine/\(a==GX)=Ae/\∃ vs,KV kvs vs/\h.DictOf (Qq P w) a vs
  |.dT kvs=>kvs.length<=sizeLine/\(a==GX)=Ae/\∃ xs:Ac (Ac Key×Ak×Al),
      Ik (fun(p:Ac Key×V)(q:Ac Key×Ak×Al)=>p.1=q.1/\H q.2.1=Aa (.H (p.1.map kV))/\Bt p.2 q.2.2) kvs xs /\
      ∃ o es ep,h.get? a=Aa o/\o.ExactDict/\o.data=.dict es ep/\es.toList=xs.map (entryOfKey (tupleKind (Qq P w)))/\(xs.map (·.1)).Nodup
  |.set S n=>h.SetOf (intKind P w) a S n
  |.ins C dx fs=>H dx=Aa (.own a)/\fs.length<=1000/\dx≠a/\h.get? a=Aa (Dw C dx) /\
      ∃ mA,h.Ns1 dx mA/\(∀ f,IB (fs.lookup f) (mA f))/\Kc mA (fs.map (·.1))
  |.own _=>∃ o,h.get? a=Aa o
  |.xd fs=>∃ mA,h.Ns1 a mA/\∀ f,IB (fs.lookup f) (mA f)
  |.rng lo hi=>∃ t u v,h.get? a=Aa { cls:=.type "range",data:=.fields #[.int lo t,.int hi u,.int 1 v] }
  |.frz o u=>h.get? a=Aa o/\ObjOk H h a u
  |.tbl ps=>h.get? a=Aa {cls:=.none,data:=.fields ps}
  |.met f x=>h.get? a=Aa (HW (.ref f) (.ref x))
  |.ext φ=>φ h/\(∃ o,h.get? a=Aa o)/\∀ h1 h2:AJ,φ h1->(∀ o,h1.get? a=Aa o->h2.get? a=Aa o)->φ h2
def zd(H:Hp)(h:AJ):Prop:=∀ a o,H a=Aa o->ObjOk P w H h a o
end
section
variable{P:AK}{w:AI}{H H':Hp}{h h':AJ}{a:Ak}{o:HO}
theorem ObjOk.lt(x:ObjOk P w H h a o):a<h.objs.size:=by
 cases o with
 |L xs=>obtain⟨_,_,_,_,e⟩:=x;exact AS e
 |H xs=>obtain⟨_,_,_,p⟩:=x;exact p.lt
 |dK kvs=>obtain⟨_,_,_,_,o,_,_,e,_⟩:=x;exact AS e
 |dT kvs=>obtain⟨_,_,_,_,o,_,_,e,_⟩:=x;exact AS e
 |set S n=>obtain⟨o,_,_,_,e,_⟩:=x;exact AS e
 |ins C dx fs=>obtain⟨_,_,_,e,_⟩:=x;exact AS e
 |own y=>obtain⟨_,e⟩:=x;exact AS e
 |xd fs=>obtain⟨_,⟨_,_,_,e,_⟩,_⟩:=x;exact AS e
 |rng lo hi=>obtain⟨_,_,_,e⟩:=x;exact AS e
 |frz ob u=>obtain⟨e,_⟩:=x;exact AS e
 |tbl ps=>exact AS (show h.get? a=Aa _ from x)
 |met f y=>exact AS (show h.get? a=Aa _ from x)
 |ext φ=>obtain⟨_,⟨_,e⟩,_⟩:=x;exact AS e
theorem Ik.mapP{α β:Type}{F G:α->β->Prop}:∀{l₁:Ac α}{l₂:Ac β},Ik F l₁ l₂->(∀ a b,F a b->G a b)->Ik G l₁ l₂
 |_,_,.nil,_=>.nil
 |_,_,.cons r t,f=>.cons (f _ _ r) (Ik.mapP t f)
theorem ObjOk.stay(x:ObjOk P w H h a o)(k:∀ b u,(b=a\/H b=Aa (.own a))->h.get? b=Aa u->h'.get? b=Aa u)(ho:∀ b,H b=Aa (.own a)->H' b=Aa (.own a))(ht:∀ b xs,H b=Aa (.H xs)->H' b=Aa (.H xs)):ObjOk P w H' h' a o:=by
 induction o with
 |L xs=>obtain⟨z,its,n,r,e⟩:=x;exact⟨z,its,n,r,k _ _ (.inl rfl) e⟩
 |H xs=>obtain⟨z,its,r,ob,e,c⟩:=x;exact⟨z,its,r,ob,k _ _ (.inl rfl) e,c⟩
 |dK kvs=>obtain⟨z,y,vs,r,ob,es,ep,e,c⟩:=x;exact⟨z,y,vs,r,ob,es,ep,k _ _ (.inl rfl) e,c⟩
 |dT kvs=>
  obtain⟨z,y,xs,r,ob,es,ep,e,c⟩:=x;exact⟨z,y,xs,Ik.mapP r λp q z=>⟨z.1,ht _ _ z.2.1,z.2.2⟩,ob,es,ep,k _ _ (.inl rfl) e,c⟩
 |set S n=>obtain⟨ob,es,ep,t,e,c⟩:=x;exact⟨ob,es,ep,t,k _ _ (.inl rfl) e,c⟩
 |ins C dx fs=>
  obtain⟨d,z,ne,e,mA,⟨od,es,ep,e2,c⟩,r⟩:=x;exact⟨ho _ d,z,ne,k _ _ (.inl rfl) e,mA,⟨od,es,ep,k _ _ (.inr d) e2,c⟩,r⟩
 |own y=>obtain⟨ob,e⟩:=x;exact⟨ob,k _ _ (.inl rfl) e⟩
 |xd fs=>obtain⟨mA,⟨od,es,ep,e,c⟩,r⟩:=x;exact⟨mA,⟨od,es,ep,k _ _ (.inl rfl) e,c⟩,r⟩
 |rng lo hi=>obtain⟨t,u,v,e⟩:=x;exact⟨t,u,v,k _ _ (.inl rfl) e⟩
 |frz ob u ih=>obtain⟨e,q⟩:=x;exact⟨k _ _ (.inl rfl) e,ih q⟩
 |tbl ps=>
  have e:h.get? a=Aa {cls:=.none,data:=.fields ps}:=x;show h'.get? a=Aa {cls:=.none,data:=.fields ps};exact k a _ (.inl rfl) e
 |met f y=>
  have e:h.get? a=Aa (HW (.ref f) (.ref y)):=x;show h'.get? a=Aa (HW (.ref f) (.ref y));exact k a _ (.inl rfl) e
 |ext φ=>obtain⟨p,⟨o,e⟩,st⟩:=x;exact⟨st _ _ p λo q=>k _ _ (.inl rfl) q,⟨o,k _ _ (.inl rfl) e⟩,st⟩
theorem zd.lt(x:zd P w H h)(e:H a=Aa o):a<h.objs.size:=(x a o e).lt
theorem zd.fresh(x:zd P w H h)(e:h.objs.size<=a):H a=Af:=by
 cases q:H a with
 |none=>rfl
 |some u=>exact absurd (AZ (x.lt q) e) (BG _)
theorem zd.kept(x:zd P w H h)(k:∀ b u,h.get? b=Aa u->h'.get? b=Aa u):zd P w H h':=λa o e=>
 (x a o e).stay (λb u _ q=>k b u q) (λ_ q=>q) λ_ _ q=>q
theorem zd.laid(x:zd P w H h)(k:∀ b u,h.get? b=Aa u->h'.get? b=Aa u)(hp:h.objs.size<=a)(new:ObjOk P w (upd H a o) h' a o):zd P w (upd H a o) h':=λb u e=>by
 have hn:=x.fresh hp;by_cases hb:b=a
 .subst hb;rw[BO]at e;cases e;exact new
 .rw[AQ hb]at e;exact(x b u e).stay (λc v _ q=>k c v q) (λc q=>by rw[AQ (Et q hn)];exact q) λc xs q=>by rw[AQ (Et q hn)];exact q
end
def Rd(H:Hp)(a:Ak)(u:HO):Prop:=H a=Aa u\/∃ o,H a=Aa (.frz o u)
theorem Rd.of{H:Hp}{u:HO}(h:H a=Aa u):Rd H a u:=.inl h
theorem Rd.ok{w:AI}{H:Hp}{u:HO}(r:Rd H a u)(x:zd P w H h):ObjOk P w H h a u:=by
 rcases r with r|⟨o,r⟩
 .exact x a u r
 .obtain⟨_,q⟩:=x a _ r;exact q
def ϰ:Ao HO->Prop
 |some (.L _)=>F8
 |some (.dK _)=>F8
 |some (.dT _)=>F8
 |some (.set _ _)=>F8
 |some (.ins _ _ _)=>F8
 |some (.ext _)=>F8
 |_=>AM
section
variable{P:AK}{w:AI}{H:Hp}{h h':AJ}{x e:Ak}{o':HO}
theorem zd.write(ok:zd P w H h)(mu:ϰ (H x))(he:e=x\/H e=Aa (.own x))(k:∀ b u,b≠e->h.get? b=Aa u->h'.get? b=Aa u)(gz:∃ u,h'.get? e=Aa u)(new:ObjOk P w (upd H x o') h' x o'):zd P w (upd H x o') h':=λb u q=>by
 have bx:∀ c y,H c=Aa (.own y)->c≠x:=λc y r z=>by subst z;rw[r]at mu;exact mu
 have ntup:∀ c xs,H c=Aa (.H xs)->c≠x:=λc xs r z=>by subst z;rw[r]at mu;exact mu
 by_cases hb:b=x
 .subst hb;rw[BO]at q;cases q;exact new
 .rw[AQ hb]at q;by_cases hbe:b=e
  .have q':H b=Aa (.own x):=by
    rcases he with z|z
    .exact absurd (hbe.trans z) hb
    .rw[hbe];exact z
   rw[q]at q';cases q';obtain⟨v,hv⟩:=gz;exact⟨v,by rw[hbe];exact hv⟩
  .refine(ok b u q).stay (λc v hc r=>k c v ?_ r) (λc r=>by rw[AQ (bx c b r)];exact r) λc xs r=>by rw[AQ (ntup c xs r)];exact r
   rcases hc with rfl|hc
   .exact hbe
   .rintro rfl;rcases he with z|z
    .exact bx c b hc z
    .rw[hc]at z;cases z;exact hb rfl
end
structure Un (fs ex:Ac Ak) (H H':Hp) (h h':AJ):Prop where
 keep:∀ b o,h.get? b=Aa o->H b=Af->b∉fs->b∉ex->h'.get? b=Aa o
 slot:∀ b o,h.get? b=Aa o->H b=Af->b∈fs->b∉ex->∃ sl,h'.get? b=Aa {o with slots:=sl}
 free:∀ b o,h.get? b=Aa o->H b=Af->b∉ex->H' b=Af
 there:∀ b o,h.get? b=Aa o->b∉ex->∃ o',h'.get? b=Aa o'
 tups:∀ b xs,H b=Aa (.H xs)->H' b=Aa (.H xs)
 frzs:∀ b o u,H b=Aa (.frz o u)->H' b=Aa (.frz o u)
 tbls:∀ b ps,H b=Aa (.tbl ps)->∃ more,H' b=Aa (.tbl (ps++more))
section
variable{fs fs' ex ex':Ac Ak}{H H1 H2:Hp}{h h1 h2 h':AJ}{a x e:Ak}{o:HO}
theorem Un.any(u:Un fs ex H H1 h h1){ob:CZ}(q:h.get? b=Aa ob)(n:H b=Af)(hx:b∉ex):∃ sl,h1.get? b=Aa {ob with slots:=sl}:=by
 by_cases hb:b∈fs
 .exact u.slot b ob q n hb hx
 .exact⟨ob.slots,u.keep b ob q n hb hx⟩
theorem Un.trans(a:Un fs ex H H1 h h1)(b:Un fs ex H1 H2 h1 h2):Un fs ex H H2 h h2 where
 keep:=λc ob q n hc hx=>b.keep c ob (a.keep c ob q n hc hx) (a.free c ob q n hx) hc hx
 slot:=λc ob q n hc hx=>by
  obtain⟨sl,e1⟩:=a.slot c ob q n hc hx;obtain⟨uq,e2⟩:=b.slot c _ e1 (a.free c ob q n hx) hc hx;exact⟨uq,e2⟩
 free:=λc ob q n hx=>by
  obtain⟨o',e1⟩:=a.there c ob q hx;exact b.free c o' e1 (a.free c ob q n hx) hx
 there:=λc ob q hx=>by
  obtain⟨o',e1⟩:=a.there c ob q hx;exact b.there c o' e1 hx
 tups:=λc xs q=>b.tups c xs (a.tups c xs q)
 frzs:=λc ob xs q=>b.frzs c ob xs (a.frzs c ob xs q)
 tbls:=λc ps q=>by
  obtain⟨m1,e1⟩:=a.tbls c ps q;obtain⟨m2,e2⟩:=b.tbls c _ e1;exact⟨m1++m2,by rw[e2,Xy]⟩
theorem Un.kept(k:∀ b u,h.get? b=Aa u->h'.get? b=Aa u):Un fs ex H H h h':=
 ⟨λb ob q _ _ _=>k b ob q,λb ob q _ _ _=>⟨ob.slots,k b ob q⟩,λ_ _ _ n _=>n,λb ob q _=>⟨ob,k b ob q⟩,λ_ _ q=>q,λ_ _ _ q=>q,λ_ ps q=>⟨#[],by rw[q];simp⟩⟩
theorem Un.refl:Un fs ex H H h h:=Un.kept λ_ _ q=>q
theorem Un.laid(k:∀ b u,h.get? b=Aa u->h'.get? b=Aa u)(hp:h.objs.size<=a)(hn:H a=Af):Un fs ex H (upd H a o) h h' where
 keep:=λb u q _ _ _=>k b u q
 slot:=λb u q _ _ _=>⟨u.slots,k b u q⟩
 free:=λb u q n _=>by rw[AQ (BB (AZ (AS q) hp))];exact n
 there:=λb u q _=>⟨u,k b u q⟩
 tups:=λb xs q=>by rw[AQ (Et q hn)];exact q
 frzs:=λb u xs q=>by rw[AQ (Et q hn)];exact q
 tbls:=λb ps q=>⟨#[],by rw[AQ (Et q hn),q];simp⟩
theorem Un.write(mu:ϰ (H x))(he:e=x\/H e=Aa (.own x))(k:∀ b u,b≠e->h.get? b=Aa u->h'.get? b=Aa u)(gz:∃ u,h'.get? e=Aa u):Un fs ex H (upd H x o) h h':=by
 have hx:∀ b,H b=Af->b≠x:=λb n z=>by subst z;rw[n]at mu;exact mu
 have hb:∀ b,H b=Af->b≠e:=λb n z=>by
  subst z;rcases he with r|r
  .exact hx b n r
  .rw[n]at r;cases r
 have hm:∀ b u,H b=Aa u->¬ ϰ (Aa u)->b≠x:=λb u q nm z=>by subst z;rw[q]at mu;exact nm mu
 refine⟨λb u q n _ _=>k b u (hb b n) q,λb u q n _ _=>⟨u.slots,k b u (hb b n) q⟩,λb u q n _=>by rw[AQ (hx b n)];exact n,λb u q _=>?_,
  λb xs q=>by rw[AQ (hm b _ q λz=>z)];exact q,λb u xs q=>by rw[AQ (hm b _ q λz=>z)];exact q,λb ps q=>⟨#[],by rw[AQ (hm b _ q λz=>z),q];simp⟩⟩
 by_cases hbe:b=e
 .subst hbe;exact gz
 .exact⟨u,k b u hbe q⟩
theorem Un.mono(u:Un fs ex H H1 h h1)(hs:∀ b∈fs,b∈fs')(hx:∀ b∈ex,b∈ex'):Un fs' ex' H H1 h h1:=
 ⟨λb ob q n hb he=>u.keep b ob q n (λz=>hb (hs b z)) λz=>he (hx b z),λ_ _ q n _ he=>u.any q n λz=>he (hx _ z),λb ob q n he=>u.free b ob q n λz=>he (hx b z),λb ob q he=>u.there b ob q λz=>he (hx b z),u.tups,u.frzs,u.tbls⟩
end
noncomputable def â(h:AJ)(H:Hp):Ac Ak:=(BR h.objs.size).filter λa=>(H a).isSome
noncomputable def JR(h:AJ)(H:Hp):AJ:=PySem.W.hideAll h (â h H)
theorem cX(h:AJ)(H:Hp):(JR h H).objs.size=h.objs.size:=PySem.W.hideAll_size _ _
theorem fM{H:Hp}(e:h.get? b=Aa o)(n:H b=Af):(JR h H).get? b=Aa o:=
 PySem.W.hideAll_get _ e λhm=>by
  have q:(H b).isSome=Ab:=(Yg.mp hm).2;rw[n]at q;simp at q
theorem lO{H:Hp}(e:(JR h H).get? b=Aa o):h.get? b=Aa o/\H b=Af:=by
 have e':h.get? b=Aa o:=PySem.W.of_hideAll (â h H) e;refine⟨e',?_⟩;cases q:H b with
 |none=>rfl
 |some x=>
  have hm:b∈â h H:=List.mem_filter.mpr ⟨CV.mpr (AS e'),by simp[q]⟩
  have z:(JR h H).get? b=Af:=PySem.W.hideAll_none (â h H) hm;rw[z]at e;cases e
noncomputable def lT(g h:AJ)(L:Ak):Pn:=(BR h.objs.size).filterMap λa=>if a=L\/(g.get? a).isSome=Ab then Af else (h.get? a).map λo=>(a,o)
noncomputable def rest(g h:AJ)(L d:Ak):Pn:=(lT g h L).filter λp=>decide (p.1≠d)
structure Mod (K:Fg) (mg:Ah->Ao Al) (base:AJ):Prop where
 kin:K.In base
 glob:base.Ns AO mg
 blt:∃ mb,base.Ns Js mb/\∀ x:Ah,x≠"__name__"->mb x=Dg x
 nolimit:base.NoLimit
structure Cx where
 prog:AK
 w:AI
 K:Fg
 mg:Ah->Ao Al
 base:AJ
 A:A4
 N:Ac Ah
 s₀:Ar
 H₀:Hp
 env:B7
 outer:Ac B7
 stack:Ac B7
 ex:Ac Ak
 fn:Ah->An
 calm:An
 pn:Pn
 xe:Al->Ar->Prop
variable{X:Cx}
noncomputable def yu(l:Ac B7):Ac Ak:=l.filterMap (·.frame)
noncomputable abbrev Cx.fs(X:Cx):Ac Ak:=yu X.outer
def í(sc:Cc)(x:Ah):Prop:=sc.names.lookup x=Aa .local\/sc.names.lookup x=Aa .cell\/sc.names.lookup x=Aa .free
def pi(sc:Cc)(x:Ah):Prop:=sc.names.lookup x=Aa .local\/sc.names.lookup x=Aa .cell
noncomputable def yE(env:B7)(h:AJ)(m:Ah->Ao Al)(x:Ah)(u:Al):Prop:=
 (env.kindOf x=Aa .local/\m x=Aa u)\/((env.kindOf x=Aa .cell\/env.kindOf x=Aa .free)/\∃ c,env.cells.lookup x=Aa c/\h.IsCell c (Aa u))
structure Cx.Ok (X:Cx):Prop where
 mod:Mod X.K X.mg X.base
 kind:X.env.scope.kind=.function
 glob:X.env.globals=AO
 blt:X.env.builtins=Js
 above:X.s₀.heap.objs.size<=X.env.locals
 inj:∀ x y c,X.env.cells.lookup x=Aa c->X.env.cells.lookup y=Aa c->x=y
 has:∀ x,(X.env.kindOf x=Aa .cell\/X.env.kindOf x=Aa .free)->∃ c,X.env.cells.lookup x=Aa c
 cab:∀ x c,X.fn x=Ab->X.env.cells.lookup x=Aa c->X.s₀.heap.objs.size<=c
 hd:X.calm=Ab->X.A.handled=Af
 frames:X.A.frames=Aa X.stack
 stk:X.stack=X.outer\/(X.stack=X.env::X.outer/\X.env.frame=Aa X.env.locals)
 exf:∀ b∈X.ex,b≠X.env.locals/\∀ x c,X.env.cells.lookup x=Aa c->c≠b
 bs:∀ b o,X.base.get? b=Aa o->X.s₀.heap.get? b=Aa o/\X.H₀ b=Af
 bsz:X.base.objs.size<=X.s₀.heap.objs.size
 noex:∀ b o,X.base.get? b=Aa o->b∉X.ex
 exfs:∀ b∈X.ex,b∉X.fs
 funs:X.s₀.heap.FunFrames X.base X.outer
 frf:∀ b∈X.fs,X.H₀ b=Af
structure Z8 (X:Cx) (pI:Pn) (Y:Ac (Ao V)) (H:Hp) (s:Ar):Prop where
 ok:X.Ok
 os:s.os=X.s₀.os
 bare:FW s.gens
 base:Un X.fs X.ex X.H₀ H X.s₀.heap s.heap
 loc:∃ m,s.heap.Ns X.env.locals m/\∀(i:Ag)(x:Ah)(v:V),X.N[i]?=Aa x->Y[i]?=Aa (Aa v)->í X.env.scope x->∃ u,Bt v u/\yE X.env s.heap m x u
 cell:∀ x c,X.env.cells.lookup x=Aa c->∃ v,s.heap.IsCell c v
 free:H X.env.locals=Af
 freeC:∀ x c,X.env.cells.lookup x=Aa c->H c=Af
 pin:∀ p∈X.pn++pI,s.heap.get? p.1=Aa p.2/\H p.1=Af/\p.1≠X.env.locals/\p.1∉X.fs/\∀ v,p.2.data≠.cell v
 hok:zd X.prog X.w H s.heap
 len:Y.length=X.N.length
section
variable{X:Cx}{pI:Pn}{Y:Ac (Ao V)}{H H':Hp}{s:Ar}{h':AJ}
theorem Cx.Ok.nofr(ok:X.Ok)(e:X.base.get? b=Aa o):b∉X.fs:=λhb=>by
 have:=(ok.funs.mem hb).1;rw[e]at this;cases this
theorem Z8.bs(I:Z8 X pI Y H s):∀ b o,X.base.get? b=Aa o->s.heap.get? b=Aa o/\H b=Af:=λb o e=>
 ⟨I.base.keep b o (I.ok.bs b o e).1 (I.ok.bs b o e).2 (I.ok.nofr e) (I.ok.noex b o e),I.base.free b o (I.ok.bs b o e).1 (I.ok.bs b o e).2 (I.ok.noex b o e)⟩
theorem Z8.bk(I:Z8 X pI Y H s):∀ b o,X.base.get? b=Aa o->s.heap.get? b=Aa o:=λb o e=>(I.bs b o e).1
theorem Z8.mod(I:Z8 X pI Y H s):Mod X.K X.mg X.base:=I.ok.mod
theorem Z8.kIn(I:Z8 X pI Y H s):X.K.In s.heap:=I.ok.mod.kin.keeps I.bk
theorem Z8.nolimit(I:Z8 X pI Y H s):s.heap.NoLimit:=I.ok.mod.nolimit.keeps I.bk
theorem Z8.fr(I:Z8 X pI Y H s):∃ m,Fr X.base X.env.locals s.heap m:=
 let ⟨m,hn,_⟩:=I.loc
 ⟨m,hn,I.bk,B9 I.ok.bsz I.ok.above⟩
theorem Z8.lt(I:Z8 X pI Y H s):X.env.locals<s.heap.objs.size:=let ⟨_,hn,_⟩:=I.loc;hn.lt
theorem Z8.sz(I:Z8 X pI Y H s):X.s₀.heap.objs.size<=s.heap.objs.size:=B9 I.ok.above (GR I.lt)
theorem Z8.nofs(I:Z8 X pI Y H s)(h:s.heap.objs.size<=a):a∉X.fs:=λhb=>by
 obtain⟨_,o,ho,_⟩:=I.ok.funs.mem hb;exact absurd (AZ (AS ho) (B9 I.sz h)) (BG _)
theorem Z8.cne(I:Z8 X pI Y H s):∀ x c,X.env.cells.lookup x=Aa c->c≠X.env.locals:=λx c e z=>by
 obtain⟨v,o,ho,hd⟩:=I.cell x c e;obtain⟨m,⟨o',es,ep,oo,mv,_⟩,_⟩:=I.loc;rw[z,oo]at ho;cases ho;rw[mv]at hd;cases hd
theorem Z8.funs(I:Z8 X pI Y H s):s.heap.FunFrames X.base X.outer:=by
 have all:∀(l:Ac B7),(∀ b∈yu l,b∈X.fs)->X.s₀.heap.FunFrames X.base l->s.heap.FunFrames X.base l:=by
  intro l
  induction l with
  |nil=>intro _ _;trivial
  |cons env r ih=>
   intro hs hl;obtain⟨hk,⟨L,o,hf,hn,ho,hd⟩,hr⟩:=hl;have hL:L∈X.fs:=hs L (by unfold yu;rw[Hb,hf];exact AY)
   obtain⟨sl,e⟩:=I.base.slot L o ho (I.ok.frf L hL) hL λz=>I.ok.exfs L z hL
   exact⟨hk,⟨L,_,hf,hn,e,hd⟩,ih (λb hb=>hs b (by unfold yu;rw[Hb,hf];exact AE _ hb)) hr⟩
 exact all X.outer (λ_ hb=>hb) I.ok.funs
theorem Z8.stack(I:Z8 X pI Y H s):s.heap.FunFrames X.base X.stack:=by
 rcases I.ok.stk with e|⟨e,hf⟩
 .rw[e];exact I.funs
 .rw[e];obtain⟨m,hn,_⟩:=I.loc;refine .cons (by rw[I.ok.kind];decide) hf hn ?_ I.funs
  exact Du (B9 I.ok.bsz I.ok.above)
theorem Z8.stkSub(I:Z8 X pI Y H s):∀ b∈yu X.stack,b∈X.env.locals::X.fs:=λb hb=>by
 rcases I.ok.stk with e|⟨e,hf⟩
 .rw[e]at hb;exact AE _ hb
 .rw[e]at hb;unfold yu at hb;rw[Hb,hf]at hb;exact hb
theorem Z8.stkFree(I:Z8 X pI Y H s):∀ b∈yu X.stack,H b=Af:=λb hb=>by
 rcases A6.mp (I.stkSub b hb) with e|hb
 .rw[e];exact I.free
 .obtain⟨_,o,ho,_⟩:=I.ok.funs.mem hb;exact I.base.free b o ho (I.ok.frf b hb) λz=>I.ok.exfs b z hb
theorem Z8.step(I:Z8 X pI Y H s)(t4:∀ b∈ch,(b∈X.ex\/X.s₀.heap.objs.size<=b)/\b≠X.env.locals/\(∀ x c,X.env.cells.lookup x=Aa c->c≠b)/\∀ p∈X.pn++pI,p.1≠b)(keep:∀ b o,b≠X.env.locals->b∉X.fs->b∉ch->s.heap.get? b=Aa o->H b=Af->h'.get? b=Aa o)(slot:∀ b o,b≠X.env.locals->b∈X.fs->b∉ch->s.heap.get? b=Aa o->H b=Af->∃ sl,h'.get? b=Aa {o with slots:=sl})(free:∀ b o,b∉ch->s.heap.get? b=Aa o->H b=Af->H' b=Af)(there:∀ b o,b∉ch->s.heap.get? b=Aa o->∃ o',h'.get? b=Aa o')(tups:∀ b xs,H b=Aa (.H xs)->H' b=Aa (.H xs))(frzs:∀ b o u,H b=Aa (.frz o u)->H' b=Aa (.frz o u))(tbls:∀ b ps,H b=Aa (.tbl ps)->∃ more,H' b=Aa (.tbl (ps++more)))(ns:∀ m,s.heap.Ns X.env.locals m->h'.Ns X.env.locals m)(hok:zd X.prog X.w H' h')(hg:FW g'):Z8 X pI Y H' {s with heap:=h',gens:=g',drawn:=d',toks:=t'}:=by
 have neL:∀ b o,X.s₀.heap.get? b=Aa o->b≠X.env.locals:=λb o e=>BB (AZ (AS e) I.ok.above)
 have Ê:∀ b o,X.s₀.heap.get? b=Aa o->b∉X.ex->b∉ch:=λb o e hx hb=>by
  rcases (t4 b hb).1 with z|z
  .exact hx z
  .exact absurd (AZ (AS e) z) (BG _)
 have cellK:∀ x c,X.env.cells.lookup x=Aa c->∀ v,s.heap.IsCell c v->h'.IsCell c v:=λx c e v ⟨o,ho,hd⟩=>by
  have bv:c∉ch:=λz=>(t4 c z).2.2.1 x c e rfl
  by_cases hc:c∈X.fs
  .obtain⟨sl,q⟩:=slot c o (I.cne x c e) hc bv ho (I.freeC x c e);exact⟨_,q,hd⟩
  .exact⟨o,keep c o (I.cne x c e) hc bv ho (I.freeC x c e),hd⟩
 refine⟨I.ok,I.os,hg,⟨λb o e n hb hx=>?_,λb o e n hb hx=>?_,λb o e n hx=>?_,λb o e hx=>?_,λb xs e=>tups b xs (I.base.tups b xs e),λb o xs e=>frzs b o xs (I.base.frzs b o xs e),λb ps e=>?_⟩,?_,λx c e=>?_,?_,λx c e=>?_,λp hp=>?_,hok,I.len⟩
 .exact keep b o (neL b o e) hb (Ê b o e hx) (I.base.keep b o e n hb hx) (I.base.free b o e n hx)
 .obtain⟨sl,e1⟩:=I.base.slot b o e n hb hx;obtain⟨uq,e2⟩:=slot b _ (neL b o e) hb (Ê b o e hx) e1 (I.base.free b o e n hx);exact⟨uq,e2⟩
 .obtain⟨o',e1⟩:=I.base.there b o e hx;exact free b o' (Ê b o e hx) e1 (I.base.free b o e n hx)
 .obtain⟨o',e1⟩:=I.base.there b o e hx;exact there b o' (Ê b o e hx) e1
 .obtain⟨m1,e1⟩:=I.base.tbls b ps e;obtain⟨m2,e2⟩:=tbls b _ e1;exact⟨m1++m2,by rw[e2,Xy]⟩
 .obtain⟨m,hn,hl⟩:=I.loc;refine⟨m,ns m hn,λi x v e1 e2 e3=>?_⟩
  obtain⟨u,r,l⟩:=hl i x v e1 e2 e3;refine⟨u,r,?_⟩;rcases l with l|⟨k,c,e,z⟩
  .exact .inl l
  .exact .inr ⟨k,c,e,cellK x c e _ z⟩
 .obtain⟨v,z⟩:=I.cell x c e;exact⟨v,cellK x c e v z⟩
 .obtain⟨m,⟨o,_,_,ho,_⟩,_⟩:=I.loc;exact free _ o (λz=>(t4 _ z).2.1 rfl) ho I.free
 .obtain⟨v,o,ho,hd⟩:=I.cell x c e;exact free c o (λz=>(t4 c z).2.2.1 x c e rfl) ho (I.freeC x c e)
 .obtain⟨e,n,ne,nf,d⟩:=I.pin p hp;have bv:p.1∉ch:=λz=>(t4 p.1 z).2.2.2 p hp rfl
  exact⟨keep p.1 p.2 ne nf bv e n,free p.1 p.2 bv e n,ne,nf,d⟩
theorem Z8.un(I:Z8 X pI Y H s)(u:Un X.fs [] H H' s.heap h')(hok:zd X.prog X.w H' h'):Z8 X pI Y H' {s with heap:=h',toks:=t'}:=by
 obtain⟨m,⟨o,es,ep,ho,r⟩,_⟩:=id I.loc;obtain⟨sl,hL⟩:=u.any ho I.free (by simp)
 exact I.step (g':=s.gens) (d':=s.drawn) (ch:=[]) (λ_ z=>nomatch z) (λb o _ hb _ e n=>u.keep b o e n hb (by simp)) (λb o _ hb _ e n=>u.slot b o e n hb (by simp)) (λb o _ e n=>u.free b o e n (by simp)) (λb o _ e=>u.there b o e (by simp)) u.tups u.frzs u.tbls (λm' hm=>by
  obtain⟨o',zf,jr,oo,r'⟩:=hm;rw[ho]at oo;cases oo;exact⟨_,zf,jr,hL,r'⟩) hok I.bare
theorem Z8.call(I:Z8 X pI Y H s)(u:Un (yu X.stack) ch H H' s.heap h')(hok:zd X.prog X.w H' h')(hg:FW g')(t4:∀ b∈ch,(b∈X.ex\/X.s₀.heap.objs.size<=b)/\b≠X.env.locals/\(∀ x c,X.env.cells.lookup x=Aa c->c≠b)/\∀ p∈X.pn++pI,p.1≠b):Z8 X pI Y H' {s with heap:=h',gens:=g',drawn:=d',toks:=t'}:=by
 obtain⟨m,⟨o,es,ep,ho,r⟩,_⟩:=id I.loc;obtain⟨sl,hL⟩:=u.any ho I.free λz=>(t4 _ z).2.1 rfl
 exact I.step (ch:=ch) t4 (λb o hL hb hc e n=>u.keep b o e n (λz=>(A6.mp (I.stkSub b z)).elim hL hb) hc) (λb o _ _ hc e n=>u.any e n hc) (λb o hc e n=>u.free b o e n hc) (λb o hc e=>u.there b o e hc) u.tups u.frzs u.tbls (λm' hm=>by
  obtain⟨o',zf,jr,oo,r'⟩:=hm;rw[ho]at oo;cases oo;exact⟨_,zf,jr,hL,r'⟩) hok hg
theorem Z8.turned(I:Z8 X pI Y H s)(k:∀ b o,b≠it->s.heap.get? b=Aa o->h'.get? b=Aa o)(hn:H it=Af)(hL:it≠X.env.locals)(h1:it∈X.ex\/X.s₀.heap.objs.size<=it)(h2:∀ x c,X.env.cells.lookup x=Aa c->c≠it)(h3:∀ p∈X.pn++pI,p.1≠it):Z8 X pI Y H {s with heap:=h',toks:=t'}:=by
 have nit:∀ b u,H b=Aa u->b≠it:=λb u e z=>by rw[z,hn]at e;cases e
 refine I.step (g':=s.gens) (d':=s.drawn) (ch:=[it]) (λb hb=>?_) (λb o _ _ hc e _=>k b o (λz=>hc (by simp[z])) e) (λb o _ _ hc e _=>⟨o.slots,k b o (λz=>hc (by simp[z])) e⟩) (λ_ _ _ _ n=>n)
  (λb o hc e=>⟨o,k b o (λz=>hc (by simp[z])) e⟩) (λ_ _ e=>e) (λ_ _ _ e=>e) (λb ps e=>⟨#[],by rw[e];simp⟩) (λm hm=>?_) (λb u e=>?_) I.bare
 .have e:b=it:=by simpa using hb
  subst e;exact⟨h1,hL,h2,h3⟩
 .obtain⟨o,es,ep,ho,r⟩:=hm;exact⟨o,es,ep,k _ o (CG hL) ho,r⟩
 .refine(I.hok b u e).stay (λc v hc q=>k c v ?_ q) (λ_ q=>q) λ_ _ q=>q
  rcases hc with z|z
  .rw[z];exact nit b u e
  .exact nit c _ z
theorem Z8.tok(I:Z8 X pI Y H s)(t:Ag):Z8 X pI Y H {s with toks:=t}:=I.un (h':=s.heap) (t':=t) Un.refl I.hok
theorem Z8.kept{t':Ag}(I:Z8 X pI Y H s)(k:∀ b u,s.heap.get? b=Aa u->h'.get? b=Aa u):Z8 X pI Y H {s with heap:=h',toks:=t'}:=I.un (Un.kept k) (I.hok.kept k)
theorem Z8.laid{a:Ak}{o:HO}{t':Ag}(I:Z8 X pI Y H s)(k:∀ b u,s.heap.get? b=Aa u->h'.get? b=Aa u)(hp:s.heap.objs.size<=a)(new:ObjOk X.prog X.w (upd H a o) h' a o):Z8 X pI Y (upd H a o) {s with heap:=h',toks:=t'}:=I.un (Un.laid k hp (I.hok.fresh hp)) (I.hok.laid k hp new)
theorem Z8.write{x e:Ak}{o:HO}{t':Ag}(I:Z8 X pI Y H s)(mu:ϰ (H x))(he:e=x\/H e=Aa (.own x))(k:∀ b u,b≠e->s.heap.get? b=Aa u->h'.get? b=Aa u)(gz:∃ u,h'.get? e=Aa u)(new:ObjOk X.prog X.w (upd H x o) h' x o):Z8 X pI Y (upd H x o) {s with heap:=h',toks:=t'}:=I.un (Un.write mu he k gz) (I.hok.write mu he k gz new)
theorem Z8.weak{Y':Ac (Ao V)}(I:Z8 X pI Y H s)(hl:Y'.length=Y.length)(w:∀(i:Ag) v,Y'[i]?=Aa (Aa v)->Y[i]?=Aa (Aa v)):Z8 X pI Y' H s:=
 ⟨I.ok,I.os,I.bare,I.base,let ⟨m,hn,hl'⟩:=I.loc;⟨m,hn,λi x v e1 e2 e3=>hl' i x v e1 (w i v e2) e3⟩,I.cell,I.free,I.freeC,I.pin,I.hok,hl.trans I.len⟩
theorem Z8.pins_of{KK:Pn}(I:Z8 X pI Y H s)(h:∀ p∈KK,s.heap.get? p.1=Aa p.2/\H p.1=Af/\p.1≠X.env.locals/\p.1∉X.fs/\∀ v,p.2.data≠.cell v):Z8 X KK Y H s:=
 ⟨I.ok,I.os,I.bare,I.base,I.loc,I.cell,I.free,I.freeC,λp hp=>(Ei.mp hp).elim (λz=>I.pin p (ET _ z)) (h p),I.hok,I.len⟩
theorem Qa{N:Ac Ah}(hN:N.Nodup){j:Ag}(a:N[i]?=Aa x)(b:N[j]?=Aa x):i=j:=by
 obtain⟨h1,e1⟩:=A5.mp a;obtain⟨h2,e2⟩:=A5.mp b;exact(List.getElem_inj hN).mp (e1.trans e2.symm)
theorem Tt{A:A4}{E:Vq}(I:Z8 X pI Y H s)(hN:X.N.Nodup)(hi:X.N[i]?=Aa x)(hx:pi X.env.scope x)(r:Bt v u)(h:∀ s',Z8 X pI (Y.set i (Aa v)) H s'->(∃ a,FK a s.heap s'.heap/\(a=X.env.locals\/X.env.cells.lookup x=Aa a))->Q () s')(hf:X.fn x=Ab\/X.env.scope.names.lookup x=Aa .local:=by first|exact .inl rfl|exact .inr rfl|assumption):AA M A (storeName X.env x u) Q E s:=by
 obtain⟨m,hn,hl⟩:=id I.loc;have hcls:(X.env.scope.kind==.class||(X.env.scope.kind==.module&&X.env.locals != X.env.globals))=Ae:=by rw[I.ok.kind];rfl
 have hiσ:i<Y.length:=by rw[I.len];exact(A5.mp hi).1
 have cne:=I.cne;have tracked:∀{a:Ak}{h':AJ},(∃ o,s.heap.get? a=Aa o/\H a=Af)->FK a s.heap h'->zd X.prog X.w H h':=λ{a h'} ha hs b ob e=>by
  obtain⟨_,_,wk⟩:=ha;refine(I.hok b ob e).stay (λc w' hc q=>(hs.2 c ?_).trans q) (λ_ q=>q) λ_ _ q=>q
  rintro rfl;rcases hc with rfl|hc
  .rw[wk]at e;cases e
  .rw[wk]at hc;cases hc
 rcases hx with hk|hk
 .refine wpAny_storeName_local hk hn (λh' aw hs=>?_) hcls
  obtain⟨oL,_,_,hoL,_⟩:=id hn;refine h _ ⟨I.ok,I.os,I.bare,⟨λb o e n hb hx=>?_,λb o e n hb hx=>?_,I.base.free,λb o e hx=>?_,I.base.tups,I.base.frzs,I.base.tbls⟩,⟨_,aw,λj y v' e1 e2 e3=>?_⟩,λy c e=>?_,I.free,I.freeC,λp hp=>?_,tracked ⟨oL,hoL,I.free⟩ hs,by simpa using I.len⟩ ⟨_,hs,.inl rfl⟩
  .exact(hs.2 b (BB (AZ (AS e) I.ok.above))).trans (I.base.keep b o e n hb hx)
  .obtain⟨sl,e1⟩:=I.base.slot b o e n hb hx;exact⟨sl,(hs.2 b (BB (AZ (AS e) I.ok.above))).trans e1⟩
  .obtain⟨o',e1⟩:=I.base.there b o e hx;exact⟨o',(hs.2 b (BB (AZ (AS e) I.ok.above))).trans e1⟩
  .by_cases hj:j=i
   .subst hj;rw[hi]at e1;cases e1;rw[By hiσ]at e2;cases e2;exact⟨u,r,.inl ⟨hk,by simp⟩⟩
   .rw[GM (CG hj)]at e2;obtain⟨u',r',q⟩:=hl j y v' e1 e2 e3;refine⟨u',r',?_⟩;rcases q with ⟨k,e⟩|⟨k,c,e,z⟩
    .refine .inl ⟨k,?_⟩;have:y≠x:=λe=>hj (Qa hN e1 (e ▸ hi))
     simp[this,e]
    .exact .inr ⟨k,c,e,z.sameBut hs (cne y c e)⟩
  .obtain⟨w',z⟩:=I.cell y c e;exact⟨w',z.sameBut hs (cne y c e)⟩
  .obtain⟨e,n,ne,nf,d⟩:=I.pin p hp;exact⟨(hs.2 p.1 ne).trans e,n,ne,nf,d⟩
 .have al:X.fn x=Ab:=by
   rcases hf with z|z
   .exact z
   .rw[z]at hk;cases hk
  obtain⟨c,hc⟩:=I.ok.has x (.inl hk);obtain⟨w',z⟩:=I.cell x c hc;refine wpAny_storeName_cell I.ok.kind hk hc z (λh' qa hs=>?_)
  obtain⟨oc,ij,hocd⟩:=id z;refine h {s with heap:=h'} ⟨I.ok,I.os,I.bare,⟨λb o e n hb hx=>?_,λb o e n hb hx=>?_,I.base.free,λb o e hx=>?_,I.base.tups,I.base.frzs,I.base.tbls⟩,⟨m,hn.sameBut hs (CG (cne x c hc)),λj y v' e1 e2 e3=>?_⟩,λy c' e=>?_,I.free,I.freeC,λp hp=>?_,tracked ⟨oc,ij,I.freeC x c hc⟩ hs,by simpa using I.len⟩ ⟨c,hs,.inr hc⟩
  .exact(hs.2 b (BB (AZ (AS e) (I.ok.cab x c al hc)))).trans (I.base.keep b o e n hb hx)
  .obtain⟨sl,e1⟩:=I.base.slot b o e n hb hx;exact⟨sl,(hs.2 b (BB (AZ (AS e) (I.ok.cab x c al hc)))).trans e1⟩
  .obtain⟨o',e1⟩:=I.base.there b o e hx;exact⟨o',(hs.2 b (BB (AZ (AS e) (I.ok.cab x c al hc)))).trans e1⟩
  .by_cases hj:j=i
   .subst hj;rw[hi]at e1;cases e1;rw[By hiσ]at e2;cases e2;exact⟨u,r,.inr ⟨.inl hk,c,hc,qa⟩⟩
   .rw[GM (CG hj)]at e2;obtain⟨u',r',q⟩:=hl j y v' e1 e2 e3;refine⟨u',r',?_⟩;rcases q with q|⟨k,c',e,z'⟩
    .exact .inl q
    .refine .inr ⟨k,c',e,z'.sameBut hs ?_⟩;rintro rfl;exact hj (Qa hN e1 (I.ok.inj _ _ _ e hc ▸ hi))
  .by_cases hcc:c'=c
   .subst hcc;exact⟨_,qa⟩
   .obtain⟨w2,z2⟩:=I.cell y c' e;exact⟨w2,z2.sameBut hs hcc⟩
  .obtain⟨e,n,ne,nf,d⟩:=I.pin p hp;refine⟨(hs.2 p.1 ?_).trans e,n,ne,nf,d⟩;intro q;rw[q,ij]at e;have q':oc=p.2:=BD e;exact d w' (by rw[<-q'];exact hocd)
theorem P6{A:A4}{E:Vq}(I:Z8 X pI Y H s)(hN:X.N.Nodup)(hi:X.N[i]?=Aa x)(hx:pi X.env.scope x)(r:Bt v u)(h:∀ s',Z8 X pI (Y.set i (Aa v)) H s'->Q () s')(hf:X.fn x=Ab\/X.env.scope.names.lookup x=Aa .local:=by first|exact .inl rfl|exact .inr rfl|assumption):AA M A (storeName X.env x u) Q E s:=
 Tt I hN hi hx r (λs' I' _=>h s' I') hf
theorem Z8.call'{s':Ar}(I:Z8 X pI Y H s)(ho:s'.os=s.os)(u:Un (yu X.stack) ch H H' s.heap s'.heap)(hok:zd X.prog X.w H' s'.heap)(hg:FW s'.gens)(t4:∀ b∈ch,(b∈X.ex\/X.s₀.heap.objs.size<=b)/\b≠X.env.locals/\(∀ x c,X.env.cells.lookup x=Aa c->c≠b)/\∀ p∈X.pn++pI,p.1≠b):Z8 X pI Y H' s':=by
 obtain⟨h',g',d',t',o'⟩:=s';have e:o'=s.os:=ho;subst e;exact I.call (g':=g') (t':=t') (d':=d') u hok hg t4
end
abbrev XK:=Al->Ao Ak->Hp->Prop
abbrev St:=Ac (Ao V)
variable{Y:St}
abbrev VK:=V->Hp->Prop
abbrev TE:=St->Hp->VK->Prop
variable{te:TE}
abbrev TT:=St->Hp->(An->Hp->Prop)->Prop
variable{t:TT}
abbrev TA:=St->Hp->(Ac V->Hp->Prop)->Prop
variable{ta:TA}
structure xm where
 nx:St->Hp->Prop
 rt:VK
 bk:St->Hp->Prop:=λ_ _=>AM
 ct:St->Hp->Prop:=λ_ _=>AM
abbrev TS:=xm->St->Hp->Prop
def EP(X:Cx)(pI:Pn)(Y:St)(Q:VK)(u:Al)(s':Ar):Prop:=∃ v H',Z8 X pI Y H' s'/\Bt v u/\Q v H'
def TP(X:Cx)(pI:Pn)(Y:St)(Q:An->Hp->Prop)(b:An)(s':Ar):Prop:=∃ H',Z8 X pI Y H' s'/\Q b H'
def AP(X:Cx)(pI:Pn)(Y:St)(Q:Ac V->Hp->Prop)(us:Ac Al)(s':Ar):Prop:=∃ vs H',Z8 X pI Y H' s'/\A1 vs us/\Q vs H'
noncomputable def SP(X:Cx)(pI:Pn)(D:xm)(f:Flow)(s':Ar):Prop:=
  match f with
  |.next=>∃ Y' H',Z8 X pI Y' H' s'/\D.nx Y' H'
  |.brk=>∃ Y' H',Z8 X pI Y' H' s'/\D.bk Y' H'
  |.cont=>∃ Y' H',Z8 X pI Y' H' s'/\D.ct Y' H'
  |.ret u=>∃ v Y' H',Z8 X pI Y' H' s'/\Bt v u/\D.rt v H'
noncomputable def PE(X:Cx)(e:Aq)(t:TE):Prop:=
 ∀(pI:Pn)(s:Ar)(Y:St)(H:Hp)(Q:VK),Z8 X pI Y H s->t Y H Q->AA (model X.prog X.w) X.A (eval e X.env) (EP X pI Y Q) X.xe s
noncomputable def PT(X:Cx)(e:Aq)(t:TT):Prop:=
 ∀(pI:Pn)(s:Ar)(Y:St)(H:Hp)(Q:An->Hp->Prop),Z8 X pI Y H s->t Y H Q->AA (model X.prog X.w) X.A (Jk e X.env (eval e X.env)) (TP X pI Y Q) X.xe s
noncomputable def PW(X:Cx)(e:Aq)(t:TT):Prop:=
 ∀(whole:Fo Al)(pI:Pn)(s:Ar)(Y:St)(H:Hp)(Q:An->Hp->Prop),Z8 X pI Y H s->t Y H Q->AA (model X.prog X.w) X.A (Jk e X.env whole) (TP X pI Y Q) X.xe s
theorem PW.pt(h:PW X e t):PT X e t:=h _
noncomputable def PA(X:Cx)(es:Ac Aq)(t:TA):Prop:=
 ∀(pos:AF)(pI:Pn)(s:Ar)(Y:St)(H:Hp)(Q:Ac V->Hp->Prop),Z8 X pI Y H s->t Y H Q->AA (model X.prog X.w) X.A (spliced (Bs pos (Aw es X.env))) (AP X pI Y Q) X.xe s
noncomputable def PS(X:Cx)(st:AL)(t:TS):Prop:=
 ∀(pI:Pn)(s:Ar)(Y:St)(H:Hp)(D:xm),Z8 X pI Y H s->t D Y H->AA (model X.prog X.w) X.A (exec st X.env) (SP X pI D) X.xe s
noncomputable def yj(X:Cx)(st:Ac AL)(t:TS):Prop:=
 ∀(pI:Pn)(s:Ar)(Y:St)(H:Hp)(D:xm),Z8 X pI Y H s->t D Y H->AA (model X.prog X.w) X.A (execs st X.env) (SP X pI D) X.xe s
theorem U0{t:Fo α}{Q Q':α->Ar->Prop}{A:A4}{E:Vq}(h:AA M A t Q E s)(hQ:∀ a s,Q a s->Q' a s):AA M A t Q' E s:=Bj h hQ λ_ _ x=>x
section
variable{X:Cx}
theorem bin{a b:Aq}{ta tb:TE}(ha:PE X a ta)(hb:PE X b tb){H:Hp}{R:V->V->Hp->Prop}(I:Z8 X pI Y H s)(h:ta Y H λx H1=>tb Y H1 λy H2=>R x y H2){Q:α->Ar->Prop}{f:Al->Al->Fo α}(hf:∀ v u s2 x y H2,Z8 X pI Y H2 s2->Bt x v->Bt y u->R x y H2->AA (model X.prog X.w) X.A (f v u) Q X.xe s2):AA (model X.prog X.w) X.A (eval a X.env) (λv s₁=>AA (model X.prog X.w) X.A (eval b X.env) (λu s₂=>AA (model X.prog X.w) X.A (f v u) Q X.xe s₂) X.xe s₁) X.xe s:=by
 refine U0 (ha pI s Y H _ I h) λv s1 ⟨x,H1,I1,r1,q1⟩=>?_
 refine U0 (hb pI s1 Y H1 _ I1 q1) λu s2 ⟨y,H2,I2,r2,q2⟩=>?_
 exact hf v u s2 x y H2 I2 r1 r2 q2
def Ci(i:Ag):TE:=λY H Q=>∃ v,Y[i]?=Aa (Aa v)/\Q v H
def tC(v:V):TE:=λ_ H Q=>Q v H
theorem Dx(hN:X.N[i]?=Aa x)(hv:í X.env.scope x)(hd:(x==("__debug__" : Ah))=Ae:=by decide)(zu:(x==("__classdict__" : Ah))=Ae:=by decide):PE X (.Name x pos) (Ci i):=by
 intro pI s Y H Q I h;obtain⟨v,e,h⟩:=h;obtain⟨m,hn,hl⟩:=I.loc;obtain⟨u,r,l⟩:=hl i x v hN e hv;have fin:EP X pI Y Q u s:=⟨v,H,I,r,h⟩;rcases l with ⟨hk,hm⟩|⟨hk,c,hc,ux⟩
 .exact LN (wpAny_loadName_local I.ok.kind hk hn hm fin) hd
 .rcases hk with hk|hk
  .exact LN (wpAny_loadName_cell I.ok.kind hk hc ux fin) hd
  .exact LN (wpAny_loadName_free I.ok.kind hk hc ux fin zu) hd
theorem Oh{i j pos}:PE X (.Constant (.int i) j pos) (tC (.int i)):=λ_ _ _ H _ I h=>wpAny_Constant_int ⟨.int i,H,I.tok _,⟨_,rfl⟩,h⟩
theorem tY{b j pos}:PE X (.Constant (.bool b) j pos) (tC (.bl b)):=λ_ _ _ H _ I h=>Constant_bool ⟨.bl b,H,I,rfl,h⟩
theorem Og{j pos}:PE X (.Constant .none j pos) (tC .O):=λ_ _ _ H _ I h=>Constant_none ⟨.O,H,I,rfl,h⟩
theorem KI{x j pos}:PE X (.Constant (.str x) j pos) (tC (.str x)):=λ_ _ _ H _ I h=>Calls.Constant_str ⟨.str x,H,I.tok _,⟨_,rfl⟩,h⟩
def Gl(X:Cx)(x:Ah):Prop:=X.env.kindOf x=Aa .globalImplicit
theorem Jy{E:Vq}{H:Hp}{Q:Vq}(I:Z8 X pI Y H s)(hg:Gl X x)(hm:X.mg x=Aa u)(h:Q u s)(hd:(x==("__debug__" : Ah))=Ae:=by decide):AA (model X.prog X.w) X.A (eval (.Name x pos) X.env) Q E s:=
 YB I.ok.kind hg (Calls.loadGlobal_global (by rw[I.ok.glob];exact I.mod.glob.keeps I.bk) hm h) hd
theorem M4{E:Vq}{H:Hp}{Q:Vq}(I:Z8 X pI Y H s)(hg:Gl X x)(hm:X.mg x=Af)(hv:Dg x=Aa u)(h:Q u s)(hn:x≠"__name__" := by decide)(hd:(x==("__debug__" : Ah))=Ae:=by decide):AA (model X.prog X.w) X.A (eval (.Name x pos) X.env) Q E s:=by
 obtain⟨mb,h1,h2⟩:=I.mod.blt;exact YB I.ok.kind hg (Calls.loadGlobal_builtin (by rw[I.ok.glob];exact I.mod.glob.keeps I.bk) hm (by rw[I.ok.blt];exact h1.keeps I.bk) ((h2 x hn).trans hv) h) hd
theorem M0(hg:Gl X x)(hm:X.mg x=Aa u)(r:Bt v u)(hd:(x==("__debug__" : Ah))=Ae:=by decide):PE X (.Name x pos) (tC v):=
 λ_ _ _ H _ I h=>Jy I hg hm ⟨v,H,I,r,h⟩ hd
theorem UC(hg:Gl X x)(hm:X.mg x=Af)(hv:Dg x=Aa u)(r:Bt v u)(hn:x≠"__name__" := by decide)(hd:(x==("__debug__" : Ah))=Ae:=by decide):PE X (.Name x pos) (tC v):=
 λ_ _ _ H _ I h=>M4 I hg hm hv ⟨v,H,I,r,h⟩ hn hd
variable{a b:Aq}{ta tb:TE}{pos:AF}
variable{tA ß:TT}{rest:Ac Aq}
def zH(t u:TT):TT:=λY H Q=>t Y H λc H1=>if c=Ab then u Y H1 Q else Q Ae H1
def tOr(t u:TT):TT:=λY H Q=>t Y H λc H1=>if c=Ab then Q Ab H1 else u Y H1 Q
def zA(t:TT):TT:=λY H Q=>t Y H λc H1=>Q (!c) H1
theorem UA(ha:PT X a tA):PW X (.BoolOp .And [a] pos) tA:=by
 intro wh pI s Y H Q I h;refine isTrue_and (U0 (ha pI s Y H Q I h) λc s1 e=>?_)
 cases c with
 |true=>exact isTrue_and_nil e
 |false=>exact e
theorem VL(ha:PT X a tA):PW X (.BoolOp .Or [a] pos) tA:=by
 intro wh pI s Y H Q I h;refine isTrue_or (U0 (ha pI s Y H Q I h) λc s1 e=>?_)
 cases c with
 |false=>exact isTrue_or_nil e
 |true=>exact e
theorem QJ(ha:PT X a tA)(hb:PW X (.BoolOp .And (b::rest) pos) ß):PW X (.BoolOp .And (a::b::rest) pos) (zH tA ß):=by
 intro wh pI s Y H Q I h;refine isTrue_and (U0 (ha pI s Y H _ I h) λc s1 ⟨H1,I1,q1⟩=>?_)
 cases c with
 |true=>exact hb wh pI s1 Y H1 Q I1 q1
 |false=>exact⟨H1,I1,q1⟩
theorem Ri(ha:PT X a tA)(hb:PW X (.BoolOp .Or (b::rest) pos) ß):PW X (.BoolOp .Or (a::b::rest) pos) (tOr tA ß):=by
 intro wh pI s Y H Q I h;refine isTrue_or (U0 (ha pI s Y H _ I h) λc s1 ⟨H1,I1,q1⟩=>?_)
 cases c with
 |true=>exact⟨H1,I1,q1⟩
 |false=>exact hb wh pI s1 Y H1 Q I1 q1
theorem qG(ha:PT X a tA):PT X (.UnaryOp .Not a pos) (zA tA):=by
 intro pI s Y H Q I h;exact isTrue_not (ha pI s Y H (λc H1=>Q (!c) H1) I h)
def tG(ta tb:TE):TE:=λY H Q=>ta Y H λx H1=>∃ c,x=.bl c/\if c=Ab then tb Y H1 Q else Q (.bl Ae) H1
def yZ(ta tb:TE):TE:=λY H Q=>ta Y H λx H1=>∃ c,x=.bl c/\if c=Ab then Q (.bl Ab) H1 else tb Y H1 Q
def tE(ta:TE):TE:=λY H Q=>ta Y H λx H1=>∃ c,x=.bl c/\Q (.bl (!c)) H1
theorem qO{op}{t:TE}(h:PE X a t):PE X (.BoolOp op [a] pos) t:=λpI s Y H Q I hw=>BoolOp_one (h pI s Y H Q I hw)
theorem qR(ha:PE X a ta)(hb:PE X (.BoolOp .And (b::rest) pos) tb):PE X (.BoolOp .And (a::b::rest) pos) (tG ta tb):=by
 intro pI s Y H Q I h;refine BoolOp_and (U0 (ha pI s Y H _ I h) λv s1 ⟨x,H1,I1,r1,q1⟩=>?_)
 obtain⟨c,rfl,q1⟩:=q1;cases r1;refine Db ?_;cases c with
 |true=>exact hb pI s1 Y H1 Q I1 q1
 |false=>exact⟨.bl Ae,H1,I1,rfl,q1⟩
theorem tX(ha:PE X a ta)(hb:PE X (.BoolOp .Or (b::rest) pos) tb):PE X (.BoolOp .Or (a::b::rest) pos) (yZ ta tb):=by
 intro pI s Y H Q I h;refine BoolOp_or (U0 (ha pI s Y H _ I h) λv s1 ⟨x,H1,I1,r1,q1⟩=>?_)
 obtain⟨c,rfl,q1⟩:=q1;cases r1;refine Db ?_;cases c with
 |false=>exact hb pI s1 Y H1 Q I1 q1
 |true=>exact⟨.bl Ab,H1,I1,rfl,q1⟩
theorem qP(ha:PE X a ta):PE X (.UnaryOp .Not a pos) (tE ta):=by
 intro pI s Y H Q I h;refine UnaryOp_ (U0 (ha pI s Y H _ I h) λv s1 ⟨x,H1,I1,r1,q1⟩=>?_)
 obtain⟨c,rfl,q1⟩:=q1;cases r1;exact not_of (Db ⟨.bl (!c),H1,I1,rfl,q1⟩)
end
noncomputable def Id(K:Fg)(H:Hp)(a:Ak)(xs:Ac V):Prop:=
 Rd H a (.L xs) \/
  ∃(o:CZ)(its:Bl Al)(n:Ag),K.lookup a=Aa o/\o.cls=.type "list"/\o.dict=Af/\o.data=.seq its n/\its.size<=sizeLine/\A1 xs its.toList
noncomputable def yt(K:Fg)(H:Hp)(a:Ak)(xs:Ac V):Prop:=
 Rd H a (.H xs) \/
  ∃(o:CZ)(its:Bl Al)(n:Ag),K.lookup a=Aa o/\o.cls=.type "tuple"/\o.data=.seq its n/\its.size<=sizeLine/\A1 xs its.toList
noncomputable def yW:Al->Ao V
 |.none=>Aa .O
 |.bool b=>Aa (.bl b)
 |.int i _=>Aa (.int i)
 |.str x _=>Aa (.str x)
 |.bytes b _=>Aa (.byt b)
 |.float b _=>Aa (.flt b)
 |.ref a=>Aa (.ref a)
 |.type n=>Aa (.ty n)
 |_=>Af
theorem Bt.abs{x:V}(r:Bt x u):yW u=Aa x:=by
 cases x with
 |O=>cases r;rfl
 |bl _=>cases r;rfl
 |int _=>obtain⟨t,rfl⟩:=r;rfl
 |str _=>obtain⟨t,rfl⟩:=r;rfl
 |byt _=>obtain⟨t,rfl⟩:=r;rfl
 |flt _=>obtain⟨t,rfl⟩:=r;rfl
 |ref _=>cases r;rfl
 |ty _=>cases r;rfl
theorem Bt.inj{x:V}(r:Bt x u)(q:Bt y u):x=y:=BD (r.abs.symm.trans q.abs)
theorem A1.inj:∀{xs ys:Ac V}{us:Ac Al},A1 xs us->A1 ys us->xs=ys
 |_,_,_,.nil,.nil=>rfl
 |_,_,_,.cons r t,.cons r' t'=>by rw[r.inj r',A1.inj t t']
section
variable{X:Cx}{pI:Pn}{Y:St}{H:Hp}{s:Ar}{a:Ak}{xs ys:Ac V}
theorem Id.of{K:Fg}(h:H a=Aa (.L xs)):Id K H a xs:=.inl (.inl h)
theorem yt.of{K:Fg}(h:H a=Aa (.H xs)):yt K H a xs:=.inl (.inl h)
theorem Z8.list(I:Z8 X pI Y H s)(h:Id X.K H a xs):∃ its:Ac Al,A1 xs its/\PlainL s.heap a its.toArray/\xs.length<=sizeLine:=by
 rcases h with h|⟨o,its,n,hk,hc,hd,hs,hz,r⟩
 .obtain⟨z,its,n,r,e⟩:=h.ok I.hok;exact⟨its,r,⟨_,n,e,rfl,rfl,rfl⟩,z⟩
 .refine⟨its.toList,r,⟨o,n,I.kIn a o hk,hc,hd,by simpa using hs⟩,?_⟩
  have e:=r.length;simp only[Ha]at e;omega
theorem Z8.tuple(I:Z8 X pI Y H s)(h:yt X.K H a xs):∃ its:Ac Al,A1 xs its/\LI s.heap a its.toArray/\xs.length<=sizeLine:=by
 rcases h with h|⟨o,its,n,hk,hc,hs,hz,r⟩
 .obtain⟨z,its,r,p⟩:=h.ok I.hok;exact⟨its,r,p,z⟩
 .refine⟨its.toList,r,⟨o,I.kIn a o hk,hc,n,by simpa using hs⟩,?_⟩
  have e:=r.length;simp only[Ha]at e;omega
theorem Z8.list_inj(I:Z8 X pI Y H s)(h:Id X.K H a xs)(h':Id X.K H a ys):xs=ys:=by
 obtain⟨its,r,⟨o,n,e,_,_,d⟩,_⟩:=I.list h;obtain⟨its',r',⟨o',n',e',_,_,d'⟩,_⟩:=I.list h';rw[e]at e';cases e';rw[d]at d'
 injection d' with d1 _
 have:its=its':=by simpa using congrArg J4 d1
 subst this;exact r.inj r'
theorem Z8.tuple_inj(I:Z8 X pI Y H s)(h:yt X.K H a xs)(h':yt X.K H a ys):xs=ys:=by
 obtain⟨its,r,⟨o,e,_,n,d⟩,_⟩:=I.tuple h;obtain⟨its',r',⟨o',e',_,n',d'⟩,_⟩:=I.tuple h';rw[e]at e';cases e';rw[d]at d'
 injection d' with d1 _
 have:its=its':=by simpa using congrArg J4 d1
 subst this;exact r.inj r'
end
noncomputable abbrev Cx.wish(X:Cx)(E:Vq):Cx:={X with xe:=E}
noncomputable abbrev Cx.nox(X:Cx):Cx:=X.wish λ_ _=>AM
theorem Cx.Ok.wish(ok:X.Ok)(E:Vq):(X.wish E).Ok:=
 ⟨ok.mod,ok.kind,ok.glob,ok.blt,ok.above,ok.inj,ok.has,ok.cab,ok.hd,ok.frames,ok.stk,ok.exf,ok.bs,ok.bsz,ok.noex,ok.exfs,ok.funs,ok.frf⟩
theorem Cx.Ok.unwish{E:Vq}(ok:(X.wish E).Ok):X.Ok:=
 ⟨ok.mod,ok.kind,ok.glob,ok.blt,ok.above,ok.inj,ok.has,ok.cab,ok.hd,ok.frames,ok.stk,ok.exf,ok.bs,ok.bsz,ok.noex,ok.exfs,ok.funs,ok.frf⟩
section
variable{X:Cx}{pI:Pn}{Y:St}{H:Hp}{s:Ar}{E:Vq}
theorem Z8.wish(I:Z8 X pI Y H s)(E:Vq):Z8 (X.wish E) pI Y H s:=⟨I.ok.wish E,I.os,I.bare,I.base,I.loc,I.cell,I.free,I.freeC,I.pin,I.hok,I.len⟩
theorem Z8.unwish(I:Z8 (X.wish E) pI Y H s):Z8 X pI Y H s:=⟨I.ok.unwish,I.os,I.bare,I.base,I.loc,I.cell,I.free,I.freeC,I.pin,I.hok,I.len⟩
theorem SP.unwish{D:xm}{f:Flow}{s':Ar}(h:SP (X.wish E) pI D f s'):SP X pI D f s':=by
 cases f with
 |next=>obtain⟨Y',H',I,q⟩:=h;exact⟨Y',H',I.unwish,q⟩
 |brk=>obtain⟨Y',H',I,q⟩:=h;exact⟨Y',H',I.unwish,q⟩
 |cont=>obtain⟨Y',H',I,q⟩:=h;exact⟨Y',H',I.unwish,q⟩
 |ret u=>obtain⟨v,Y',H',I,r,q⟩:=h;exact⟨v,Y',H',I.unwish,r,q⟩
theorem PE.nox{t:TE}(h:PE X.nox e t):PE X e t:=λpI s Y H Q I hw=>
 Bj (h pI s Y H Q (I.wish _) hw) (λ_ _ ⟨v,H',I',r,q⟩=>⟨v,H',I'.unwish,r,q⟩) λ_ _ z=>A7 z
theorem PT.nox(h:PT X.nox e t):PT X e t:=λpI s Y H Q I hw=>
 Bj (h pI s Y H Q (I.wish _) hw) (λ_ _ ⟨H',I',q⟩=>⟨H',I'.unwish,q⟩) λ_ _ z=>A7 z
theorem yj.nox{st:Ac AL}{t:TS}(h:yj X.nox st t):yj X st t:=λpI s Y H D I hw=>
 Bj (h pI s Y H D (I.wish _) hw) (λ_ _ q=>q.unwish) λ_ _ z=>A7 z
end
section
variable{X:Cx}{st:AL}{rest:Ac AL}{t u:TS}{e:Aq}{te:TE}{pos:AF}
def HP:TS:=λD Y H=>D.nx Y H
def RN(t u:TS):TS:=λD Y H=>t {D with nx:=u D} Y H
theorem G1:yj X [] HP:=λ_ _ Y H _ I h=>GZ ⟨Y,H,I,h⟩
theorem Ca(h1:PS X st t)(h2:yj X rest u):yj X (st::rest) (RN t u):=by
 intro pI s Y H D I h;refine Z_4 (U0 (h1 pI s Y H {D with nx:=u D} I h) λf s1 q=>?_)
 cases f with
 |next=>
  obtain⟨Y',H',I',q⟩:=q;exact h2 pI s1 Y' H' D I' q
 |ret v=>exact q
 |brk=>exact q
 |cont=>exact q
theorem DT(h1:PS X st t):yj X [st] t:=by
 intro pI s Y H D I h;refine Z_4 (U0 (h1 pI s Y H D I h) λf s1 q=>?_)
 cases f with
 |next=>exact GZ q
 |ret v=>exact q
 |brk=>exact q
 |cont=>exact q
theorem Z8.quiet{H:Hp}(I:Z8 X pI Y H s):interactive X.env=Ae:=by simp[interactive,I.ok.kind]
def Rj(te:TE):TS:=λD Y H=>te Y H λ_ H1=>D.nx Y H1
theorem Kg(he:PE X e te)(hs:Dr e Af pos.line X.env=pure Ae:=by rfl):PS X (.Expr e pos) (Rj te):=by
 intro pI s Y H D I h;exact wpAny_Expr_any (U0 (he pI s Y H _ I h) λv s1 ⟨x,H1,I1,r1,q1⟩=>⟨Y,H1,I1,q1⟩) I.quiet hs
def RO(te:TE):TS:=λD Y H=>te Y H D.rt
theorem Hm(he:PE X e te):PS X (.Return (Aa e) pos) (RO te):=by
 intro pI s Y H D I h;exact wpAny_Return_some (U0 (he pI s Y H _ I h) λv s1 ⟨x,H1,I1,r1,q1⟩=>⟨x,Y,H1,I1,r1,q1⟩)
def zC(c:TT)(t u:TS):TS:=λD Y H=>c Y H λb H1=>if b=Ab then t D Y H1 else u D Y H1
theorem FO{c:Aq}{a b:Ac AL}{tc:TT}(hc:PT X c tc)(ha:yj X a t)(hb:yj X b u):PS X (.If c a b pos) (zC tc t u):=by
 intro pI s Y H D I h;refine wpAny_If (U0 (hc pI s Y H _ I h) λd s1 ⟨H1,I1,q1⟩=>?_)
 cases d with
 |true=>exact ha pI s1 Y H1 D I1 q1
 |false=>exact hb pI s1 Y H1 D I1 q1
def oW:TS:=λ_ _ _=>AM
theorem Jw{vw:Ac AL}:yj X vw oW:=λ_ _ _ _ _ _ h=>h.elim
end
abbrev TG:=V->St->Hp->(St->Hp->Prop)->Prop
abbrev TGs:=Ac V->St->Hp->(St->Hp->Prop)->Prop
noncomputable def PG(X:Cx)(target:Aq)(t:TG):Prop:=
 ∀(pI:Pn)(s:Ar)(Y:St)(H:Hp)(v:V)(u:Al)(Q:St->Hp->Prop),Z8 X pI Y H s->Bt v u->t v Y H Q ->
  AA (model X.prog X.w) X.A (assign target X.env u) (λ_ s'=>∃ Y' H',Z8 X pI Y' H' s'/\Q Y' H') X.xe s
noncomputable def fz(X:Cx)(ts:Ac Aq)(t:TGs):Prop:=
 ∀(pI:Pn)(s:Ar)(Y:St)(H:Hp)(vs:Ac V)(us:Ac Al)(Q:St->Hp->Prop),Z8 X pI Y H s->A1 vs us->t vs Y H Q ->
  AA (model X.prog X.w) X.A (assignInOrder ((Cy ts X.env).map (·.2)) us) (λ_ s'=>∃ Y' H',Z8 X pI Y' H' s'/\Q Y' H') X.xe s
section
variable{X:Cx}{pos:AF}
def G6(i:Ag):TG:=λv Y H Q=>Q (Y.set i (Aa v)) H
theorem MZ(hN:X.N.Nodup)(hi:X.N[i]?=Aa x)(hx:pi X.env.scope x)(hf:X.fn x=Ab\/X.env.scope.names.lookup x=Aa .local:=by first|exact .inl rfl|exact .inr rfl|assumption):PG X (.Name x pos) (G6 i):=by
 intro pI s Y H v u Q I r h;exact Z_1 (P6 I hN hi hx r (λs' I'=>⟨_,H,I',h⟩) hf)
def Ly:TGs:=λvs Y H Q=>vs=[]/\Q Y H
def Lr(t:TG)(u:TGs):TGs:=λvs Y H Q=>∃ v r,vs=v::r/\t v Y H λY' H'=>u r Y' H' Q
theorem gZ:fz X [] Ly:=by
 intro pI s Y H vs us Q I r h;obtain⟨e,h⟩:=h;subst e;cases r;exact assignInOrder_nil ⟨Y,H,I,h⟩
theorem fA{t:TG}{u:TGs}(h1:PG X e t)(h2:fz X es u)(hs:(Cy (e::es) X.env).map (·.2)=assign e X.env::(Cy es X.env).map (·.2):=by rfl):fz X (e::es) (Lr t u):=by
 intro pI s Y H vs us Q I r h;obtain⟨v,vr,e1,h⟩:=h;subst e1;cases r with
 |cons r rr=>
  rw[hs];refine assignInOrder_cons (U0 (h1 pI s Y H _ _ _ I r h) λ_ s1 ⟨Y1,H1,I1,q1⟩=>?_)
  exact h2 pI s1 Y1 H1 _ _ Q I1 rr q1
def O7(K:Fg)(n:Ag)(t:TGs):TG:=λv Y H Q=>∃ a xs,v=.ref a/\yt K H a xs/\xs.length=n/\t xs Y H Q
theorem VN{t:TGs}(hc:X.calm=Ab)(h:fz X es t)(hn:(Cy es X.env).length=n:=by rfl)(yo:(Cy es X.env).findIdx? (·.1)=Af:=by rfl):PG X (.Tuple es k pos) (O7 X.K n t):=by
 intro pI s Y H v u Q I r hw;obtain⟨a,xs,e1,hq,hl,hw⟩:=hw;subst e1;cases r;obtain⟨its,rv,ht,hz⟩:=I.tuple hq;refine assign_Tuple_tuple (I.ok.hd hc) ht (by simp[hn,<-hl,rv.length]) yo λh' hx=>?_
 have I1:Z8 X pI Y H {s with heap:=h'}:=I.kept (t':=s.toks) λb o e=>hx b o (BB (AS e)) e
 exact h pI _ Y H xs _ Q I1 (by simpa using rv) hw
def O9(te:TE)(g:TG):TS:=λD Y H=>te Y H λx H1=>g x Y H1 D.nx
theorem qI{g:TG}(he:PE X e te)(hg:PG X tg g)(hs:J3 [tg] e pos.line X.env=pure Ae:=by rfl)(hw:HG [tg] e X.env=pure Af:=by rfl)(h1:(Cy [tg] X.env).map (·.2)=[assign tg X.env]:=by rfl):PS X (.Assign [tg] e pos) (O9 te g):=by
 intro pI s Y H D I h;refine wpAny_Assign_stores (U0 (he pI s Y H _ I h) λv s1 ⟨x,H1,I1,r1,q1⟩=>?_) hs hw
 rw[h1];exact U0 (hg pI s1 Y H1 x v _ I1 r1 q1) λ_ s2 q=>q
theorem EH{pos':AF}(hN:X.N.Nodup)(hi:X.N[i]?=Aa x)(hx:pi X.env.scope x)(he:PE X e te)(hs:Dr e (Aa (.Name x pos')) pos.line X.env=pure Ae:=by rfl)(hf:X.fn x=Ab\/X.env.scope.names.lookup x=Aa .local:=by first|exact .inl rfl|exact .inr rfl|assumption):PS X (.Assign [.Name x pos'] e pos) (O9 te (G6 i)):=by
 intro pI s Y H D I h;refine wpAny_Assign_Name (U0 (he pI s Y H _ I h) λv s1 ⟨y,H1,I1,r1,q1⟩=>?_) hs
 exact P6 I1 hN hi hx r1 (λs2 I2=>⟨_,H1,I2,q1⟩) hf
end
section
variable{X:Cx}{pos:AF}
end
structure It where
 go:Ag->Hp->Prop
 yld:Ag->Hp->V->Hp->Prop
 stop:Ag->Hp->Prop
noncomputable def Jb(X:Cx)(pI:Pn)(H:Hp)(b:Ak):Prop:=
 H b=Af/\b≠X.env.locals/\b∉X.fs/\(b∈X.ex\/X.s₀.heap.objs.size<=b)/\(∀ x c,X.env.cells.lookup x=Aa c->c≠b)/\∀ p∈X.pn++pI,p.1≠b
theorem Z8.fpOk{H H':Hp}(I:Z8 X pI Y H s)(hb:s.heap.objs.size<=b)(hn:H' b=Af):Jb X pI H' b:=by
 refine⟨hn,Yo (AZ I.lt hb),I.nofs hb,.inr (B9 I.sz hb),λx c e z=>?_,λp hp z=>?_⟩
 .obtain⟨v,q⟩:=I.cell x c e;exact absurd (AZ q.lt (by rw[z];exact hb)) (BG _)
 .exact absurd (AZ (AS (I.pin p hp).1) (by rw[z];exact hb)) (BG _)
structure qm (P:AK) (w:AI) (K:Fg) (tg:Aq) (J:It) (fp:Ac Ak) (it:Ak) (tn:Ag->AJ->Prop):Prop where
 mem:it∈fp
 obj:∀ i h,tn i h->∀ b∈fp,∃ o,h.get? b=Aa o/\∀ v,o.data≠.cell v
 keep:∀ i h h',tn i h->(∀ b∈fp,∀ o,h.get? b=Aa o->h'.get? b=Aa o)->tn i h'
 item:∀(X:Cx),X.prog=P->X.w=w->X.K=K->X.calm=Ab->∀(i:Ag)(pI:Pn)(s:Ar)(Y:St)(H:Hp)(E:Vq),Z8 X pI Y H s->(∀ b∈fp,Jb X pI H b)->tn i s.heap->J.go i H ->
  AA (model P w) X.A (MF (.ref it)) (λr s1=>∃ u,r=Aa u /\
   AA (model P w) X.A (GW tg (.ref it) u) (λ_ s2=>∃ x H',Z8 X pI Y H' s2/\Bt x u/\J.yld i H x H'/\tn (i+1) s2.heap/\∀ b∈fp,H' b=Af) E s1) E s
 done:∀(X:Cx),X.prog=P->X.w=w->X.K=K->X.calm=Ab->∀(i:Ag)(pI:Pn)(s:Ar)(Y:St)(H:Hp)(E:Vq),Z8 X pI Y H s->(∀ b∈fp,Jb X pI H b)->tn i s.heap->J.stop i H ->
  AA (model P w) X.A (MF (.ref it)) (λr s1=>r=Af/\Z8 X pI Y H s1) E s
 self:∀(A:A4)(i:Ag)(s:Ar)(Q:Vq)(E:Vq),tn i s.heap->Q (.ref it) s->AA (model P w) A (pyIter (.ref it)) Q E s
abbrev TI:=St->Hp->(It->Hp->Prop)->Prop
noncomputable def PIE(X:Cx)(pI:Pn)(Y:St)(tg:Aq)(R:It->Hp->Prop)(É:Al)(s2:Ar):Prop:=
 ∃(it:Ak)(fp:Ac Ak)(tn:Ag->AJ->Prop)(J:It)(H':Hp),É=.ref it/\Z8 X pI Y H' s2/\qm X.prog X.w X.K tg J fp it tn/\tn 0 s2.heap/\(∀ b∈fp,Jb X pI H' b)/\R J H'
noncomputable def PI(X:Cx)(tg iter:Aq)(wi:TI):Prop:=
 ∀(pI:Pn)(s:Ar)(Y:St)(H:Hp)(R:It->Hp->Prop),Z8 X pI Y H s->wi Y H R ->
  AA (model X.prog X.w) X.A (eval iter X.env) (λv s1=>AA (model X.prog X.w) X.A (pyIter v) (PIE X pI Y tg R) X.xe s1) X.xe s
theorem Ro{A:A4}{E:Vq}{n:CQ}{vs:Bl Al}(ho:s.heap.get? it=Aa o)(hc:o.cls=.type n)(hd:o.data=.fields vs)(hn:["enumerate", "zip", "dict_itemiterator", "dict_reverseitemiterator", "odict_iterator", "itertools.zip_longest", "itertools.pairwise"].contains n=Ae)(hQ:Q () s):AA M A (GW tg (.ref it) u) Q E s:=by
  unfold GW;cases tg<;>first
    |exact A2 hQ
    | (cases u<;>first
        |exact A2 hQ
        | (refine As (wpAny_load ho ?_)
           rw[hc,hd];show AA M A (if (["enumerate", "zip", "dict_itemiterator", "dict_reverseitemiterator", "odict_iterator", "itertools.zip_longest", "itertools.pairwise"].contains n&&vs[0]? == Aa (HC _))=Ab then _ else _) Q E s
           rw[Ay (by intro h;rw[hn,Bool.false_and]at h;cases h)]
           exact A2 hQ))
noncomputable def Itl(K:Fg)(a:Ak):It:=
 ⟨λi H=>∃ xs x,Id K H a xs/\xs[i]?=Aa x,λi H x H'=>H'=H/\∀ xs,Id K H a xs->xs[i]?=Aa x,λi H=>∃ xs,Id K H a xs/\xs.length<=i⟩
noncomputable def Itt(K:Fg)(a:Ak):It:=
 ⟨λi H=>∃ xs x,yt K H a xs/\xs[i]?=Aa x,λi H x H'=>H'=H/\∀ xs,yt K H a xs->xs[i]?=Aa x,λi H=>∃ xs,yt K H a xs/\xs.length<=i⟩
noncomputable def ë(lo:Ai)(n:Ag):It:=⟨λi _=>i<n,λi H x H'=>H'=H/\x=.int (lo+i),λi _=>n<=i⟩
theorem aP{w:AI}{K:Fg}(a it:Ak):qm P w K tg (Itl K a) [it] it (λi h=>h.IsListIter it a i) where
  mem:=by simp
  obj:=λi h st b hb=>by
    have e:b=it:=by simpa using hb
    subst e;obtain⟨o,e,c,d⟩:=st;exact⟨o,e,λv z=>by rw[d]at z;cases z⟩
  keep:=λi h h' st k=>st.at λo e=>k it (by simp) o e
  item:=by
    intro X hP hw hK hc i pI s Y H E I hf st hg;subst hP hw hK;obtain⟨xs,x,hq,hx⟩:=hg;obtain⟨its,rv,p,hz⟩:=I.list hq;obtain⟨u,hu,ru⟩:=rv.get hx;obtain⟨f0,f1,f2,f3,f4,f5⟩:=hf it (by simp)
    refine Z_8 st p.isList (x:=u) (by simpa using hu) λh' sk sb=>?_
    have I1:Z8 X pI Y H {s with heap:=h'}:=I.turned (t':=s.toks) (λb o hb e=>(sb.2 b hb).trans e) f0 f1 f3 f4 f5
    obtain⟨o,e,c,d⟩:=id sk;exact⟨u,rfl,Ro (s:={s with heap:=h'}) e c d (by decide) ⟨x,H,I1,ru,⟨rfl,λys hy=>by rw[I.list_inj hy hq];exact hx⟩,sk,λb hb=>(hf b hb).1⟩⟩
  done:=by
    intro X hP hw hK hc i pI s Y H E I hf st hg;subst hP hw hK;obtain⟨xs,hq,hx⟩:=hg;obtain⟨its,rv,p,hz⟩:=I.list hq;obtain⟨f0,f1,f2,f3,f4,f5⟩:=hf it (by simp)
    have hl:=rv.length;exact Z_7 (I.ok.hd hc) st p.isList (by simp;omega) λh' eb=>⟨rfl,I.turned (t':=s.toks) (λb o hb e=>eb b o hb e) f0 f1 f3 f4 f5⟩
  self:=λ_ _ _ _ _ st h=>wpAny_pyIter_listiter st h
theorem bG{w:AI}{K:Fg}(a it:Ak):qm P w K tg (Itt K a) [it] it (λi h=>h.IsTupleIter it a i) where
  mem:=by simp
  obj:=λi h st b hb=>by
    have e:b=it:=by simpa using hb
    subst e;obtain⟨o,e,c,d⟩:=st;exact⟨o,e,λv z=>by rw[d]at z;cases z⟩
  keep:=λi h h' st k=>st.at λo e=>k it (by simp) o e
  item:=by
    intro X hP hw hK hc i pI s Y H E I hf st hg;subst hP hw hK;obtain⟨xs,x,hq,hx⟩:=hg;obtain⟨its,rv,p,hz⟩:=I.tuple hq;obtain⟨u,hu,ru⟩:=rv.get hx;obtain⟨f0,f1,f2,f3,f4,f5⟩:=hf it (by simp)
    refine wpAny_pyNext_tuple_item st (show s.heap.IsTuple a its.toArray from p) (x:=u) (by simpa using hu) λh' sk sb=>?_
    have I1:Z8 X pI Y H {s with heap:=h'}:=I.turned (t':=s.toks) (λb o hb e=>(sb.2 b hb).trans e) f0 f1 f3 f4 f5
    obtain⟨o,e,c,d⟩:=id sk;exact⟨u,rfl,Ro (s:={s with heap:=h'}) e c d (by decide) ⟨x,H,I1,ru,⟨rfl,λys hy=>by rw[I.tuple_inj hy hq];exact hx⟩,sk,λb hb=>(hf b hb).1⟩⟩
  done:=by
    intro X hP hw hK hc i pI s Y H E I hf st hg;subst hP hw hK;obtain⟨xs,hq,hx⟩:=hg;obtain⟨its,rv,p,hz⟩:=I.tuple hq;obtain⟨f0,f1,f2,f3,f4,f5⟩:=hf it (by simp)
    have hl:=rv.length;exact wpAny_pyNext_tuple_end (I.ok.hd hc) st (show s.heap.IsTuple a its.toArray from p) (by simp;omega) λh' eb=>⟨rfl,I.turned (t':=s.toks) (λb o hb e=>eb b o hb e) f0 f1 f3 f4 f5⟩
  self:=λ_ _ _ _ _ st h=>wpAny_pyIter_tupleiter st h
theorem bH{w:AI}{K:Fg}(it:Ak)(lo:Ai)(n:Ag):qm P w K tg (ë lo n) [it] it (λi h=>IsRangeIter h it (lo+(i:Ag)*1) ((n:Ai)-(i:Ag)) 1) where
  mem:=by simp
  obj:=λi h st b hb=>by
    have e:b=it:=by simpa using hb
    subst e;exact⟨_,st,λv z=>by
      have z':Data.fields _=Mx v:=z;cases z'⟩
  keep:=λi h h' st k=>k it (by simp) _ st
  item:=by
    intro X hP hw hK hc i pI s Y H E I hf st hg;subst hP hw hK;obtain⟨f0,f1,f2,f3,f4,f5⟩:=hf it (by simp)
    have W:=Walks.range (prog:=X.prog) (w:=X.w) (I.ok.hd hc) it lo 1 n;refine W.item i s _ _ hg st λv h' tk hv sk kk=>?_
    obtain⟨t,rfl⟩:=hv;have I1:Z8 X pI Y H {s with heap:=h',toks:=tk}:=I.turned (λb o hb e=>kk b o (by simpa using hb) e) f0 f1 f3 f4 f5
    refine⟨_,rfl,Ro (s:={s with heap:=h',toks:=tk}) (n := "range_iterator") sk rfl rfl (by decide) ⟨.int (lo+i),H,I1,⟨t,?_⟩,⟨rfl,rfl⟩,sk,λb hb=>(hf b hb).1⟩⟩
    rw[XM]
  done:=by
    intro X hP hw hK hc i pI s Y H E I hf st hg;subst hP hw hK;obtain⟨f0,f1,f2,f3,f4,f5⟩:=hf it (by simp)
    exact wpAny_pyNext_range_end (I.ok.hd hc) st (by have:n<=i:=hg;omega) λh' eb=>⟨rfl,I.turned (t':=s.toks) (λb o hb e=>eb b o hb e) f0 f1 f3 f4 f5⟩
  self:=λ_ _ _ _ _ st h=>wpAny_pyIter_rangeiter st h
section
variable{X:Cx}{tg:Aq}
theorem T7{H:Hp}{R:It->Hp->Prop}{E:Vq}{lo hi:Ai}{t u v:Cf}{tk:Ag}(I:Z8 X pI Y H s)(h1:-(2 ^ 62)<=lo)(h2:lo<2 ^ 62)(h3:-(2 ^ 62)<=hi)(h4:hi<2 ^ 62)(q:R (ë lo (hi-lo).toNat) H):AA (model X.prog X.w) X.A (pyIter (.ref s.heap.objs.size)) (PIE X pI Y tg R) E { s with heap:=s.heap.push { cls:=.type "range",data:=.fields #[.int lo t,.int hi u,.int 1 v] },toks:=tk }:=by
 refine wpAny_pyIter_range (IsRange.new ..) (small_one h1 h2 h3 h4) ?_;have I1:Z8 X pI Y H { s with heap:=s.heap.push { cls:=.type "range",data:=.fields #[.int lo t,.int hi u,.int 1 v] },toks:=tk }:=I.kept λb o e=>AB _ e
 refine⟨(s.heap.push { cls:=.type "range",data:=.fields #[.int lo t,.int hi u,.int 1 v] }).objs.size,[(s.heap.push { cls:=.type "range",data:=.fields #[.int lo t,.int hi u,.int 1 v] }).objs.size],_,_,H,rfl,
  I1.kept (t':=tk) λb o e=>AB _ e,bH _ lo (hi-lo).toNat,?_,λb hb=>?_,q⟩
 .have e1:lo+((0:Ag):Ai)*1=lo:=by simp
  have e2:(((hi-lo).toNat:Ag):Ai)-((0:Ag):Ai)=Builtin.Range.rangeSize lo hi 1:=by rw[rangeSize_one];split<;>omega
  show IsRangeIter _ _ (lo+((0:Ag):Ai)*1) ((((hi-lo).toNat:Ag):Ai)-((0:Ag):Ai)) 1;rw[e1,e2];exact Bp _ rfl
 .have e:b=(s.heap.push { cls:=.type "range",data:=.fields #[.int lo t,.int hi u,.int 1 v] }).objs.size:=by simpa using hb
  subst e;exact I1.fpOk (AU _) (I1.hok.fresh (AU _))
def wJ(ta:TA):TI:=λY H R=>ta Y H λvs H1=>∃ j:Ai,vs=[.int j]/\-(2 ^ 62)<=j/\j<2 ^ 62/\R (ë 0 j.toNat) H1
def wI(ta:TA):TI:=λY H R=>ta Y H λvs H1=>∃ i j:Ai,vs=[.int i,.int j]/\(-(2 ^ 62)<=i/\i<2 ^ 62/\-(2 ^ 62)<=j/\j<2 ^ 62)/\R (ë i (j-i).toNat) H1
theorem bU{a:Aq}(hg:Gl X "range")(hm:X.mg "range" = Af)(ha:PA X [a] ta)(hs:Aw [a] X.env=[(Ae,eval a X.env)]:=by rfl):PI X tg (.Call (.Name "range" p) [a] [] pos) (wJ ta):=by
 intro pI s Y H R I h;refine Call_ (M4 I hg hm boot_range (EO (U0 (ha pos pI s Y H _ I h) λus s1 ⟨vs,H1,I1,r1,q1⟩=>?_) hs rfl))
 obtain⟨j,e,q1,q2,q⟩:=q1;subst e;cases r1 with
 |cons r rr=>
  cases rr;obtain⟨t,rfl⟩:=r;exact call_range_1 (T7 I1 (by omega) (by omega) q1 q2 (by simpa using q))
theorem TB{a b:Aq}(hg:Gl X "range")(hm:X.mg "range" = Af)(ha:PA X [a,b] ta)(hs:Aw [a,b] X.env=[(Ae,eval a X.env),(Ae,eval b X.env)]:=by rfl)(ou:Aw [b] X.env=[(Ae,eval b X.env)]:=by rfl):
  PI X tg (.Call (.Name "range" p) [a,b] [] pos) (wI ta):=by
 intro pI s Y H R I h;refine Call_ (M4 I hg hm boot_range (EO (U0 (ha pos pI s Y H _ I h) λus s1 ⟨vs,H1,I1,r1,q1⟩=>?_) (by rw[hs,ou]) (by rw[ou];rfl)))
 obtain⟨i,j,e,⟨q1,q2,q3,q4⟩,q⟩:=q1;subst e;cases r1 with
 |cons r rr=>
  cases rr with
  |cons r' rr=>
   cases rr;obtain⟨t,rfl⟩:=r;obtain⟨t',rfl⟩:=r';exact call_range_2 (T7 I1 q1 q2 q3 q4 q)
def zD(wi:TI)(g:TG)(tb:TS):TS:=λD Y H=>wi Y H λJ H1=>∃ W:Ag->Ag->St->Hp->Prop,(∃ m,W 0 m Y H1)/\∀ i m Y H,W i m Y H ->
 (J.stop i H/\D.nx Y H)\/(J.go i H/\∃ N:St->Hp->Prop,(∀ Y' H',N Y' H'->∃ m',m'<m/\W (i+1) m' Y' H')/\∀ x H',J.yld i H x H'->g x Y H' λY2 H2=>tb {D with nx:=N,ct:=N,bk:=D.nx} Y2 H2)
noncomputable def Le(fp:Ac Ak)(h:AJ):Pn:=fp.filterMap λb=>(h.get? b).map λo=>(b,o)
theorem NR(hb:b∈fp)(e:h.get? b=Aa o):(b,o)∈Le fp h:=List.mem_filterMap.mpr ⟨b,hb,by rw[e];rfl⟩
theorem TC{p:Ak×CZ}(hp:p∈Le fp h):p.1∈fp/\h.get? p.1=Aa p.2:=by
 obtain⟨b,hb,e⟩:=List.mem_filterMap.mp hp;cases q:h.get? b with
 |none=>rw[q]at e;cases e
 |some o=>
  rw[q]at e;have e':(b,o)=p:=BD e;subst e';exact⟨hb,q⟩
theorem Z8.pinned{H:Hp}(I:Z8 X pI Y H s)(hf:∀ b∈fp,Jb X pI H b)(ho:∀ b∈fp,∃ o,s.heap.get? b=Aa o/\∀ v,o.data≠.cell v):Z8 X (pI++Le fp s.heap) Y H s:=
 I.pins_of λp hp=>(Ei.mp hp).elim (λz=>I.pin p (Br _ z)) λz=>by
  obtain⟨hb,e⟩:=TC z;obtain⟨f0,f1,f2,_⟩:=hf p.1 hb;obtain⟨o,e',d⟩:=ho p.1 hb;rw[e]at e';cases e';exact⟨e,f0,f1,f2,d⟩
theorem Z8.unpinned{pl:Pn}{H:Hp}(I:Z8 X (pI++pl) Y H s):Z8 X pI Y H s:=I.pins_of λp hp=>I.pin p (Br _ (ET _ hp))
theorem VM{iter:Aq}{wi:TI}{g:TG}{tb:TS}(hp:FM (model X.prog X.w) X.A X.env X.xe)(hc:X.calm=Ab)(hi:PI X tg iter wi)(hg:PG X tg g)(hb:yj X body tb)(hs:∀ x,Da iter X.env x=pure x:=by intro _;rfl):PS X (.For tg iter body [] pos) (zD wi g tb):=by
 intro pI s Y H D I h;refine wpAny_For (U0 (hi pI s Y H _ I h) λv s1 h1=>U0 h1 λÉ s2 h2=>?_) hs
 obtain⟨it,fp,tn,J,H2,e,I2,T,st2,f2,W,⟨m0,w0⟩,turn⟩:=h2;subst e
 have lc:∀{H':Hp},(∀ b∈fp,H' b=Af)->∀ b∈fp,Jb X pI H' b:=λhn b hb=>⟨hn b hb,(f2 b hb).2⟩
 refine codeAny_forLoop_any (λn s'=>∃ i Y' H',Z8 X pI Y' H' s'/\tn i s'.heap/\(∀ b∈fp,H' b=Af)/\W i n Y' H') ?_ m0 ⟨0,Y,H2,I2,st2,λb hb=>(f2 b hb).1,w0⟩
 rintro n s3 ⟨i,Y3,H3,I3,st3,fr3,w3⟩;rcases turn i n Y3 H3 w3 with ⟨stop,qn⟩|⟨go,N,hN,step⟩
 .refine FD hp (U0 (T.done X rfl rfl rfl hc i pI s3 Y3 H3 X.xe I3 (lc fr3) st3 stop) λr s4 ⟨hr,I4⟩=>?_)
  subst hr;exact GZ ⟨Y3,H3,I4,qn⟩
 .refine FD hp (U0 (T.item X rfl rfl rfl hc i pI s3 Y3 H3 X.xe I3 (lc fr3) st3 go) λr s4 ⟨u,hr,h4⟩=>?_)
  subst hr;refine FD hp (U0 h4 λ_ s5 ⟨x,H5,I5,r5,y5,lb,fr5⟩=>?_)
  have fj:=I5.pinned (lc fr5) (T.obj _ _ lb);refine FD hp (U0 (hg _ s5 Y3 H5 x u _ fj r5 (step x H5 y5)) λ_ s6 ⟨Y6,H6,I6,q6⟩=>?_)
  refine FD hp (U0 (hb _ s6 Y6 H6 _ I6 q6) λf s7 q7=>?_)
  have again:∀{Y7:St}{H7:Hp},Z8 X (pI++Le fp s5.heap) Y7 H7 s7->N Y7 H7->∃ m,m<n/\∃ i Y' H',Z8 X pI Y' H' s7/\tn i s7.heap/\(∀ b∈fp,H' b=Af)/\W i m Y' H':=λ{Y7 H7} I7 n7=>by
   obtain⟨m',hm,w7⟩:=hN Y7 H7 n7;refine⟨m',hm,i+1,Y7,H7,I7.unpinned,T.keep _ _ _ lb λb hb o e=>(I7.pin (b,o) (Br _ (Br _ (NR hb e)))).1,λb hb=>?_,w7⟩
   obtain⟨o,e,d⟩:=T.obj _ _ lb b hb;exact(I7.pin (b,o) (Br _ (Br _ (NR hb e)))).2.1
  cases f with
  |next=>obtain⟨Y7,H7,I7,n7⟩:=q7;exact again I7 n7
  |cont=>obtain⟨Y7,H7,I7,n7⟩:=q7;exact again I7 n7
  |brk=>obtain⟨Y7,H7,I7,q7⟩:=q7;exact⟨Y7,H7,I7.unpinned,q7⟩
  |ret v=>obtain⟨x7,Y7,H7,I7,r7,q7⟩:=q7;exact⟨x7,Y7,H7,I7.unpinned,r7,q7⟩
end
abbrev R2:=V->V->Hp->VK->Prop
variable{r:R2}
noncomputable def za(X:Cx)(f:Al->Al->Fo Al)(r:R2):Prop:=
 ∀(pI:Pn)(s:Ar)(Y:St)(H:Hp)(x y:V)(v u:Al)(Q:VK),Z8 X pI Y H s->Bt x v->Bt y u->r x y H Q ->
  AA (model X.prog X.w) X.A (f v u) (EP X pI Y Q) X.xe s
noncomputable def UnR(X:Cx)(f:Al->Fo Al)(r:V->Hp->VK->Prop):Prop:=
 ∀(pI:Pn)(s:Ar)(Y:St)(H:Hp)(x:V)(v:Al)(Q:VK),Z8 X pI Y H s->Bt x v->r x H Q ->
  AA (model X.prog X.w) X.A (f v) (EP X pI Y Q) X.xe s
noncomputable def Gz(X:Cx)(f:Al)(r:Ac V->Hp->VK->Prop):Prop:=
 ∀(pI:Pn)(s:Ar)(Y:St)(H:Hp)(xs:Ac V)(us:Ac Al)(Q:VK),Z8 X pI Y H s->A1 xs us->r xs H Q ->
  AA (model X.prog X.w) X.A (call f us) (EP X pI Y Q) X.xe s
noncomputable def yY(X:Cx)(r:V->Hp->(An->Hp->Prop)->Prop):Prop:=
 ∀(pI:Pn)(s:Ar)(Y:St)(H:Hp)(x:V)(v:Al)(Q:An->Hp->Prop),Z8 X pI Y H s->Bt x v->r x H Q ->
  AA (model X.prog X.w) X.A (truthy v) (TP X pI Y Q) X.xe s
def à(r:R2)(ta tb:TE):TE:=λY H Q=>ta Y H λx H1=>tb Y H1 λy H2=>r x y H2 Q
def tUn(r:V->Hp->VK->Prop)(ta:TE):TE:=λY H Q=>ta Y H λx H1=>r x H1 Q
def rI(C:Ai->Ai->Prop)(g:Ai->Ai->V):R2:=λx y H Q=>∃ i j,x=.int i/\y=.int j/\C i j/\Q (g i j) H
def o5(g:Ai->Ai->V):R2:=λx y H Q=>∃ i j,x=.int i/\y=.int j/\Q (g i j) H
def rU(g:Ai->V):V->Hp->VK->Prop:=λx H Q=>∃ i,x=.int i/\Q (g i) H
section
variable{X:Cx}{a b c:Aq}{ta tb tc:TE}{pos:AF}
theorem Se(ha:PE X a ta)(hb:PE X b tb){H:Hp}{R:V->V->Hp->Prop}(I:Z8 X pI Y H s)(h:ta Y H λx H1=>tb Y H1 λy H2=>R x y H2){Q:Vq}(hf:∀ v u s2 x y H2,Z8 X pI Y H2 s2->Bt x v->Bt y u->R x y H2->AA (model X.prog X.w) X.A (f v u) Q X.xe s2):AA (model X.prog X.w) X.A (eval a X.env) (λv s₁=>AA (model X.prog X.w) X.A (eval b X.env) (λu s₂=>AA (model X.prog X.w) X.A (f v u) Q X.xe s₂) X.xe s₁) X.xe s:=by
 refine U0 (ha pI s Y H _ I h) λv s1 ⟨x,H1,I1,r1,q1⟩=>?_
 refine U0 (hb pI s1 Y H1 _ I1 q1) λu s2 ⟨y,H2,I2,r2,q2⟩=>?_
 exact hf v u s2 x y H2 I2 r1 r2 q2
theorem Wl{op:Gr}(ho:za X (Ch op) r)(ha:PE X a ta)(hb:PE X b tb):PE X (.BinOp a op b pos) (à r ta tb):=by
 intro pI s Y H Q I h;exact wpAny_BinOp (Se ha hb I h λv u s2 x y H2 I2 rx ry q=>ho pI s2 Y H2 x y v u Q I2 rx ry q)
theorem tW{op:K1}{r:V->Hp->VK->Prop}(ho:UnR X (unaryOp op) r)(ha:PE X a ta):PE X (.UnaryOp op a pos) (tUn r ta):=by
 intro pI s Y H Q I h;exact UnaryOp_ (U0 (ha pI s Y H _ I h) λv s1 ⟨x,H1,I1,r1,q1⟩=>ho pI s1 Y H1 x v Q I1 r1 q1)
theorem Ñ{C:Ai->Ai->Prop}(rule:∀(i j:Ai)(t u:Cf)(s:Ar)(Q:Vq)(E:Vq),C i j->Q (.int (g i j) s.toks) {s with toks:=s.toks+1}->AA (model X.prog X.w) X.A (f (.int i t) (.int j u)) Q E s):za X f (rI C λi j=>.int (g i j)):=by
 intro pI s Y H x y v u Q I rx ry h;obtain⟨i,j,rfl,rfl,hc,q⟩:=h;obtain⟨t,rfl⟩:=rx;obtain⟨t',rfl⟩:=ry;exact rule i j t t' s _ _ hc ⟨.int (g i j),H,I.tok _,⟨_,rfl⟩,q⟩
theorem Xl(rule:∀(i j:Ai)(t u:Cf)(s:Ar)(Q:Vq)(E:Vq),Q (.int (g i j) s.toks) {s with toks:=s.toks+1}->AA (model X.prog X.w) X.A (f (.int i t) (.int j u)) Q E s):za X f (o5 λi j=>.int (g i j)):=by
 intro pI s Y H x y v u Q I rx ry h;obtain⟨i,j,rfl,rfl,q⟩:=h;obtain⟨t,rfl⟩:=rx;obtain⟨t',rfl⟩:=ry;exact rule i j t t' s _ _ ⟨.int (g i j),H,I.tok _,⟨_,rfl⟩,q⟩
theorem O3{g:Ai->Ai->An}(rule:∀(i j:Ai)(t u:Cf)(s:Ar)(Q:Vq)(E:Vq),Q (.bool (g i j)) s->AA (model X.prog X.w) X.A (f (.int i t) (.int j u)) Q E s):za X f (o5 λi j=>.bl (g i j)):=by
 intro pI s Y H x y v u Q I rx ry h;obtain⟨i,j,rfl,rfl,q⟩:=h;obtain⟨t,rfl⟩:=rx;obtain⟨t',rfl⟩:=ry;exact rule i j t t' s _ _ ⟨.bl (g i j),H,I,rfl,q⟩
def yG(i j:Ai):Prop:=0<j/\j<1073741824
def yF(i j:Ai):Prop:=0<=j/\j<=1000000/\i.natAbs<2 ^ 64
def Pj(i j:Ai):Prop:=(-(2 ^ 64)<i/\i<2 ^ 64)\/(-(2 ^ 64)<j/\j<2 ^ 64)
theorem Pj.ok{i j:Ai}(h:Pj i j):MC i j:=by
 rcases h with ⟨h1,h2⟩|⟨h1,h2⟩
 .exact .of_left (intBits_le_64 h1 h2)
 .exact .of_right (intBits_le_64 h1 h2)
theorem qX:za X (Ch .Add) (o5 λi j=>.int (i+j)):=Xl λ_ _ _ _ _ _ _ q=>add_int q
theorem qS:za X (Ch .Sub) (o5 λi j=>.int (i-j)):=Xl λ_ _ _ _ _ _ _ q=>sub_int q
theorem lG:za X (Ch .FloorDiv) (rI yG λi j=>.int (i/j)):=Ñ λi j _ _ _ _ _ hc q=>by
 have h1:(0:Ai)<j:=hc.1;have h2:j<1073741824:=hc.2;exact floordiv_int (by omega) (by rw[Int.fdiv_eq_ediv_of_nonneg i (by omega)];exact q) (.inl (PyProof.noPylong_small (by omega)))
theorem qV:za X (Ch .Mod) (rI (λ_ j=>0<j) λi j=>.int (i%j)):=Ñ λi j _ _ _ _ _ hc q=>by
 have h1:(0:Ai)<j:=hc;exact mod_int' (by omega) (by rw[Int.fmod_eq_emod_of_nonneg i (by omega)];exact q)
theorem qT:za X (Ch .Pow) (rI yF λi j=>.int (i ^ j.toNat)):=Ñ λ_ _ _ _ _ _ _ hc q=>pow_int_small hc.1 hc.2.1 hc.2.2 q
theorem unI{f:Al->Fo Al}{g:Ai->Ai}(rule:∀(i:Ai)(t:Cf)(s:Ar)(Q:Vq)(E:Vq),Q (.int (g i) s.toks) {s with toks:=s.toks+1}->AA (model X.prog X.w) X.A (f (.int i t)) Q E s):UnR X f (rU λi=>.int (g i)):=by
 intro pI s Y H x v Q I rx h;obtain⟨i,rfl,q⟩:=h;obtain⟨t,rfl⟩:=rx;exact rule i t s _ _ ⟨.int (g i),H,I.tok _,⟨_,rfl⟩,q⟩
theorem oP:UnR X (unaryOp .USub) (rU λi=>.int (-i)):=unI λ_ _ _ _ _ q=>neg_int q
end
section
variable{X:Cx}{a b c:Aq}{ta tb tc:TE}{pos:AF}
theorem VY{H:Hp}{Q:VK}{k k':An}(I:Z8 X pI Y H s)(q:Q (.bl k) H)(e:k=k'):EP X pI Y Q (.bool k') s:=by
 subst e;exact⟨.bl k,H,I,rfl,q⟩
theorem uC:za X (CP .Lt) (o5 λi j=>.bl (decide (i<j))):=O3 λ_ _ _ _ _ _ _ q=>lt_int q
theorem uD:za X (CP .LtE) (o5 λi j=>.bl (decide (i<=j))):=O3 λ_ _ _ _ _ _ _ q=>le_int q
theorem wS:za X (CP .Gt) (o5 λi j=>.bl (decide (j<i))):=O3 λ_ _ _ _ _ _ _ q=>gt_int q
theorem wT:za X (CP .GtE) (o5 λi j=>.bl (decide (j<=i))):=O3 λ_ _ _ _ _ _ _ q=>ge_int q
theorem qW:za X (CP .Is) (λx y H Q=>y=.O/\Q (.bl (decide (x=.O))) H):=by
 intro pI s Y H x y v u Q I rx ry h;obtain⟨rfl,q⟩:=h;cases ry;refine is_none_gen (VY I q ?_);cases x<;>first
  |(cases rx;rfl)
  |(obtain⟨t,rfl⟩:=rx;rfl)
theorem lE:za X (CP .IsNot) (λx y H Q=>y=.O/\Q (.bl (!decide (x=.O))) H):=by
 intro pI s Y H x y v u Q I rx ry h;obtain⟨rfl,q⟩:=h;cases ry;refine isnot_none_gen (VY I q ?_);cases x<;>first
  |(cases rx;rfl)
  |(obtain⟨t,rfl⟩:=rx;rfl)
theorem za.or{r':R2}(h:za X f r)(h':za X f r'):za X f (λx y H Q=>r x y H Q\/r' x y H Q):=by
 intro pI s Y H x y v u Q I rx ry q;rcases q with q|q
 .exact h pI s Y H x y v u Q I rx ry q
 .exact h' pI s Y H x y v u Q I rx ry q
theorem UB(ho:za X (CP op) r)(ha:PE X a ta)(hb:PE X b tb)(hm:HF op b=Ae):PE X (.Compare a [op] [b] pos) (à r ta tb):=by
 intro pI s Y H Q I h;exact wpAny_Compare1 (Se ha hb I h λv u s2 x y H2 I2 rx ry q=>ho pI s2 Y H2 x y v u Q I2 rx ry q) hm
def Wa(t:TE):TT:=λY H Q=>t Y H λx H'=>∃ k,x=.bl k/\Q k H'
theorem LY(ho:za X (CP op) r)(ha:PE X a ta)(hb:PE X b tb)(hm:HF op b=Ae):PT X (.Compare a [op] [b] pos) (Wa (à r ta tb)):=by
 intro pI s Y H Q I h;refine wpAny_isTrue_Compare1 (U0 (ha pI s Y H _ I h) λv s1 ⟨x,H1,I1,r1,q1⟩=>U0 (hb pI s1 Y H1 _ I1 q1) λu s2 ⟨y,H2,I2,r2,q2⟩=>
  U0 (ho pI s2 Y H2 x y v u _ I2 r1 r2 q2) λc s3 ⟨z,H3,I3,r3,k,e,q3⟩=>?_) hm
 subst e;cases r3;exact Db ⟨H3,I3,q3⟩
def oX(r r':R2)(ta tb tc:TE):TE:=λY H Q=>ta Y H λx H1=>tb Y H1 λy H2=>r x y H2 λz H3=>∃ k,z=.bl k /\
 (if k=Ab then tc Y H3 λw' H4=>r' y w' H4 Q else Q (.bl Ae) H3)
theorem eY{op':DC}{r':R2}(ho:za X (CP op) r)(oo:za X (CP op') r')(ha:PE X a ta)(hb:PE X b tb)(hc:PE X c tc)(hm:lastMarks [op,op'] [b,c]=Ae:=by with_unfolding_all rfl):PT X (.Compare a [op,op'] [b,c] pos) (Wa (oX r r' ta tb tc)):=by
 intro pI s Y H Q I h;refine isTrue_chain (U0 (ha pI s Y H _ I h) λv s1 ⟨x,H1,I1,r1,q1⟩=>test_link (U0 (hb pI s1 Y H1 _ I1 q1) λu s2 ⟨y,H2,I2,r2,q2⟩=>
  U0 (ho pI s2 Y H2 x y v u _ I2 r1 r2 q2) λd s3 ⟨z,H3,I3,r3,k,e,q3⟩=>?_)) hm
 subst e;cases r3;refine Db ?_;cases k with
 |false=>
  obtain⟨k',e',q'⟩:=q3;cases e';exact ite_ff ⟨H3,I3,q'⟩
 |true=>
  refine ite_tt (test_last (U0 (hc pI s3 Y H3 _ I3 q3) λw' s4 ⟨z',H4,I4,r4,q4⟩=>U0 (oo pI s4 Y H4 y z' u w' _ I4 r2 r4 q4) λd' s5 ⟨z2,H5,I5,r5,k2,e2,q5⟩=>?_))
  subst e2;cases r5;exact Db ⟨H5,I5,q5⟩
noncomputable def WW(K:Fg)(x:V)(H:Hp)(k:An):Prop:=
  match x with
  |.O=>k=Ae
  |.bl b=>k=b
  |.int i=>k=(i != 0)
  |.str y=>y.length<=sizeLine/\k=((y.length:Ai) != 0)
  |.byt y=>y.size<=sizeLine/\k=((y.size:Ai) != 0)
  |.ref p=>(∃ xs,Id K H p xs/\k=!xs.isEmpty)\/(∃ xs,yt K H p xs/\k=!xs.isEmpty)\/∃ kvs,H p=Aa (.dK kvs)/\k=!kvs.isEmpty
  |_=>AM
theorem aU{κ:Type}{kvs:Ac (κ×V)}{vs:Ac (κ×Al)}(r:KV kvs vs):(!vs.isEmpty)=!kvs.isEmpty:=by
 cases r<;>rfl
theorem SX{its:Ac Al}(r:A1 xs its):(!its.toArray.isEmpty)=!xs.isEmpty:=by
 cases r<;>simp
theorem Ma:(sizeLine:Ag)<2 ^ 63:=by rw[Bz];decide
theorem oR:yY X (λx H Q=>∃ k,WW X.K x H k/\Q k H):=by
 intro pI s Y H x v Q I rx h;obtain⟨k,e,q⟩:=h;have hl:=Ma;have hs:sizeLine=16777216:=Bz;cases x with
 |O=>
  cases rx;have e':k=Ae:=e;subst e';exact truthy_none ⟨H,I,q⟩
 |bl b=>
  cases rx;have e':k=b:=e;subst e';exact Db ⟨H,I,q⟩
 |int i=>
  obtain⟨t,rfl⟩:=rx;have e':k=(i != 0):=e;subst e';exact PySem.P.truthy_int ⟨H,I,q⟩
 |str y=>
  obtain⟨t,rfl⟩:=rx;obtain⟨hy,e'⟩:y.length<=sizeLine/\k=((y.length:Ai) != 0):=e;subst e';exact PySem.P.truthy_str (by omega) ⟨H,I.tok _,q⟩
 |byt y=>
  obtain⟨t,rfl⟩:=rx;obtain⟨hy,e'⟩:y.size<=sizeLine/\k=((y.size:Ai) != 0):=e;subst e';exact PySem.W.truthy_bytes (by omega) ⟨H,I.tok _,q⟩
 |ref p=>
  cases rx;have e':(∃ xs,Id X.K H p xs/\k=!xs.isEmpty)\/(∃ xs,yt X.K H p xs/\k=!xs.isEmpty)\/∃ kvs,H p=Aa (.dK kvs)/\k=!kvs.isEmpty:=e;rcases e' with ⟨xs,hx,e'⟩|⟨xs,hx,e'⟩|⟨kvs,hx,e'⟩
  .subst e';obtain⟨its,r,pl,hz⟩:=I.list hx;have U8:=r.length;exact wpAny_truthy_list pl.isList (by simp only[AX];omega) ⟨H,I.tok _,by rw[SX r];exact q⟩
  .subst e';obtain⟨its,r,pl,hz⟩:=I.tuple hx;have U8:=r.length;exact truthy_tuple pl (by simp only[AX];omega) ⟨H,I.tok _,by rw[SX r];exact q⟩
  .subst e';obtain⟨hz,hS,vs,r,m⟩:kvs.length<=sizeLine/\(p==GX)=Ae/\∃ vs,KV kvs vs/\s.heap.DictOf (Qq X.prog X.w) p vs:=I.hok p _ hx;have U8:kvs.length=vs.length:=Zl r;exact wpAny_truthy_dict hS m (by omega) ⟨H,I.tok _,by rw[aU r];exact q⟩
 |_=>exact(show AM from e).elim
theorem eX(ha:PE X a ta)(he:∀ whole,Jk a X.env whole=(do let v <-whole;standAt a.pos;holding [v] (truthy v))):PT X a (λY H Q=>ta Y H λx H'=>∃ k,WW X.K x H' k/\Q k H'):=by
 intro pI s Y H Q I h;exact isTrue_plain (U0 (ha pI s Y H _ I h) λv s1 ⟨x,H1,I1,r1,q1⟩=>oR pI s1 Y H1 x v Q I1 r1 q1) (he _)
theorem bM:za X (Ch .Add) (λx y H Q=>∃ i j,x=.str i/\y=.str j/\i.length+j.length<=sizeLine/\Q (.str (i++j)) H):=by
 intro pI s Y H x y v u Q I rx ry h;obtain⟨i,j,rfl,rfl,hz,q⟩:=h;obtain⟨t,rfl⟩:=rx;obtain⟨t',rfl⟩:=ry;exact add_str (λt' tk=>⟨.str (i++j),H,I.tok _,⟨_,rfl⟩,q⟩) hz
theorem KP{x:V}(r:A1 [x] us):∃ u,us=[u]/\Bt x u:=by
 cases r with
 |cons r1 r2=>cases r2;exact⟨_,rfl,r1⟩
theorem Li{x:V}(r:A1 [x,y] us):∃ u w',us=[u,w']/\Bt x u/\Bt y w':=by
 cases r with
 |cons r1 r2=>
  cases r2 with
  |cons r3 r4=>cases r4;exact⟨_,_,rfl,r1,r3⟩
theorem cO(hc:X.calm=Ab):Gz X (.builtin "min") (λxs H Q=>∃ i j,xs=[.int i,.int j]/\Q (.int (if j<i then j else i)) H):=by
 intro pI s Y H xs us Q I r h;obtain⟨i,j,rfl,q⟩:=h;obtain⟨u,w',rfl,⟨t,rfl⟩,⟨t',rfl⟩⟩:=Li r;refine min_two_ints (I.ok.hd hc) λh' tk k=>⟨_,H,I.kept k,?_,q⟩
 by_cases hj:j<i
 .rw[Au hj,Au hj];exact⟨_,rfl⟩
 .rw[Ay hj,Ay hj];exact⟨_,rfl⟩
theorem Sw:Gz X (.type "str") (λxs H Q=>∃ i,xs=[.int i]/\i.natAbs.log2<1920/\Q (.str (toString i)) H):=by
 intro pI s Y H xs us Q I r h;obtain⟨i,rfl,hz,q⟩:=h;obtain⟨u,rfl,t,rfl⟩:=KP r;exact PySem.P.str_of_int hz ⟨.str _,H,I.tok _,⟨_,rfl⟩,q⟩
end
structure vg (h:AJ) (x dx C:Ak) (mA:Ah->Ao Al):Prop where
 obj:h.get? x=Aa (Dw C dx)
 ns:h.Ns1 dx mA
 ne:dx≠x
theorem bO(n:h.Ns1 dx mA):∃ od,h.get? dx=Aa od/\∀ name,He name od=Aa (mA name):=by
 obtain⟨o,es,ep,ho,hd,hk,_,hm⟩:=n;refine⟨o,ho,λname=>?_⟩
 have e:=hm name;unfold nsFind findBy at e;rw[<-Xz]at e;unfold He;rw[hd];dsimp only;split
 .rename_i y q;rw[q]at e;exact congrArg Aa e
 .rename_i q;rw[q]at e;have a:es.toList.any (·.refKey)=Ae:=by
   rw[List.any_eq_false];intro y hy;obtain⟨z,t,hkey⟩:=hk y (XD.mp hy);simp[DictEntry.refKey,hkey]
  have a':¬ es.toList.any (·.refKey)=Ab:=by rw[a];exact Ax
  rw[Ay a'];exact congrArg Aa e
theorem vg.look{x:Ak}(I:vg h x dx C mA):∃ od,PySem.W.InstAt h x (Dw C dx) C (Aa od)/\∀ name,He name od=Aa (mA name):=
 let ⟨od,ho,hl⟩:=bO I.ns
 ⟨od,⟨I.obj,rfl,rfl,ho⟩,hl⟩
section
variable{prog:AK}{w:AI}{A:A4}{E:Vq}{s:Ar}{K:Fg}{x dx C f:Ak}{mA:Ah->Ao Al}{name:Ah}{v:Al}
theorem jS{expr:An}{Q:Vq}(X:K.In s.heap)(I:vg s.heap x dx C mA)(hg:D8 K C name=Ab)(hh:EA K C=Ab)(ha:At K (.ref C) name=Aa Af)(hv:mA name=Aa v)(hv':ZL v=Ab)(h:Q v {s with toks:=s.toks+1}):AA (model prog w) A (K2 (.ref x) name expr) Q E s:=by
 obtain⟨od,J,hl⟩:=I.look;exact PySem.W.get_value X J (Hc hg).1 (PySem.W.findObj_own hh ha rfl (by rw[hl,hv])) hv' h
theorem fO{Q:Al×Ac Al->Ar->Prop}(X:K.In s.heap)(I:vg s.heap x dx C mA)(hg:D8 K C name=Ab)(hf:At K (.ref C) name=Aa (Aa (.ref f)))(ht:Co K (.ref f)=Ab)(hv:mA name=Af)(h:Q (.ref f,[.ref x]) s):AA (model prog w) A (getMethod (.ref x) name pl) Q E s:=by
 obtain⟨od,J,hl⟩:=I.look;exact PySem.W.method_fn X J (Hc hg).1 (Hc hg).2 hf (AD.mp ht) (by show (He name od).map (·.isSome)=Aa Ae;rw[hl,hv];rfl) h
theorem jL{ns:Ac Ah}(X:K.In s.heap)(I:vg s.heap x dx C mA)(hs:At K (.ref C) "__setattr__" = Aa (Aa (.builtin "object.__setattr__")))(hp:F7 K C=Ab)(ht:IG K C name=Aa Af)(hh:EA K C=Ab)(hw:Kc mA ns)(hsz:ns.length<=sizeLine)(h:∀ h',vg h' x dx C (λy=>if y=name then Aa v else mA y)->FK dx s.heap h'->Q () {s with heap:=h',toks:=s.toks+2}):AA (model prog w) A (LP (.ref x) name v) Q E s:=by
  obtain⟨od,J,hl⟩:=I.look;refine PySem.W.set_plain X J hs (PySem.W.osa_open (s:={s with toks:=s.toks+1}) (r:=Af) X J hp ht λb=>?_)
  obtain⟨cd,hc,mv⟩:=PySem.W.any_some hh;have hx:s.heap.get? x=Aa ⟨.ref C,Aa dx,.plain,#[]⟩:=I.obj;refine As (A2 (As (As (Z_5 hx (As (PySem.W.Looks.here (s:={s with toks:=s.toks+1}) (PySem.W.looks_clsIn X hc) ?_))))))
  rw[mv];refine A2 (a:=Aa dx) (As (A2 (As ?_)));refine wpAny_nsSet1 (s:={s with toks:=s.toks+1}) I.ns λh' ig ou=>?_
  obtain⟨oD,esD,epD,hoD,hdD,hcD⟩:=ig.count (PySem.Within.cons name v hw);refine As (Z_6 hoD (by rw[hdD];exact ZV (B9 hcD (by rw[A8];omega))) ?_)
  exact A2 (h _ ⟨(ou.2 _ (CG I.ne)).trans I.obj,ig,I.ne⟩ ou)
theorem dF{R:Il->Ar->Prop}{vs:Ac Al}(X:K.In s.heap)(hm:GV K C=Ab)(hi:At K (.ref C) "__init__" = Aa (Aa (.ref f)))(hf:Dq K (.ref f)=Aa (.type "function"))(h:EF (model prog w) (A.under (.builtin "type.__call__" ⟨.ref C::vs,kw⟩)) (.call (.ref f) ⟨.ref (s.heap.objs.size+1)::vs,kw⟩) (PySem.W.InitBack (s.heap.objs.size+1) R)
      {s with heap:=(s.heap.push CJ).push (Dw C s.heap.objs.size)}):EF (model prog w) A (.call (.ref C) ⟨vs,kw⟩) R s:=by
  obtain⟨hh,g,d,t,os⟩:=s;exact PySem.W.make_core (PySem.W.makes_of X hm) (Cq X hi) (λself=>PySem.W.bind_fn X self hf) (.inl rfl) h
end
noncomputable def Ft(f:Ah)(v:V):Ac (Ah×V)->Ac (Ah×V)
 |[]=>[(f,v)]
 |(g,x)::r=>if g=f then (g,v)::r else (g,x)::Ft f v r
theorem So(f g:Ah)(v:V):∀ fs:Ac (Ah×V),(Ft f v fs).lookup g=if g=f then Aa v else fs.lookup g
 |[]=>by
  show B0 g [(f,v)]=_;by_cases h:g=f
  .have hb:(g==f)=Ab:=AD.mpr h;simp only[B0,hb,Au h]
  .have hb:(g==f)=Ae:=Bg.mpr h;simp only[B0,hb,Ay h]
 |(k,x)::r=>by
  have ih:=So f g v r;rw[show Ft f v ((k,x)::r)=(if k=f then (k,v)::r else (k,x)::Ft f v r) from rfl]
  by_cases hk:k=f
  .rw[Au hk];by_cases h:g=k
   .have hb:(g==k)=Ab:=AD.mpr h;simp only[B0,hb,Au (h.trans hk)]
   .have hb:(g==k)=Ae:=Bg.mpr h;simp only[B0,hb,Ay (λe:g=f=>h (e.trans hk.symm))]
  .rw[Ay hk];by_cases h:g=k
   .have hb:(g==k)=Ab:=AD.mpr h;simp only[B0,hb,Ay (λe:g=f=>hk (h.symm.trans e))]
   .have hb:(g==k)=Ae:=Bg.mpr h;simp only[B0,hb];exact ih
theorem PM(f:Ah)(v:V):∀ fs:Ac (Ah×V),f∈(Ft f v fs).map (·.1)/\∀ g,g∈fs.map (·.1)->g∈(Ft f v fs).map (·.1)
 |[]=>⟨by simp[Ft],λg h=>by simp at h⟩
 |(k,x)::r=>by
  obtain⟨i1,i2⟩:=PM f v r;rw[show Ft f v ((k,x)::r)=(if k=f then (k,v)::r else (k,x)::Ft f v r) from rfl]
  by_cases hk:k=f
  .rw[Au hk];subst hk;exact⟨by simp,λg h=>by simpa using h⟩
  .rw[Ay hk];refine⟨?_,λg h=>?_⟩
   .rw[BP];exact AE _ i1
   .rw[BP]at h ⊢;rcases A6.mp h with e|e
    .exact List.mem_cons.mpr (.inl e)
    .exact AE _ (i2 g e)
theorem Sq(f:Ah)(v:V):∀ fs:Ac (Ah×V),(Ft f v fs).length<=fs.length+1
 |[]=>by simp[Ft]
 |(k,x)::r=>by
  have ih:=Sq f v r;rw[show Ft f v ((k,x)::r)=(if k=f then (k,v)::r else (k,x)::Ft f v r) from rfl]
  by_cases hk:k=f
  .rw[Au hk,A8,A8];omega
  .rw[Ay hk,A8,A8];omega
theorem IB.some_of{o:Ao Al}(r:IB (Aa v) o):∃ u,o=Aa u/\Bt v u:=by
 cases o with
 |none=>exact(show AM from r).elim
 |some u=>exact⟨u,rfl,r⟩
theorem IB.none_of{o:Ao Al}(r:IB Af o):o=Af:=by
 cases o with
 |none=>rfl
 |some u=>exact(show AM from r).elim
theorem Td(r:Bt v u):ZL u=Ab:=by
 cases v with
 |O=>cases (show u=Dv from r);rfl
 |bl b=>cases (show u=Jo b from r);rfl
 |int i=>obtain⟨t,e⟩:=(show ∃ t,u=GH i t from r);cases e;rfl
 |str x=>obtain⟨t,e⟩:=(show ∃ t,u=Ka x t from r);cases e;rfl
 |byt b=>obtain⟨t,e⟩:=(show ∃ t,u=ZB b t from r);cases e;rfl
 |flt b=>obtain⟨t,e⟩:=(show ∃ t,u=K5 b t from r);cases e;rfl
 |ref a=>cases (show u=Bm a from r);rfl
 |ty n=>cases (show u=ZC n from r);rfl
section
variable{P:AK}{w:AI}{H H':Hp}{h h':AJ}{a C dx:Ak}{fs fs':Ac (Ah×V)}
theorem NY(hok:zd P w H h)(e:H a=Aa (.ins C dx fs)):∃ mA,vg h a dx C mA/\(∀ f,IB (fs.lookup f) (mA f))/\Kc mA (fs.map (·.1))/\fs.length<=1000/\H dx=Aa (.own a):=by
 obtain⟨d,z,ne,ob,mA,n,r,q⟩:=(show ObjOk P w H h a (.ins C dx fs) from hok a _ e)
 exact⟨mA,⟨ob,n,ne⟩,r,q,z,d⟩
end
structure we (K:Fg) (C:Ak):Prop where
 pg:D8 K C Dp=Ab
 hd:EA K C=Ab
 po:F7 K C=Ab
 sa:At K (.ref C) "__setattr__" = Aa (Aa (.builtin "object.__setattr__"))
theorem we.get{K:Fg}(c:we K C)(f:Ah):D8 K C f=Ab:=c.pg
def FP(K:Fg)(C:Ak)(f:Ah):Prop:=At K (.ref C) f=Aa Af
theorem FP.taker{K:Fg}{f:Ah}(n:FP K C f):IG K C f=Aa Af:=by
 unfold IG;rw[show At K (.ref C) f=Aa Af from n]
 rfl
structure ze (K:Fg) (C:Ak) (m:Ah) (f:Ak):Prop where
 at_:At K (.ref C) m=Aa (Aa (.ref f))
 fn:Co K (.ref f)=Ab
 kp:Ba K (.ref f)=Ab
section
variable{X:Cx}{pI:Pn}{Y:St}{H:Hp}{s:Ar}{a C dx:Ak}{fs:Ac (Ah×V)}{f:Ah}{v:V}{A:A4}{E:Vq}
theorem S4{b:An}{Q:Vq}(I:Z8 X pI Y H s)(e:H a=Aa (.ins C dx fs))(c:we X.K C)(n:FP X.K C f)(l:fs.lookup f=Aa v)(h:∀ u s',Z8 X pI Y H s'->Bt v u->Q u s'):AA (model X.prog X.w) A (K2 (.ref a) f b) Q E s:=by
 obtain⟨mA,O,r,_,_,_⟩:=NY I.hok e;obtain⟨u,hu,ru⟩:=IB.some_of (v:=v) (o:=mA f) (by rw[<-l];exact r f)
 exact jS I.kIn O (c.get f) c.hd n hu (Td ru) (h u _ (I.tok _) ru)
theorem NS{m:Ah}{g:Ak}{Q:Al×Ac Al->Ar->Prop}(I:Z8 X pI Y H s)(e:H a=Aa (.ins C dx fs))(c:we X.K C)(k:ze X.K C m g)(l:fs.lookup m=Af)(h:Q (.ref g,[.ref a]) s):AA (model X.prog X.w) A (getMethod (.ref a) m pl) Q E s:=by
 obtain⟨mA,O,r,_,_,_⟩:=NY I.hok e;have hn:mA m=Af:=IB.none_of (by rw[<-l];exact r m)
 exact fO I.kIn O (c.get m) k.at_ k.fn hn h
theorem bJ(I:Z8 X pI Y H s)(e:H a=Aa (.ins C dx fs))(c:we X.K C)(n:FP X.K C f)(hl:fs.length<1000)(ry:Bt y u)(h:∀ s',Z8 X pI Y (upd H a (.ins C dx (Ft f y fs))) s'->Q () s'):AA (model X.prog X.w) A (LP (.ref a) f u) Q E s:=by
 obtain⟨mA,O,r,wi,_,ho⟩:=NY I.hok e;have hz:(fs.map (·.1)).length<=sizeLine:=by rw[Bc,Bz];omega
 refine jL I.kIn O c.sa c.po n.taker c.hd wi hz λh' O' sb=>h _ ?_
 have hd:∃ o,h'.get? dx=Aa o:=let ⟨o,_,_,e',_⟩:=O'.ns;⟨o,e'⟩
 refine I.write (x:=a) (e:=dx) (by rw[e];exact F1) (.inr ho) (λb q hb z=>(sb.2 b hb).trans z) hd ?_
 refine⟨by rw[AQ O.ne];exact ho,?_,O.ne,O'.obj,_,O'.ns,λg=>?_,λg hg=>?_⟩
 .have:=Sq f y fs;omega
 .show IB ((Ft f y fs).lookup g) (if g=f then Aa u else mA g)
  rw[So];by_cases q:g=f
  .rw[Au q,Au q];exact ry
  .rw[Ay q,Ay q];exact r g
 .by_cases q:g=f
  .rw[q];exact(PM f y fs).1
  .refine(PM f y fs).2 g (wi g λz=>hg ?_)
   show (if g=f then Aa u else mA g)=Af
   rw[Ay q];exact z
theorem Z8.made(I:Z8 X pI Y H s):Z8 X pI Y (upd (upd H s.heap.objs.size (.own (s.heap.objs.size+1))) (s.heap.objs.size+1) (.ins C s.heap.objs.size [])) {s with heap:=(s.heap.push CJ).push (Dw C s.heap.objs.size)}:=by
  have e1:(s.heap.push CJ).get? s.heap.objs.size=Aa CJ:=Bp s.heap rfl;have e2:((s.heap.push CJ).push (Dw C s.heap.objs.size)).get? (s.heap.objs.size+1)=Aa (Dw C s.heap.objs.size):=by
    have:=Bp (s.heap.push CJ) (o:=Dw C s.heap.objs.size) rfl
    rwa [D1]at this
  have e3:(s.heap.push CJ).Ns s.heap.objs.size (λ_=>Af):=⟨CJ,#[],_,e1,rfl,(λe he=>absurd he (by simp)),λ_=>rfl⟩
  have I1:=I.laid (a:=s.heap.objs.size) (o:=.own (s.heap.objs.size+1)) (h':=s.heap.push CJ) (t':=s.toks) (λb u q=>AB _ q) (AU _) ⟨_,e1⟩
  refine I1.laid (a:=s.heap.objs.size+1) (o:=.ins C s.heap.objs.size []) (t':=s.toks) (λb u q=>AB _ q) (Yl (D1 _ _)) ?_
  have ne:s.heap.objs.size≠s.heap.objs.size+1:=BB (Gq _);refine⟨by rw[AQ ne,BO],Dt _,ne,e2,λ_=>Af,(Zg e3).at λo q=>AB _ q,λ_=>F1,λy hy=>absurd rfl hy⟩
theorem Qy{prog:AK}{w:AI}{env:B7}{f:Ah}{Q:Vq}(hb:BH e f env (eval e env)=eval e env)(h:AA (model prog w) A (eval e env) (λo s₁=>AA (model prog w) A (K2 o f Ab) Q E s₁) E s):AA (model prog w) A (eval (.Attribute e f pos) env) Q E s:=
 Attribute_any_ h (by rw[arm_eval_Attribute,hb])
end
def zE(K:Fg)(ta:TE)(f:Ah):TE:=λY H Q=>ta Y H λx H1=>∃ a C dx fs v,x=.ref a/\H1 a=Aa (.ins C dx fs)/\we K C/\FP K C f/\fs.lookup f=Aa v/\Q v H1
def zO(K:Fg)(ta tv:TE)(f:Ah):TS:=λD Y H=>tv Y H λy H1=>ta Y H1 λx H2=>∃ a C dx fs,x=.ref a/\H2 a=Aa (.ins C dx fs)/\we K C/\FP K C f/\fs.length<1000 /\
 D.nx Y (upd H2 a (.ins C dx (Ft f y fs)))
section
variable{X:Cx}{o e value:Aq}{f:Ah}{pos pos' d6:AF}{ta tv:TE}
theorem Oi(he:PE X e ta)(hb:BH e f X.env (eval e X.env)=eval e X.env):PE X (.Attribute e f pos) (zE X.K ta f):=by
 intro pI s Y H Q I h;refine Qy hb (U0 (he pI s Y H _ I h) λu s1 ⟨x,H1,I1,rx,a,C,dx,fs,v,ex,ea,c,n,l,q⟩=>?_)
 subst ex;obtain rfl:u=Bm a:=rx;exact S4 I1 ea c n l λu' s2 I2 ru=>⟨v,H1,I2,ru,q⟩
theorem IR(ha:PE X o ta)(hv:PE X value tv)(hs:Dr value (Aa (.Attribute o f pos')) pos.line X.env=pure Ae):PS X (.Assign [.Attribute o f pos'] value pos) (zO X.K ta tv f):=by
 intro pI s Y H D I h;refine ZW (U0 (hv pI s Y H _ I h) λu s1 ⟨y,H1,I1,ry,q⟩=>U0 (ha pI s1 Y H1 _ I1 q) λov s2 ⟨x,H2,I2,rx,a,C,dx,fs,ex,ea,c,n,l,q2⟩=>?_) hs
 subst ex;obtain rfl:ov=Bm a:=rx;exact bJ I2 ea c n l ry λs3 I3=>⟨Y,_,I3,q2⟩
end
section
variable{X:Cx}{pI:Pn}{Y:St}{H:Hp}{s:Ar}{A:A4}{E:Vq}{Q:Vq}{c:Al}{b:An}
inductive yd (K:Fg) (H:Hp):V->Al->Prop where
  |O:yd K H .O (.type "NoneType")
  |bl (x:An):yd K H (.bl x) (.type "bool")
  |int (i:Ai):yd K H (.int i) (.type "int")
  |str (x:Ah):yd K H (.str x) (.type "str")
  |flt (x:UInt64):yd K H (.flt x) (.type "float")
  |L {a:Ak} {xs:Ac V} (e:H a=Aa (.L xs)):yd K H (.ref a) (.type "list")
  |frz {a:Ak} {o:CZ} {xs:Ac V} (e:H a=Aa (.frz o (.L xs))):yd K H (.ref a) (.type "list")
  |H {a:Ak} {xs:Ac V} (e:H a=Aa (.H xs)):yd K H (.ref a) (.type "tuple")
  |dK {a:Ak} {kvs:Ac (Key×V)} (e:H a=Aa (.dK kvs)):yd K H (.ref a) (.type "dict")
  |dT {a:Ak} {kvs:Ac (Ac Key×V)} (e:H a=Aa (.dT kvs)):yd K H (.ref a) (.type "dict")
  |ins {a C dx:Ak} {fs:Ac (Ah×V)} (e:H a=Aa (.ins C dx fs)) (cl:we K C) (ha:At K (.ref C) "__class__" = Aa (Aa (.builtin "object.__class__")))
      (hn:C3 K (.builtin "object.__class__") "__get__" = Aa (Aa (.builtin "getset_descriptor.__get__"))) (htk:IH K (.builtin "object.__class__")=Aa Ab)
      (hm:Ck K C (.type "object")=Aa Ab):yd K H (.ref a) (.ref C)
theorem cS{x:V}{t:Al}(I:Z8 X pI Y H s)(rx:Bt x u)(ty:yd X.K H x t)(e:B8 X.K t c=Aa b)(h:∀ tk,Q (.bool b) {s with toks:=tk}):
  AA (model X.prog X.w) A (call (.builtin "isinstance") [u,c]) Q E s:=by
 cases ty with
 |O=>cases (show u=Dv from rx);exact Cp PySem.W.kitx_none I.kIn F1 e (λz=>nomatch z) h
 |bl y=>cases (show u=Jo y from rx);exact Cp PySem.W.kitx_bool I.kIn F1 e (λz=>nomatch z) h
 |int i=>obtain⟨t,q⟩:=(show ∃ t,u=GH i t from rx);cases q;exact Cp PySem.W.kitx_int I.kIn F1 e (λz=>nomatch z) h
 |str y=>obtain⟨t,q⟩:=(show ∃ t,u=Ka y t from rx);cases q;exact Cp PySem.W.kitx_str I.kIn F1 e (λz=>nomatch z) h
 |flt y=>obtain⟨t,q⟩:=(show ∃ t,u=K5 y t from rx);cases q;exact Cp PySem.W.kitx_float I.kIn F1 e (λz=>nomatch z) h
 | @L a xs ea=>
  cases (show u=Bm a from rx)
  obtain⟨_,_,n,_,h1⟩:=(show ObjOk X.prog X.w H s.heap a (.L xs) from I.hok a _ ea)
  exact Cp ZQ I.kIn ⟨_,h1,rfl⟩ e (λz=>nomatch z) h
 | @frz a ob xs ea=>
  cases (show u=Bm a from rx)
  obtain⟨_,_,_,n,_,h1⟩:=(show ObjOk X.prog X.w H s.heap a (.frz ob (.L xs)) from I.hok a _ ea)
  exact Cp ZQ I.kIn ⟨_,h1,rfl⟩ e (λz=>nomatch z) h
 | @H a xs ea=>
  cases (show u=Bm a from rx)
  obtain⟨_,_,_,p⟩:=(show ObjOk X.prog X.w H s.heap a (.H xs) from I.hok a _ ea)
  obtain⟨o,h1,h2,_⟩:=p;exact Cp PySem.W.kitx_tuple I.kIn ⟨o,h1,h2⟩ e (λz=>nomatch z) h
 | @dK a kvs ea=>
  cases (show u=Bm a from rx)
  obtain⟨_,_,vs,_,p⟩:=(show ObjOk X.prog X.w H s.heap a (.dK kvs) from I.hok a _ ea)
  obtain⟨o,es,ep,h1,h2,_⟩:=p;exact Cp ZP I.kIn ⟨o,h1,h2.1⟩ e (λz=>nomatch z) h
 | @dT a kvs ea=>
  cases (show u=Bm a from rx)
  obtain⟨_,_,xs,_,o,es,ep,h1,h2,_⟩:=(show ObjOk X.prog X.w H s.heap a (.dT kvs) from I.hok a _ ea)
  exact Cp ZP I.kIn ⟨o,h1,h2.1⟩ e (λz=>nomatch z) h
 | @ins a C dx fs ea cl ha hn htk hm=>
  cases (show u=Bm a from rx)
  obtain⟨mA,O,_⟩:=NY I.hok ea;obtain⟨od,J,_⟩:=O.look;exact Cp (PySem.W.kitx_own (cl.get _) cl.hd ha hn htk hm) I.kIn J e (λz=>nomatch z) h
end
structure U4 (k:Ag) (A:A4):Prop where
 hd:A.handled=Af
 dp:A.depth+3*k+5<Hh
 un:A.units+16*k+200<Bx
 gd:A.guards=Aa []
theorem U4.mono{j:Ag}{A:A4}(r:U4 k A)(h:j<=k):U4 j A:=⟨r.hd,by have:=r.dp;omega,by have:=r.un;omega,r.gd⟩
theorem U4.deeper{A:A4}(r:U4 (k+1) A)(env:B7):U4 k (A.deeper env):=
 ⟨r.hd,by have:=r.dp;show A.depth+1+3*k+5<_;omega,by have:=r.un;show A.units+3+16*k+200<_;omega,r.gd⟩
theorem U4.in1{A:A4}(r:U4 (k+1) A):U4 k A.in1:=
 ⟨r.hd,by have:=r.dp;show A.depth+3*k+5<_;omega,by have:=r.un;show A.units+1+16*k+200<_;omega,r.gd⟩
theorem SV{A:A4}:(A.under (.builtin "type.__call__" ⟨.ref C::us,kw⟩)).depth=A.depth+1:=by
 first|rfl|simp[J6,Code.weight,Code.isCreation,Code.isGuard,Code.isCaller,YC,J7,guardIds]
theorem SU{A:A4}:(A.under (.builtin "type.__call__" ⟨.ref C::us,kw⟩)).units=A.units+1:=by
 first|rfl|simp[J6,Code.cUnits,YC,J7]
theorem U4.make{A:A4}(r:U4 (k+1) A)(C:Ak)(us:Ac Al)(kw:Ac (Ah×Al)):U4 k (A.under (.builtin "type.__call__" ⟨.ref C::us,kw⟩)):=
 ⟨r.hd,by have:=r.dp;rw[SV];omega,by have:=r.un;rw[SU];omega,r.gd⟩
theorem U4.depth{A:A4}(r:U4 k A):A.depth<Hh:=by have:=r.dp;omega
theorem U4.units{A:A4}(r:U4 k A):A.units+64<Bx:=by have:=r.un;omega
def Ms:TA:=λ_ H Q=>Q [] H
def Lk(ta:TE)(tr:TA):TA:=λY H Q=>ta Y H λx H1=>tr Y H1 λxs H2=>Q (x::xs) H2
section
variable{X:Cx}{e:Aq}{es:Ac Aq}{te:TE}{t:TA}{pos:AF}
theorem Cb:PA X [] Ms:=λ_ _ _ _ H Q I h=>Calls.spliced_nil ⟨[],H,I,.nil,h⟩
theorem Bv(ha:PE X e te)(hr:PA X es t)(hs:Aw (e::es) X.env=(Ae,eval e X.env)::Aw es X.env:=by rfl):PA X (e::es) (Lk te t):=by
 intro pos pI s Y H Q I h;rw[hs];show AA _ _ (spliced ((Ae,eval e X.env)::Bs pos (Aw es X.env))) _ _ s;refine Calls.spliced_cons (U0 (ha pI s Y H _ I h) λu s1 ⟨x,H1,I1,r1,q1⟩=>?_)
 exact U0 (hr pos pI s1 Y H1 _ I1 q1) λus s2 ⟨xs,H2,I2,r2,q2⟩=>⟨x::xs,H2,I2,.cons r1 r2,q2⟩
def yA(t:TA):TE:=λY H Q=>t Y H λxs H1=>xs.length<=sizeLine/\∀ p,H1 p=Af->Q (.ref p) (upd H1 p (.H xs))
def zB(t:TA):TE:=λY H Q=>t Y H λxs H1=>xs.length<=sizeLine/\∀ p,H1 p=Af->Q (.ref p) (upd H1 p (.L xs))
theorem Of{x1}(h:PA X es t):PE X (.Tuple es x1 pos) (yA t):=by
 intro pI s Y H Q I hq;refine wpAny_Tuple_spliced (U0 (h pos pI s Y H _ I hq) λus s1 ⟨xs,H1,I1,r,z,q⟩=>⟨by rw[<-r.length];exact z,?_⟩)
 have hf:H1 s1.heap.objs.size=Af:=I1.hok.fresh (AU _);refine⟨.ref s1.heap.objs.size,upd H1 s1.heap.objs.size (.H xs),I1.laid (t':=s1.toks) (λb u e=>AB _ e) (AU _) ?_,rfl,q _ hf⟩
 exact⟨z,us,r,⟨_,Bp _ rfl,rfl,_,rfl⟩⟩
theorem L8(h:PA X es t):PE X (.List es pos) (zB t):=by
 intro pI s Y H Q I hq;refine wpAny_List_spliced (U0 (h pos pI s Y H _ I hq) λus s1 ⟨xs,H1,I1,r,z,q⟩=>⟨by rw[<-r.length];exact z,?_⟩)
 have hf:H1 s1.heap.objs.size=Af:=I1.hok.fresh (AU _);refine⟨.ref s1.heap.objs.size,upd H1 s1.heap.objs.size (.L xs),I1.laid (t':=s1.toks) (λb u e=>AB _ e) (AU _) ?_,rfl,q _ hf⟩
 exact⟨z,us,0,r,Bp _ rfl⟩
end
abbrev Sp:=Ac V->Hp->VK->XK->Prop
variable{sp:Sp}
abbrev CXT:=Ac B7->Hp->Ar->XK->Al->Ar->Prop
variable{CX:CXT}
structure yi (P:AK) (w:AI) (K:Fg) (mg:Ah->Ao Al) (base:AJ) (A:A4) (outer:Ac B7) (s:Ar) (H:Hp):Prop where
 frames:A.frames=Aa outer
 mod:Mod K mg base
 bs:∀ b o,base.get? b=Aa o->s.heap.get? b=Aa o/\H b=Af
 bsz:base.objs.size<=s.heap.objs.size
 funs:s.heap.FunFrames base outer
 frf:∀ b∈yu outer,H b=Af
 hok:zd P w H s.heap
 bare:FW s.gens
noncomputable def CE(outer:Ac B7)(P:AK)(w:AI)(H:Hp)(s:Ar)(Q:VK)(u:Al)(s':Ar):Prop:=
 ∃ v H',s'.os=s.os/\FW s'.gens/\Un (yu outer) [] H H' s.heap s'.heap/\zd P w H' s'.heap/\Bt v u/\Q v H'
noncomputable def CR(CX:CXT)(outer:Ac B7)(P:AK)(w:AI)(H:Hp)(s:Ar)(Q:VK)(E:XK)(r:Il)(s':Ar):Prop:=
  match r with
  |.ok (.ret u)=>CE outer P w H s Q u s'
  |.ok _=>AM
  |.error e=>CX outer H s E e s'
structure Y4 (P:AK) (w:AI) (K:Fg) (mg:Ah->Ao Al) (base:AJ) (CX:CXT) (k:Ag) (f:Ak) (fd:Bi) (ps:Ac Ah) (sp:Sp):Prop where
 len:∀ vs H Q E,sp vs H Q E->vs.length=ps.length
 run:∀(A:A4)(outer:Ac B7)(s:Ar)(H:Hp)(args:Args)(us:Ac Al)(vs:Ac V)(Q:VK)(E:XK),U4 k A->yi P w K mg base A outer s H->GE s fd args (ps.zip us)->A1 vs us->sp vs H Q E ->
  EF (model P w) A (.call (.ref f) args) (CR CX outer P w H s Q E) s
theorem Y4.mono{P:AK}{w:AI}{K:Fg}{mg:Ah->Ao Al}{base:AJ}{CX:CXT}{j k:Ag}{f:Ak}{fd:Bi}{ps:Ac Ah}{sp:Sp}(F:Y4 P w K mg base CX j f fd ps sp)(h:j<=k):Y4 P w K mg base CX k f fd ps sp:=⟨F.len,λA outer s H args us vs Q E hr=>F.run A outer s H args us vs Q E (hr.mono h)⟩
theorem Y4.imp{w:AI}{K:Fg}{mg:Ah->Ao Al}{base:AJ}{f:Ak}{sp':Sp}(F:Y4 P w K mg base CX k f fd ps sp)(h:∀ vs H Q E,sp' vs H Q E->sp vs H Q E):Y4 P w K mg base CX k f fd ps sp':=
 ⟨λvs H Q E q=>F.len vs H Q E (h _ _ _ _ q),λA outer s H args us vs Q E hr he hb hv hs=>F.run A outer s H args us vs Q E hr he hb hv (h _ _ _ _ hs)⟩
theorem yi.make{w:AI}{K:Fg}{mg:Ah->Ao Al}{base:AJ}{A:A4}{outer:Ac B7}{H:Hp}(e:yi P w K mg base A outer s H)(C:Ak)(us:Ac Al)(kw:Ac (Ah×Al)):
    yi P w K mg base (A.under (.builtin "type.__call__" ⟨.ref C::us,kw⟩)) outer s H:=⟨by first|exact e.frames|(simpa [J6,Code.envs,J7,pushEnvs] using e.frames),e.mod,e.bs,e.bsz,e.funs,e.frf,e.hok,e.bare⟩
theorem yi.in1{w:AI}{K:Fg}{mg:Ah->Ao Al}{base:AJ}{A:A4}{outer:Ac B7}{H:Hp}(e:yi P w K mg base A outer s H):yi P w K mg base A.in1 outer s H:=⟨e.frames,e.mod,e.bs,e.bsz,e.funs,e.frf,e.hok,e.bare⟩
section
variable{X:Cx}{pI:Pn}{Y:St}{H:Hp}{s s':Ar}
theorem Z8.env0(I:Z8 X pI Y H s):yi X.prog X.w X.K X.mg X.base X.A X.stack s H:=
 ⟨I.ok.frames,I.ok.mod,I.bs,B9 I.ok.bsz I.sz,I.stack,I.stkFree,I.hok,I.bare⟩
theorem Z8.after{Q:VK}(I:Z8 X pI Y H s)(h:CE X.stack X.prog X.w H s Q u s'):EP X pI Y Q u s':=by
 obtain⟨v,H',os,bare,un,hok,r,q⟩:=h;obtain⟨hh,g,d,t,os'⟩:=s';obtain rfl:os'=s.os:=os;exact⟨v,H',I.call (h':=hh) (g':=g) (d':=d) (t':=t) (ch:=[]) un hok bare (λb z=>absurd z (by simp)),r,q⟩
end
def Wb(sp:Sp)(wg:Ac V)(E:XK)(t:TA):TE:=λY H Q=>t Y H λvs H1=>sp (vs++wg) H1 Q E
def Lj(C:Ak)(m:Ah)(sp:Sp)(wg:Ac V)(E:XK)(ta:TE)(t:TA):TE:=λY H Q=>ta Y H λx H1=>∃ a dx fs,x=.ref a/\H1 a=Aa (.ins C dx fs)/\fs.lookup m=Af /\
 t Y H1 λvs H2=>sp (x::(vs++wg)) H2 Q E
def tF(C:Ak)(sp:Sp)(wg:Ac V)(E:XK)(t:TA):TE:=λY H Q=>t Y H λvs H1=>∀ x dx,H1 x=Af->H1 dx=Af->dx≠x ->
 sp (.ref x::(vs++wg)) (upd (upd H1 dx (.own x)) x (.ins C dx [])) (λv H2=>v=.O/\Q (.ref x) H2) E
noncomputable def CW(K:Fg)(fd:Bi)(ps:Ac Ah)(ds:Ac Al):Prop:=
 ∀(s:Ar)(us:Ac Al),K.In s.heap->(us++ds).length=ps.length->GE s fd ⟨us,[]⟩ (ps.zip (us++ds))
theorem CW.all{K:Fg}(h:∀ us:Ac Al,us.length=ps.length->Hg fd ⟨us,[]⟩=pure (ps.zip us)):CW K fd ps []:=λs us _ hl=>by
 rw[BA]at hl ⊢;exact .of_eq (h us hl)
def HM(CX:CXT)(X:Cx)(E:XK):Prop:=∀(pI:Pn)(Y:St)(H:Hp)(s:Ar)(e:Al)(s':Ar),Z8 X pI Y H s->CX X.stack H s E e s'->X.xe e s'
section
variable{X:Cx}{CX:CXT}{k:Ag}{f C:Ak}{fd:Bi}{ps:Ac Ah}{sp:Sp}{wg:Ac V}{ds:Ac Al}{E:XK}{x m:Ah}{p pos apos:AF}{e o:Aq}{es:Ac Aq}{ta:TE}{t:TA}
theorem Oe{H:Hp}{Q:VK}(F:Y4 X.prog X.w X.K X.mg X.base CX k f fd ps sp)(hr:U4 k X.A)(hb:CW X.K fd ps ds)(hd:A1 wg ds)(hx:HM CX X E)(I:Z8 X pI Y H s)(r:A1 vs us)(h:sp (vs++wg) H Q E):AA (model X.prog X.w) X.A (call (.ref f) us) (EP X pI Y Q) X.xe s:=by
 have r2:A1 (vs++wg) (us++ds):=r.append hd;have hl:(us++ds).length=ps.length:=by rw[<-r2.length];exact F.len _ _ _ _ h
 refine F0 (EG (F.run X.A X.stack s H ⟨us,[]⟩ (us++ds) (vs++wg) Q E hr I.env0 (hb s us I.kIn hl) r2 h) λr s' hq=>?_)
 cases r with
 |error e=>exact hx pI Y H s e s' I hq
 |ok fl=>
  cases fl with
  |ret u=>exact I.after hq
  |next=>exact A7 hq
  |brk=>exact A7 hq
  |cont=>exact A7 hq
theorem Kh(F:Y4 X.prog X.w X.K X.mg X.base CX k f fd ps sp)(hr:U4 k X.A)(hg:Gl X x)(hm:X.mg x=Aa (.ref f))(hk:Ba X.K (.ref f)=Ab)(hb:CW X.K fd ps ds)(hd:A1 wg ds)(hx:HM CX X E)(ha:PA X (e::es) t)(zw:(x==("__debug__" : Ah))=Ae:=by decide)(he:Aw (e::es) X.env=(Ae,eval e X.env)::Aw es X.env:=by rfl)(zv:(Bs pos (Aw es X.env)).any (·.1)=Ae:=by rfl):PE X (.Call (.Name x p) (e::es) [] pos) (Wb sp wg E t):=by
 intro pI s Y H Q I h;refine DJ (Jy I hg hm ?_ zw);refine DI (h₀:=X.base) I.ok.mod.kin hk (U0 (ha pos pI s Y H _ I h) λus s1 ⟨vs,H1,I1,r,q⟩=>⟨I1.kIn,?_⟩) he zv
 exact Oe F hr hb hd hx I1 r q
structure Mk (K:Fg) (C f:Ak):Prop where
 makes:GV K C=Ab
 init:At K (.ref C) "__init__" = Aa (Aa (.ref f))
 fn:Co K (.ref f)=Ab
 kp:Ba K (.ref C)=Ab
theorem T5{H:Hp}{Q:VK}(M:Mk X.K C f)(F:Y4 X.prog X.w X.K X.mg X.base CX k f fd ps sp)(hr:U4 (k+1) X.A)(hb:CW X.K fd ps ds)(hd:A1 wg ds)(hx:HM CX X E)(I:Z8 X pI Y H s)(r:A1 vs us)(h:∀ x dx,H x=Af->H dx=Af->dx≠x->sp (.ref x::(vs++wg)) (upd (upd H dx (.own x)) x (.ins C dx [])) (λv H2=>v=.O/\Q (.ref x) H2) E):AA (model X.prog X.w) X.A (call (.ref C) us) (EP X pI Y Q) X.xe s:=by
 have hq:=h (s.heap.objs.size+1) s.heap.objs.size (I.hok.fresh (K4 _)) (I.hok.fresh (AU _)) (BB (Gq _));have I2:=Z8.made (C:=C) I;have r2:A1 (V.ref (s.heap.objs.size+1)::(vs++wg)) (Bm (s.heap.objs.size+1)::(us++ds)):=.cons rfl (r.append hd);have hl:(Bm (s.heap.objs.size+1)::us++ds).length=ps.length:=by
  have e:=r2.length;rw[F.len _ _ _ _ hq]at e;exact e.symm
 refine F0 (dF (f:=f) I.kIn M.makes M.init (AD.mp M.fn) (EG (F.run _ X.stack _ _ ⟨Bm (s.heap.objs.size+1)::us,[]⟩ (Bm (s.heap.objs.size+1)::(us++ds)) _ _ E (hr.make C us [])
  (I2.env0.make C us []) (hb _ (Bm (s.heap.objs.size+1)::us) I2.kIn hl) r2 hq) λr s' bf=>?_))
 cases r with
 |error e=>exact hx pI Y _ _ e s' I2 bf
 |ok fl=>
  cases fl with
  |ret u=>
   obtain⟨v,H',I3,rv,ev,q3⟩:=I2.after bf;subst ev;exact⟨rv,⟨V.ref (s.heap.objs.size+1),H',I3,rfl,q3⟩⟩
  |next=>exact A7 bf
  |brk=>exact A7 bf
  |cont=>exact A7 bf
theorem hJ(M:Mk X.K C f)(F:Y4 X.prog X.w X.K X.mg X.base CX k f fd ps sp)(hr:U4 (k+1) X.A)(hg:Gl X x)(hm:X.mg x=Aa (.ref C))(hb:CW X.K fd ps ds)(hd:A1 wg ds)(hx:HM CX X E)(ha:PA X (e::es) t)(zw:(x==("__debug__" : Ah))=Ae:=by decide)(he:Aw (e::es) X.env=(Ae,eval e X.env)::Aw es X.env:=by rfl)(zv:(Bs pos (Aw es X.env)).any (·.1)=Ae:=by rfl):PE X (.Call (.Name x p) (e::es) [] pos) (tF C sp wg E t):=by
 intro pI s Y H Q I h;refine DJ (Jy I hg hm ?_ zw);refine DI (h₀:=X.base) I.ok.mod.kin M.kp (U0 (ha pos pI s Y H _ I h) λus s1 ⟨vs,H1,I1,r,q⟩=>⟨I1.kIn,?_⟩) he zv
 exact T5 M F hr hb hd hx I1 r q
end
section
variable{X:Cx}{CX:CXT}{k:Ag}{f C:Ak}{fd:Bi}{ps ks:Ac Ah}{sp:Sp}{E:XK}{x m:Ah}{p pos apos kpos:AF}{e o:Aq}{es:Ac Aq}{kws:Ac CB}{te ta:TE}{t tk:TA}{nm:Ao Ah}
variable{g:Ac Al->Ac Al->Ac Al}{gV:Ac V->Ac V->Ac V}
end
structure zW (N P:Ac Ah) (sc:Cc):Prop where
 kind:sc.kind=.function
 co:sc.isCoroutine=Ae
 gen:sc.isGenerator=Ae
 nd:N.Nodup
 pre:N.take P.length=P
 par:∀ x∈P,sc.names.lookup x=Aa .local\/sc.names.lookup x=Aa .cell
 nofree:∀ y∈sc.names,y.2≠.free
theorem Tl{kindOf:Ah->Ao D7}{x:Ah}:∀{binds:Ac (Ah×Al)}{m:Ah->Ao Al},(∀ v,(x,v)∉binds)->Jr kindOf binds m x=m x
 |[],_,_=>rfl
 |(n,v)::r,m,h=>by
  unfold Jr;rw[Tl λw hw=>h w (AE _ hw)]
  split
  .have:x≠n:=by rintro rfl;exact h v AY
   simp[this]
  .rfl
theorem To{kindOf:Ah->Ao D7}{x:Ah}:∀{binds:Ac (Ah×Al)}{m:Ah->Ao Al},(∀ v,(x,v)∉binds)->Jq kindOf binds m x=m x
 |[],_,_=>rfl
 |(n,v)::r,m,h=>by
  unfold Jq;rw[To λw hw=>h w (AE _ hw)]
  split
  .rfl
  .have:x≠n:=by rintro rfl;exact h v AY
   simp[this]
theorem Tn{kindOf:Ah->Ao D7}{x:Ah}{v:Al}:∀{P:Ac Ah}{vs:Ac Al}{i:Ag}{m:Ah->Ao Al},P.Nodup->P[i]?=Aa x->vs[i]?=Aa v->kindOf x=Aa .local->Jr kindOf (P.zip vs) m x=Aa v
 |[],_,_,_,_,h,_,_=>by simp at h
 |_::_,[],_,_,_,_,h,_=>by simp at h
 |p::P,w::vs,0,m,nd,h1,h2,hk=>by
  simp at h1 h2;subst h1;subst h2;show Jr kindOf ((p,w)::P.zip vs) m p=_;unfold Jr;rw[Tl λv hv=>(GO.mp nd).1 (GP hv).1,Au hk]
  simp
 |p::P,w::vs,i+1,m,nd,h1,h2,hk=>by
  show Jr kindOf ((p,w)::P.zip vs) m x=_;unfold Jr;exact Tn (i:=i) (GO.mp nd).2 (by simpa using h1) (by simpa using h2) hk
theorem Tp{kindOf:Ah->Ao D7}{x:Ah}{v:Al}:∀{P:Ac Ah}{vs:Ac Al}{i:Ag}{m:Ah->Ao Al},P.Nodup->P[i]?=Aa x->vs[i]?=Aa v->kindOf x≠Aa .local->Jq kindOf (P.zip vs) m x=Aa v
 |[],_,_,_,_,h,_,_=>by simp at h
 |_::_,[],_,_,_,_,h,_=>by simp at h
 |p::P,w::vs,0,m,nd,h1,h2,hk=>by
  simp at h1 h2;subst h1;subst h2;show Jq kindOf ((p,w)::P.zip vs) m p=_;unfold Jq;rw[To λv hv=>(GO.mp nd).1 (GP hv).1,Ay hk]
  simp
 |p::P,w::vs,i+1,m,nd,h1,h2,hk=>by
  show Jq kindOf ((p,w)::P.zip vs) m x=_;unfold Jq;exact Tp (i:=i) (GO.mp nd).2 (by simpa using h1) (by simpa using h2) hk
noncomputable def start(N:Ac Ah)(vs:Ac V):St:=vs.map Aa++EE (N.length-vs.length) Af
noncomputable def B2(CX:CXT)(P:AK)(w:AI)(K:Fg)(mg:Ah->Ao Al)(base:AJ)(N:Ac Ah)(qual:Ah)(scope:Cc)(f:Ak)(cd:Al)(A:A4)(outer:Ac B7)(s:Ar)(H:Hp)(E:XK):Cx where
 prog:=P
 w:=w
 K:=K
 mg:=mg
 base:=base
 A:=A.deeper (D3 qual scope s.heap.objs.size f cd)
 N:=N
 s₀:=s
 H₀:=H
 env:=D3 qual scope s.heap.objs.size f cd
 outer:=outer
 stack:=D3 qual scope s.heap.objs.size f cd::outer
 ex:=[]
 calm:=Ab
 fn:=λ_=>Ab
 pn:=[]
 xe:=λe s'=>AA (model P w) (A.deeper (D3 qual scope s.heap.objs.size f cd)) (leaving (D3 qual scope s.heap.objs.size f cd) e) (λ_ cw=>CX outer H s E e cw) (λe' cw=>CX outer H s E e' cw) s'
theorem Us{sc:Cc}(h:sc.names.lookup x=Aa .cell):∃ c,(CO n sc.names []).lookup x=Aa c:=by
 have q:=Gi sc.names n [] (.inl h);exact CA.mp q
theorem PN{w:AI}{K:Fg}{mg:Ah->Ao Al}{base:AJ}{N ps:Ac Ah}{f:Ak}{cd:Al}{A:A4}{outer:Ac B7}{s1:Ar}{H:Hp}{E:XK}(S:zW N ps scope)(hd:A.handled=Af)(e0:yi P w K mg base A outer s H)(hl:vs.length=ps.length)(r:A1 vs us)(x:InCallC s s.heap.objs.size (Jr (D3 qual scope s.heap.objs.size f cd).kindOf (ps.zip us) λ_=>Af) (CO (s.heap.objs.size+1) scope.names []) (Jq (D3 qual scope s.heap.objs.size f cd).kindOf (ps.zip us) λ_=>Af) s1):Z8 (B2 CX P w K mg base N qual scope f cd A outer s H E) [] (start N vs) H s1:=by
 have zv:ps.length<=N.length:=by have:=congrArg X6 S.pre;rw[Ie]at this;omega
 obtain⟨h1,tk,rfl,hk⟩:=x.done;have bw:∀ b:Ak,b∉(B2 CX P w K mg base N qual scope f cd A outer s H E).ex:=λb z=>absurd (show b∈([]:Ac Ak) from z) (by simp)
 refine⟨⟨e0.mod,S.kind,rfl,rfl,AU _,λy z c h1 h2=>?_,λy hy=>?_,λy c _ h=>?_,λ_=>hd,Around.frames_deeper e0.frames,.inr ⟨rfl,rfl⟩,λb z=>absurd z (bw b),e0.bs,e0.bsz,λb _ _=>bw b,λb z=>absurd z (bw b),e0.funs,e0.frf⟩,
  rfl,e0.bare,Un.kept hk,⟨_,x.toInCall.ns,λi y v h1 h2 h3=>?_⟩,λy c h=>⟨_,x.cell y c h⟩,e0.hok.fresh (AU _),λy c h=>?_,λp hp=>absurd (show p∈([]:Pn) from hp) (by simp),e0.hok.kept hk,?_⟩
 .exact name_of_addr x.apart (CK h1) (CK h2)
 .have hy:scope.names.lookup y=Aa .cell\/scope.names.lookup y=Aa .free:=hy;rcases hy with hy|hy
  .exact Us hy
  .exact absurd rfl (S.nofree _ (CK hy))
 .exact GR (x.above y c (CK h))
 .have hi:i<vs.length:=by
   unfold start at h2;by_cases hi:i<vs.length
   .exact hi
   .rw[X3 (by simpa using hi)]at h2
    rw[X4]at h2;split at h2<;>cases h2
  have ha:vs[i]?=Aa v:=by
   unfold start at h2;rw[Fw (by simpa using hi),Ez]at h2
   cases e:vs[i]? with
   |none=>rw[e]at h2;cases h2
   |some a=>rw[e]at h2;cases h2;rfl
  obtain⟨u,hu,rv⟩:=r.get ha;have hp:ps[i]?=Aa y:=by
   rw[<-S.pre,List.getElem?_take_of_lt (by omega)];exact h1
  have ndP:ps.Nodup:=by rw[<-S.pre];exact S.nd.sublist (List.take_sublist _ _)
  refine⟨u,rv,?_⟩;rcases S.par y (GN hp) with k|k
  .exact .inl ⟨k,Tn ndP hp hu k⟩
  .obtain⟨c,e⟩:=Us (n:=s.heap.objs.size+1) k;refine .inr ⟨.inl k,c,e,?_⟩;have q:=x.cell y c e;rw[Tp ndP hp hu (by show scope.names.lookup y≠_;rw[k];decide)]at q
   exact q
 .exact e0.hok.fresh (GR (x.above y c (CK h)))
 .unfold start;show _=N.length;rw[BW,Bc,Yb];omega
theorem Hr{w:AI}{K:Fg}{mg:Ah->Ao Al}{base:AJ}{f:Ak}{name:Ah}{params:Mw}{dV kV doc pm cdv ct oc:Al}{an od:Ao Ak}{osl:Bl (Ao Al)}{N ps:Ac Ah}(lk:K.lookup f=Aa ⟨oc,od,.func (B4 name qual params body scope dV kV doc pm an cdv ct),osl⟩)(zu:DE K cdv qual=Ab)(S:zW N ps scope)(len:∀ vs H Q E,sp vs H Q E->vs.length=ps.length)(wj:∀(A:A4)(outer:Ac B7)(s:Ar)(H:Hp)(vs:Ac V)(Q:VK)(E:XK),U4 k (A.deeper (D3 qual scope s.heap.objs.size f cdv))->sp vs H Q E ->
   ∃ t,yj (B2 CX P w K mg base N qual scope f cdv A outer s H E) body t/\t {nx:=λ_ H'=>Q .O H',rt:=Q} (start N vs) H):Y4 P w K mg base CX (k+1) f (B4 name qual params body scope dV kV doc pm an cdv ct) ps sp:=by
 refine⟨len,λA outer s H args us vs Q E hr e0 hb r rh=>?_⟩
 have hl:=len _ _ _ _ rh;have KX:K.In s.heap:=e0.mod.kin.keeps λb o e=>(e0.bs b o e).1
 have lim:s.heap.NoLimit:=e0.mod.nolimit.keeps λb o e=>(e0.bs b o e).1
 have wl:∀ y∈ps.zip us,scope.names.lookup y.1=Aa .local\/(scope.names.lookup y.1=Aa .cell/\((CO (s.heap.objs.size+1) scope.names []).lookup y.1).isSome=Ab):=λ⟨n,v⟩ hy=>by
  rcases S.par n (GP hy).1 with q|q
  .exact .inl q
  .exact .inr ⟨q,Gi _ _ _ (.inl q)⟩
 refine GI hr.depth (KX _ _ lk) rfl S.co S.gen rfl (HA KX zu) (hb _ _ _ _ ?_);refine Fh S.kind wl λenv he s1 x=>?_
 subst he;refine⟨lim.keeps x.toInCall.keep,Kd ?_⟩;obtain⟨t,ht,hq⟩:=wj A outer s H vs Q E (hr.deeper _) rh;have I:Z8 (B2 CX P w K mg base N qual scope f cdv A outer s H E) [] (start N vs) H s1:=PN S hr.hd e0 hl r x;refine Bj (ht [] s1 (start N vs) H _ I hq) (λfl s' hs=>?_) λe s' hs=>hs
 have fin:∀{Y':St}{H':Hp}{v:V}{u:Al},Z8 (B2 CX P w K mg base N qual scope f cdv A outer s H E) [] Y' H' s'->Bt v u->Q v H'->CE outer P w H s Q u s':=
  λ{Y' H' v u} J rv q=>⟨v,H',J.os,J.bare,J.base,J.hok,rv,q⟩
 cases fl with
 |ret u=>
  obtain⟨v,Y',H',J,rv,q⟩:=hs;exact fin J rv q
 |next=>
  obtain⟨Y',H',J,q⟩:=hs;exact fin (v:=V.O) (u:=Dv) J rfl q
 |brk=>
  obtain⟨_,_,_,q⟩:=hs;exact A7 q
 |cont=>
  obtain⟨_,_,_,q⟩:=hs;exact A7 q
section
variable{X:Cx}{x:Ah}{p pos:AF}{e:Aq}{es:Ac Aq}{t:TA}{id T:CQ}{r:Ac V->Hp->VK->Prop}
def tCB(r:Ac V->Hp->VK->Prop)(t:TA):TE:=λY H Q=>t Y H λvs H1=>r vs H1 Q
theorem Kl(hc:Gz X (.builtin id) r)(hg:Gl X x)(hm:X.mg x=Af)(hv:Dg x=Aa (.builtin id))(ha:PA X (e::es) t)(hn:x≠"__name__" := by decide)(zw:(x==("__debug__" : Ah))=Ae:=by decide)(he:Aw (e::es) X.env=(Ae,eval e X.env)::Aw es X.env:=by rfl)(zv:(Bs pos (Aw es X.env)).any (·.1)=Ae:=by rfl):PE X (.Call (.Name x p) (e::es) [] pos) (tCB r t):=by
 intro pI s Y H Q I h;refine DJ (M4 I hg hm hv ?_ hn zw);exact PyProof.Rows.callWith_builtin1 (U0 (ha pos pI s Y H _ I h) λus s1 ⟨vs,H1,I1,r1,q1⟩=>hc pI s1 Y H1 vs us Q I1 r1 q1) he zv
theorem PL(hc:Gz X (.type T) r)(hg:Gl X x)(hm:X.mg x=Af)(hv:Dg x=Aa (.type T))(ha:PA X (e::es) t)(hn:x≠"__name__" := by decide)(zw:(x==("__debug__" : Ah))=Ae:=by decide)(he:Aw (e::es) X.env=(Ae,eval e X.env)::Aw es X.env:=by rfl)(zv:(Bs pos (Aw es X.env)).any (·.1)=Ae:=by rfl):PE X (.Call (.Name x p) (e::es) [] pos) (tCB r t):=by
 intro pI s Y H Q I h;refine DJ (M4 I hg hm hv ?_ hn zw);exact EO (U0 (ha pos pI s Y H _ I h) λus s1 ⟨vs,H1,I1,r1,q1⟩=>hc pI s1 Y H1 vs us Q I1 r1 q1) he zv
end
end L2
namespace HT
open PySem PyProof.Rows
variable{sl:Ak}
section
open PySem.SeqAt
open PySem.AutoSeq1 (wpAny_loadPart')
open PySem.MeetsSeq PySem.MeetsSeq2 PySem.MeetsSeq3
end
section
variable{prog:AK}{w:AI}{A:A4}{E:Vq}{s:Ar}
theorem cat_tup{t b:Ak}{vs ws:Ac Al}{Q:Vq}(ht:LI s.heap t vs.toArray)(hb:LI s.heap b ws.toArray)(hv:vs≠[])(h1:ws=[]->Q (.ref t) s)(h2:ws≠[]->Q (.ref s.heap.objs.size) { s with heap:=s.heap.push { cls:=.type "tuple",data:=.seq (vs++ws).toArray } })(hsz:vs.length+ws.length<=sizeLine):AA (model prog w) A (Ch .Add (.ref t) (.ref b)) Q E s:=by
 obtain⟨⟨cls,dd,data,sl⟩,ho,hc,n,hd⟩:=id ht;obtain⟨⟨cls2,ð,data2,Ý⟩,Æ,hc2,n2,hd2⟩:=id hb;simp only at hc hd hc2 hd2;subst hc hd hc2 hd2;have e:vs.toArray++ws.toArray=(vs++ws).toArray:=by simp
 by_cases hw:ws=[]
 .exact Ke ⟨_,ho,rfl⟩ ⟨_,Æ,rfl⟩ ZU seq_tuple_add Zc Y_7 (Y_5 _ _)
   (tuple_addW1 t b vs.toArray ws.toArray n n2 dd ð sl Ý (by simpa using hv) (by simp[hw])) ⟨ho,Æ,h1 hw⟩
 .refine Ke ⟨_,ho,rfl⟩ ⟨_,Æ,rfl⟩ ZU seq_tuple_add Zc Y_7 (Y_5 _ _)
   (tuple_addW2 t b vs.toArray ws.toArray n n2 dd ð sl Ý (by simpa using hv) (by simpa using hw) (by rw[AX,AX];exact hsz)) ⟨ho,Æ,?_⟩
  rw[e];exact h2 hw
noncomputable def sIx(n d:Ag):Ao Ai->Ag
 |none=>d
 |some v=>if v<0 then (v+(n:Ai)).toNat else min v.toNat n
theorem mY(n d:Ag)(hd:d<=n)(o:Ao Ai):sIx n d o<=n:=by
 cases o with
 |none=>exact hd
 |some v=>
  show (if v<0 then (v+(n:Ai)).toNat else min v.toNat n)<=n
  by_cases hv:v<0
  .rw[Au hv];omega
  .rw[Ay hv];exact Nat.min_le_right _ _
theorem UY(v:Ai)(n d:Ag):(if v<0 then max (v+(n:Ai)) 0 else min v (n:Ai))=((sIx n d (Aa v):Ag):Ai):=by
 show (if v<0 then max (v+(n:Ai)) 0 else min v (n:Ai))=(((if v<0 then (v+(n:Ai)).toNat else min v.toNat n):Ag):Ai)
 by_cases hv:v<0
 .simp only[Au hv];omega
 .simp only[Ay hv];omega
theorem aY(lo hi:Ao Ai)(n:Ag):FA lo hi 1 (n:Ai)=(((sIx n 0 lo:Ag):Ai),((sIx n n hi:Ag):Ai)):=by
 have h1:¬ ((1:Ai)<0):=by omega
 unfold FA;simp only[h1,JT];refine MA ?_ ?_
 .cases lo with
  |none=>rfl
  |some v=>exact UY v n 0
 .cases hi with
  |none=>rfl
  |some v=>exact UY v n n
theorem bL(i j:Ag):DY (i:Ai) (j:Ai) 1=j-i:=by
 unfold DY;have h1:(1:Ai)>0:=by omega
 simp only[h1,EN,Int.ediv_one];split<;>omega
theorem SN{v:Al}{o:Ao Ai}{Q:Ao Ai->Ar->Prop}(p:Hz v o)(h:Q o s):AA (model prog w) A (Builtin.Slice.slicePartIndex v) Q E s:=by
 cases p with
 |none=>exact Yv h
 |int i t=>exact slicePart_int h
theorem aE{vl vu:Al}{lo hi:Ao Ai}{n:Ag}{Q:Ai×Ai×Ag->Ar->Prop}(hs:s.heap.IsSliceOf sl vl vu .none)(pl:Hz vl lo)(pu:Hz vu hi)(h:Q (((sIx n 0 lo:Ag):Ai),1,sIx n n hi-sIx n 0 lo) s):AA (model prog w) A (Yz (.ref sl) (pure (n:Ai))) Q E s:=by
 obtain⟨os,az,hcs,Ä⟩:=id hs;unfold Yz Builtin.Slice.sliceFields;refine As (As (Fk az Ä (x:=vl) rfl (As (Fk az Ä (x:=vu) rfl (As (Fk az Ä (x:=.none) rfl (A2 ?_)))))));refine As (Yv ?_);show AA _ _ (if ((1:Ai)==0)=Ab then _ else _) _ _ s
 rw[Ay (by decide)]
 refine As (SN pl (As (SN pu (As (A2 ?_)))));show AA _ _ (match FA lo hi 1 (n:Ai) with|(lo,hi)=>pure (lo,(1:Ai),DY lo hi 1)) _ _ s
 rw[aY lo hi n];show AA _ _ (pure (((sIx n 0 lo:Ag):Ai),(1:Ai),DY ((sIx n 0 lo:Ag):Ai) ((sIx n n hi:Ag):Ai) 1)) _ _ s;rw[bL];exact A2 h
theorem eZ(xs:Bl Al)(i k:Ag):((BR k).filterMap fun(m:Ag)=>xs[((i:Ai)+(m:Ai)*1).toNat]?).toArray=((xs.toList.drop i).take k).toArray:=by
 have e:(fun(m:Ag)=>xs[((i:Ai)+(m:Ai)*1).toNat]?)=λm=>xs[i+m]?:=by
  funext m
  have:((i:Ai)+(m:Ai)*1).toNat=i+m:=by omega
  rw[this]
 rw[e];have:=pick_run xs i k;rw[List.filterMap_map]at this;have e2:((λx=>xs[x]?) ∘ λx=>i+x)=λm=>xs[i+m]?:=rfl
 rw[e2]at this;rw[this]
theorem getItem_tuple_cut{t:Ak}{items:Bl Al}{vl vu:Al}{lo hi:Ao Ai}{Q:Vq}(ht:LI s.heap t items)(hs:s.heap.IsSliceOf sl vl vu .none)(pl:Hz vl lo)(pu:Hz vu hi)(hw:¬ (sIx items.size 0 lo=0/\sIx items.size items.size hi=items.size))(h:Q (.ref s.heap.objs.size) { s with heap:=s.heap.push { cls:=.type "tuple",data:=.seq ((items.toList.drop (sIx items.size 0 lo)).take (sIx items.size items.size hi-sIx items.size 0 lo)).toArray } })(hsz:items.size<=sizeLine):AA (model prog w) A (K3 (.ref t) (.ref sl)) Q E s:=by
 have u9:sizeOk (.seq ((items.toList.drop (sIx items.size 0 lo)).take (sIx items.size items.size hi-sIx items.size 0 lo)).toArray):=by
  show ((items.toList.drop (sIx items.size 0 lo)).take (sIx items.size items.size hi-sIx items.size 0 lo)).toArray.size<=sizeLine;rw[AX,Ie,X7,Ha];omega
 have hj:sIx items.size items.size hi<=items.size:=mY _ _ (AU _) hi;obtain⟨os,az,hcs,Ä⟩:=id hs;have hTs:s.TypeIs (.ref sl) "slice" := ⟨os,az,hcs⟩;unfold K3
 try with_reducible refine Cm ?_
 first|refine As (A2 ?_)|skip
 refine As (wpAny_sequenceKey ht.typeIs (by decide) ?_)
 refine As (wpAny_callSpecial?_slot (name:=Aj "__getitem__") ht.typeIs Yw
  (wpAny_call_entry Yw ht.typeIs entry_tuple_getitem ?_ (args_tuple_getitem _ _)))
 show AA _ _ (Builtin.Tuple.tupleItemsOf (.ref t) >>= _) _ _ s;refine As (tupleItemsOf_ ht ?_);refine As (wpAny_typeOf hTs ?_);rw[Au (by decide)]
 refine As (aE hs pl pu ?_);have hno:¬ ((((sIx items.size 0 lo:Ag):Ai)==0&&(1:Ai)==1&&(sIx items.size items.size hi-sIx items.size 0 lo)==items.size)=Ab):=by
  intro q;rw[Am,Am]at q;have q1:((sIx items.size 0 lo:Ag):Ai)=0:=eq_of_beq q.1.1;have q2:sIx items.size items.size hi-sIx items.size 0 lo=items.size:=eq_of_beq q.2;exact hw ⟨by omega,by omega⟩
 show AA _ _ (if (((sIx items.size 0 lo:Ag):Ai)==0&&(1:Ai)==1&&(sIx items.size items.size hi-sIx items.size 0 lo)==items.size)=Ab then _ else _) _ _ s
 rw[Ay hno,eZ]
 first
  |exact As (m:=D4 _) (DV (A2 ⟨_,rfl,A2 h⟩) u9)
  |exact As (m:=D4 _) (DV (As (A2 (A2 ⟨_,rfl,A2 h⟩))) u9)
  |exact As (As (m:=D4 _) (DV (A2 (A2 ⟨_,rfl,A2 h⟩)) u9))
  |exact As (As (m:=D4 _) (DV (A2 ⟨_,rfl,A2 h⟩) u9))
end
end HT
namespace L2
open PySem PySem.Spec PyProof.Rows
variable{r:V->Ao Ai->Ao Ai->Hp->VK->Prop}{xs:Ac V}{us its:Ac Al}{n t':Ag}{i:Ai}{α:Type}
abbrev TO:=St->Hp->(Ao Ai->Hp->Prop)->Prop
noncomputable def PO(X:Cx)(e:Ao Aq)(t:TO):Prop:=
 ∀(pI:Pn)(s:Ar)(Y:St)(H:Hp)(Q:Ao Ai->Hp->Prop),Z8 X pI Y H s->t Y H Q ->
  AA (model X.prog X.w) X.A (evalPart e X.env) (λu s'=>∃ o H',Z8 X pI Y H' s'/\Hz u o/\Q o H') X.xe s
def iX:TO:=λ_ H Q=>Q Af H
def tD(t:TE):TO:=λY H Q=>t Y H λx H1=>∃ i,x=.int i/\Q (Aa i) H1
section
variable{X:Cx}{e:Aq}{te:TE}{lo hi:Ao Aq}{tl th:TO}{pos p2:AF}
theorem gY:PO X Af iX:=by
 intro pI s Y H Q I h;rw[evalPart_none];exact A2 ⟨Af,H,I,.none,h⟩
theorem gX(h:PE X e te):PO X (Aa e) (tD te):=by
 intro pI s Y H Q I hw;rw[evalPart_some];refine U0 (h pI s Y H _ I hw) λu s1 ⟨x,H1,I1,r1,q1⟩=>?_
 obtain⟨i,rfl,q⟩:=q1;obtain⟨t,rfl⟩:=r1;exact⟨Aa i,H1,I1,.int i t,q⟩
noncomputable def pz(X:Cx)(r:V->Ao Ai->Ao Ai->Hp->VK->Prop):Prop:=
 ∀(pI:Pn)(s:Ar)(Y:St)(H:Hp)(x:V)(v vl vu:Al)(lo hi:Ao Ai)(sl:Ak)(Q:VK),Z8 X pI Y H s->Bt x v->s.heap.IsSliceOf sl vl vu .none->Hz vl lo->Hz vu hi->r x lo hi H Q ->
  ∃ T id,typeLookup (.type T) "__getitem__" = pure (Aa (.builtin id))/\s.TypeIs v T/\AA (model X.prog X.w) X.A (K3 v (.ref sl)) (EP X pI Y Q) X.xe s
theorem pz.or{r':V->Ao Ai->Ao Ai->Hp->VK->Prop}(h:pz X r)(h':pz X r'):pz X (λx lo hi H Q=>r x lo hi H Q\/r' x lo hi H Q):=by
 intro pI s Y H x v vl vu lo hi sl Q I rx hs pl pu q;rcases q with q|q
 .exact h pI s Y H x v vl vu lo hi sl Q I rx hs pl pu q
 .exact h' pI s Y H x v vl vu lo hi sl Q I rx hs pl pu q
def tSl(r:V->Ao Ai->Ao Ai->Hp->VK->Prop)(te:TE)(tl th:TO):TE:=λY H Q=>te Y H λx H1=>tl Y H1 λl H2=>th Y H2 λu H3=>r x l u H3 Q
theorem fB(hr:pz X r)(he:PE X e te)(hl:PO X lo tl)(hu:PO X hi th):PE X (.Subscript e (.Slice lo hi Af p2) pos) (tSl r te tl th):=by
 intro pI s Y H Q I h;refine Subscript_ (U0 (he pI s Y H _ I h) λv s1 ⟨x,H1,I1,r1,q1⟩=>?_)
 refine wpAny_Slice (U0 (hl pI s1 Y H1 _ I1 q1) λvl s2 ⟨l,H2,I2,pl,q2⟩=>U0 (hu pI s2 Y H2 _ I2 q2) λvu s3 ⟨u,H3,I3,pu,q3⟩=>?_)
 rw[evalPart_none];refine A2 ?_;have I4:Z8 X pI Y H3 { s3 with heap:=s3.heap.push { cls:=.type "slice",data:=.fields #[vl,vu,.none] } }:=I3.kept (t':=s3.toks) λb ob q=>AB _ q
 obtain⟨T,id,hT,ht,hg⟩:=hr pI { s3 with heap:=s3.heap.push { cls:=.type "slice",data:=.fields #[vl,vu,.none] } } Y H3 x v vl vu l u s3.heap.objs.size Q I4 r1 (Heap.IsSliceOf.new ..) pl pu q3
 show AA (model X.prog X.w) X.A (subscriptTail e (.Slice lo hi Af p2) v (.ref s3.heap.objs.size)) (EP X pI Y Q) X.xe { s3 with heap:=s3.heap.push { cls:=.type "slice",data:=.fields #[vl,vu,.none] } }
 exact tail_any (ops:=[.ref s3.heap.objs.size,v]) ht hT hg (by with_unfolding_all rfl)
noncomputable def K0(xs:Ac V)(lo hi:Ao Ai):Ac V:=(xs.drop (HT.sIx xs.length 0 lo)).take (HT.sIx xs.length xs.length hi-HT.sIx xs.length 0 lo)
theorem Sr(xs:Ac V)(lo hi:Ao Ai):(K0 xs lo hi).length<=xs.length:=by
 unfold K0;rw[Ie,X7];omega
def Xd(K:Fg):V->Ao Ai->Ao Ai->Hp->VK->Prop:=λx lo hi H Q=>∃ a xs,x=.ref a/\yt K H a xs /\
 ¬ (HT.sIx xs.length 0 lo=0/\HT.sIx xs.length xs.length hi=xs.length)/\∀ p,H p=Af->Q (.ref p) (upd H p (.H (K0 xs lo hi)))
theorem nU:pz X (Xd X.K):=by
 intro pI s Y H x v vl vu lo hi sl Q I rx hs pl pu h;obtain⟨a,xs,rfl,hx,hw,q⟩:=h;cases rx;obtain⟨its,r,ht,hz⟩:=I.tuple hx;have U8:its.toArray.size=xs.length:=by rw[AX];exact r.length.symm
 refine⟨"tuple",_,PyProof.Rows.slot_tuple_getitem.lookup,ht.typeIs,?_⟩;refine HT.getItem_tuple_cut ht hs pl pu (by rw[U8];exact hw) ?_ (by rw[U8];exact hz)
 rw[U8];refine⟨.ref s.heap.objs.size,_,I.laid (t':=s.toks) (o:=.H (K0 xs lo hi)) (λb ob q=>AB _ q) (AU _) ?_,rfl,q _ (I.hok.fresh (AU _))⟩
 exact⟨B9 (Sr xs lo hi) hz,_,(r.drop (HT.sIx xs.length 0 lo)).take (HT.sIx xs.length xs.length hi-HT.sIx xs.length 0 lo),Mv _ _⟩
def uX(K:Fg):R2:=λx y H Q=>∃ a b xs ys,x=.ref a/\y=.ref b/\yt K H a xs/\yt K H b ys/\xs≠[]/\xs.length+ys.length<=sizeLine /\
 (ys=[]->Q (.ref a) H)/\(ys≠[]->∀ p,H p=Af->Q (.ref p) (upd H p (.H (xs++ys))))
theorem A1.nil_iff(r:A1 xs us):us=[]↔xs=[]:=by
 cases r with
 |nil=>simp
 |cons _ _=>simp
theorem lH:za X (Ch .Add) (uX X.K):=by
 intro pI s Y H x y v u Q I rx ry h;obtain⟨a,b,xs,ys,rfl,rfl,ha,hb,hx,hz,q1,q2⟩:=h;cases rx;cases ry;obtain⟨its,r1,p1,_⟩:=I.tuple ha;obtain⟨zo,r2,p2,_⟩:=I.tuple hb;refine HT.cat_tup p1 p2 (λz=>hx (r1.nil_iff.mp z)) (λz=>⟨.ref a,H,I,rfl,q1 (r2.nil_iff.mp z)⟩) (λz=>?_) (by rw[<-r1.length,<-r2.length];exact hz)
 refine⟨.ref s.heap.objs.size,_,I.laid (t':=s.toks) (o:=.H (xs++ys)) (λb ob q=>AB _ q) (AU _) ?_,rfl,q2 (λw=>z (r2.nil_iff.mpr w)) _ (I.hok.fresh (AU _))⟩
 exact⟨by rw[BW];exact hz,_,r1.append r2,Mv _ _⟩
end
noncomputable def io(n:Ag)(i:Ai):Ao Ag:=if 0<=i then (if i<n then Aa i.toNat else Af) else if -(n:Ai)<=i then Aa (i+n).toNat else Af
noncomputable def vj{α:Type}(xs:Ac α)(i:Ai):Ao α:=(io xs.length i).bind λj=>xs[j]?
theorem kJ{j:Ag}(h:io n i=Aa j):seqIndex? i n=Aa j/\j<n/\-(n:Ai)<=i/\i<n:=by
 unfold io at h;by_cases h0:0<=i
 .rw[Au h0]at h;by_cases h1:i<n
  .rw[Au h1]at h;have e:i.toNat=j:=BD h;exact⟨by rw[seqIndex_of h0 h1,e],by omega,by omega,h1⟩
  .rw[Ay h1]at h;cases h
 .rw[Ay h0]at h;by_cases h1:-(n:Ai)<=i
  .rw[Au h1]at h;have e:(i+n).toNat=j:=BD h;exact⟨by rw[seqIndex_neg (by omega) h1,e],by omega,h1,by omega⟩
  .rw[Ay h1]at h;cases h
theorem Qz{xs:Ac α}{v:α}(h:vj xs i=Aa v):∃ j,seqIndex? i xs.length=Aa j/\xs[j]?=Aa v/\j<xs.length/\-(xs.length:Ai)<=i/\i<xs.length:=by
 unfold vj at h;cases e:io xs.length i with
 |none=>rw[e]at h;cases h
 |some j=>
  rw[e]at h;obtain⟨h1,h2,h3,h4⟩:=kJ e;exact⟨j,h1,h,h2,h3,h4⟩
def N9(b:Aq):Prop:=∀ o i,subscripted b Ae o i=operate [o,i] (K3 o i)
noncomputable def pf(X:Cx)(r:R2):Prop:=
 ∀(value slice:Aq)(pI:Pn)(s:Ar)(Y:St)(H:Hp)(x y:V)(v u:Al)(Q:VK),Z8 X pI Y H s->Bt x v->Bt y u->r x y H Q ->
  subscripted slice Ae v u=operate [v,u] (K3 v u)->AA (model X.prog X.w) X.A (subscriptTail value slice v u) (EP X pI Y Q) X.xe s
noncomputable def pj(X:Cx)(id:CQ)(r:V->Ac V->Hp->VK->Prop):Prop:=
 ∀(pI:Pn)(s:Ar)(Y:St)(H:Hp)(x:V)(xs:Ac V)(v:Al)(us:Ac Al)(Q:VK),Z8 X pI Y H s->Bt x v->A1 xs us->r x xs H Q ->
  AA (model X.prog X.w) X.A (call (.builtin id) (v::us)) (EP X pI Y Q) X.xe s
section
variable{X:Cx}{a b:Aq}{ta tb:TE}{pos:AF}
theorem pf.or{r r':R2}(h:pf X r)(h':pf X r'):pf X (λx y H Q=>r x y H Q\/r' x y H Q):=by
 intro value slice pI s Y H x y v u Q I rx ry q hs;rcases q with q|q
 .exact h value slice pI s Y H x y v u Q I rx ry q hs
 .exact h' value slice pI s Y H x y v u Q I rx ry q hs
theorem pj.or{id:CQ}{r r':V->Ac V->Hp->VK->Prop}(h:pj X id r)(h':pj X id r'):pj X id (λx xs H Q=>r x xs H Q\/r' x xs H Q):=by
 intro pI s Y H x xs v us Q I rx rs q;rcases q with q|q
 .exact h pI s Y H x xs v us Q I rx rs q
 .exact h' pI s Y H x xs v us Q I rx rs q
theorem Rb{r:R2}(hr:pf X r)(ha:PE X a ta)(hb:PE X b tb)(hs:N9 b):PE X (.Subscript a b pos) (à r ta tb):=by
 intro pI s Y H Q I h;exact Subscript_ (Se ha hb I h λv u s2 x y H2 I2 rx ry q=>hr a b pI s2 Y H2 x y v u Q I2 rx ry q (hs _ _))
def Xi(K:Fg):R2:=λx y H Q=>∃ p xs i v,x=.ref p/\y=.int i/\Id K H p xs/\vj xs i=Aa v/\Q v H
def Xg(K:Fg):R2:=λx y H Q=>∃ p xs i v,x=.ref p/\y=.int i/\yt K H p xs/\vj xs i=Aa v/\Q v H
def Xh:R2:=λx y H Q=>∃ z i c,x=.str z/\y=.int i/\z.length<=sizeLine/\vj z.cps.toList i=Aa c/\Q (.str ⟨#[c]⟩) H
theorem kI:pf X (Xi X.K):=by
 intro value slice pI s Y H x y v u Q I rx ry h hs;obtain⟨p,xs,i,z,rfl,rfl,hq,he,q⟩:=h;cases rx;obtain⟨t,rfl⟩:=ry;obtain⟨its,r,pl,hz⟩:=I.list hq;obtain⟨j,h1,h2,h3,h4,h5⟩:=Qz he;obtain⟨w,ew,w6⟩:=r.get h2;have hl:=r.length;have hn:=Ma;have fin:EP X pI Y Q w s:=⟨z,H,I,w6,q⟩;by_cases h0:0<=i
 .have hj:i.toNat=j:=by
   rw[seqIndex_of h0 h5]at h1;exact BD h1
  exact item_listR pl.isList h0 (by omega) (by rw[hj];simpa using ew) fin hs
 .have hj:(i+(its.toArray.size:Ai)).toNat=j:=by
   rw[seqIndex_neg (by omega) h4]at h1
   rw[AX,<-hl];exact BD h1
  exact Gf (x:=w) pl.isList.typeIs ZY.lookup
   (wpAny_getItem_list_neg (Q:=λr s'=>r=w/\EP X pI Y Q r s') pl.isList (by omega) (by rw[AX]<;>omega) (by omega) (by rw[hj];simpa using ew) ⟨rfl,fin⟩) hs
theorem VT:pf X (Xg X.K):=by
 intro value slice pI s Y H x y v u Q I rx ry h hs;obtain⟨p,xs,i,z,rfl,rfl,hq,he,q⟩:=h;cases rx;obtain⟨t,rfl⟩:=ry;obtain⟨its,r,pl,hz⟩:=I.tuple hq;obtain⟨j,h1,h2,h3,h4,h5⟩:=Qz he;obtain⟨w,ew,w6⟩:=r.get h2;have hl:=r.length;have hn:=Ma;have fin:EP X pI Y Q w s:=⟨z,H,I,w6,q⟩;exact Gf (x:=w) pl.typeIs slot_tuple_getitem.lookup
  (getItem_tuple (j:=j) (Q:=λr s'=>r=w/\EP X pI Y Q r s') pl (by omega) (by omega) (by rw[AX,<-hl];exact h1) (by simpa using ew) ⟨rfl,fin⟩) hs
theorem pA:pf X Xh:=by
 intro value slice pI s Y H x y v u Q I rx ry h hs;obtain⟨z,i,c,rfl,rfl,hz,he,q⟩:=h;obtain⟨t,rfl⟩:=rx;obtain⟨t',rfl⟩:=ry;obtain⟨j,h1,h2,h3,h4,h5⟩:=Qz he;have hl:z.cps.toList.length=z.length:=by simp[Str.length]
 rw[hl]at h1 h4 h5;have hn:=Ma;exact tail_any (FY s z t) slot_str_getitem.lookup (getItem_str (c:=c) (by
  have e1:decide (i < -(2 ^ 63:Ai))=Ae:=BM (by omega)
  have e2:decide (i ≥ 2 ^ 63)=Ae:=BM (by omega)
  rw[e1,e2,DQ]) (by rw[h1];simpa using h2) ⟨.str ⟨#[c]⟩,H,I.tok _,⟨_,rfl⟩,q⟩) hs
def rIx(K:Fg):R2:=λx y H Q=>Xi K x y H Q\/Xg K x y H Q\/Xh x y H Q
theorem pB:pf X (rIx X.K):=kI.or (VT.or pA)
theorem Z8.L{pI:Pn}{Y:St}{H:Hp}{s:Ar}{p:Ak}{xs:Ac V}(I:Z8 X pI Y H s)(h:H p=Aa (.L xs)):
  ∃(its:Ac Al)(n:Ag),A1 xs its/\s.heap.get? p=Aa { cls:=.type "list",data:=.seq its.toArray n }/\xs.length<=sizeLine:=by
 obtain⟨z,its,n,r,e⟩:=I.hok p _ h;exact⟨its,n,r,e,z⟩
theorem aK(lo hi:Ao Ai)(n:Ag):(Fj lo hi Af n).1=((HT.sIx n 0 lo:Ag):Ai)/\(Fj lo hi Af n).2.1=((HT.sIx n n hi:Ag):Ai)/\(Fj lo hi Af n).2.2=1:=by
 refine⟨?_,?_,rfl⟩
 .cases lo with
  |none=>simp[Fj,HT.sIx]
  |some i=>
   simp only[Fj,HT.sIx,Yq,show (1:Ai)>0 by decide,EN]
   by_cases h:i<0
   .simp only[h,EN]<;>omega
   .simp only[h,JT]<;>omega
 .cases hi with
  |none=>simp[Fj,HT.sIx]
  |some i=>
   simp only[Fj,HT.sIx,Yq,show (1:Ai)>0 by decide,EN]
   by_cases h:i<0
   .simp only[h,EN]<;>omega
   .simp only[h,JT]<;>omega
theorem aG(its:Ac Al)(lo hi:Ao Ai):slicePick its.toArray lo hi Af=((its.drop (HT.sIx its.length 0 lo)).take (HT.sIx its.length its.length hi-HT.sIx its.length 0 lo)).toArray:=by
 obtain⟨h1,h2,h3⟩:=aK lo hi its.toArray.size;unfold slicePick;rw[h1,h2,h3];simp only[sliceRange_one,pick_run,AX]<;>rfl
def Xf(K:Fg):V->Ao Ai->Ao Ai->Hp->VK->Prop:=λx lo hi H Q=>∃ a xs,x=.ref a/\Id K H a xs/\∀ p,H p=Af->Q (.ref p) (upd H p (.L (K0 xs lo hi)))
theorem jJ:pz X (Xf X.K):=by
 intro pI s Y H x v vl vu lo hi sl Q I rx hs pl pu h;obtain⟨a,xs,rfl,hx,q⟩:=h;cases rx;obtain⟨its,r,ht,hz⟩:=I.list hx;have U8:=r.length;refine⟨"list",_,ZY.lookup,ht.isList.typeIs,?_⟩;refine wpAny_getItem_list_slice ht.isList hs pl pu .none (by simp) ?_ (by rw[AX]<;>omega)
 rw[aG,<-U8];refine⟨.ref s.heap.objs.size,_,I.laid (t':=s.toks) (o:=.L (K0 xs lo hi)) (λb ob q=>AB _ q) (AU _) ?_,rfl,q _ (I.hok.fresh (AU _))⟩
 exact⟨B9 (Sr xs lo hi) hz,_,0,(r.drop (HT.sIx xs.length 0 lo)).take (HT.sIx xs.length xs.length hi-HT.sIx xs.length 0 lo),Bp _ rfl⟩
theorem NO:Gz X (.builtin "len") (λxs H Q=>∃ p ys,xs=[.ref p]/\(Id X.K H p ys\/yt X.K H p ys)/\Q (.int ys.length) H):=by
 intro pI s Y H xs us Q I r h;obtain⟨p,ys,rfl,hq,q⟩:=h;obtain⟨u,rfl,rx⟩:=KP r;cases rx;have hn:=Ma;rcases hq with hq|hq
 .obtain⟨its,r',pl,hz⟩:=I.list hq;have U8:=r'.length;exact Calls.call_len_list pl.isList (by simp only[AX]<;>omega) ⟨.int ys.length,H,I.tok _,⟨s.toks+1,by rw[AX,U8]⟩,q⟩
 .obtain⟨its,r',pl,hz⟩:=I.tuple hq;have U8:=r'.length;exact len_tuple pl (by simp only[AX]<;>omega) ⟨.int ys.length,H,I.tok _,⟨s.toks+1,by rw[AX,U8]⟩,q⟩
theorem aI:Gz X (.builtin "len") (λxs H Q=>∃ z,xs=[.str z]/\z.length<=sizeLine/\Q (.int z.length) H):=by
 intro pI s Y H xs us Q I r h;obtain⟨z,rfl,hz,q⟩:=h;obtain⟨u,rfl,t,rfl⟩:=KP r;have hn:=Ma;exact len_str (by omega) ⟨.int z.length,H,I.tok _,⟨_,rfl⟩,q⟩
theorem Gz.or{f:Al}{r r':Ac V->Hp->VK->Prop}(h:Gz X f r)(h':Gz X f r'):Gz X f (λxs H Q=>r xs H Q\/r' xs H Q):=by
 intro pI s Y H xs us Q I rs q;rcases q with q|q
 .exact h pI s Y H xs us Q I rs q
 .exact h' pI s Y H xs us Q I rs q
theorem Sy:Gz X (.type "list") (λxs H Q=>∃ p ys,xs=[.ref p]/\(Id X.K H p ys\/yt X.K H p ys)/\∀ l,H l=Af->Q (.ref l) (upd H l (.L ys))):=by
 intro pI s Y H xs us Q I r h;obtain⟨p,ys,rfl,hq,q⟩:=h;obtain⟨u,rfl,rx⟩:=KP r;cases rx;have fin:∀(its:Ac Al),A1 ys its->ys.length<=sizeLine->∀(h':AJ)(c':Ag),(∀ b o',s.heap.get? b=Aa o'->h'.get? b=Aa o') ->
   h'.get? s.heap.objs.size=Aa { cls:=.type "list",dict:=Af,data:=.seq its.toArray c',slots:=#[] }->EP X pI Y Q (.ref s.heap.objs.size) {s with heap:=h'}:=λits r' hz h' c' kp e=>
  ⟨.ref s.heap.objs.size,_,I.laid (t':=s.toks) kp (AU _) (show ObjOk X.prog X.w _ h' _ (.L ys) from ⟨hz,its,c',r',e⟩),rfl,q _ (I.hok.fresh (AU _))⟩
 rcases hq with hq|hq
 .obtain⟨its,r',pl,hz⟩:=I.list hq;have U8:=r'.length;obtain⟨o,ho,hc,n,hd⟩:=pl.isList;exact call_list_seq p (.inl rfl) ho hc hd (λh' c' kp e=>fin its r' hz h' c' kp e) (by simp only[AX]<;>omega)
 .obtain⟨its,r',pl,hz⟩:=I.tuple hq;have U8:=r'.length;obtain⟨o,ho,hc,n,hd⟩:=pl;exact call_list_seq p (.inr rfl) ho hc hd (λh' c' kp e=>fin its r' hz h' c' kp e) (by simp only[AX]<;>omega)
theorem Sk:Gz X (.type "tuple") (λxs H Q=>∃ p ys,xs=[.ref p]/\((Id X.K H p ys/\∀ l,H l=Af->Q (.ref l) (upd H l (.H ys)))\/(yt X.K H p ys/\Q (.ref p) H))):=by
 intro pI s Y H xs us Q I r h;obtain⟨p,ys,rfl,h⟩:=h;obtain⟨u,rfl,rx⟩:=KP r;cases rx;rcases h with ⟨hq,q⟩|⟨hq,q⟩
 .obtain⟨its,r',pl,hz⟩:=I.list hq;have U8:=r'.length;refine call_tuple_list pl.isList (λh' kp=>?_) (by simp only[AX]<;>omega)
  have I1:Z8 X pI Y H {s with heap:=h'}:=I.kept (t':=s.toks) kp
  have I2:Z8 X pI Y (upd H h'.objs.size (.H ys)) { s with heap:=h'.push { cls:=.type "tuple",data:=.seq its.toArray } }:=
   I1.laid (t':=s.toks) (λb o e=>AB _ e) (AU _) (show ObjOk X.prog X.w _ _ _ (.H ys) from ⟨hz,its,r',Mv _ _⟩)
  exact⟨.ref h'.objs.size,_,I2,rfl,q _ (I1.hok.fresh (AU _))⟩
 .obtain⟨its,r',pl,hz⟩:=I.tuple hq;exact call_tuple_same pl ⟨.ref p,H,I,rfl,q⟩
def tyV(K:Fg)(T:CQ)(x:V)(H:Hp):Prop:=match x with
  |.str _=>T = "str"
  |.int _=>T = "int"
  |.ref p=>(T = "list"/\∃ xs,Id K H p xs)\/(T = "tuple"/\∃ o,K.lookup p=Aa o/\o.cls=.type "tuple"/\o.dict=Af) \/
      (T = "dict"/\((∃ kvs,H p=Aa (.dK kvs))\/∃ kvs,H p=Aa (.dT kvs)))\/(T = "set"/\∃ S n,H p=Aa (.set S n))
  |_=>AM
theorem Vi{pI:Pn}{Y:St}{H:Hp}{s:Ar}{T:CQ}{x:V}{v:Al}(I:Z8 X pI Y H s)(r:Bt x v)(ty:tyV X.K T x H):s.TypeIs v T/\∀ a,v=.ref a->∃ ob,s.heap.get? a=Aa ob/\ob.dict=Af:=by
 cases x with
 |str z=>
  obtain⟨t,rfl⟩:=r;cases (show T = "str" from ty)
  exact⟨FY s z t,λ_ e=>nomatch e⟩
 |int i=>
  obtain⟨t,rfl⟩:=r;cases (show T = "int" from ty)
  exact⟨typeIs_int s i t,λ_ e=>nomatch e⟩
 |ref p=>
  cases r;rcases ty with ⟨rfl,xs,hq⟩|⟨rfl,o,hk,hc,hd⟩|⟨rfl,hk⟩|⟨rfl,S,n,hk⟩
  .obtain⟨its,_,pl,_⟩:=I.list hq;refine⟨pl.isList.typeIs,λa e=>?_⟩
   cases e;obtain⟨o,n,e,c,hd,_⟩:=pl;exact⟨o,e,hd⟩
  .refine⟨⟨o,I.kIn p o hk,hc⟩,λa e=>?_⟩
   cases e;exact⟨o,I.kIn _ o hk,hd⟩
  .have z:∃ o,s.heap.get? p=Aa o/\o.ExactDict:=by
    rcases hk with ⟨kvs,hk⟩|⟨kvs,hk⟩
    .obtain⟨_,_,_,_,o,_,_,e,ex,_⟩:=I.hok p _ hk;exact⟨o,e,ex⟩
    .obtain⟨_,_,_,_,o,_,_,e,ex,_⟩:=I.hok p _ hk;exact⟨o,e,ex⟩
   obtain⟨o,e,ex⟩:=z;refine⟨⟨o,e,ex.1⟩,λa e2=>?_⟩
   cases e2;exact⟨o,e,ex.2.1⟩
  .obtain⟨o,_,_,_,e,ex,_⟩:=I.hok p _ hk;refine⟨⟨o,e,ex.1⟩,λa e2=>?_⟩
   cases e2;exact⟨o,e,ex.2.1⟩
 |_=>exact A7 ty
def zF(K:Fg)(T:CQ)(r:V->Ac V->Hp->VK->Prop)(to:TE):TE:=λY H Q=>to Y H λx H1=>tyV K T x H1/\r x [] H1 Q
def tBM(K:Fg)(T:CQ)(r:V->Ac V->Hp->VK->Prop)(to:TE)(t:TA):TE:=λY H Q=>to Y H λx H1=>tyV K T x H1/\t Y H1 λxs H2=>r x xs H2 Q
variable{o e:Aq}{es:Ac Aq}{to:TE}{t:TA}{name:Ah}{apos cpos:AF}{T id:CQ}{r:V->Ac V->Hp->VK->Prop}
theorem VQ(pa:PlainAttrs T)(slot:Slot T name id)(hty:typeOf (.builtin id)=pure (.type "method_descriptor"))(hm:pj X id r)(ho:PE X o to)(U7:BH o name X.env (eval o X.env)=eval o X.env:=by rfl)(U5:(apos.endLine==cpos.line)=Ab:=by rfl):PE X (.Call (.Attribute o name apos) [] [] cpos) (zF X.K T r to):=by
 intro pI s Y H Q I h;refine wpAny_Call_method0_late U7 U5 (U0 (ho pI s Y H _ I h) λv s1 ⟨x,H1,I1,r1,ty,q1⟩=>?_)
 obtain⟨h1,h2⟩:=Vi I1 r1 ty;exact⟨T,id,pa,slot,hty,h1,h2,Gg rfl (PySem.evalArgs_none (hm pI s1 Y H1 x [] v [] Q I1 r1 .nil q1))⟩
theorem IS(pa:PlainAttrs T)(slot:Slot T name id)(hty:typeOf (.builtin id)=pure (.type "method_descriptor"))(hm:pj X id r)(ho:PE X o to)(ha:PA X (e::es) t)(U7:BH o name X.env (eval o X.env)=eval o X.env:=by rfl)(yn:((Bs cpos (Aw (e::es) X.env)).all (λx=>!x.1)&&(D9 cpos (Dh [] X.env)).all (λx=>x.1.isSome)
   && decide ((e::es).length+([]:Ac CB).length+(if ([]:Ac CB).isEmpty then 0 else 1)<30))=Ab:=by rfl)(U5:(apos.endLine==cpos.line)=Ab:=by rfl)(hs:Aw (e::es) X.env=(Ae,eval e X.env)::Aw es X.env:=by rfl)(ki:(Bs cpos (Aw es X.env)).any (·.1)=Ae:=by rfl):PE X (.Call (.Attribute o name apos) (e::es) [] cpos) (tBM X.K T r to t):=by
 intro pI s Y H Q I h;refine wpAny_Call_method_late U7 yn U5 rfl (U0 (ho pI s Y H _ I h) λv s1 ⟨x,H1,I1,r1,ty,q1⟩=>?_)
 obtain⟨h1,h2⟩:=Vi I1 r1 ty;refine⟨T,id,pa,slot,hty,h1,h2,?_⟩;have hA:=ha cpos pI s1 Y H1 _ I1 q1;rw[hs]at hA ⊢;refine Gg (by show (Ae||(Bs cpos (Aw es X.env)).any (·.1))=Ae;rw[ki]<;>rfl) (EU ?_)
 exact U0 hA λus s2 ⟨vs,H2,I2,r2,q2⟩=>hm pI s2 Y H2 x vs v us Q I2 r1 r2 q2
end
noncomputable def MtM(X:Cx)(id:CQ)(r:V->Ac V->Hp->VK->Prop):Prop:=
 ∀(pI:Pn)(s:Ar)(Y:St)(H:Hp)(x:V)(xs:Ac V)(v:Al)(us:Ac Al)(Q:VK),Z8 X pI Y H s->Bt x v->A1 xs us->r x xs H Q ->
  AA (model X.prog X.w) X.A (call (.builtin id) (v::us)) (EP X pI Y Q) X.xe s
theorem A1.one:∀{x:V}{us:Ac Al},A1 [x] us->∃ u,us=[u]/\Bt x u
 |_,_,.cons r .nil=>⟨_,rfl,r⟩
theorem A1.zero:∀{us:Ac Al},A1 [] us->us=[]
 |_,.nil=>rfl
theorem A1.dropLast(h:A1 xs us):A1 xs.dropLast us.dropLast:=by
 induction h with
 |nil=>exact .nil
 |cons r t ih=>
  cases t with
  |nil=>exact .nil
  |cons q t'=>exact .cons r ih
theorem A1.eraseIdx:∀{xs:Ac V}{us:Ac Al}(i:Ag),A1 xs us->A1 (xs.eraseIdx i) (us.eraseIdx i)
 |_,_,_,.nil=>.nil
 |_,_,0,.cons _ t=>t
 |_,_,i+1,.cons r t=>.cons r (A1.eraseIdx i t)
theorem A1.reverse(h:A1 xs us):A1 xs.reverse us.reverse:=by
 induction h with
 |nil=>exact .nil
 |cons r t ih=>rw[Yj,Yj];exact A1.append ih (.cons r .nil)
theorem A1.rep{xs:Ac V}{us:Ac Al}(h:A1 xs us):∀ k:Ag,A1 (EE k xs).flatten (EE k us).flatten
 |0=>.nil
 |k+1=>by
  rw[Yi,Yi,X1,X1];exact A1.append h (A1.rep h k)
theorem aV(l:Ac α):l.eraseIdx (l.length-1)=l.dropLast:=by
 induction l with
 |nil=>rfl
 |cons a r ih=>
  cases r with
  |nil=>rfl
  |cons b r=>
   have e:(a::b::r).length-1=((b::r).length-1)+1:=by
    have h1:(a::b::r).length=r.length+2:=rfl;have h2:(b::r).length=r.length+1:=rfl;omega
   rw[e,List.eraseIdx_cons_succ,ih]
   all_goals rfl
section
variable{X:Cx}{pI:Pn}{Y:St}{H:Hp}{s:Ar}{l b:Ak}{xs ys zs:Ac V}
theorem Z8.lset{its':Ac Al}{f:Bl Al->Bl Al}(I:Z8 X pI Y H s)(hH:H l=Aa (.L xs))(e:s.heap.get? l=Aa { cls:=.type "list",data:=.seq its.toArray n })(hf:f its.toArray=its'.toArray)(hv:A1 ys its')(hz:ys.length<=sizeLine):Z8 X pI Y (upd H l (.L ys)) {s with heap:=s.heap.update l (Zk f),toks:=t'}:=by
 have q:=PySem.IsL.update e f;rw[hf]at q;refine I.write (x:=l) (e:=l) (by rw[hH];exact trivial) (.inl rfl) (λb' u hb hu=>(De s.heap (Zk f) (CG hb)).trans hu) ⟨_,q⟩ ?_
 exact⟨hz,its',_,hv,q⟩
theorem Z8.lnew(I:Z8 X pI Y H s)(hv:A1 ys its)(hz:ys.length<=sizeLine):
  Z8 X pI Y (upd H s.heap.objs.size (.L ys)) { s with heap:=s.heap.push { cls:=.type "list",data:=.seq its.toArray },toks:=t' }:=
 I.laid (λ_ _ q=>AB _ q) (AU _) ⟨hz,its,0,hv,Bp _ rfl⟩
theorem Z8.fresh(I:Z8 X pI Y H s):H s.heap.objs.size=Af:=I.hok.fresh (AU _)
theorem Z8.lstM(I:Z8 X pI Y H s)(hH:H l=Aa (.L xs)):xs.length<=sizeLine/\∃(its:Ac Al)(n:Ag),A1 xs its/\xs.length=its.length/\s.heap.get? l=Aa { cls:=.type "list",data:=.seq its.toArray n }:=by
 obtain⟨z,its,n,r,e⟩:=I.hok l _ hH;exact⟨z,its,n,r,r.length,e⟩
end
section
variable{X:Cx}
def iN:V->Ac V->Hp->VK->Prop:=λx vs H Q=>∃ l xs y,x=.ref l/\vs=[y]/\H l=Aa (.L xs)/\xs.length<sizeLine/\Q .O (upd H l (.L (xs++[y])))
theorem NQ:MtM X "list.append" iN:=by
 intro pI s Y H x vs v us Q I rx rv h;obtain⟨l,xs,y,rfl,rfl,hH,hz,q⟩:=h;cases rx;obtain⟨u,rfl,ru⟩:=rv.one;obtain⟨z,its,n,r,hl,e⟩:=I.lstM hH;refine EV F.slot_list_append ⟨_,e,rfl⟩ F.entry_list_append (F.args_list_append_2 _ _) (PySem.list_append l its.toArray n u (by rw[AX];omega)) ⟨e,?_⟩
 refine⟨.O,_,I.lset (its':=its++[u]) hH e (by simp) (r.append (.cons ru .nil)) ?_,rfl,q⟩
 rw[BW,Yc];omega
def zR:V->Ac V->Hp->VK->Prop:=λx vs H Q=>∃ l xs y,x=.ref l/\vs=[]/\H l=Aa (.L xs)/\xs[xs.length-1]?=Aa y/\Q y (upd H l (.L xs.dropLast))
theorem VS:MtM X "list.pop" zR:=by
 intro pI s Y H x vs v us Q I rx rv h;obtain⟨l,xs,y,rfl,rfl,hH,hy,q⟩:=h;cases rx;have hus:=rv.zero;subst hus;obtain⟨z,its,n,r,hl,e⟩:=I.lstM hH;obtain⟨u,hu,ru⟩:=r.get hy;have hy':its.toArray[its.toArray.size-1]?=Aa u:=by
  show its.toArray[its.length-1]?=Aa u;rw[<-Array.getElem?_toList,<-hl];exact hu
 refine EV F.slot_list_pop ⟨_,e,rfl⟩ F.entry_list_pop (F.args_list_pop_1 _) (MeetsSeq.list_pop_last l its.toArray n u hy' (by rw[AX];omega)) ⟨e,?_⟩
 refine⟨y,_,I.lset (its':=its.dropLast) hH e ?_ r.dropLast ?_,ru,q⟩
 .show its.toArray.eraseIdxIfInBounds (its.toArray.size-1)=its.dropLast.toArray;rw[AX,List.eraseIdxIfInBounds_toArray,aV]
 .rw[List.length_dropLast];omega
end
section
variable{prog:AK}{w:AI}{A:A4}{E:Vq}{s:Ar}
set_option maxRecDepth 100000 in
end
section
variable{X:Cx}
end
end L2
namespace Att
open PySem PySem.W PySem.Calls PyProof.Rows
variable{P:MD}{h:AJ}{l:Gh}{n:Ag}
theorem Z_9:∀(ns:Ac Ai)(vs:Ac Al),WellAll P h vs (ns.map ZH)->Jg vs ns:=by
 intro ns
 induction ns with
 |nil=>
  intro vs w;rw[Ye]at w;cases w;exact .nil
 |cons n ns ih=>
  intro vs w;rw[BP]at w;cases w with
  |cons a b=>
   cases a;exact .cons _ _ (ih _ b)
theorem cA(hn:l.most=Aa n){args:Ac WData}{vals:Ac Al}(ot:l.row.toRowW.claim.pre args=Ab)(hwl:WellAll P h vals args):
  ∃ a vs ns,vals=[Bm a]/\args=[WData.list (ns.map ZH)]/\h.get? a=Aa { cls:=.type "list",data:=.seq vs.toArray }/\Jg vs ns/\ns.length<=n:=by
 have hsh:WShape.hasAll [] args [.list .int]=Ab:=(pre_splitW ot).1;have hc:l.pre.holds [] {args:=args}=Ab:=(pre_splitW ot).2;obtain⟨d,r,rfl,h1,h2⟩:=hasAllW_cons hsh;obtain rfl:=hasAllW_nil h2;obtain⟨xs,rfl,h3⟩:=hasW_list h1;obtain⟨ns,rfl⟩:=items_int h3;have U8:ns.length<=n:=by
  unfold OpenLaw.pre at hc;have h4:(WTm.not (.lt (.lit (.int (n:Ai))) (.len (.arg 0)))).holds [] {args:=[.list (ns.map .int)]}=Ab:=by
   have h4:=(holds_andW hc).1;rw[hn]at h4;exact h4
  have h5:=condW_of h4 (w_not (w_lt w_lit (w_len_list (w_arg rfl))));rw[Bc]at h5;refine Nat.le_of_not_lt λq=>?_
  have q':(n:Ai)<((ns.length:Ag):Ai):=by omega
  first
   |(rw[CI q']at h5;exact absurd h5 (by decide))
   |(simp at h5;omega)
 cases hwl with
 |cons w1 w2=>
  cases w2;cases w1 with
  |list ho jv=>exact⟨_,_,ns,rfl,rfl,ho,Z_9 ns _ jv,U8⟩
theorem bT(l:Gh)(args:Ac WData):l.row.toRowW.claim.post args (.bool Ab) args=Ab:=
 postW_of (r:=l.row.toRowW) (X:=(Ab==Ab))
  (show ZI [] (.bool Ab) .bool=Ab by first|rfl|decide|simp[ZI,WShape.arms,WShape.armsAll])
  (show (WTm.eq .res (.lit (.bool Ab))).value [] {args:=args,res:=Aa (.bool Ab),after:=args}=Aa (.bool (Ab==Ab)) from w_eq_bool (w_res rfl) w_lit) rfl
theorem attach_call{q:AK}{loose:Ac Ah}{XP:(Ah->Ao Al)->AJ->Prop}{YP:AI->AJ->Prop}{d:DefRec}(hn:l.most=Aa n)(aj:d.params.defaults=[])(call:∀(w:AI)(s₀ s₁:Ar)(mg mb:Ah->Ao Al)(fa:Ak)(o:CZ)(pm cd doc:Al)(a:Ak)(vs:Ac Al)(ns:Ac Ai),
   Ground q loose [] XP w s₀ mg mb s₁.heap->YP w s₁.heap ->
   s₁.heap.get? fa=Aa o->o.data=.func (docDef d.name d.params d.body d.scope pm cd doc)->s₁.heap.CodeRec cd d.name->mg d.name=Aa (.ref fa) ->
   s₁.heap.get? a=Aa { cls:=.type "list",data:=.seq vs.toArray }->Jg vs ns->ns.length<=n->s₁.gens=#[] ->
   EF (model l.prog w) Ia (.call (.ref fa) ⟨[.ref a],[]⟩) (λr s'=>r=.ok (.ret (.bool Ab))/\OldK s₁.heap s'.heap/\s'.os=s₁.os/\FW s'.gens) s₁):WalkO q loose XP YP l.row.toRowW d [] (λf vs=>LM f vs):=by
 intro w s₀ s₁ mg mb G Y_ fa o pm cd doc dV kV ho hd zu hD kg hg args vals as ot hlay hrd hwl hlo;obtain rfl:dV=.none:=Dflts.none hD aj;obtain rfl:kV=.none:=Dflts.noKw hD;obtain⟨a,vs,ns,rfl,rfl,kh,qw,U8⟩:=cA hn ot hwl;refine enter_call (EG (call w s₀ s₁ mg mb fa o pm cd doc a vs ns G Y_ ho (fd_plain hd) zu kg kh qw U8 hg) λr s' hq=>?_)
 obtain⟨rfl,h2,h3,h4⟩:=hq;exact⟨.inl ⟨.bool Ab,.bool Ab,[],rfl,λ_=>rfl,.bool Ab,bT l _,λ_=>⟨List.Pairwise.nil,λ_ hm=>(nomatch hm)⟩⟩,h2,h3,h4⟩
section
variable{prog:AK}{w:AI}{A:A4}{E:Vq}{s:Ar}{K:Frag}
end
end Att
namespace L2
open PySem PySem.Spec PyProof.Rows
variable{k:Ag}{x:Ah}
theorem Ts:∀{vs:Ac Al}{ns:Ac Ai},Jg vs ns->A1 (ns.map V.int) vs
 |_,_,.nil=>.nil
 |_,_,.cons n t h=>.cons ⟨t,rfl⟩ (Ts h)
def R9(H:Hp):Prop:=∀ b,H b=Af\/∃ o xs,H b=Aa (.frz o (.L xs))
theorem dI{P:AK}{w:AI}{K:Fg}{mg mb:Ah->Ao Al}{CX:CXT}{fa a:Ak}{fd:Bi}{sp:Sp}{s₁:Ar}{vs:Ac Al}{ns:Ac Ai}(KX:K.In s₁.heap)(hns:s₁.heap.Ns AO mg)(hb:s₁.heap.Ns Js mb)(jw:∀ x:Ah,x≠"__name__"->mb x=Dg x)(hlim:s₁.heap.NoLimit)(hg:s₁.gens=#[])(ha:s₁.heap.get? a=Aa { cls:=.type "list",data:=.seq vs.toArray })(hi:Jg vs ns)(hl:ns.length<=sizeLine)(hr:U4 k Ia)(F:∀ base:AJ,K.In base->base.Ns AO mg->Y4 P w K mg base CX k fa fd [x] sp)(ag:∀(s:Ar)(u:Al),GE s fd ⟨[u],[]⟩ [(x,u)])(rh:∀ H:Hp,R9 H->Id K H a (ns.map V.int)->sp [.ref a] H (λv _=>v=.bl Ab) λ_ _ _=>AM)(hCX:∀ H e s',CX [] H s₁ (λ_ _ _=>AM) e s'->AM):EF (model P w) Ia (.call (.ref fa) ⟨[.ref a],[]⟩) (λr s'=>r=.ok (.ret (.bool Ab))/\OldK s₁.heap s'.heap/\s'.os=s₁.os/\FW s'.gens) s₁:=by
 have rv:=Ts hi;have lenV:=hi.length
 have core:∀ H:Hp,R9 H->Id K H a (ns.map V.int)->zd P w H s₁.heap->(∀ b,H b≠Af->b=a)->(H a≠Af->K.lookup a=Af) ->
   EF (model P w) Ia (.call (.ref fa) ⟨[.ref a],[]⟩) (λr s'=>r=.ok (.ret (.bool Ab))/\OldK s₁.heap s'.heap/\s'.os=s₁.os/\FW s'.gens) s₁:=by
  intro H hO hS hok hA hK;have ut:∀{b:Ak}{o:CZ},s₁.heap.get? b=Aa o->H b=Af->(JR s₁.heap H).get? b=Aa o:=λe n=>fM e n
  have bw:∀{b:Ak}{o:CZ}{es:Bl Mz}{ep:Ag},s₁.heap.get? b=Aa o->o.data=.dict es ep->H b=Af:=λ{b o es ep} e d=>by
   cases q:H b with
   |none=>rfl
   |some u=>
    have e':b=a:=hA b (by rw[q];simp)
    subst e';rw[ha]at e;cases e;have d':MB vs.toArray _=Data.dict es ep:=d;cases d'
  have Ì:∀{b:Ak}{m:Ah->Ao Al},s₁.heap.Ns b m->(JR s₁.heap H).Ns b m:=λ{b m} ⟨o,es,ep,e,d,r⟩=>⟨o,es,ep,ut e (bw e d),d,r⟩
  have hKb:K.In (JR s₁.heap H):=λb o e=>ut (KX b o e) (by
   cases q:H b with
   |none=>rfl
   |some u=>
    have e':b=a:=hA b (by rw[q];simp)
    subst e';rw[hK (by rw[q];simp)]at e;cases e)
  have hM:Mod K mg (JR s₁.heap H):=⟨hKb,Ì hns,⟨mb,Ì hb,jw⟩,let ⟨mc,h1,h2⟩:=hlim;⟨mc,Ì h1,h2⟩⟩
  have e0:yi P w K mg (JR s₁.heap H) Ia [] s₁ H:=⟨rfl,hM,λb o e=>lO e,Yl (cX _ _),trivial,λb hb=>absurd (show b∈([]:Ac Ak) from hb) (by simp),hok,.of_eq hg⟩
  refine EG ((F _ hKb (Ì hns)).run Ia [] s₁ H ⟨[.ref a],[]⟩ [.ref a] [.ref a] _ _ hr e0 (ag s₁ (.ref a)) (.cons rfl .nil) (rh H hO hS)) λr s' h=>?_
  cases r with
  |error e=>exact(hCX H e s' h).elim
  |ok fl=>
   cases fl with
   |next=>exact A7 h
   |brk=>exact A7 h
   |cont=>exact A7 h
   |ret u=>
    obtain⟨v,H',os,bare,un,hok',r',q⟩:=h;have q':v=.bl Ab:=q;subst q';obtain rfl:u=Jo Ab:=r';refine⟨rfl,OldK.of_keep λb o e=>?_,os,bare⟩
    cases q:H b with
    |none=>exact un.keep b o e q (by intro z;exact absurd (show b∈([]:Ac Ak) from z) (by simp)) (by simp)
    |some u=>
     rcases hO b with z|⟨ob,xs,z⟩
     .rw[q]at z;cases z
     .have z2:=un.frzs b ob _ z;obtain⟨e1,_⟩:=hok b _ z;obtain⟨e2,_⟩:=hok' b _ z2;rw[e]at e1;cases e1;exact e2
 cases hk:K.lookup a with
 |some o=>
  have e:=KX a o hk;rw[ha]at e;cases e;refine core (λ_=>Af) (λ_=>.inl rfl) (.inr ⟨_,vs.toArray,_,hk,rfl,rfl,rfl,by rw[AX,lenV];exact hl,by simpa using rv⟩) (λb u z=>by have z':(Af:Ao HO)=Aa u:=z;cases z') (λb z=>absurd rfl z) λz=>absurd rfl z
 |none=>
  refine core (λb=>if b=a then Aa (.frz { cls:=.type "list",data:=.seq vs.toArray } (.L (ns.map V.int))) else Af) (λb=>?_) (.inl (.inr ⟨{ cls:=.type "list",data:=.seq vs.toArray },Au rfl⟩)) (λb u z=>?_) (λb z=>?_) λ_=>hk
  .by_cases hb:b=a
   .exact .inr ⟨_,_,Au hb⟩
   .exact .inl (Ay hb)
  .by_cases hb:b=a
   .have z':=(Au hb).symm.trans z;cases z';subst hb;exact⟨ha,by rw[Bc];exact hl,vs,_,rv,ha⟩
   .have z':=(Ay hb).symm.trans z;cases z'
  .by_cases hb:b=a
   .exact hb
   .exact absurd (Ay hb) z
noncomputable abbrev KOf{K:Fg}{h:AJ}(_:K.In h):Fg:=K
theorem walk_of{l:Gh}{n:Ag}{q:AK}{loose:Ac Ah}{XP:(Ah->Ao Al)->AJ->Prop}{YP:AI->AJ->Prop}{d:DefRec}{K:MD->Fg}{CX:AI->CXT}{sp:AI->Sp}(hn:l.most=Aa n)(ig:n<=sizeLine)(aj:d.params.defaults=[])(hr:U4 k Ia)(hY:∀(w:AI)(h:AJ),YP w h->(K w.params).In h)(F:∀(w:AI)(mg:Ah->Ao Al)(fa:Ak)(h:AJ),(K w.params).In h->h.Ns AO mg->mg d.name=Aa (.ref fa) ->
   ∃ fd:Bi,(∀(s:Ar)(u:Al),GE s fd ⟨[u],[]⟩ [(x,u)]) /\
    ∀ base:AJ,(K w.params).In base->base.Ns AO mg->Y4 l.prog w (K w.params) mg base (CX w) k fa fd [x] (sp w))(rh:∀(w:AI)(H:Hp)(a:Ak)(ns:Ac Ai),ns.length<=n->R9 H->Id (K w.params) H a (ns.map V.int)->sp w [.ref a] H (λv _=>v=.bl Ab) λ_ _ _=>AM)(hCX:∀(w:AI)(H:Hp)(s:Ar)(e:Al)(s':Ar),CX w [] H s (λ_ _ _=>AM) e s'->AM):ZJ q loose XP YP l.row.toRowW d [] (λf vs=>LM f vs):=by
 refine Att.attach_call hn aj λw s₀ s₁ mg mb fa o pm cd doc a vs ns G Y_ ho hd zu kg kh qw U8 hg=>?_
 have KX:=hY w _ Y_;obtain⟨fd,hb,hF⟩:=F w mg fa _ KX G.T.g kg;exact dI KX G.T.g G.T.b G.T.builtins G.T.nolimit hg kh qw (B9 U8 ig) hr hF hb (λH hO hS=>rh w H a ns U8 hO hS) λH e s'=>hCX w H s₁ e s'
end L2
namespace L2
open PySem PySem.Spec PyProof.Rows
noncomputable def Hj(s:AL):Mw:=match s with
  |.FunctionDef _ a _ _ _ _ _ _ _ _=>a
  |_=>{posonlyargs:=[],args:=[],vararg:=Af,kwonlyargs:=[],kw_defaults:=[],kwarg:=Af,defaults:=[]}
noncomputable def Di(s:AL):Ac AL:=match s with
  |.FunctionDef _ _ b _ _ _ _ _ _ _=>b
  |_=>[]
noncomputable def AH(s:AL):Cc:=match s with
  |.FunctionDef _ _ _ _ _ _ sc _ _ _=>sc
  |_=>{kind:=.function,names:=[],isGenerator:=Ae,isCoroutine:=Ae}
noncomputable abbrev CX0:CXT:=λ_ _ _ _ _ _=>AM
noncomputable abbrev E0:XK:=λ_ _ _=>AM
structure qi (K:Fg) (x qual:Ah) (st:AL) (f:Ak) (fd:Bi):Prop where
 ex:∃(oc:Al)(od:Ao Ak)(kV doc pm:Al)(an:Ao Ak)(cdv ct:Al)(osl:Bl (Ao Al)),
  fd=B4 x qual (Hj st) (Di st) (AH st) .none kV doc pm an cdv ct/\K.lookup f=Aa ⟨oc,od,.func fd,osl⟩/\DE K cdv qual=Ab
 kp:Ba K (.ref f)=Ab
section
variable{P:AK}{w:AI}{K:Fg}{mg:Ah->Ao Al}{base:AJ}
theorem qi.ok{x qual:Ah}{st:AL}{f:Ak}{fd:Bi}{N ps:Ac Ah}{k:Ag}{sp:Sp}(F:qi K x qual st f fd)(S:zW N ps (AH st))(len:∀ vs H Q E,sp vs H Q E->vs.length=ps.length)(wj:∀(cdv:Al)(A:A4)(outer:Ac B7)(s:Ar)(H:Hp)(vs:Ac V)(Q:VK)(E:XK),U4 k (A.deeper (D3 qual (AH st) s.heap.objs.size f cdv))->sp vs H Q E ->
   ∃ t,yj (B2 CX0 P w K mg base N qual (AH st) f cdv A outer s H E).nox (Di st) t/\t {nx:=λ_ H'=>Q .O H',rt:=Q} (start N vs) H):Y4 P w K mg base CX0 (k+1) f fd ps sp:=by
 obtain⟨oc,od,kV,doc,pm,an,cdv,ct,osl,rfl,lk,zu⟩:=F.ex;refine Hr lk zu S len λA outer s H vs Q E hr rh=>?_
 obtain⟨t,h,q⟩:=wj cdv A outer s H vs Q E hr rh;exact⟨t,h.nox,q⟩
theorem qi.binds{x qual:Ah}{st:AL}{f:Ak}{fd:Bi}{ps:Ac Ah}(F:qi K x qual st f fd)(h:∀(kV doc pm:Al)(an:Ao Ak)(cdv ct:Al)(us:Ac Al),us.length=ps.length->Hg (B4 x qual (Hj st) (Di st) (AH st) .none kV doc pm an cdv ct) ⟨us,[]⟩=pure (ps.zip us)):CW K fd ps []:=by
 obtain⟨oc,od,kV,doc,pm,an,cdv,ct,osl,rfl,lk,zu⟩:=F.ex;exact .all (h kV doc pm an cdv ct)
theorem Q6{x qual:Ah}{st:AL}{f:Ak}{oc:Al}{od an:Ao Ak}{osl:Bl (Ao Al)}{kV doc pm cdv ct:Al}(l:K.lookup f=Aa ⟨oc,od,.func (B4 x qual (Hj st) (Di st) (AH st) .none kV doc pm an cdv ct),osl⟩)(c:DE K cdv qual=Ab)(k:Ba K (.ref f)=Ab):qi K x qual st f (B4 x qual (Hj st) (Di st) (AH st) .none kV doc pm an cdv ct):=⟨⟨oc,od,kV,doc,pm,an,cdv,ct,osl,rfl,l,c⟩,k⟩
end
section
variable{X:Cx}
theorem pv(i:Ag){x:Ah}{pos:AF}(hN:X.N[i]?=Aa x:=by rfl)(hv:í X.env.scope x:=by first|exact Or.inl rfl|exact Or.inr (Or.inl rfl)|exact Or.inr (Or.inr rfl))(hd:(x==("__debug__" : Ah))=Ae:=by decide)(zu:(x==("__classdict__" : Ah))=Ae:=by decide):PE X (.Name x pos) (Ci i):=Dx hN hv hd zu
end
def Az(H H':Hp):Prop:=∀ b o,H b=Aa o->H' b=Aa o
theorem Az.refl(H:Hp):Az H H:=λ_ _ h=>h
theorem Az.trans{H H1 H2:Hp}(a:Az H H1)(b:Az H1 H2):Az H H2:=λc o h=>b c o (a c o h)
theorem Az.free{H H':Hp}(e:Az H H'){l:Ak}(h:H' l=Af):H l=Af:=by
 cases q:H l with
 |none=>rfl
 |some o=>
  rw[e l o q]at h;cases h
theorem Az.seq{K:Fg}{H H':Hp}{a:Ak}{xs:Ac V}(e:Az H H')(h:Id K H a xs):Id K H' a xs:=by
 rcases h with (h|⟨o,h⟩)|h
 .exact .inl (.inl (e _ _ h))
 .exact .inl (.inr ⟨o,e _ _ h⟩)
 .exact .inr h
end L2
section
namespace Ov
open PySem
variable{α β:Type}
inductive D where
 |O|bl (b:An)|int (i:Ai)|str (x:Ah)|H (ds:Ac D)|L (ds:Ac D)
 |obj (c:Ag) (fs:Ac (Ah×D))|exc (c:Ag) (fs:Ac (Ah×D))|dic (kvs:Ac (Ac Ai×D))
 deriving Inhabited
structure Ex where
 c:Ag
 fs:Ac (Ah×D)
 deriving Inhabited
inductive R (α:Type) where
 |ok (a:α)|exn (x:Ex)|bad
 deriving Inhabited
noncomputable def R.bind{α β:Type}(r:R α)(f:α->R β):R β:=match r with
  |.ok a=>f a
  |.exn x=>.exn x
  |.bad=>.bad
@[simp]theorem R.bind_ok(a:α)(f:α->R β):(R.ok a).bind f=f a:=rfl
@[simp]theorem R.bind_exn(x:Ex)(f:α->R β):(R.exn x:R α).bind f=.exn x:=rfl
@[simp]theorem R.bind_bad(f:α->R β):(R.bad:R α).bind f=.bad:=rfl
theorem R.bind_assoc{γ:Type}(r:R α)(f:α->R β)(g:β->R γ):(r.bind f).bind g=r.bind λa=>(f a).bind g:=by cases r<;>rfl
noncomputable def CY(n:Ag):An:=CF n 1000000
noncomputable def Fq(i j:Ai):An:=(decide (-(18446744073709551616:Ai)<i)&&decide (i<18446744073709551616))||(decide (-(18446744073709551616:Ai)<j)&&decide (j<18446744073709551616))
noncomputable def OK(i j:Ai):An:=decide (i.natAbs<2 ^ 2000)&&decide (j.natAbs<2 ^ 2000)
noncomputable def Dc:Gr->D->D->R D
 |.Add,.int i,.int j=>.ok (.int (i+j))
 |.Sub,.int i,.int j=>.ok (.int (i-j))
 |.Mult,.int i,.int j=>if (Fq i j||OK i j)=Ab then .ok (.int (i*j)) else .bad
 |.FloorDiv,.int i,.int j=>if 0<j/\j<1073741824 then .ok (.int (i/j)) else .bad
 |.Mod,.int i,.int j=>if 0<j then .ok (.int (i%j)) else .bad
 |.Pow,.int i,.int j=>if (0<=j/\j<=1000000)/\(-(18446744073709551616:Ai)<i/\i<18446744073709551616) then .ok (.int (i ^ j.toNat)) else .bad
 |.Add,.str x,.str y=>if CY (x.length+y.length)=Ab then .ok (.str (x++y)) else .bad
 |.Add,.L x,.L y=>if CY (x.length+y.length)=Ab then .ok (.L (x++y)) else .bad
 |.Add,.H x,.H y=>if (!x.isEmpty&&CY (x.length+y.length))=Ab then .ok (.H (x++y)) else .bad
 |_,_,_=>.bad
noncomputable def ç:K1->D->R D
 |.USub,.int i=>.ok (.int (-i))
 |_,_=>.bad
noncomputable def î(b:An):Ai:=if b=Ab then 1 else 0
mutual
noncomputable def Tm:D->D->An
 |.O,.O=>Ab
 |.bl a,.bl b=>a==b
 |.bl a,.int j=>î a==j
 |.int i,.bl b=>i==î b
 |.int i,.int j=>i==j
 |.str x,.str y=>x==y
 |.H xs,.H ys=>LE xs ys
 |.L xs,.L ys=>LE xs ys
 |_,_=>Ae
noncomputable def LE:Ac D->Ac D->An
 |[],[]=>Ab
 |x::xs,y::ys=>Tm x y&&LE xs ys
 |_,_=>Ae
end
noncomputable def Y8:Ag->D->An
 |_,.O=>Ab
 |_,.bl _=>Ab
 |_,.int _=>Ab
 |_,.str _=>Ab
 |n+1,.H xs=>xs.all (Y8 n)
 |n+1,.L xs=>xs.all (Y8 n)
 |_,_=>Ae
noncomputable def Mp:D->Ao (Ac Ai)
 |.H ds=>keyDs ds
 |_=>Af
where keyDs:Ac D->Ao (Ac Ai)
 |[]=>Aa []
 |.int i::r=>(keyDs r).map (i :: ·)
 |_=>Af
noncomputable def iw:Ag->D->D->An
 |0,.int i,.int j=>decide (i<j)
 |n+1,.H xs,.H ys=>ltDs (iw n) xs ys
 |_,_,_=>Ae
where ltDs (lt:D->D->An):Ac D->Ac D->An
 |[],[]=>Ae
 |[],_::_=>Ab
 |_::_,[]=>Ae
 |x::xs,y::ys=>if Tm x y=Ab then ltDs lt xs ys else lt x y
noncomputable def Ø:Ag->D->An
 |0,.int _=>Ab
 |n+1,.H xs=>xs.all (Ø n)
 |_,_=>Ae
noncomputable def W2(lt:D->D->An)(x:D):Ac D->Ac D
 |[]=>[x]
 |y::ys=>if lt y x=Ab then y::W2 lt x ys else x::y::ys
noncomputable def V6(lt:D->D->An):Ac D->Ac D
 |[]=>[]
 |x::xs=>W2 lt x (V6 lt xs)
noncomputable def Xr:Ac D->An
 |[]=>Ab
 |x::xs=>xs.all (λy=>!Tm x y)&&Xr xs
noncomputable def Xc:Ac D->An
 |[]=>Ab
 |[_]=>Ab
 |x::y::r=>iw 1 x y&&Xc (y::r)
noncomputable def UM(xs:Ac D):R (Ac D):=if (xs.all (λd=>Ø 1 d && !Tm d (.H []))&&Xr xs&&(decide (xs.length<64)||(Xc xs&&decide (xs.length<=1000))))=Ab then .ok (V6 (iw 1) xs) else .bad
noncomputable def BS:DC->D->D->R D
  |.Eq,x,y=>if (Y8 5 x&&Y8 5 y)=Ab then .ok (.bl (Tm x y)) else .bad
  |.NotEq,x,y=>if (Y8 5 x&&Y8 5 y)=Ab then .ok (.bl (!Tm x y)) else .bad
  |.Lt,.int i,.int j=>.ok (.bl (decide (i<j)))
  |.LtE,.int i,.int j=>.ok (.bl (decide (i<=j)))
  |.Gt,.int i,.int j=>.ok (.bl (decide (j<i)))
  |.GtE,.int i,.int j=>.ok (.bl (decide (j<=i)))
  |.In,x,.L ys=>if (Y8 5 x&&ys.all (Y8 5))=Ab then .ok (.bl (ys.any λy=>Tm y x)) else .bad
  |.In,x,.dic kvs=>match Mp x with
    |some k=>.ok (.bl (kvs.any λp=>p.1==k))
    |none=>.bad
  |.In,x,.H ys=>if (Y8 5 x&&ys.all (Y8 5))=Ab then .ok (.bl (ys.any λy=>Tm y x)) else .bad
  |.NotIn,x,.L ys=>if (Y8 5 x&&ys.all (Y8 5))=Ab then .ok (.bl (!ys.any λy=>Tm y x)) else .bad
  |.NotIn,x,.H ys=>if (Y8 5 x&&ys.all (Y8 5))=Ab then .ok (.bl (!ys.any λy=>Tm y x)) else .bad
  |.Is,.O,.O=>.ok (.bl Ab)
  |.Is,.bl _,.O=>.ok (.bl Ae)
  |.Is,.int _,.O=>.ok (.bl Ae)
  |.Is,.str _,.O=>.ok (.bl Ae)
  |.Is,.H _,.O=>.ok (.bl Ae)
  |.Is,.L _,.O=>.ok (.bl Ae)
  |.Is,.obj _ _,.O=>.ok (.bl Ae)
  |.Is,.bl a,.bl b=>.ok (.bl (a==b))
  |.IsNot,.bl a,.bl b=>.ok (.bl (!(a==b)))
  |.IsNot,.O,.O=>.ok (.bl Ae)
  |.IsNot,.bl _,.O=>.ok (.bl Ab)
  |.IsNot,.int _,.O=>.ok (.bl Ab)
  |.IsNot,.str _,.O=>.ok (.bl Ab)
  |.IsNot,.H _,.O=>.ok (.bl Ab)
  |.IsNot,.L _,.O=>.ok (.bl Ab)
  |.IsNot,.obj _ _,.O=>.ok (.bl Ab)
  |_,_,_=>.bad
noncomputable def Bq:D->R An
 |.O=>.ok Ae
 |.bl b=>.ok b
 |.int i=>.ok (i != 0)
 |.str x=>if CY x.length=Ab then .ok (x.length != 0) else .bad
 |.H xs=>.ok (!xs.isEmpty)
 |.L xs=>.ok (!xs.isEmpty)
 |_=>.bad
noncomputable def qd(n:Ag)(i:Ai):Ao Ag:=if 0<=i then (if i<n then Aa i.toNat else Af) else if -(n:Ai)<=i then Aa (i+n).toNat else Af
noncomputable def DU(xs:Ac D)(i:Ai):R D:=match qd xs.length i with
  |some k=>match xs[k]? with
    |some d=>.ok d
    |none=>.bad
  |none=>.bad
noncomputable def rD(kvs:Ac (Ac Ai×D))(k:Ac Ai):Ao D:=(kvs.find? λp=>p.1==k).map (·.2)
noncomputable def V1(kvs:Ac (Ac Ai×D))(k:Ac Ai)(v:D):Ac (Ac Ai×D):=if (kvs.any λp=>p.1==k)=Ab then kvs.map (λp=>if (p.1==k)=Ab then (k,v) else p) else kvs++[(k,v)]
noncomputable def NC(x:Ah):Ac D:=x.cps.toList.map λc=>.str ⟨#[c]⟩
noncomputable def G8:D->D->R D
  |.str x,.int i=>if CY x.length=Ab then DU (NC x) i else .bad
  |.L xs,.int i=>DU xs i
  |.H xs,.int i=>DU xs i
  |.dic kvs,k=>match (Mp k).bind (rD kvs) with
    |some d=>.ok d
    |none=>.bad
  |_,_=>.bad
noncomputable def FQ:D->R Ai
 |.int i=>.ok i
 |_=>.bad
noncomputable def Dj:D->R An
 |.bl b=>.ok b
 |_=>.bad
noncomputable def Eu:D->R (Ac D)
 |.L xs=>.ok xs
 |.H xs=>.ok xs
 |_=>.bad
noncomputable def xW:D->R (Ac D)
 |.L xs=>.ok xs
 |_=>.bad
inductive BI where
 |len|abs|max|min|int|list|tuple|all|any|sum|sorted|str|count|stp|lset|tmin|tmax|tlt|rvs|sjoin|ssplit|index
 deriving DecidableEq,Inhabited
inductive Ki where
 |int|bool|str|list|tuple|verr|cls (c:Ag)
 deriving DecidableEq,Inhabited
mutual
inductive E where
 |O|bl (b:An)|int (i:Ai)|str (x:Ah)
 |v (i:Ag)|glob (g:Ag)
 |B (op:Gr) (a b:E)|un (op:K1) (a:E)|no (a:E)
 |and (es:Es)|or (es:Es)
 |cmp (op:DC) (a b:E)|cmp2 (op op':DC) (a b c:E)
 |ite (c a b:E)
 |call (f:Ag) (as:Es)|bi (b:BI) (as:Es)
 |isi (a:E) (ks:Ac Ki)
 |x (a i:E)|sl (a lo hi:E)
 |H (es:Es)|L (es:Es)
 |comp (elt:E) (t:Ag) (it:I) (c:E)|compT (elt:E) (ts:Ac Ag) (it:I) (c:E)|tupI (it:I)|dnew
 |fld (o:E) (f:Ah)|mkx (c:Ag) (as:Es)
 |ofl (o:E) (f:Ah)|iso (a:E) (k:Ag)|meth (m:Ah) (ms:Ac (Ag×Ag)) (o:E)|mkob (c:Ag) (e:E)|mkn (c:Ag) (as:Es)
inductive Es where
 |nil|cons (e:E) (es:Es)
inductive I where
 |e (a:E)|rng (a:E)|rng2 (a b:E)|zip (a b:E)|zip3 (a b c:E)|enm (a:E)
end
abbrev Sl:=Ao (D×An)
abbrev Rho:=Ac Sl
structure Z4 where
 F:Ag->Ac D->R D
 G:Ag->D
 up:Ag->Ac Ag
 fr:Ag->An
 xn:Ag->Ac D->R Ex
noncomputable def Iz(lo:Ai)(n:Ag):Ac D:=(BR n).map fun(k:Ag)=>D.int (lo+(k:Ai))
noncomputable def EX(lo hi:Ai):R (Ac D):=if (-(4611686018427387904:Ai)<=lo/\lo<4611686018427387904)/\(-(4611686018427387904:Ai)<=hi/\hi<4611686018427387904)/\hi-lo<1000000 then .ok (Iz lo (hi-lo).toNat) else .bad
noncomputable def yc(up:Ag->Ac Ag):Ki->D->An
 |.int,.int _=>Ab
 |.int,.bl _=>Ab
 |.bool,.bl _=>Ab
 |.str,.str _=>Ab
 |.list,.L _=>Ab
 |.tuple,.H _=>Ab
 |.cls c,.obj k _=>(up k).contains c
 |.cls c,.exc k _=>(up k).contains c
 |.verr,.exc _ _=>Ab
 |_,_=>Ae
noncomputable def E5:Ki->An
 |.cls _=>Ab
 |.verr=>Ab
 |_=>Ae
noncomputable def Eg(up:Ag->Ac Ag)(ks:Ac Ki)(x:D):R D:=match x with
  |.obj _ _=>.bad
  |.exc _ _=>if ks.all E5=Ab then .ok (.bl (ks.any λk=>yc up k x)) else .bad
  |.dic _=>.bad
  |_=>if ks.any E5=Ab then .bad else .ok (.bl (ks.any λk=>yc up k x))
noncomputable def Ix:D->R An
 |.O=>.ok Ae
 |.bl b=>.ok b
 |.int i=>.ok (i != 0)
 |_=>.bad
noncomputable def G4:Ac D->R An
 |[]=>.ok Ab
 |x::r=>(Ix x).bind λb=>(G4 r).bind λc=>.ok (b&&c)
noncomputable def OL:Ac D->R An
 |[]=>.ok Ae
 |x::r=>(Ix x).bind λb=>(OL r).bind λc=>.ok (b||c)
noncomputable def Pa:Ai->Ac D->R Ai
 |a,[]=>.ok a
 |a,.int i::r=>Pa (a+i) r
 |_,_=>.bad
noncomputable def RP:Ac D->Ac D->Ac D
 |x::xs,y::ys=>.H [x,y]::RP xs ys
 |_,_=>[]
noncomputable def V3:Ac D->Ac D->Ac D->Ac D
 |x::xs,y::ys,z::zs=>.H [x,y,z]::V3 xs ys zs
 |_,_,_=>[]
noncomputable def V2(x y z:D):R (Ac D):=(Eu x).bind λxs=>(Eu y).bind λys=>(Eu z).bind λzs=>if 0<xs.length/\xs.length<=1000/\ys.length=xs.length/\zs.length=xs.length then .ok (V3 xs ys zs) else .bad
noncomputable def OY:Ai->Ac D->Ac D
 |_,[]=>[]
 |i,x::xs=>.H [.int i,x]::OY (i+1) xs
noncomputable def xl:Ag->D->An
 |_,.O=>Ab
 |_,.bl _=>Ab
 |_,.int _=>Ab
 |_,.str _=>Ab
 |n+1,.H xs=>xs.all (xl n)
 |_,_=>Ae
noncomputable def JL(fr:An):D->An
 |.L ds=>fr&&ds.all (xl 5)
 |d=>xl 5 d
noncomputable def JE:Ac D->Ao (Ac Ai)
 |[]=>Aa []
 |.int i::r=>(JE r).map (i :: ·)
 |_=>Af
noncomputable def IZ(i:Ai):Ac Ai->Ai
 |[]=>i
 |j::r=>IZ (if j<i then j else i) r
noncomputable def pk2(k n:Ag):Ac Ag:=(BR ((n-min k n+1)/2)).map λj=>min k n+2*j
noncomputable def zL(k:Ag)(xs:Ac D):Ac D:=(pk2 k xs.length).filterMap λi=>xs[i]?
noncomputable def ddS(zy:Ac Ai)(x:Ai):Ac Ai:=if zy.any (· == x)=Ab then zy else zy++[x]
noncomputable def ddN(is:Ac Ai):Ag:=(is.foldl ddS []).length
noncomputable def xD(xs:Ac D):R D:=match JE xs with
  |some is=>if CF is.length 4000=Ab then .ok (.int (ddN is)) else .bad
  |none=>.bad
noncomputable def mmD(mx:An)(x y:D):R D:=if [x,y].all (λd=>Ø 1 d && !Tm d (.H []))=Ab then .ok (if (if mx=Ab then iw 1 x y else iw 1 y x)=Ab then y else x) else .bad
noncomputable def WR(x y:D):R D:=if [x,y].all (λd=>Ø 1 d && !Tm d (.H []))=Ab then .ok (.bl (iw 1 x y)) else .bad
noncomputable def yN(k:Ac Ai):Ai:=reduceHash (Builtin.Tuple.tupleHashOf (k.map hashInt))
noncomputable def Wj:Ac D->Ao (Ac (Ac Ai))
 |[]=>Aa []
 |.H xs::r=>(JE xs).bind λk=>(Wj r).map (k :: ·)
 |_=>Af
noncomputable def WQ:Ac Ai->An
 |[]=>Ab
 |h::r=>!r.contains h&&WQ r
noncomputable def xC(xs:Ac D):R D:=match Wj xs with
  |some ks=>if (CF ks.length 3&&WQ (ks.map yN))=Ab then .ok (.int ks.length) else .bad
  |none=>.bad
noncomputable def Mj:Ac D->Ao (Ac Ah)
 |[]=>Aa []
 |.str x::r=>(Mj r).map (x :: ·)
 |_=>Af
noncomputable def QQ(s:Ah)(xs:Ac D):R D:=match Mj xs with
  |some ss=>if J8 s ss=Ab then .ok (.str (Ep s ss)) else .bad
  |none=>.bad
noncomputable def Lx(i:Ai):An:=decide (i.natAbs<1000)
noncomputable def Jd(x y:Ah):An:=CF x.length 1000000&&CF (YA x (DB x y 0 x.length (x.length+1)) y.length).length 1000000
noncomputable def JS(x:Ah)(l h:Ao Ai):Ah:=if ((EQ l h 1 x.length).length==x.length)=Ab then x else ⟨((EQ l h 1 x.length).filterMap (x.cps[·]?)).toArray⟩
noncomputable def OP(xs:Ac D)(x:D):R D:=if (Y8 5 x&&xs.all (Y8 5))=Ab then (match xs.findIdx? λy=>Tm y x with
  |some j=>.ok (.int (j:Ag))
  | none=>.bad) else .bad
noncomputable def zY:BI->Ac D->R D
  |.len,[.L xs]=>.ok (.int xs.length)
  |.len,[.H xs]=>.ok (.int xs.length)
  |.len,[.str x]=>if CY x.length=Ab then .ok (.int x.length) else .bad
  |.abs,[.int i]=>.ok (.int (if i<0 then -i else i))
  |.max,[.int i,.int j]=>.ok (.int (if i<j then j else i))
  |.min,[.int i,.int j]=>.ok (.int (if j<i then j else i))
  |.min,[.L xs]=>match JE xs with
    |some (i::is)=>.ok (.int (IZ i is))
    |_=>.bad
  |.int,[.int i]=>.ok (.int i)
  |.int,[.bl b]=>.ok (.int (î b))
  |.list,[.L xs]=>.ok (.L xs)
  |.list,[.H xs]=>.ok (.L xs)
  |.tuple,[.L xs]=>.ok (.H xs)
  |.tuple,[.H xs]=>.ok (.H xs)
  |.all,[.L xs]=>(G4 xs).bind λb=>.ok (.bl b)
  |.any,[.L xs]=>(OL xs).bind λb=>.ok (.bl b)
  |.any,[.H xs]=>(OL xs).bind λb=>.ok (.bl b)
  |.sum,[.L xs]=>(Pa 0 xs).bind λi=>.ok (.int i)
  |.sum,[.H xs]=>(Pa 0 xs).bind λi=>.ok (.int i)
  |.sorted,[.L xs]=>(UM xs).bind λys=>.ok (.L ys)
  |.index,[.L xs,x]=>OP xs x
  |.count,[.L xs,x]=>if (Y8 5 x&&xs.all (Y8 5))=Ab then .ok (.int ((xs.filter λy=>Tm y x).length:Ag)) else .bad
  |.len,[.dic kvs]=>.ok (.int kvs.length)
  |.stp,[.L xs,.int k]=>.ok (.L (zL k.toNat xs))
  |.lset,[.L xs]=>xD xs
  |.lset,[.H xs]=>xC xs
  |.sjoin,[.str s,.L xs]=>QQ s xs
  |.str,[.int i]=>if Lx i=Ab then .ok (.str (Aj (toString i))) else .bad
  |.ssplit,[.str x,.str y]=>if (!(y.length==0)&&Jd x y)=Ab then .ok (.L ((DH x y).map D.str)) else .bad
  |.tmin,[x,y]=>mmD Ae x y
  |.tmax,[x,y]=>mmD Ab x y
  |.tlt,[x,y]=>WR x y
  |.rvs,[.L xs]=>.ok (.L xs.reverse)
  |_,_=>.bad
noncomputable def slE(c:E)(d:D):R (Ao Ai):=match c with
  |.O=>.ok Af
  |_=>(FQ d).bind λi=>.ok (Aa i)
noncomputable def IX(n d:Ag):Ao Ai->Ag
 |none=>d
 |some i=>if i<0 then (i+n).toNat else min i.toNat n
noncomputable def JK(xs:Ac D)(lo hi:Ao Ai):Ac D:=(xs.drop (IX xs.length 0 lo)).take (IX xs.length xs.length hi-IX xs.length 0 lo)
noncomputable def i9:D->Ao Ai->Ao Ai->R D
 |.L xs,l,h=>.ok (.L (JK xs l h))
 |.H xs,l,h=>if (IX xs.length 0 l==0&&IX xs.length xs.length h==xs.length)=Ab then .bad else .ok (.H (JK xs l h))
 |.str x,l,h=>if (CY x.length&&CY (JS x l h).length)=Ab then .ok (.str (JS x l h)) else .bad
 |_,_,_=>.bad
noncomputable def oup:Ag->Ac Ag
 |0=>[0]
 |1=>[1,0]
 |2=>[2,0]
 |_=>[]
noncomputable def b7:D->Ah->R D
  |.obj _ fs,f=>match fs.lookup f with
    |some d=>.ok d
    |none=>.bad
  |_,_=>.bad
noncomputable def R7(k:Ag):D->R D
 |.obj c _=>.ok (.bl ((oup c).contains k))
 |_=>.bad
noncomputable def Nd(F:Ag->Ac D->R D)(m:Ah)(ms:Ac (Ag×Ag)):D->R D
  |.obj c fs=>match ms.lookup c with
    |some id=>if (fs.lookup m).isNone=Ab then F id [.obj c fs] else .bad
    |none=>.bad
  |_=>.bad
noncomputable def EJ(c:Ag):D->R D
 |.H [a,b]=>if xl 5 b=Ab then .ok (.obj c [("p",a),("triple",b)]) else .bad
 |_=>.bad
noncomputable def R4:D->Ah->R D
  |.exc _ fs,f=>match fs.lookup f with
    |some d=>.ok d
    |none=>.bad
  |_,_=>.bad
noncomputable def Gc(U:Rho)(i:Ag):R D:=match U[i]? with
  |some (Aa (d,Ae))=>.ok d
  |_=>.bad
noncomputable def zS:D->R D
 |.L xs=>.ok (.L xs)
 |_=>.bad
noncomputable def CT(U:Rho)(i:Ag):R D:=match U[i]? with
  |some (Aa (d,Ae))=>.ok d
  |some (Aa (d,Ab))=>zS d
  |_=>.bad
noncomputable def vt(U:Rho):E->An
  | .v i=>(match U[i]? with
    |some (Aa (_,Ab))=>Ae
    | _=>Ab)
  |_=>Ab
noncomputable def JJ(U:Rho):Es->An
 |.nil=>Ab
 |.cons e es=>vt U e&&JJ U es
noncomputable def Hk:Ac Ag->Ac D->Rho->Ao Rho
 |[],[],U=>Aa U
 |t::ts,d::ds,U=>Hk ts ds (U.set t (Aa (d,Ae)))
 |_,_,_=>Af
noncomputable def HK(ts:Ac Ag)(d:D)(U:Rho):R Rho:=match d with
  | .H xs=>(match Hk ts xs U with
    |some U'=>.ok U'
    | none=>.bad)
  |_=>.bad
noncomputable def Mh(ts:Ac Ag)(d:D)(U:Rho):R Rho:=match d with
  | .L xs=>(match Hk ts xs U with
    |some U'=>.ok U'
    | none=>.bad)
  |d=>HK ts d U
noncomputable def Cr(g:D->R An)(f:D->R D):Ac D->R (Ac D)
 |[]=>.ok []
 |x::xs=>(g x).bind λb=>if b=Ab then (f x).bind λy=>(Cr g f xs).bind λys=>.ok (y::ys) else Cr g f xs
noncomputable def zn{α:Type}:R α->R α
 |.ok a=>.ok a
 |_=>.bad
noncomputable def top(U:Rho)(e:E)(r:R D):R D:=match e with
  |.v i=>CT U i
  |_=>r
mutual
noncomputable def evE(Z:Z4)(U:Rho):E->R D
 |.O=>.ok .O
 |.bl b=>.ok (.bl b)
 |.int i=>.ok (.int i)
 |.str x=>.ok (.str x)
 |.v i=>Gc U i
 |.glob g=>.ok (Z.G g)
 |.B op a b=>(top U a (evE Z U a)).bind λx=>(top U b (evE Z U b)).bind λy=>Dc op x y
 |.un op a=>(top U a (evE Z U a)).bind λx=>ç op x
 |.no a=>(top U a (evE Z U a)).bind λx=>(Dj x).bind λb=>.ok (.bl (!b))
 |.and es=>evN Z U es
 |.or es=>evO Z U es
 |.cmp op a b=>(top U a (evE Z U a)).bind λx=>(top U b (evE Z U b)).bind λy=>BS op x y
 |.cmp2 op op' a b c=>(top U a (evE Z U a)).bind λx=>(top U b (evE Z U b)).bind λy=>(BS op x y).bind λz=>(Dj z).bind λk=>if k=Ab then (top U c (evE Z U c)).bind λu=>BS op' y u else .ok (.bl Ae)
 |.ite c a b=>(top U c (evE Z U c)).bind λx=>(Bq x).bind λk=>if k=Ab then evE Z U a else evE Z U b
 |.call f as=>(xx Z U as).bind λxs=>(Z.F f xs).bind λd=>if JJ U as=Ab then .ok d else if JL (Z.fr f) d=Ab then .ok d else .bad
 |.bi b as=>(xx Z U as).bind λxs=>zY b xs
 |.isi a ks=>(top U a (evE Z U a)).bind λx=>Eg Z.up ks x
 |.x a i=>(top U a (evE Z U a)).bind λx=>(top U i (evE Z U i)).bind λy=>G8 x y
 |.sl a lo hi=>(top U a (evE Z U a)).bind λx=>(top U lo (evE Z U lo)).bind λl=>(slE lo l).bind λl'=>(top U hi (evE Z U hi)).bind λh=>(slE hi h).bind λh'=>i9 x l' h'
 |.H es=>(ye Z U es).bind λxs=>.ok (.H xs)
 |.L es=>(ye Z U es).bind λxs=>.ok (.L xs)
 |.comp elt t it c=>(wt Z U it).bind λxs=>(zn (Cr (λx=>(top (U.set t (Aa (x,Ae))) c (evE Z (U.set t (Aa (x,Ae))) c)).bind Bq) (λx=>evE Z (U.set t (Aa (x,Ae))) elt) xs)).bind λys=>.ok (.L ys)
 |.compT elt ts it c=>(wt Z U it).bind λxs=>(zn (Cr (λx=>(HK ts x U).bind λU'=>(top U' c (evE Z U' c)).bind Bq) (λx=>(HK ts x U).bind λU'=>evE Z U' elt) xs)).bind λys=>.ok (.L ys)
 |.tupI it=>(wt Z U it).bind λxs=>.ok (.H xs)
 |.dnew=>.ok (.dic [])
 |.fld o f=>(top U o (evE Z U o)).bind λx=>R4 x f
 |.mkx c as=>(zn (ye Z U as)).bind λxs=>(Z.xn c xs).bind λx=>.ok (.exc x.c x.fs)
 |.ofl o f=>(top U o (evE Z U o)).bind λx=>b7 x f
 |.iso a k=>(top U a (evE Z U a)).bind λx=>R7 k x
 |.meth m ms o=>(top U o (evE Z U o)).bind λx=>Nd Z.F m ms x
 |.mkob c e=>(zn (evE Z U e)).bind λx=>EJ c x
 |.mkn c as=>(zn (ye Z U as)).bind λxs=>Z.F (900+c) xs
noncomputable def evN(Z:Z4)(U:Rho):Es->R D
 |.nil=>.bad
 |.cons e .nil=>evE Z U e
 |.cons e (.cons e' es)=>(evE Z U e).bind λx=>(Dj x).bind λc=>if c=Ab then evN Z U (.cons e' es) else .ok (.bl Ae)
noncomputable def evO(Z:Z4)(U:Rho):Es->R D
 |.nil=>.bad
 |.cons e .nil=>evE Z U e
 |.cons e (.cons e' es)=>(evE Z U e).bind λx=>(Dj x).bind λc=>if c=Ab then .ok (.bl Ab) else evO Z U (.cons e' es)
noncomputable def ye(Z:Z4)(U:Rho):Es->R (Ac D)
 |.nil=>.ok []
 |.cons e es=>(evE Z U e).bind λx=>(ye Z U es).bind λxs=>.ok (x::xs)
noncomputable def xx(Z:Z4)(U:Rho):Es->R (Ac D)
 |.nil=>.ok []
 |.cons e es=>(top U e (evE Z U e)).bind λx=>(xx Z U es).bind λxs=>.ok (x::xs)
noncomputable def wt(Z:Z4)(U:Rho):I->R (Ac D)
 |.e a=>(evE Z U a).bind Eu
 |.rng a=>(top U a (evE Z U a)).bind λx=>(FQ x).bind λj=>EX 0 j
 |.rng2 a b=>(top U a (evE Z U a)).bind λx=>(top U b (evE Z U b)).bind λy=>(FQ x).bind λi=>(FQ y).bind λj=>EX i j
 |.zip a b=>(evE Z U a).bind λx=>(evE Z U b).bind λy=>(Eu x).bind λxs=>(Eu y).bind λys=>.ok (RP xs ys)
 |.zip3 a b c=>(evE Z U a).bind λx=>(evE Z U b).bind λy=>(evE Z U c).bind λz=>V2 x y z
 |.enm a=>(evE Z U a).bind λx=>(Eu x).bind λxs=>.ok (OY 0 xs)
end
noncomputable def Fv(Z:Z4):E->An
 |.L _=>Ab
 |.comp _ _ _ _=>Ab
 |.compT _ _ _ _=>Ab
 |.dnew=>Ab
 |.B .Add _ _=>Ab
 |.bi .list _=>Ab
 |.bi .sorted _=>Ab
 |.sl _ _ _=>Ab
 |.call f _=>Z.fr f
 |_=>Ae
mutual
inductive S where
 |pass
 |asg (i:Ag) (fresh:An) (e:E)
 |asgT (ts:Ac Ag) (e:E)
 |expr (e:E)
 |ret (e:E)|retN
 |ife (c:E) (a b:Ss)
 |fors (t:Ag) (it:I) (body:Ss)
 |forT (ts:Ac Ag) (it:I) (body:Ss)
 |forO (i:Ag) (ts:Ac Ag) (body:Ss)
 |whl (c:E) (body:Ss)
 |rais (c:Ag) (as:Es)
 |tryx (body:Ss) (c:Ag) (x:Ag) (h:Ss)
 |try2 (body:Ss) (c:Ag) (x:Ag) (h:Ss) (c':Ag) (h' els:Ss)
 |app (i:Ag) (e:E)|ext (i:Ag) (e:E)|ins (i:Ag) (k e:E)|rev (i:Ag)|clr (i:Ag)
 |dput (i:Ag) (k e:E)|dsd (i:Ag) (k e:E)
 |put (i:Ag) (k e:E)
 |swp (i k l:Ag)
 |apop (j i:Ag) (e:E)
 |brk|cont
 |rel (i:Ag)
inductive Ss where
 |nil|cons (s:S) (ss:Ss)
end
inductive O where
 |next (U:Rho)|ret (d:D) (fr:An)|brk (U:Rho)|cont (U:Rho)|exn (x:Ex) (U:Rho)|bad
 deriving Inhabited
noncomputable def O.of{α:Type}(U:Rho)(r:R α)(f:α->O):O:=match r with
  |.ok a=>f a
  |.exn x=>.exn x U
  |.bad=>.bad
@[simp]theorem O.of_ok(U:Rho)(a:α)(f:α->O):O.of U (.ok a) f=f a:=rfl
@[simp]theorem O.of_exn(U:Rho)(x:Ex)(f:α->O):O.of U (.exn x:R α) f=.exn x U:=rfl
@[simp]theorem O.of_bad(U:Rho)(f:α->O):O.of U (.bad:R α) f=.bad:=rfl
noncomputable def KY(Z:Z4)(U:Rho)(i:I):R (Ac D):=wt Z U i
noncomputable def FU(U:Rho)(i:Ag):R (Ac D):=match U[i]? with
  |some (Aa (.L xs,Ab))=>.ok xs
  |_=>.bad
noncomputable def Xk(U:Rho)(i:Ag):R (Ac (Ac Ai×D)):=match U[i]? with
  |some (Aa (.dic xs,Ab))=>.ok xs
  |_=>.bad
noncomputable def Wy(d:D):R (Ac Ai):=match Mp d with
  |some k=>.ok k
  |none=>.bad
noncomputable def wM:Ag:=4096
noncomputable def O.seq(o:O)(f:Rho->O):O:=match o with
  |.next U=>f U
  |.ret d b=>.ret d b
  |.brk U=>.brk U
  |.cont U=>.cont U
  |.exn x U=>.exn x U
  |.bad=>.bad
noncomputable def O.turn(o:O)(f:Rho->O):O:=match o with
  |.next U=>f U
  |.cont U=>f U
  |.brk U=>.next U
  |.ret d b=>.ret d b
  |.exn x U=>.exn x U
  |.bad=>.bad
noncomputable def Ev(body:D->Rho->O):Ac D->Rho->O
 |[],U=>.next U
 |x::xs,U=>(body x U).turn (Ev body xs)
noncomputable def WP(c:Rho->R An)(body:Rho->O):Ag->Rho->O
 |0,_=>.bad
 |n+1,U=>O.of U (c U) λb=>if b=Ab then (body U).turn (WP c body n) else .next U
noncomputable def We(U:Rho)(k:Ag):R Ai:=(Gc U k).bind FQ
noncomputable def zK(U:Rho)(d:D)(i k l:Ag):O:=match d with
  |.H [x,y]=>O.of U (FU U i) λxs=>O.of U (We U k) λa=>O.of U (We U l) λb=>match qd xs.length a,qd xs.length b with
    |some m,Aa n=>.next (U.set i (Aa (.L ((xs.set m x).set n y),Ab)))
    |_,_=>.bad
  |_=>.bad
noncomputable def apD(U:Rho)(j i:Ag)(ys xs:Ac D)(n:Ai):O:=match qd xs.length n with
  | some m=>(match xs[m]? with
    |some d=>if (j != i&&(CY xs.length&&CY (ys.length+1)))=Ab then .next ((U.set i (Aa (.L (xs.eraseIdx m),Ab))).set j (Aa (.L (ys++[d]),Ab))) else .bad
    | none=>.bad)
  |none=>.bad
noncomputable def ul(i:Ag)(y:Ex)(U':Rho)(fh:Rho->O):O:=match fh (U'.set i (Aa (.exc y.c y.fs,Ae))) with
  |.next vi=>.next (vi.set i Af)
  |.ret d f=>.ret d f
  |_=>.bad
noncomputable def RY(U:Rho)(i:Ag):D->O
 |.L xs=>.next (U.set i (Aa (.L xs,Ae)))
 |_=>.bad
noncomputable def Xj(U:Rho)(i:Ag):An:=match U[i]? with
  |some (Aa (.O,Ab))=>Ab
  |_=>Ae
noncomputable def tT(i:Ag)(xs:Ac D):O->O
 |.next U=>if Xj U i=Ab then .next (U.set i (Aa (.L xs,Ab))) else .bad
 |.ret d fr=>.ret d fr
 |_=>.bad
mutual
noncomputable def yz(Z:Z4)(U:Rho):S->O
  |.pass=>.next U
  | .asg i fresh e=>O.of U (evE Z U e) λd=>if fresh=Ab then (if Fv Z e=Ab then (match d with
      |.L xs=>.next (U.set i (Aa (.L xs,Ab)))
      |.dic xs=>.next (U.set i (Aa (.dic xs,Ab)))
      | _=>.bad) else .bad) else .next (U.set i (Aa (d,Ae)))
  |.asgT ts e=>O.of U (evE Z U e) λd=>O.of U (Mh ts d U) λU'=>.next U'
  |.expr e=>O.of U (evE Z U e) λ_=>.next U
  |.ret e=>O.of U (top U e (evE Z U e)) λd=>.ret d (Fv Z e||(match e with | .v i=>(match U[i]? with|some (Aa (_,o))=>o|_=>Ae)|_=>Ae))
  |.retN=>.ret .O Ae
  |.ife c a b=>O.of U ((top U c (evE Z U c)).bind Bq) λk=>if k=Ab then U6 Z U a else U6 Z U b
  |.fors t it body=>O.of U (KY Z U it) λxs=>Ev (λx U'=>U6 Z (U'.set t (Aa (x,Ae))) body) xs U
  |.forT ts it body=>O.of U (KY Z U it) λxs=>Ev (λx U'=>O.of U' (HK ts x U') λvi=>U6 Z vi body) xs U
  |.forO i ts body=>O.of U (FU U i) λxs=>tT i xs (Ev (λx U'=>if Xj U' i=Ab then O.of U' (HK ts x U') λvi=>U6 Z vi body else .bad) (OY 0 xs) (U.set i (Aa (.O,Ab))))
  |.whl c body=>WP (λU'=>(top U' c (evE Z U' c)).bind Bq) (λU'=>U6 Z U' body) wM U
  |.rais c as=>O.of U (zn (ye Z U as)) λxs=>O.of U (Z.xn c xs) λx=>.exn x U
  |.tryx body c x h=>match U6 Z U body with
      | .exn y U'=>if (Z.up y.c).contains c=Ab then (match U6 Z (U'.set x (Aa (.exc y.c y.fs,Ae))) h with
          |.next vi=>.next (vi.set x Af)
          |.ret d f=>.ret d f
          | _=>.bad) else .bad
      |o=>o
  |.try2 body c x h c' h' els=>match U6 Z U body with
      |.exn y U'=>if (Z.up y.c).contains c=Ab then ul x y U' (λr=>U6 Z r h) else if (Z.up y.c).contains c'=Ab then ul x y U' (λr=>U6 Z r h') else .bad
      |.next U'=>U6 Z U' els
      |o=>o
  |.app i e=>O.of U (FU U i) λxs=>O.of U (evE Z U e) λd=>if CY (xs.length+1)=Ab then .next (U.set i (Aa (.L (xs++[d]),Ab))) else .bad
  |.ext i e=>O.of U (FU U i) λxs=>O.of U (evE Z U e) λd=>O.of U (xW d) λys=>if CY (xs.length+ys.length)=Ab then .next (U.set i (Aa (.L (xs++ys),Ab))) else .bad
  |.ins i k e=>O.of U (FU U i) λxs=>O.of U ((top U k (evE Z U k)).bind FQ) λj=>O.of U (evE Z U e) λd=>if (CY (xs.length+1)&&decide (0<=j)&&decide (j<=xs.length))=Ab then .next (U.set i (Aa (.L (xs.take j.toNat++d::xs.drop j.toNat),Ab))) else .bad
  |.rev i=>O.of U (FU U i) λxs=>.next (U.set i (Aa (.L xs.reverse,Ab)))
  |.clr i=>O.of U (FU U i) λ_=>.next (U.set i (Aa (.L [],Ab)))
  |.dput i k e=>O.of U (evE Z U e) λd=>O.of U (Xk U i) λxs=>O.of U ((evE Z U k).bind Wy) λj=>if CY (xs.length+1)=Ab then .next (U.set i (Aa (.dic (V1 xs j d),Ab))) else .bad
  |.dsd i k e=>O.of U (Xk U i) λxs=>O.of U ((evE Z U k).bind Wy) λj=>O.of U (evE Z U e) λd=>if CY (xs.length+1)=Ab then .next (U.set i (Aa (.dic (if (xs.any λp=>p.1==j)=Ab then xs else V1 xs j d),Ab))) else .bad
  |.put i k e=>O.of U (evE Z U e) λd=>O.of U (FU U i) λxs=>O.of U ((top U k (evE Z U k)).bind FQ) λj=>match qd xs.length j with
      |some n=>.next (U.set i (Aa (.L (xs.set n d),Ab)))
      |none=>.bad
  |.swp i k l=>O.of U (evE Z U (.H (.cons (.x (.v i) (.v l)) (.cons (.x (.v i) (.v k)) .nil)))) λd=>zK U d i k l
  |.apop j i e=>O.of U (FU U j) λys=>O.of U (FU U i) λxs=>O.of U (evE Z U e) λd=>O.of U (FQ d) λn=>apD U j i ys xs n
  |.brk=>.brk U
  |.cont=>.cont U
  |.rel i=>match U[i]? with
      |some (Aa (d,Ab))=>RY U i d
      |_=>.next U
noncomputable def U6(Z:Z4)(U:Rho):Ss->O
 |.nil=>.next U
 |.cons s ss=>(yz Z U s).seq λU'=>U6 Z U' ss
end
structure Df where
 n:Ag
 fr:An
 body:Ss
noncomputable def Bw(n:Ag)(ds:Ac D):Rho:=ds.map (λd=>Aa (d,Ae))++EE (n-ds.length) Af
noncomputable def kn:D->An
 |.L _=>Ab
 |.dic _=>Ab
 |_=>Ae
noncomputable def O.ans(fr:An)(o:O):R D:=match o with
  |.ret d b=>if (fr&&(!b&&kn d))=Ab then .bad else .ok d
  |.next _=>if fr=Ab then .bad else .ok .O
  |.exn x _=>.exn x
  |_=>.bad
noncomputable def Df.run(Z:Z4)(f:Df)(ds:Ac D):R D:=(U6 Z (Bw f.n ds) f.body).ans f.fr
structure Prg where
 xs:An
 defs:Ag->Df
 G:Ag->D
 up:Ag->Ac Ag
 xn:Ag->Ac D->R Ex
noncomputable def Ew(xs:An)(r:R D):R D:=match xs with
  |true=>r
  |false=>zn r
noncomputable def Z6(P:Prg):Ag->Z4
 |0=>⟨λ_ _=>.bad,P.G,P.up,λi=>(P.defs i).fr,P.xn⟩
 |n+1=>⟨λi ds=>Ew P.xs ((P.defs i).run (Z6 P n) ds),P.G,P.up,λi=>(P.defs i).fr,P.xn⟩
end Ov
end
section
namespace Ov
open PySem
variable{α:Type}{lo hi:Ai}
section
variable(Z:Z4)(U:Rho)
instance:Insert E Es:=⟨.cons⟩
instance:Singleton E Es:=⟨λe=>.cons e .nil⟩
instance:Insert S Ss:=⟨.cons⟩
instance:Singleton S Ss:=⟨λe=>.cons e .nil⟩
@[simp]theorem ZzH(a:E)(l:Es):(insert a l:Es)=.cons a l:=rfl
@[simp]theorem Zzo(a:E):({a}:Es)=.cons a .nil:=rfl
@[simp]theorem ZzG(a:S)(l:Ss):(insert a l:Ss)=.cons a l:=rfl
@[simp]theorem Zzn(a:S):({a}:Ss)=.cons a .nil:=rfl
@[simp]theorem Zw9:evE Z U .O=.ok .O:=rfl
@[simp]theorem V0(b):evE Z U (.bl b)=.ok (.bl b):=rfl
@[simp]theorem Qw(b):evE Z U (.int b)=.ok (.int b):=rfl
@[simp]theorem Qv(b):evE Z U (.str b)=.ok (.str b):=rfl
@[simp]theorem Zw7(i):evE Z U (.v i)=Gc U i:=rfl
@[simp]theorem Zt2(i):evE Z U (.glob i)=.ok (Z.G i):=rfl
@[simp]theorem US(op a b):evE Z U (.B op a b)=(top U a (evE Z U a)).bind λx=>(top U b (evE Z U b)).bind λy=>Dc op x y:=rfl
@[simp]theorem ZyT(op a):evE Z U (.un op a)=(top U a (evE Z U a)).bind λx=>ç op x:=rfl
@[simp]theorem ZyW(a):evE Z U (.no a)=(top U a (evE Z U a)).bind λx=>(Dj x).bind λb=>.ok (.bl (!b)):=rfl
@[simp]theorem Zxd(es):evE Z U (.and es)=evN Z U es:=rfl
@[simp]theorem ZyV(es):evE Z U (.or es)=evO Z U es:=rfl
@[simp]theorem Zw3(e):evN Z U (.cons e .nil)=evE Z U e:=rfl
@[simp]theorem Uq(e e' es):evN Z U (.cons e (.cons e' es))=(evE Z U e).bind λx=>(Dj x).bind λc=>if c=Ab then evN Z U (.cons e' es) else .ok (.bl Ae):=rfl
@[simp]theorem Zw2(e):evO Z U (.cons e .nil)=evE Z U e:=rfl
@[simp]theorem ZtU(e e' es):evO Z U (.cons e (.cons e' es))=(evE Z U e).bind λx=>(Dj x).bind λc=>if c=Ab then .ok (.bl Ab) else evO Z U (.cons e' es):=rfl
@[simp]theorem KD(op a b):evE Z U (.cmp op a b)=(top U a (evE Z U a)).bind λx=>(top U b (evE Z U b)).bind λy=>BS op x y:=rfl
@[simp]theorem Zt4(op op' a b c):evE Z U (.cmp2 op op' a b c)=(top U a (evE Z U a)).bind λx=>(top U b (evE Z U b)).bind λy=>(BS op x y).bind λz=>(Dj z).bind λk=>if k=Ab then (top U c (evE Z U c)).bind λu=>BS op' y u else .ok (.bl Ae):=rfl
@[simp]theorem fU(f as):evE Z U (.call f as)=(xx Z U as).bind λxs=>(Z.F f xs).bind λd=>if JJ U as=Ab then .ok d else if JL (Z.fr f) d=Ab then .ok d else .bad:=rfl
@[simp]theorem KM(f as):evE Z U (.bi f as)=(xx Z U as).bind λxs=>zY f xs:=rfl
@[simp]theorem Zxc(a ks):evE Z U (.isi a ks)=(top U a (evE Z U a)).bind λx=>Eg Z.up ks x:=rfl
@[simp]theorem N2(a i):evE Z U (.x a i)=(top U a (evE Z U a)).bind λx=>(top U i (evE Z U i)).bind λy=>G8 x y:=rfl
@[simp]theorem ZyU(a lo hi):evE Z U (.sl a lo hi)=(top U a (evE Z U a)).bind λx=>(top U lo (evE Z U lo)).bind λl=>(slE lo l).bind λl'=>(top U hi (evE Z U hi)).bind λh=>(slE hi h).bind λh'=>i9 x l' h':=rfl
@[simp]theorem jV(es):evE Z U (.H es)=(ye Z U es).bind λxs=>.ok (.H xs):=rfl
@[simp]theorem jW(es):evE Z U (.L es)=(ye Z U es).bind λxs=>.ok (.L xs):=rfl
noncomputable def cG(Z:Z4)(U:Rho)(t:Ag)(c:E):D->R An:=λx=>(top (U.set t (Aa (x,Ae))) c (evE Z (U.set t (Aa (x,Ae))) c)).bind Bq
noncomputable def cF(Z:Z4)(U:Rho)(t:Ag)(elt:E):D->R D:=λx=>evE Z (U.set t (Aa (x,Ae))) elt
noncomputable def mkL(r:R (Ac D)):R D:=(zn r).bind λys=>.ok (.L ys)
@[simp]theorem Zyr(ys):mkL (.ok ys)=.ok (.L ys):=rfl
@[simp]theorem Zt3(elt t it c):evE Z U (.comp elt t it c)=(wt Z U it).bind λxs=>mkL (Cr (cG Z U t c) (cF Z U t elt) xs):=rfl
noncomputable def cGT(Z:Z4)(U:Rho)(ts:Ac Ag)(c:E):D->R An:=λx=>(HK ts x U).bind λU'=>(top U' c (evE Z U' c)).bind Bq
noncomputable def cFT(Z:Z4)(U:Rho)(ts:Ac Ag)(elt:E):D->R D:=λx=>(HK ts x U).bind λU'=>evE Z U' elt
@[simp]theorem Zsw(elt ts it c):evE Z U (.compT elt ts it c)=(wt Z U it).bind λxs=>mkL (Cr (cGT Z U ts c) (cFT Z U ts elt) xs):=rfl
@[simp]theorem ZtZ(it):evE Z U (.tupI it)=(wt Z U it).bind λxs=>.ok (.H xs):=rfl
@[simp]theorem Zw8(o f):evE Z U (.ofl o f)=(top U o (evE Z U o)).bind λx=>b7 x f:=rfl
@[simp]theorem Zxb(a k):evE Z U (.iso a k)=(top U a (evE Z U a)).bind λx=>R7 k x:=rfl
@[simp]theorem Zt1(m ms o):evE Z U (.meth m ms o)=(top U o (evE Z U o)).bind λx=>Nd Z.F m ms x:=rfl
@[simp]theorem Zt0(c e):evE Z U (.mkob c e)=(zn (evE Z U e)).bind λx=>EJ c x:=rfl
@[simp]theorem Zxa(c as):evE Z U (.mkn c as)=(zn (ye Z U as)).bind λxs=>Z.F (900+c) xs:=rfl
@[simp]theorem jY:ye Z U .nil=.ok []:=rfl
@[simp]theorem MU(e es):ye Z U (.cons e es)=(evE Z U e).bind λx=>(ye Z U es).bind λxs=>.ok (x::xs):=rfl
@[simp]theorem jX:xx Z U .nil=.ok []:=rfl
@[simp]theorem L6(e es):xx Z U (.cons e es)=(top U e (evE Z U e)).bind λx=>(xx Z U es).bind λxs=>.ok (x::xs):=rfl
@[simp]theorem ZzQ(a):wt Z U (.e a)=(evE Z U a).bind Eu:=rfl
@[simp]theorem Zw5(a):wt Z U (.rng a)=(top U a (evE Z U a)).bind λx=>(FQ x).bind λj=>EX 0 j:=rfl
@[simp]theorem ZtY(a b):wt Z U (.rng2 a b)=(top U a (evE Z U a)).bind λx=>(top U b (evE Z U b)).bind λy=>(FQ x).bind λi=>(FQ y).bind λj=>EX i j:=rfl
@[simp]theorem Zw4(a b):wt Z U (.zip a b)=(evE Z U a).bind λx=>(evE Z U b).bind λy=>(Eu x).bind λxs=>(Eu y).bind λys=>.ok (RP xs ys):=rfl
@[simp]theorem ZtX(a b c):wt Z U (.zip3 a b c)=(evE Z U a).bind λx=>(evE Z U b).bind λy=>(evE Z U c).bind λz=>V2 x y z:=rfl
@[simp]theorem Zw6(a):wt Z U (.enm a)=(evE Z U a).bind λx=>(Eu x).bind λxs=>.ok (OY 0 xs):=rfl
@[simp]theorem ZtW(a):KY Z U (.enm a)=wt Z U (.enm a):=rfl
@[simp]theorem ZyS(a):KY Z U (.e a)=(evE Z U a).bind Eu:=rfl
@[simp]theorem ZtV(a):KY Z U (.rng a)=wt Z U (.rng a):=rfl
@[simp]theorem Zsv(a b):KY Z U (.rng2 a b)=wt Z U (.rng2 a b):=rfl
variable(r:R D)
@[simp]theorem Ir(i):top U (.v i) r=CT U i:=rfl
@[simp]theorem ZuA:top U .O r=r:=rfl
@[simp]theorem Vk(b):top U (.bl b) r=r:=rfl
@[simp]theorem Qh(b):top U (.int b) r=r:=rfl
@[simp]theorem Qg(b):top U (.str b) r=r:=rfl
@[simp]theorem Ztr(b):top U (.glob b) r=r:=rfl
@[simp]theorem gG(op a b):top U (.B op a b) r=r:=rfl
@[simp]theorem ZxT(op a):top U (.un op a) r=r:=rfl
@[simp]theorem ZxW(a):top U (.no a) r=r:=rfl
@[simp]theorem ZuG(a):top U (.and a) r=r:=rfl
@[simp]theorem ZxV(a):top U (.or a) r=r:=rfl
@[simp]theorem N4(op a b):top U (.cmp op a b) r=r:=rfl
@[simp]theorem TY(a b):top U (.call a b) r=r:=rfl
@[simp]theorem Ob(a b):top U (.bi a b) r=r:=rfl
@[simp]theorem ZuE(a b):top U (.isi a b) r=r:=rfl
@[simp]theorem ZuF(a b):top U (.x a b) r=r:=rfl
@[simp]theorem ZxU(a b c):top U (.sl a b c) r=r:=rfl
@[simp]theorem Zuy(a):top U (.H a) r=r:=rfl
@[simp]theorem ZuC(a):top U (.L a) r=r:=rfl
@[simp]theorem Zts(a b c d):top U (.comp a b c d) r=r:=rfl
@[simp]theorem Zuz(a b):top U (.ofl a b) r=r:=rfl
@[simp]theorem ZuD(a b):top U (.iso a b) r=r:=rfl
@[simp]theorem Ztq(a b c):top U (.meth a b c) r=r:=rfl
@[simp]theorem Ztp(a b):top U (.mkob a b) r=r:=rfl
@[simp]theorem ZuB(a b):top U (.mkn a b) r=r:=rfl
@[simp]theorem Zqo(a b c d):top U (.compT a b c d) r=r:=rfl
@[simp]theorem Zto(a):top U (.tupI a) r=r:=rfl
end
@[simp]theorem Zqf(d:D)(U:Rho):CT (Aa (d,Ae)::U) 0=.ok d:=rfl
@[simp]theorem ZpS(xs:Ac D)(U:Rho):CT (Aa (.L xs,Ab)::U) 0=.ok (.L xs):=rfl
@[simp]theorem Zqg(x:D)(U:Rho):Gc (Aa (x,Ae)::U) 0=.ok x:=rfl
@[simp]theorem ZpT(x:Sl)(U:Rho)(i:Ag)[NeZero i]:CT (x::U) i=CT U (i-1):=by
 obtain⟨j,rfl⟩:∃ j,i=j+1:=⟨i-1,by have:=Mu i;omega⟩
 rfl
@[simp]theorem ZpU(x:Sl)(U:Rho)(i:Ag)[NeZero i]:Gc (x::U) i=Gc U (i-1):=by
 obtain⟨j,rfl⟩:∃ j,i=j+1:=⟨i-1,by have:=Mu i;omega⟩
 rfl
noncomputable def nr(U:Rho)(i:Ag):An:=match U[i]? with
    |some (Aa (_,Ab))=>Ae
    |_=>Ab
@[simp]theorem Ztw(x:D)(b:An)(U:Rho):nr (Aa (x,b)::U) 0=!b:=by cases b<;>rfl
@[simp]theorem ZqN(x:Sl)(U:Rho)(i:Ag)[NeZero i]:nr (x::U) i=nr U (i-1):=by
 obtain⟨j,rfl⟩:∃ j,i=j+1:=⟨i-1,by have:=Mu i;omega⟩
 rfl
section
variable(U:Rho)
@[simp]theorem Zu1(i):vt U (.v i)=nr U i:=rfl
@[simp]theorem Zu4(b):vt U (.int b)=Ab:=rfl
@[simp]theorem Zu6(op a b):vt U (.B op a b)=Ab:=rfl
@[simp]theorem ZtA(a b):vt U (.call a b)=Ab:=rfl
@[simp]theorem Zx5(a b):vt U (.bi a b)=Ab:=rfl
@[simp]theorem Zu5(a b):vt U (.x a b)=Ab:=rfl
@[simp]theorem Zu2(a):vt U (.H a)=Ab:=rfl
@[simp]theorem Ztz(a b c d):vt U (.comp a b c d)=Ab:=rfl
@[simp]theorem ZqO(a b c d):vt U (.compT a b c d)=Ab:=rfl
@[simp]theorem Zu3(a b):vt U (.ofl a b)=Ab:=rfl
@[simp]theorem Zty(a b c):vt U (.meth a b c)=Ab:=rfl
@[simp]theorem Ztx:JJ U .nil=Ab:=rfl
@[simp]theorem bX(e es):JJ U (.cons e es)=(vt U e&&JJ U es):=rfl
end
@[simp]theorem ZpY(U:Rho):Hk [] [] U=Aa U:=rfl
@[simp]theorem Znu(t ts d ds)(U:Rho):Hk (t::ts) (d::ds) U=Hk ts ds (U.set t (Aa (d,Ae))):=rfl
@[simp]theorem cQ(ts ds)(U:Rho):Mh ts (.L ds) U=match Hk ts ds U with
  |some U'=>.ok U'
  |none=>.bad:=rfl
@[simp]theorem aW(ts ds)(U:Rho):HK ts (.H ds) U=match Hk ts ds U with
  |some U'=>.ok U'
  |none=>.bad:=rfl
@[simp]theorem Zuc{β:Type}(c:Prop)[ID c](a b:R α)(f:α->R β):(if c then a else b).bind f=if c then a.bind f else b.bind f:=by split<;>rfl
@[simp]theorem Zym(U:Rho)(c:Prop)[ID c](a b:R α)(f:α->O):O.of U (if c then a else b) f=if c then O.of U a f else O.of U b f:=by split<;>rfl
@[simp]theorem Zwh{β:Type}(U:Rho)(a:R α)(g:α->R β)(f:β->O):O.of U (a.bind g) f=O.of U a λx=>O.of U (g x) f:=by cases a<;>rfl
@[simp]theorem ZxB(fr:An)(c:Prop)[ID c](a b:O):O.ans fr (if c then a else b)=if c then a.ans fr else b.ans fr:=by split<;>rfl
@[simp]theorem Zqk(U f):O.turn (.next U) f=f U:=rfl
@[simp]theorem Zug(U):O.ans Ae (.next U)=.ok .O:=rfl
@[simp]theorem ZxA(d b):O.ans Ae (.ret d b)=.ok d:=rfl
@[simp]theorem Zuf(d b):O.ans Ab (.ret d b)=if (!b&&kn d)=Ab then .bad else .ok d:=rfl
@[simp]theorem ZwD(d):kn (.L d)=Ab:=rfl
@[simp]theorem ZxC(fr x U):O.ans fr (.exn x U)=.exn x:=rfl
@[simp]theorem ZxD(fr):O.ans fr .bad=.bad:=rfl
@[simp]theorem Zy1(i j:Ai):Dc .Add (.int i) (.int j)=.ok (.int (i+j)):=rfl
@[simp]theorem Zx0(i j:Ai):Dc .Sub (.int i) (.int j)=.ok (.int (i-j)):=rfl
@[simp]theorem pO(i j:Ai):Dc .Mult (.int i) (.int j)=if (Fq i j||OK i j)=Ab then .ok (.int (i*j)) else .bad:=rfl
@[simp]theorem jT(i j:Ai):Dc .FloorDiv (.int i) (.int j)=if 0<j/\j<1073741824 then .ok (.int (i/j)) else .bad:=rfl
@[simp]theorem pP(i j:Ai):Dc .Mod (.int i) (.int j)=if 0<j then .ok (.int (i%j)) else .bad:=rfl
@[simp]theorem qL(i j:Ai):Dc .Pow (.int i) (.int j)=if (0<=j/\j<=1000000)/\(-(18446744073709551616:Ai)<i/\i<18446744073709551616) then .ok (.int (i ^ j.toNat)) else .bad:=rfl
@[simp]theorem Ld(x y:Ah):Dc .Add (.str x) (.str y)=if CY (x.length+y.length)=Ab then .ok (.str (x++y)) else .bad:=rfl
@[simp]theorem VC(x y:Ac D):Dc .Add (.L x) (.L y)=if CY (x.length+y.length)=Ab then .ok (.L (x++y)) else .bad:=rfl
@[simp]theorem VB(x y:Ac D):Dc .Add (.H x) (.H y)=if (!x.isEmpty&&CY (x.length+y.length))=Ab then .ok (.H (x++y)) else .bad:=rfl
@[simp]theorem Zzx(i:Ai):ç .USub (.int i)=.ok (.int (-i)):=rfl
@[simp]theorem xM(x y:D):BS .Eq x y=if (Y8 5 x&&Y8 5 y)=Ab then .ok (.bl (Tm x y)) else .bad:=rfl
@[simp]theorem wZ(x y:D):BS .NotEq x y=if (Y8 5 x&&Y8 5 y)=Ab then .ok (.bl (!Tm x y)) else .bad:=rfl
@[simp]theorem Zzy(i j:Ai):BS .Lt (.int i) (.int j)=.ok (.bl (decide (i<j))):=rfl
@[simp]theorem ZzB(i j:Ai):BS .LtE (.int i) (.int j)=.ok (.bl (decide (i<=j))):=rfl
@[simp]theorem ZzL(i j:Ai):BS .Gt (.int i) (.int j)=.ok (.bl (decide (j<i))):=rfl
@[simp]theorem ZzM(i j:Ai):BS .GtE (.int i) (.int j)=.ok (.bl (decide (j<=i))):=rfl
@[simp]theorem yM(x:D)(ys:Ac D):BS .In x (.L ys)=if (Y8 5 x&&ys.all (Y8 5))=Ab then .ok (.bl (ys.any λy=>Tm y x)) else .bad:=rfl
@[simp]theorem yL(x:D)(ys:Ac D):BS .In x (.H ys)=if (Y8 5 x&&ys.all (Y8 5))=Ab then .ok (.bl (ys.any λy=>Tm y x)) else .bad:=rfl
@[simp]theorem wY(x:D)(ys:Ac D):BS .NotIn x (.L ys)=if (Y8 5 x&&ys.all (Y8 5))=Ab then .ok (.bl (!ys.any λy=>Tm y x)) else .bad:=rfl
@[simp]theorem wX(x:D)(ys:Ac D):BS .NotIn x (.H ys)=if (Y8 5 x&&ys.all (Y8 5))=Ab then .ok (.bl (!ys.any λy=>Tm y x)) else .bad:=rfl
@[simp]theorem ZyC:BS .Is .O .O=.ok (.bl Ab):=rfl
@[simp]theorem ZyB(i):BS .Is (.H i) .O=.ok (.bl Ae):=rfl
@[simp]theorem Zwv:BS .IsNot .O .O=.ok (.bl Ae):=rfl
@[simp]theorem Zwu(i):BS .IsNot (.H i) .O=.ok (.bl Ab):=rfl
@[simp]theorem Zxj(i j:Ai):Tm (.int i) (.int j)=(i==j):=rfl
@[simp]theorem ZyX(i j:An):Tm (.bl i) (.bl j)=(i==j):=rfl
@[simp]theorem Zxh(i j:Ah):Tm (.str i) (.str j)=(i==j):=rfl
@[simp]theorem Zxg(i j:Ac D):Tm (.H i) (.H j)=LE i j:=rfl
@[simp]theorem Zxi(i j:Ac D):Tm (.L i) (.L j)=LE i j:=rfl
@[simp]theorem Zpa(i):Tm (.int i) .O=Ae:=rfl
@[simp]theorem Zt5:LE [] []=Ab:=rfl
@[simp]theorem PV(x y:D)(xs ys:Ac D):LE (x::xs) (y::ys)=(Tm x y&&LE xs ys):=rfl
@[simp]theorem ZwT(n)(i:Ai):Y8 n (.int i)=Ab:=by cases n<;>rfl
@[simp]theorem ZyQ(n)(i:An):Y8 n (.bl i)=Ab:=by cases n<;>rfl
@[simp]theorem ZwR(n)(i:Ah):Y8 n (.str i)=Ab:=by cases n<;>rfl
@[simp]theorem ZwS(n):Y8 n .O=Ab:=by cases n<;>rfl
@[simp]theorem ZtL(i):Y8 5 (.H i)=i.all (Y8 4):=rfl
@[simp]theorem ZtN(i):Y8 5 (.L i)=i.all (Y8 4):=rfl
@[simp]theorem ZtM(i):Y8 4 (.H i)=i.all (Y8 3):=rfl
@[simp]theorem Zuw(b):Bq (.bl b)=.ok b:=rfl
@[simp]theorem Zux(b):Ix (.bl b)=.ok b:=rfl
@[simp]theorem Zte:G4 []=.ok Ab:=rfl
@[simp]theorem SJ(x r):G4 (x::r)=(Ix x).bind λb=>(G4 r).bind λc=>.ok (b&&c):=rfl
@[simp]theorem Zwi(a:α):zn (.ok a)=.ok a:=rfl
@[simp]theorem Zxx(b):Dj (.bl b)=.ok b:=rfl
@[simp]theorem Ztc(b):FQ (.int b)=.ok b:=rfl
@[simp]theorem Zta(b):Eu (.L b)=.ok b:=rfl
@[simp]theorem Zs9(b):Eu (.H b)=.ok b:=rfl
@[simp]theorem wH(xs i):G8 (.L xs) (.int i)=DU xs i:=rfl
@[simp]theorem wG(xs i):G8 (.H xs) (.int i)=DU xs i:=rfl
@[simp]theorem ZzA(xs):zY .len [.L xs]=.ok (.int xs.length):=rfl
@[simp]theorem Zzz(xs):zY .len [.H xs]=.ok (.int xs.length):=rfl
@[simp]theorem Zyu(i j):zY .max [.int i,.int j]=.ok (.int (if i<j then j else i)):=rfl
@[simp]theorem Zyt(i j):zY .min [.int i,.int j]=.ok (.int (if j<i then j else i)):=rfl
@[simp]theorem Zyy(i):zY .list [.L i]=.ok (.L i):=rfl
@[simp]theorem Zyx(i):zY .list [.H i]=.ok (.L i):=rfl
@[simp]theorem Zuv(i):zY .tuple [.L i]=.ok (.H i):=rfl
@[simp]theorem xH(i):zY .all [.L i]=(G4 i).bind λb=>.ok (.bl b):=rfl
@[simp]theorem ZzV(i):zY .any [.L i]=(OL i).bind λb=>.ok (.bl b):=rfl
@[simp]theorem Zzl(i):zY .sum [.L i]=(Pa 0 i).bind λb=>.ok (.int b):=rfl
@[simp]theorem Ztv(i):zY .sorted [.L i]=(UM i).bind λb=>.ok (.L b):=rfl
@[simp]theorem Zy8(x y):zY .tlt [x,y]=WR x y:=rfl
@[simp]theorem zM(xs lo hi):i9 (.H xs) lo hi=if (IX xs.length 0 lo==0&&IX xs.length xs.length hi==xs.length)=Ab then .bad else .ok (.H (JK xs lo hi)):=rfl
@[simp]theorem Zz5(xs lo hi):i9 (.L xs) lo hi=.ok (.L (JK xs lo hi)):=rfl
@[simp]theorem ZuZ(d):slE .O d=.ok Af:=rfl
@[simp]theorem Zu0(k i):slE (.int k) (.int i)=.ok (Aa i):=rfl
@[simp]theorem Zwy(up ks):Eg up ks .O=if ks.any E5=Ab then .bad else .ok (.bl (ks.any λk=>yc up k .O)):=rfl
@[simp]theorem Zyz(up ks b):Eg up ks (.bl b)=if ks.any E5=Ab then .bad else .ok (.bl (ks.any λk=>yc up k (.bl b))):=rfl
@[simp]theorem ZwA(up ks b):Eg up ks (.int b)=if ks.any E5=Ab then .bad else .ok (.bl (ks.any λk=>yc up k (.int b))):=rfl
@[simp]theorem Zwx(up ks b):Eg up ks (.str b)=if ks.any E5=Ab then .bad else .ok (.bl (ks.any λk=>yc up k (.str b))):=rfl
@[simp]theorem Zww(up ks b):Eg up ks (.H b)=if ks.any E5=Ab then .bad else .ok (.bl (ks.any λk=>yc up k (.H b))):=rfl
@[simp]theorem Zwz(up ks b):Eg up ks (.L b)=if ks.any E5=Ab then .bad else .ok (.bl (ks.any λk=>yc up k (.L b))):=rfl
@[simp]theorem ZwB(up ks c f):Eg up ks (.exc c f)=if ks.all E5=Ab then .ok (.bl (ks.any λk=>yc up k (.exc c f))) else .bad:=rfl
@[simp]theorem Zt8:E5 .int=Ae:=rfl
@[simp]theorem ZsO:E5 .bool=Ae:=rfl
@[simp]theorem Zt7:E5 .str=Ae:=rfl
@[simp]theorem ZsN:E5 .list=Ae:=rfl
@[simp]theorem Zp6:E5 .tuple=Ae:=rfl
@[simp]theorem Zp3(up i):yc up .int (.int i)=Ab:=rfl
@[simp]theorem Zp2(up):yc up .int .O=Ae:=rfl
@[simp]theorem ZoK(up i):yc up .bool (.int i)=Ae:=rfl
@[simp]theorem Zp1(up i):yc up .int (.H i)=Ae:=rfl
@[simp]theorem Zp4(up i):yc up .bool (.bl i)=Ab:=rfl
@[simp]theorem ZoJ(up):yc up .bool .O=Ae:=rfl
@[simp]theorem ZoI(up i):yc up .list (.L i)=Ab:=rfl
@[simp]theorem Zmn(up i):yc up .tuple (.H i)=Ab:=rfl
@[simp]theorem Zmo(up):yc up .tuple .O=Ae:=rfl
theorem Um{xs:Ac D}{i:Ai}{d:D}(h0:0<=i)(h:xs[i.toNat]?=Aa d):DU xs i=.ok d:=by
 unfold DU qd;obtain⟨h1,_⟩:=A5.mp h;rw[Au h0,Au (by omega)]
 dsimp only;rw[h]
section
variable(Z:Z4)(U:Rho)
@[simp]theorem ZtO:U6 Z U .nil=.next U:=rfl
noncomputable def IC(Z:Z4)(ss:Ss)(o:O):O:=o.seq λU'=>U6 Z U' ss
@[simp]theorem dA(s ss):U6 Z U (.cons s ss)=IC Z ss (yz Z U s):=rfl
@[simp]theorem ZwN(ss):IC Z ss (.next U)=U6 Z U ss:=rfl
@[simp]theorem ZyH(ss d b):IC Z ss (.ret d b)=.ret d b:=rfl
@[simp]theorem ZyK(ss x):IC Z ss (.exn x U)=.exn x U:=rfl
@[simp]theorem ZyL(ss):IC Z ss .bad=.bad:=rfl
@[simp]theorem ZyJ(ss)(c:Prop)[ID c](a b:O):IC Z ss (if c then a else b)=if c then IC Z ss a else IC Z ss b:=by split<;>rfl
@[simp]theorem ZyI(o:O):IC Z .nil o=o:=by cases o<;>rfl
noncomputable def EK(Z:Z4)(t:Ag)(body:Ss):D->Rho->O:=λx U'=>U6 Z (U'.set t (Aa (x,Ae))) body
noncomputable def W8(Z:Z4)(t:Ag)(body:Ss)(U:Rho)(r:R (Ac D)):O:=O.of U r λxs=>Ev (EK Z t body) xs U
@[simp]theorem ZwP(t body xs):W8 Z t body U (.ok xs)=Ev (EK Z t body) xs U:=rfl
@[simp]theorem Zw0(i e):yz Z U (.asg i Ae e)=O.of U (evE Z U e) λd=>.next (U.set i (Aa (d,Ae))):=rfl
@[simp]theorem ZtS(e):yz Z U (.expr e)=O.of U (evE Z U e) λ_=>.next U:=rfl
@[simp]theorem U_7(e):yz Z U (.ret e)=O.of U (top U e (evE Z U e)) λd=>.ret d (Fv Z e||(match e with | .v i=>(match U[i]? with|some (Aa (_,o))=>o|_=>Ae)|_=>Ae)):=rfl
@[simp]theorem ZwZ(c a b):yz Z U (.ife c a b)=O.of U ((top U c (evE Z U c)).bind Bq) λk=>if k=Ab then U6 Z U a else U6 Z U b:=rfl
@[simp]theorem ZtQ(t it body):yz Z U (.fors t it body)=W8 Z t body U (KY Z U it):=rfl
noncomputable def Wu(Z:Z4)(ts:Ac Ag)(body:Ss):D->Rho->O:=λx U'=>O.of U' (HK ts x U') λvi=>U6 Z vi body
noncomputable def Wt(Z:Z4)(ts:Ac Ag)(body:Ss)(U:Rho)(r:R (Ac D)):O:=O.of U r λxs=>Ev (Wu Z ts body) xs U
@[simp]theorem ZtK(t body xs):Wt Z t body U (.ok xs)=Ev (Wu Z t body) xs U:=rfl
@[simp]theorem ZtR(t it body):yz Z U (.forT t it body)=Wt Z t body U (KY Z U it):=rfl
@[simp]theorem ZtT(ts e):yz Z U (.asgT ts e)=O.of U (evE Z U e) λd=>O.of U (Mh ts d U) λU'=>.next U':=rfl
theorem fT(i e):yz Z U (.asg i Ab e)=O.of U (evE Z U e) λd=>if Fv Z e=Ab then (match d with
      |.L xs=>.next (U.set i (Aa (.L xs,Ab)))
      |.dic xs=>.next (U.set i (Aa (.dic xs,Ab)))
      | _=>.bad) else .bad:=rfl
noncomputable def setF(U:Rho)(i:Ag):D->O
 |.L xs=>.next (U.set i (Aa (.L xs,Ab)))
 |.dic xs=>.next (U.set i (Aa (.dic xs,Ab)))
 |_=>.bad
@[simp]theorem Zx6(i xs):setF U i (.L xs)=.next (U.set i (Aa (.L xs,Ab))):=rfl
@[simp]theorem dB(i e):yz Z U (.asg i Ab e)=O.of U (evE Z U e) λd=>if Fv Z e=Ab then setF U i d else .bad:=by
 rw[fT]
 congr 1
@[simp]theorem Zw1(i e):yz Z U (.app i e)=O.of U (FU U i) λxs=>O.of U (evE Z U e) λd=>if CY (xs.length+1)=Ab then .next (U.set i (Aa (.L (xs++[d]),Ab))) else .bad:=rfl
@[simp]theorem ZtD(U:Rho)(i)(xs):RY U i (.L xs)=.next (U.set i (Aa (.L xs,Ae))):=rfl
@[simp]theorem ZtP(body c x h):yz Z U (.tryx body c x h)=match U6 Z U body with
      | .exn y U'=>if (Z.up y.c).contains c=Ab then (match U6 Z (U'.set x (Aa (.exc y.c y.fs,Ae))) h with
          |.next vi=>.next (vi.set x Af)
          |.ret d f=>.ret d f
          | _=>.bad) else .bad
      |o=>o:=rfl
@[simp]theorem Up(c as):yz Z U (.rais c as)=O.of U (zn (ye Z U as)) λxs=>O.of U (Z.xn c xs) λx=>.exn x U:=rfl
end
end Ov
namespace Ov
open PySem
theorem bP(h1:0<=lo)(h2:lo<1000000)(h3:0<=hi)(h4:hi<1000000):EX lo hi=.ok (Iz lo (hi-lo).toNat):=by
 unfold EX;rw[Au (by omega)]
theorem bQ(h3:0<=hi)(h4:hi<1000000):EX 0 hi=.ok (Iz 0 hi.toNat):=by
 rw[bP (by omega) (by omega) h3 h4,XU]
theorem Py(lo:Ai)(n:Ag):(Iz lo n).length=n:=by simp[Iz]
theorem fN{n i:Ag}{x:D}(h:(Iz lo n)[i]?=Aa x):i<n/\x=.int (lo+(i:Ai)):=by
 have hl:=(A5.mp h).1;rw[Py]at hl;unfold Iz at h;rw[Ez,List.getElem?_range hl]at h;cases h;exact⟨hl,rfl⟩
noncomputable def Ss.take:Ag->Ss->Ss
 |0,_=>.nil
 |_,.nil=>.nil
 |n+1,.cons s ss=>.cons s (ss.take n)
noncomputable def Ss.drop:Ag->Ss->Ss
 |0,ss=>ss
 |_,.nil=>.nil
 |n+1,.cons _ ss=>ss.drop n
noncomputable def ua(c:Ag):Df:=⟨2,Ae,.cons (.ret (.mkob c (.call 910 (.cons (.v 0) (.cons (.v 1) .nil))))) .nil⟩
noncomputable def km:Df:=⟨2,Ae,.cons (.ret (.H {.v 0,.call 17 {.v 0,.v 1}})) .nil⟩
end Ov
end
section
namespace Ov
noncomputable def wy:Ag->D->An
 |0,.int i=>decide (0<=i)&&decide (i<100)
 |n+1,.H ds=>CF ds.length 8&&ds.all (wy n)
 |_,_=>Ae
noncomputable def bt(c:Ag)(f:PySem.Str):Ac D->R Ex
 |[d]=>if (wy 1 d||wy 2 d)=Ab then .ok ⟨c,[(f,d)]⟩ else .bad
 |_=>.bad
end Ov
end
section
namespace OvC
open PySem Ov PyProof.Rows
variable{j:Ai}
noncomputable abbrev scr(ns:Ac Ai):D:=.L (ns.map .int)
noncomputable abbrev sh(d:D):Sl:=Aa (d,Ae)
noncomputable abbrev si(i:Ai):Sl:=Aa (.int i,Ae)
noncomputable def xR(ns:Ac Ai)(k:Ai):Ai:=if ns=[] then 0 else ns.getD (k%ns.length).toNat 0
noncomputable def Xu(ns:Ac Ai)(k:Ai):Ai:=(xR ns k%1000003+7919*k+11)*48271%1000033
noncomputable def qJ(ns:Ac Ai)(k:Ai):Ai:=[3,5,7,11].getD (Xu ns k/16%4).toNat 0
theorem W7{P:Ag->Prop}(h0:P 0)(h1:P 1)(h2:P 2)(h3:P 3):P (j%4).toNat:=by
 have:(j%4).toNat=0\/(j%4).toNat=1\/(j%4).toNat=2\/(j%4).toNat=3:=by omega
 rcases this with e|e|e|e<;>rw[e]<;>assumption
def P4(p:Ai):Prop:=p=3\/p=5\/p=7\/p=11
noncomputable def pr4(j:Ai):Ai:=[3,5,7,11].getD (j%4).toNat 0
theorem qK(j):P4 (pr4 j):=by
 unfold pr4;exact W7 (P:=λj=>P4 ([3,5,7,11].getD j 0)) (.inl rfl) (.inr (.inl rfl)) (.inr (.inr (.inl rfl))) (.inr (.inr (.inr rfl)))
theorem P4.pos{p}(h:P4 p):0<p:=by rcases h with rfl|rfl|rfl|rfl<;>decide
theorem P4.lo{p}(h:P4 p):3<=p:=by rcases h with rfl|rfl|rfl|rfl<;>decide
theorem P4.hi{p}(h:P4 p):p<=11:=by rcases h with rfl|rfl|rfl|rfl<;>decide
theorem fP(j:Ai):DU [.int 3,.int 5,.int 7,.int 11] (j%4)=.ok (.int (pr4 j)):=by
 have h:=W7 (P:=λj=>[D.int 3,D.int 5,D.int 7,D.int 11][j]?=Aa (D.int ([3,5,7,11].getD j 0))) (j:=j) rfl rfl rfl rfl
 exact Um (by omega) h
theorem M2{i:Ai}(h0:-18446744073709551616<i)(h1:i<18446744073709551616):Fq i j=Ab:=by simp[Fq];left;exact⟨h0,h1⟩
theorem N7{i:Ai}(h0:-18446744073709551616<j)(h1:j<18446744073709551616):Fq i j=Ab:=by simp[Fq];right;exact⟨h0,h1⟩
noncomputable def QY:Df:=⟨2,Ae,{.ret (.B .Mod (.v 1) (.v 0))}⟩
def Ol(Z:Z4):Prop:=∀ p n:Ai,0<p->Z.F 1 [.int p,.int n]=.ok (.int (n%p))
theorem nI(Z:Z4)(p n:Ai)(h:0<p):QY.run Z [.int p,.int n]=.ok (.int (n%p)):=by simp[QY,Df.run,Bw,h]
def lY(Z:Z4):Prop:=∀(ns:Ac Ai)(k:Ai),Z.F 3 [scr ns,.int k]=.ok (.int (Xu ns k))
def lX(Z:Z4):Prop:=∀(ns:Ac Ai)(k:Ai),Z.F 4 [scr ns,.int k]=.ok (.int (qJ ns k))
def lU(Z:Z4):Prop:=∀ x a b:Ai,Z.F 6 [.int x,.int a,.int b]=.ok (.bl (decide (a<=x)&&decide (x<=b)))
end OvC
end
namespace Ov
open PySem PySem.Spec PyProof.Rows L2
variable{K:Fg}{mg:Ah->Ao Al}{x:Ah}{A B:Ak->Prop}{H H' H1 H0:Hp}{p a b l q:Ak}{xs vs:Ac V}{v:V}{d:D}{Rp Rq:Hp->V->D->Prop}{r:R D}{Q:VK}{X:Cx}{e c tg iter elt:Aq}{U:Rho}{i n j:Ag}{Y:L2.St}{g:D->D->R D}{op:DC}{pI:Pn}{s:Ar}{its zo ys:Ac Al}{ri items:Bl Al}{h h' h2:AJ}{u:Al}{es ifs:Ac Aq}{fs fi:Rho->R (Ac D)}{Q':Ao Ai->Hp->Prop}{T:CQ}{α:Type}{D':xm}{pos' p2 pos pos2:AF}{fc:Rho->R An}{as:D->Rho->R Rho}{k:Ki}{up:Ag->Ac Ag}{scope:Cc}{env:B7}{cl:Ac (Ah×Ak)}{N':Ac Ah}{ts:Ac Ag}{fp:Ac Ak}{tt:TT}{te:TE}{J:It}{wi:TI}{t:An}
noncomputable def O5:Ag->Ah
 |0 => "Triple"
 |1 => "Point"
 |2 => "Line"
 |_ => ""
noncomputable def OC(K:Fg)(c:Ag):Ao Ak:=if c<3 then (match Bb K AO (O5 c) with
  |some (Aa (.ref C))=>Aa C
  | _=>Af) else Af
noncomputable def Gd:Ac (Ah×Ag×Ah):=[("0.told",0, "told"),("1.told",1, "told"),("2.told",2, "told"),("0.shown",0, "shown"),("1.shown",1, "shown"),("2.shown",2, "shown")]
noncomputable def IV(K:Fg)(mg:Ah->Ao Al)(x:Ah):Ao Al:=match Gd.lookup x with
  |some (c,m)=>(OC K c).bind λC=>(At K (.ref C) m).join
  |none=>mg x
theorem Qd{v:Ao Al}(h:IV K mg x=v)(e:Gd.lookup x=Af):mg x=v:=by
 unfold IV at h
 rwa [e]at h
theorem dG{m:Ah}{c:Ag}{C:Ak}{v:Al}(h:IV K mg x=Aa v)(e:Gd.lookup x=Aa (c,m))(hC:OC K c=Aa C):At K (.ref C) m=Aa (Aa v):=by
 unfold IV at h;rw[e]at h;dsimp only at h;rw[hC]at h;have h':(At K (.ref C) m).join=Aa v:=h;cases q:At K (.ref C) m with
 |none=>rw[q]at h';cases h'
 |some u=>rw[q]at h';have:u=Aa v:=h';rw[this]
abbrev ClA:=Ag->Ao Ak
variable{CL:ClA}
def KL(K:Fg)(a:Ak)(xs:Ac V):Prop:=∃(o:CZ)(its:Bl Al)(n:Ag),K.lookup a=Aa o/\o.cls=.type "list"/\o.dict=Af/\o.data=.seq its n/\its.size<=sizeLine/\A1 xs its.toList
def KT(K:Fg)(a:Ak)(xs:Ac V):Prop:=∃(o:CZ)(its:Bl Al)(n:Ag),K.lookup a=Aa o/\o.cls=.type "tuple"/\o.data=.seq its n/\its.size<=sizeLine/\A1 xs its.toList
section
variable(K:Fg)(CL:ClA)(H:Hp)(A:Ak->Prop)
mutual
def Z7:V->D->Prop
 |v,.O=>v=.O
 |v,.bl b=>v=.bl b
 |v,.int i=>v=.int i
 |v,.str x=>v=.str x
 |v,.H ds=>∃ a xs,v=.ref a/\(¬ A a\/KT K a xs)/\yt K H a xs/\Z9 xs ds
 |v,.L ds=>∃ a xs,v=.ref a/\(¬ A a\/KL K a xs)/\Id K H a xs/\Z9 xs ds
 |v,.obj c fs=>∃ a C dx vs,v=.ref a/\¬ A a/\OC K c=Aa C/\H a=Aa (.ins C dx vs)/\z9 vs fs
 |_,.dic _=>AM
 |v,.exc c fs=>∃ a C φ,v=.ref a/\¬ A a/\CL c=Aa C/\H a=Aa (.ext φ)/\(∀ h,φ h->∃ o,h.get? a=Aa o/\o.cls=.ref C)/\(fs=[]\/∃ dx vs,¬ A dx/\H dx=Aa (.xd vs)/\z9 vs fs/\∀ h,φ h->∃ o,h.get? a=Aa o/\o.dict=Aa dx/\∃ us,o.data=.fields us)
def Z9:Ac V->Ac D->Prop
 |[],[]=>F8
 |v::vs,d::ds=>Z7 v d/\Z9 vs ds
 |_,_=>AM
def z9:Ac (Ah×V)->Ac (Ah×D)->Prop
 |[],[]=>F8
 |v::vs,d::ds=>yk v d/\z9 vs ds
 |_,_=>AM
def yk:Ah×V->Ah×D->Prop
 |v,(n,d)=>v.1=n/\Z7 v.2 d
end
def Cv(v:V)(d:D):Prop:=Z7 K CL H A v d\/∃ a xs ds,v=.ref a/\d=.L ds/\H a=Aa (.L xs)/\Z9 K CL H A xs ds
end
def Kp(A:Ak->Prop)(H H':Hp):Prop:=∀ b o,H b=Aa o->¬ A b->H' b=Aa o
def yD:HO->Prop
 |.L _=>F8
 |.ins _ _ _=>F8
 |_=>AM
def My(H:Hp)(A:Ak->Prop):Prop:=∀ a,A a->∃ o,H a=Aa o/\yD o
theorem Kp.of(h:Az H H'):Kp A H H':=λb o e _=>h b o e
theorem My.same(h:My H A)(s:Az H H'):My H' A:=λa ha=>let ⟨o,e,w⟩:=h a ha;⟨o,s _ _ e,w⟩
theorem My.new(h:My H A)(e:H p=Af):¬ A p:=λha=>by
 obtain⟨o,q,_⟩:=h p ha;rw[e]at q;cases q
section
variable{K:Fg}{CL:ClA}{H H':Hp}{A B:Ak->Prop}
theorem V4{u:HO}(k:Kp A H H')(na:¬ A a)(h:Rd H a u):Rd H' a u:=by
 rcases h with h|⟨o,h⟩
 .exact .inl (k _ _ h na)
 .exact .inr ⟨o,k _ _ h na⟩
theorem QN(k:Kp A H H')(na:¬ A a\/KL K a xs)(h:Id K H a xs):Id K H' a xs:=na.elim (λna=>h.imp (V4 k na) id) .inr
theorem QM(k:Kp A H H')(na:¬ A a\/KT K a xs)(h:yt K H a xs):yt K H' a xs:=na.elim (λna=>h.imp (V4 k na) id) .inr
mutual
theorem Z7.kp(k:Kp A H H'):∀{v:V}(d:D),Z7 K CL H A v d->Z7 K CL H' A v d
 |_,.O,h=>h
 |_,.bl _,h=>h
 |_,.int _,h=>h
 |_,.str _,h=>h
 |_,.dic _,h=>h.elim
 |_,.H ds,h=>by
  obtain⟨a,xs,e,na,s,r⟩:=h;exact⟨a,xs,e,na,by first|exact QM k na s|exact QN k na s,Z9.kp k ds r⟩
 |_,.L ds,h=>by
  obtain⟨a,xs,e,na,s,r⟩:=h;exact⟨a,xs,e,na,by first|exact QM k na s|exact QN k na s,Z9.kp k ds r⟩
 |_,.obj c fs,h=>by
  obtain⟨a,C,dx,vs,e,na,c,s,r⟩:=h;exact⟨a,C,dx,vs,e,na,c,k _ _ s na,z9.kp k fs r⟩
 |_,.exc c fs,h=>by
  obtain⟨a,C,φ,e,na,c,s,p,q⟩:=h;refine⟨a,C,φ,e,na,c,k _ _ s na,p,q.imp id ?_⟩;rintro⟨dx,vs,nx,s2,r,z⟩;exact⟨dx,vs,nx,k _ _ s2 nx,z9.kp k fs r,z⟩
theorem Z9.kp(k:Kp A H H'):∀{vs:Ac V}(ds:Ac D),Z9 K CL H A vs ds->Z9 K CL H' A vs ds
 |[],[],h=>h
 |_::_,d::ds,h=>⟨Z7.kp k d h.1,Z9.kp k ds h.2⟩
 |[],_::_,h=>h.elim
 |_::_,[],h=>h.elim
theorem z9.kp(k:Kp A H H'):∀{vs:Ac (Ah×V)}(ds:Ac (Ah×D)),z9 K CL H A vs ds->z9 K CL H' A vs ds
 |[],[],h=>h
 |_::_,d::ds,h=>⟨yk.kp k d h.1,z9.kp k ds h.2⟩
 |[],_::_,h=>h.elim
 |_::_,[],h=>h.elim
theorem yk.kp(k:Kp A H H'):∀{v:Ah×V}(d:Ah×D),yk K CL H A v d->yk K CL H' A v d
 |_,(_,d),h=>⟨h.1,Z7.kp k d h.2⟩
end
mutual
theorem Z7.sub(k:∀ a,B a->A a):∀{v:V}(d:D),Z7 K CL H A v d->Z7 K CL H B v d
 |_,.O,h=>h
 |_,.bl _,h=>h
 |_,.int _,h=>h
 |_,.str _,h=>h
 |_,.dic _,h=>h.elim
 |_,.H ds,h=>by
  obtain⟨a,xs,e,na,s,r⟩:=h;exact⟨a,xs,e,na.imp (λna z=>na (k _ z)) id,s,Z9.sub k ds r⟩
 |_,.L ds,h=>by
  obtain⟨a,xs,e,na,s,r⟩:=h;exact⟨a,xs,e,na.imp (λna z=>na (k _ z)) id,s,Z9.sub k ds r⟩
 |_,.obj c fs,h=>by
  obtain⟨a,C,dx,vs,e,na,c,s,r⟩:=h;exact⟨a,C,dx,vs,e,λz=>na (k _ z),c,s,z9.sub k fs r⟩
 |_,.exc c fs,h=>by
  obtain⟨a,C,φ,e,na,c,s,p,q⟩:=h;refine⟨a,C,φ,e,λz=>na (k _ z),c,s,p,q.imp id ?_⟩
  rintro⟨dx,vs,nx,s2,r,z⟩;exact⟨dx,vs,λz=>nx (k _ z),s2,z9.sub k fs r,z⟩
theorem Z9.sub(k:∀ a,B a->A a):∀{vs:Ac V}(ds:Ac D),Z9 K CL H A vs ds->Z9 K CL H B vs ds
 |[],[],h=>h
 |_::_,d::ds,h=>⟨Z7.sub k d h.1,Z9.sub k ds h.2⟩
 |[],_::_,h=>h.elim
 |_::_,[],h=>h.elim
theorem z9.sub(k:∀ a,B a->A a):∀{vs:Ac (Ah×V)}(ds:Ac (Ah×D)),z9 K CL H A vs ds->z9 K CL H B vs ds
 |[],[],h=>h
 |_::_,d::ds,h=>⟨yk.sub k d h.1,z9.sub k ds h.2⟩
 |[],_::_,h=>h.elim
 |_::_,[],h=>h.elim
theorem yk.sub(k:∀ a,B a->A a):∀{v:Ah×V}(d:Ah×D),yk K CL H A v d->yk K CL H B v d
 |_,(_,d),h=>⟨h.1,Z7.sub k d h.2⟩
end
mutual
theorem Z7.wide(hp:∀ a,B a->A a\/H a=Af):∀{v:V}(d:D),Z7 K CL H A v d->Z7 K CL H B v d
 |_,.O,h=>h
 |_,.bl _,h=>h
 |_,.int _,h=>h
 |_,.str _,h=>h
 |_,.dic _,h=>h.elim
 |_,.H ds,h=>by
  obtain⟨a,xs,e,na,s,r⟩:=h;refine⟨a,xs,e,?_,s,Z9.wide hp ds r⟩;rcases s with s|s
  .refine na.imp (λna z=>(hp _ z).elim na λe=>?_) id
   rcases s with s|⟨o,s⟩<;>rw[e]at s<;>cases s
  .exact .inr s
 |_,.L ds,h=>by
  obtain⟨a,xs,e,na,s,r⟩:=h;refine⟨a,xs,e,?_,s,Z9.wide hp ds r⟩;rcases s with s|s
  .refine na.imp (λna z=>(hp _ z).elim na λe=>?_) id
   rcases s with s|⟨o,s⟩<;>rw[e]at s<;>cases s
  .exact .inr s
 |_,.obj c fs,h=>by
  obtain⟨a,C,dx,vs,e,na,c,s,r⟩:=h;exact⟨a,C,dx,vs,e,(λz=>(hp _ z).elim na λe=>by rw[e]at s;cases s),c,s,z9.wide hp fs r⟩
 |_,.exc c fs,h=>by
  obtain⟨a,C,φ,e,na,c,s,p,q⟩:=h;refine⟨a,C,φ,e,(λz=>(hp _ z).elim na λe=>by rw[e]at s;cases s),c,s,p,q.imp id ?_⟩
  rintro⟨dx,vs,nx,s2,r,z⟩;exact⟨dx,vs,(λz=>(hp _ z).elim nx λe=>by rw[e]at s2;cases s2),s2,z9.wide hp fs r,z⟩
theorem Z9.wide(hp:∀ a,B a->A a\/H a=Af):∀{vs:Ac V}(ds:Ac D),Z9 K CL H A vs ds->Z9 K CL H B vs ds
 |[],[],h=>h
 |_::_,d::ds,h=>⟨Z7.wide hp d h.1,Z9.wide hp ds h.2⟩
 |[],_::_,h=>h.elim
 |_::_,[],h=>h.elim
theorem z9.wide(hp:∀ a,B a->A a\/H a=Af):∀{vs:Ac (Ah×V)}(ds:Ac (Ah×D)),z9 K CL H A vs ds->z9 K CL H B vs ds
 |[],[],h=>h
 |_::_,d::ds,h=>⟨yk.wide hp d h.1,z9.wide hp ds h.2⟩
 |[],_::_,h=>h.elim
 |_::_,[],h=>h.elim
theorem yk.wide(hp:∀ a,B a->A a\/H a=Af):∀{v:Ah×V}(d:Ah×D),yk K CL H A v d->yk K CL H B v d
 |_,(_,d),h=>⟨h.1,Z7.wide hp d h.2⟩
end
theorem Z7.same(s:Az H H')(h:Z7 K CL H A v d):Z7 K CL H' A v d:=Z7.kp (Kp.of s) d h
theorem Z9.same{v:Ac V}{d:Ac D}(s:Az H H')(h:Z9 K CL H A v d):Z9 K CL H' A v d:=Z9.kp (Kp.of s) d h
theorem Cv.same{v:V}{d:D}(s:Az H H')(h:Cv K CL H A v d):Cv K CL H' A v d:=by
 rcases h with h|⟨a,xs,ds,e,e2,q,r⟩
 .exact .inl (h.same s)
 .exact .inr ⟨a,xs,ds,e,e2,s _ _ q,r.same s⟩
theorem Z9.length:∀{vs:Ac V}{ds:Ac D},Z9 K CL H A vs ds->vs.length=ds.length
 |[],[],_=>rfl
 |_::_,_::_,h=>congrArg (· + 1) (Z9.length h.2)
 |[],_::_,h=>h.elim
 |_::_,[],h=>h.elim
theorem Z9.append:∀{vs ws:Ac V}{ds es:Ac D},Z9 K CL H A vs ds->Z9 K CL H A ws es->Z9 K CL H A (vs++ws) (ds++es)
 |[],_,[],_,_,h=>h
 |_::_,_,_::_,_,h,g=>⟨h.1,Z9.append h.2 g⟩
 |[],_,_::_,_,h,_=>h.elim
 |_::_,_,[],_,h,_=>h.elim
theorem Z9.get:∀{vs:Ac V}{ds:Ac D}{i:Ag}{d:D},Z9 K CL H A vs ds->ds[i]?=Aa d->∃ v,vs[i]?=Aa v/\Z7 K CL H A v d
 |[],[],_,_,_,e=>by simp at e
 |v::_,_::_,0,_,h,e=>by simp at e;subst e;exact⟨v,rfl,h.1⟩
 |_::_,_::_,i+1,_,h,e=>by
  obtain⟨v,q,r⟩:=Z9.get (i:=i) h.2 (by simpa using e)
  exact⟨v,by simpa using q,r⟩
 |[],_::_,_,_,h,_=>h.elim
 |_::_,[],_,_,h,_=>h.elim
theorem Z9.take:∀{vs:Ac V}{ds:Ac D}(n:Ag),Z9 K CL H A vs ds->Z9 K CL H A (vs.take n) (ds.take n)
 |_,_,0,_=>trivial
 |[],[],_+1,_=>trivial
 |_::_,_::_,n+1,h=>⟨h.1,Z9.take n h.2⟩
 |[],_::_,_+1,h=>h.elim
 |_::_,[],_+1,h=>h.elim
theorem Z9.drop:∀{vs:Ac V}{ds:Ac D}(n:Ag),Z9 K CL H A vs ds->Z9 K CL H A (vs.drop n) (ds.drop n)
 |_,_,0,h=>h
 |[],[],_+1,_=>trivial
 |_::_,_::_,n+1,h=>Z9.drop n h.2
 |[],_::_,_+1,h=>h.elim
 |_::_,[],_+1,h=>h.elim
theorem Z9.set{x:V}{e:D}(r:Z7 K CL H A x e):∀{vs:Ac V}{ds:Ac D}(n:Ag),Z9 K CL H A vs ds->Z9 K CL H A (vs.set n x) (ds.set n e)
 |[],[],_,_=>trivial
 |_::_,_::_,0,h=>⟨r,h.2⟩
 |_::_,_::_,n+1,h=>⟨h.1,Z9.set r n h.2⟩
 |[],_::_,_,h=>h.elim
 |_::_,[],_,h=>h.elim
end
structure Y9 (K:Fg) (CL:ClA) (A:Ak->Prop) (U:Rho) (Y:L2.St) (H:Hp):Prop where
 sh:∀(i:Ag)(d:D),U[i]?=Aa (Aa (d,Ae))->∃ v,Y[i]?=Aa (Aa v)/\Z7 K CL H A v d
 ow:∀(i:Ag)(d:D),U[i]?=Aa (Aa (d,Ab))->d≠.O->∃ a xs ds,Y[i]?=Aa (Aa (.ref a))/\d=.L ds/\A a/\H a=Aa (.L xs)/\Z9 K CL H A xs ds
 len:U.length=Y.length
theorem Y9.same{K:Fg}{CL:ClA}{A:Ak->Prop}{U:Rho}{Y:L2.St}{H H':Hp}(g:Y9 K CL A U Y H)(s:Az H H'):Y9 K CL A U Y H':=
 ⟨λi d e=>let ⟨v,q,r⟩:=g.sh i d e;⟨v,q,r.same s⟩,λi d e hn=>let ⟨a,xs,ds,q,z,na,h,r⟩:=g.ow i d e hn;⟨a,xs,ds,q,z,na,s _ _ h,r.same s⟩,g.len⟩
abbrev XW:=Ex->Hp->Prop
variable{W:XW}
def AW(Rp:Hp->V->D->Prop)(W:XW)(H:Hp)(r:R D)(Q:VK):Prop:=match r with
  |.ok d=>∀ v H',Az H H'->Rp H' v d->Q v H'
  |.exn x=>∀ H',Az H H'->W x H'
  |.bad=>AM
def Iu(Rp:Hp->Ac V->Ac D->Prop)(W:XW)(H:Hp)(r:R (Ac D))(Q:Ac V->Hp->Prop):Prop:=match r with
  |.ok d=>∀ v H',Az H H'->Rp H' v d->Q v H'
  |.exn x=>∀ H',Az H H'->W x H'
  |.bad=>AM
def CS(W:XW)(H:Hp)(r:R An)(Q:An->Hp->Prop):Prop:=match r with
  |.ok b=>∀ H',Az H H'->Q b H'
  |.exn x=>∀ H',Az H H'->W x H'
  |.bad=>AM
theorem AW.same(s:Az H H')(h:AW Rp W H r Q):AW Rp W H' r Q:=by
 cases r with
 |ok d=>exact λv H2 s2 q=>h v H2 (s.trans s2) q
 |exn x=>exact λH2 s2=>h H2 (s.trans s2)
 |bad=>exact h
theorem CS.same{r:R An}{Q:An->Hp->Prop}(s:Az H H')(h:CS W H r Q):CS W H' r Q:=by
 cases r with
 |ok d=>exact λH2 s2=>h H2 (s.trans s2)
 |exn x=>exact λH2 s2=>h H2 (s.trans s2)
 |bad=>exact h
theorem AW.bind{f:D->R D}{Q':VK}(h:AW Rq W H (r.bind f) Q)(k:∀ d v H',r=.ok d->Az H H'->Rp H' v d->AW Rq W H' (f d) Q->Q' v H'):AW Rp W H r Q':=by
 cases r with
 |ok d=>exact λv H2 s2 q=>k d v H2 rfl s2 q (AW.same s2 h)
 |exn x=>exact h
 |bad=>exact h
section
variable(X:Cx)(CL:ClA)(W:XW)
def SE(e:Aq)(f:Rho->R D):Prop:=∀ A,PE X e (λY H Q=>My H A/\∃ U,Y9 X.K CL A U Y H/\AW (λH=>Z7 X.K CL H A) W H (f U) Q)
def ST(e:Aq)(f:Rho->R D):Prop:=∀ A,PE X e (λY H Q=>My H A/\∃ U,Y9 X.K CL A U Y H/\AW (λH=>Cv X.K CL H A) W H (f U) Q)
def SB(e:Aq)(f:Rho->R An):Prop:=∀ A,PT X e (λY H Q=>My H A/\∃ U,Y9 X.K CL A U Y H/\CS W H (f U) Q)
def SA(es:Ac Aq)(f:Rho->R (Ac D)):Prop:=∀ A,PA X es (λY H Q=>My H A/\∃ U,Y9 X.K CL A U Y H/\Iu (λH=>Z9 X.K CL H A) W H (f U) Q)
end
theorem PE.weak{t t':TE}(h:PE X e t)(k:∀ Y H Q,t' Y H Q->t Y H Q):PE X e t':=λpI s Y H Q I q=>h pI s Y H Q I (k _ _ _ q)
theorem PT.weak{t t':TT}(h:PT X e t)(k:∀ Y H Q,t' Y H Q->t Y H Q):PT X e t':=λpI s Y H Q I q=>h pI s Y H Q I (k _ _ _ q)
theorem PA.weak{e:Ac Aq}{t t':TA}(h:PA X e t)(k:∀ Y H Q,t' Y H Q->t Y H Q):PA X e t':=λpos pI s Y H Q I q=>h pos pI s Y H Q I (k _ _ _ q)
noncomputable def uj(X:Cx)(CL:ClA)(W:XW)(f:Al->Al->Fo Al)(g:D->D->R D):Prop:=
 ∀ A,za X f (λx y H Q=>My H A/\∃ dx dy,Cv X.K CL H A x dx/\Cv X.K CL H A y dy/\AW (λH=>Z7 X.K CL H A) W H (g dx dy) Q)
section
variable{X:Cx}{CL:ClA}{W:XW}{a b c:Aq}{fa fb fc:Rho->R D}{pos:AF}
theorem SE.st(h:SE X CL W a fa):ST X CL W a fa:=λA=>PE.weak (h A) λY H Q ⟨hA,U,g,p⟩=>⟨hA,U,g,by
 cases e:fa U with
 |ok d=>rw[e]at p;exact λv H' s r=>p v H' s (.inl r)
 |exn x=>rw[e]at p;exact p
 | bad=>rw[e]at p;exact p⟩
theorem SE.congr{f g:Rho->R D}(h:SE X CL W a f)(e:∀ U,g U=f U):SE X CL W a g:=λA=>PE.weak (h A) λY H Q ⟨hA,U,q,p⟩=>⟨hA,U,q,by rw[<-e];exact p⟩
theorem OG(h:PE X a (tC v))(r:∀ H A,My H A->Z7 X.K CL H A v d):SE X CL W a (λ_=>.ok d):=λA=>PE.weak h λY H Q ⟨hA,U,g,p⟩=>p v H (Az.refl H) (r H A hA)
theorem QT{i j}:SE X CL W (.Constant (.int i) j pos) (λ_=>.ok (.int i)):=OG Oh λ_ _ _=>rfl
theorem OH{b j}:SE X CL W (.Constant (.bool b) j pos) (λ_=>.ok (.bl b)):=OG tY λ_ _ _=>rfl
theorem nY{j}:SE X CL W (.Constant .none j pos) (λ_=>.ok .O):=OG Og λ_ _ _=>rfl
theorem M9{x j}:SE X CL W (.Constant (.str x) j pos) (λ_=>.ok (.str x)):=OG KI λ_ _ _=>rfl
theorem gA(h:Gc U i=.ok d):U[i]?=Aa (Aa (d,Ae)):=by
 unfold Gc at h;split at h
 .rename_i e;cases h;exact e
 .cases h
theorem Uk(h:CT U i=.ok d):∃ o,U[i]?=Aa (Aa (d,o))/\(o=Ab->d≠.O):=by
 unfold CT at h;split at h
 .rename_i e;cases h;exact⟨_,e,λz=>nomatch z⟩
 .rename_i x e;cases x with
  |L xs=>cases h;exact⟨_,e,λ_ z=>nomatch z⟩
  |_=>cases h
 .cases h
theorem eB{x:Ex}(h:Gc U i=.exn x):AM:=by
 unfold Gc at h;split at h<;>cases h
theorem TW{x:Ex}(h:CT U i=.exn x):AM:=by
 unfold CT at h;split at h
 .cases h
 .rename_i y _;cases y<;>cases h
 .cases h
theorem Va(h:PE X a (Ci i)):SE X CL W a (λU=>Gc U i):=λA=>PE.weak h λY H Q ⟨hA,U,g,p⟩=>by
 dsimp only at p;cases e:Gc U i with
 |ok d=>
  rw[e]at p;obtain⟨v,q,r⟩:=g.sh i d (gA e);exact⟨v,q,p v H (Az.refl H) r⟩
 |exn x=>exact(eB e).elim
 |bad=>rw[e]at p;exact p.elim
theorem HJ(h:PE X a (Ci i)):ST X CL W a (λU=>CT U i):=λA=>PE.weak h λY H Q ⟨hA,U,g,p⟩=>by
 dsimp only at p;cases e:CT U i with
 |ok d=>
  rw[e]at p;obtain⟨o,e,hn⟩:=Uk e;cases o with
  |false=>
   obtain⟨v,q,r⟩:=g.sh i d e;exact⟨v,q,p v H (Az.refl H) (.inl r)⟩
  |true=>
   obtain⟨x,xs,ds,q,rfl,ha,hh,r⟩:=g.ow i d e (hn rfl);exact⟨_,q,p _ H (Az.refl H) (.inr ⟨x,xs,ds,rfl,rfl,hh,r⟩)⟩
 |exn x=>exact(TW e).elim
 |bad=>rw[e]at p;exact p.elim
theorem ub(h:My H A/\∃ U,Y9 X.K CL A U Y H/\AW Rq W H ((fa U).bind λx=>(fb U).bind λy=>g x y) Q):My H A/\∃ U,Y9 X.K CL A U Y H/\AW (λH=>Cv X.K CL H A) W H (fa U) (λx H1=>My H1 A/\∃ U,Y9 X.K CL A U Y H1/\AW (λH=>Cv X.K CL H A) W H1 (fb U) (λy H2=>My H2 A/\∃ dx dy,Cv X.K CL H2 A x dx/\Cv X.K CL H2 A y dy/\AW Rq W H2 (g dx dy) Q)):=by
 obtain⟨hA,U,gd,p⟩:=h;refine⟨hA,U,gd,AW.bind p λdx x H1 _ s1 r1 p1=>⟨hA.same s1,U,gd.same s1,AW.bind p1 λdy y H2 _ s2 r2 p2=>⟨(hA.same s1).same s2,dx,dy,r1.same s2,r2,p2⟩⟩⟩
theorem QU{op:Gr}(ho:uj X CL W (Ch op) g)(ha:ST X CL W a fa)(hb:ST X CL W b fb):SE X CL W (.BinOp a op b pos) (λU=>(fa U).bind λx=>(fb U).bind λy=>g x y):=
 λA=>PE.weak (Wl (ho A) (ha A) (hb A)) λY H Q h=>ub h
theorem oE(ho:uj X CL W (CP op) g)(ha:ST X CL W a fa)(hb:ST X CL W b fb)(hm:HF op b=Ae):SE X CL W (.Compare a [op] [b] pos) (λU=>(fa U).bind λx=>(fb U).bind λy=>g x y):=
 λA=>PE.weak (UB (ho A) (ha A) (hb A) hm) λY H Q h=>ub h
theorem Cv.int_of{i:Ai}(h:Cv K CL H A v (.int i)):v=.int i:=by
 rcases h with h|⟨_,_,_,_,e,_⟩
 .exact h
 .cases e
theorem Cv.str_of{i:Ah}(h:Cv K CL H A v (.str i)):v=.str i:=by
 rcases h with h|⟨_,_,_,_,e,_⟩
 .exact h
 .cases e
theorem Cv.bl_of{i:An}(h:Cv K CL H A v (.bl i)):v=.bl i:=by
 rcases h with h|⟨_,_,_,_,e,_⟩
 .exact h
 .cases e
theorem Cv.non_of(h:Cv K CL H A v .O):v=.O:=by
 rcases h with h|⟨_,_,_,_,e,_⟩
 .exact h
 .cases e
theorem Cv.lst_of{ds:Ac D}(h:Cv K CL H A v (.L ds)):∃ a xs,v=.ref a/\Id K H a xs/\Z9 K CL H A xs ds:=by
 rcases h with ⟨a,xs,e,_,s,r⟩|⟨a,xs,es,rfl,e,s,r⟩
 .exact⟨a,xs,e,s,r⟩
 .cases e;exact⟨a,xs,rfl,Id.of s,r⟩
theorem Cv.tup_of{ds:Ac D}(h:Cv K CL H A v (.H ds)):∃ a xs,v=.ref a/\(¬ A a\/KT K a xs)/\yt K H a xs/\Z9 K CL H A xs ds:=by
 rcases h with ⟨a,xs,e,n,s,r⟩|⟨_,_,_,_,e,_⟩
 .exact⟨a,xs,e,n,s,r⟩
 .cases e
theorem kA{i j:Ai}(h:Fq i j=Ab):Pj i j:=by
 unfold Fq at h;simp only[BY,Am,AG]at h;unfold Pj;omega
theorem UZ{a:Ai}(h:a.natAbs<2 ^ 2000):Yx a<=2 ^ 20:=by
 unfold Yx;split
 .omega
 .rename_i hz;have h0:a.natAbs≠0:=by intro z;exact hz (by rw[Int.natAbs_eq_zero.mp z];rfl)
  have:=(Nat.log2_lt h0).mpr h;omega
theorem jZ{i j:Ai}(h:(Fq i j||OK i j)=Ab):MC i j:=by
 rcases Bool.or_eq_true_iff.mp h with h|h
 .exact(kA h).ok
 .unfold OK at h;rw[Am,AG,AG]at h;exact .of_bits (UZ h.1) (UZ h.2)
theorem lF:za X (Ch .Mult) (rI MC λi j=>.int (i*j)):=Ñ λ_ _ _ _ _ _ _ hc q=>mul_int q hc
theorem Lb(h:CY n=Ab):n<=sizeLine:=by
 unfold CY at h;rw[Bz];have:=AR h;omega
theorem Uu{ds:Ac D}(hA:My H A)(hp:H p=Af)(r:Z9 K CL H A xs ds):Z7 K CL (upd H p (.L xs)) A (.ref p) (.L ds):=
 ⟨p,xs,rfl,.inl (hA.new hp),Id.of BO,r.same λb o e=>by rw[AQ (Et e hp)];exact e⟩
theorem N6{ds:Ac D}(hA:My H A)(hp:H p=Af)(r:Z9 K CL H A xs ds):Z7 K CL (upd H p (.H xs)) A (.ref p) (.H ds):=
 ⟨p,xs,rfl,.inl (hA.new hp),yt.of BO,r.same λb o e=>by rw[AQ (Et e hp)];exact e⟩
theorem EZ(h:H p=Af)(o:HO):Az H (upd H p o):=λb u q=>by rw[AQ (Et q h)];exact q
def uY(K:Fg):R2:=λx y H Q=>∃ l b xs zs,x=.ref l/\y=.ref b/\Id K H l xs/\Id K H b zs/\xs.length+zs.length<=sizeLine/\∀ p,H p=Af->Q (.ref p) (upd H p (.L (xs++zs)))
end
section
variable{X:Cx}{CL:ClA}{W:XW}
theorem UF:za X (Ch .Add) (uY X.K):=by
 intro pI s Y H x y v u Q I rx ry h;obtain⟨l,b,xs,zs,rfl,rfl,hH,hB,hz,q⟩:=h;cases rx;cases ry;obtain⟨its,r,⟨o,n,e,c,dd,dt⟩,z⟩:=I.list hH;obtain⟨zo,r2,⟨o2,n2,e2,c2,ð,dt2⟩,z2⟩:=I.list hB;have hl:=r.length;have mw:=r2.length;obtain⟨cls,dd0,data,sl⟩:=o;obtain⟨cls2,dd02,data2,Ý⟩:=o2;simp only at c dd dt c2 ð dt2;subst c dd dt c2 ð dt2;have ea:its.toArray++zo.toArray=(its++zo).toArray:=by simp
 refine Ke ⟨_,e,rfl⟩ ⟨_,e2,rfl⟩ noFill_list_add seq_list_add PySem.F.slot_list_add PySem.F.entry_list_add (PySem.F.args_list_add_2 _ _) (list_addW l b its.toArray zo.toArray n n2 Af Af sl Ý (by simp;omega)) ⟨e,e2,?_⟩
 rw[ea];exact⟨.ref _,_,I.lnew (t':=s.toks) (r.append r2) (by rw[BW];omega),rfl,q _ I.fresh⟩
theorem UE:uj X CL W (Ch .Add) (Dc .Add):=by
 intro A pI s Y H x y v u Q I rx ry ⟨hA,dx,dy,hx,hy,p⟩;cases dx with
 |int i=>
  cases dy with
  |int j=>
   have ex:=hx.int_of;have ey:=hy.int_of
   subst ex ey;exact qX pI s Y H _ _ v u Q I rx ry ⟨i,j,rfl,rfl,p _ H (Az.refl H) rfl⟩
  |_=>exact p.elim
 |str i=>
  cases dy with
  |str j=>
   have ex:=hx.str_of;have ey:=hy.str_of
   subst ex ey;simp only[Ld]at p;split at p
   .rename_i h;exact bM pI s Y H _ _ v u Q I rx ry ⟨i,j,rfl,rfl,Lb h,p _ H (Az.refl H) rfl⟩
   .exact p.elim
  |_=>exact p.elim
 |L ds=>
  cases dy with
  |L es=>
   obtain⟨a,xs,rfl,s1,r1⟩:=hx.lst_of;obtain⟨b,ys,rfl,s2,r2⟩:=hy.lst_of;simp only[VC]at p;split at p
   .rename_i h;refine UF pI s Y H _ _ v u Q I rx ry ⟨a,b,xs,ys,rfl,rfl,s1,s2,by rw[r1.length,r2.length];exact Lb h,λq hq=>?_⟩
    exact p _ _ (EZ hq _) (Uu hA hq (r1.append r2))
   .exact p.elim
  |_=>exact p.elim
 |H ds=>
  cases dy with
  |H es=>
   obtain⟨a,xs,rfl,na1,s1,r1⟩:=hx.tup_of;obtain⟨b,ys,rfl,_,s2,r2⟩:=hy.tup_of;simp only[VB]at p;split at p
   .rename_i h;simp only[Am]at h;refine lH pI s Y H _ _ v u Q I rx ry ⟨a,b,xs,ys,rfl,rfl,s1,s2,?_,by rw[r1.length,r2.length];exact Lb h.2,λhy0=>?_,λ_ q hq=>?_⟩
    .rintro rfl;cases ds with
     |nil=>cases h.1
     |cons _ _=>exact r1.elim
    .subst hy0;cases es with
     |nil=>rw[BA]at p;exact p _ H (Az.refl H) ⟨a,xs,rfl,na1,s1,r1⟩
     |cons _ _=>exact r2.elim
    .exact p _ _ (EZ hq _) (N6 hA hq (r1.append r2))
   .exact p.elim
  |_=>exact p.elim
 |_=>exact p.elim
theorem N5{op:Gr}{C:Ai->Ai->Prop}{g:Ai->Ai->Ai}(ho:za X (Ch op) (rI C λi j=>.int (g i j)))(hg:∀ dx dy,(∃ i j,dx=.int i/\dy=.int j/\((C i j/\Dc op dx dy=.ok (.int (g i j)))\/Dc op dx dy=.bad))\/Dc op dx dy=.bad):uj X CL W (Ch op) (Dc op):=by
 intro A pI s Y H x y v u Q I rx ry ⟨hA,dx,dy,hx,hy,p⟩;rcases hg dx dy with ⟨i,j,rfl,rfl,⟨c,e⟩|e⟩|e
 .have ex:=hx.int_of;have ey:=hy.int_of
  subst ex ey;rw[e]at p;exact ho pI s Y H _ _ v u Q I rx ry ⟨i,j,rfl,rfl,c,p _ H (Az.refl H) rfl⟩
 .rw[e]at p;exact p.elim
 .rw[e]at p;exact p.elim
theorem kZ:uj X CL W (Ch .Sub) (Dc .Sub):=by
 intro A pI s Y H x y v u Q I rx ry ⟨hA,dx,dy,hx,hy,p⟩;cases dx with
 |int i=>
  cases dy with
  |int j=>
   have ex:=hx.int_of;have ey:=hy.int_of
   subst ex ey;exact qS pI s Y H _ _ v u Q I rx ry ⟨i,j,rfl,rfl,p _ H (Az.refl H) rfl⟩
  |_=>exact p.elim
 |_=>exact p.elim
theorem lB:uj X CL W (Ch .Mult) (Dc .Mult):=N5 lF λdx dy=>by
 cases dx with
 |int i=>
  cases dy with
  |int j=>
   refine .inl ⟨i,j,rfl,rfl,?_⟩;rw[pO];split
   .rename_i h;exact .inl ⟨jZ h,rfl⟩
   .exact .inr rfl
  |_=>exact .inr rfl
 |_=>exact .inr rfl
theorem dP:uj X CL W (Ch .FloorDiv) (Dc .FloorDiv):=N5 lG λdx dy=>by
 cases dx with
 |int i=>
  cases dy with
  |int j=>
   refine .inl ⟨i,j,rfl,rfl,?_⟩;rw[jT];split
   .rename_i h;exact .inl ⟨h,rfl⟩
   .exact .inr rfl
  |_=>exact .inr rfl
 |_=>exact .inr rfl
theorem lD:uj X CL W (Ch .Mod) (Dc .Mod):=N5 qV λdx dy=>by
 cases dx with
 |int i=>
  cases dy with
  |int j=>
   refine .inl ⟨i,j,rfl,rfl,?_⟩;rw[pP];split
   .rename_i h;exact .inl ⟨h,rfl⟩
   .exact .inr rfl
  |_=>exact .inr rfl
 |_=>exact .inr rfl
theorem lA:uj X CL W (Ch .Pow) (Dc .Pow):=N5 qT λdx dy=>by
 cases dx with
 |int i=>
  cases dy with
  |int j=>
   refine .inl ⟨i,j,rfl,rfl,?_⟩;rw[qL];split
   .rename_i h;exact .inl ⟨⟨h.1.1,h.1.2,by omega⟩,rfl⟩
   .exact .inr rfl
  |_=>exact .inr rfl
 |_=>exact .inr rfl
theorem Qp(op:Gr):uj X CL W (Ch op) (Dc op):=by
 cases op with
 |Add=>exact UE
 |Sub=>exact kZ
 |Mult=>exact lB
 |FloorDiv=>exact dP
 |Mod=>exact lD
 |Pow=>exact lA
 |_=>
  intro A pI s Y H x y v u Q I rx ry ⟨hA,dx,dy,hx,hy,p⟩;exact p.elim
noncomputable abbrev A0:Ak->Prop:=λ_=>AM
theorem Cv.plain(h:Cv K CL H A v d):Z7 K CL H A0 v d:=by
 rcases h with h|⟨a,xs,ds,rfl,rfl,e,r⟩
 .exact Z7.sub (λ_ z=>z.elim) d h
 .exact⟨a,xs,rfl,.inl λz=>z.elim,Id.of e,Z9.sub (λ_ z=>z.elim) ds r⟩
mutual
theorem fV:∀(n:Ag)(d:D),Y8 n d=Ab->Tm d d=Ab
 |_,.O,_=>rfl
 |_,.bl b,_=>by simp
 |_,.int i,_=>by simp
 |_,.str x,_=>by simp
 |n+1,.H ds,h=>by
  show LE ds ds=Ab;exact zr n ds h
 |n+1,.L ds,h=>by
  show LE ds ds=Ab;exact zr n ds h
 |0,.H ds,h=>by cases h
 |0,.L ds,h=>by cases h
 |n,.obj _ _,h=>by cases n<;>cases h
 |n,.exc _ _,h=>by cases n<;>cases h
 |n,.dic _,h=>by cases n<;>cases h
theorem zr:∀(n:Ag)(ds:Ac D),ds.all (Y8 n)=Ab->LE ds ds=Ab
 |_,[],_=>rfl
 |n,d::ds,h=>by
  simp only[E9,Am]at h;simp only[PV,Am];exact⟨fV n d h.1,zr n ds h.2⟩
end
theorem SK{ys:Ac V}(I:Z8 X pI Y H s)(h:Id X.K H a xs)(h':yt X.K H a ys):AM:=by
 obtain⟨its,r,⟨o,n,e,c,_,_⟩,_⟩:=I.list h;obtain⟨its',r',⟨o',e',c',_⟩,_⟩:=I.tuple h';rw[e]at e';cases e';rw[c]at c'
 injection c' with z
 exact absurd z (by decide)
mutual
theorem MY{pI:Pn}{Y:L2.St}{H:Hp}{s:Ar}(I:Z8 X pI Y H s):∀(n:Ag)(d e:D){v:V},Y8 n d=Ab->Y8 n e=Ab->Z7 X.K CL H A0 v d->Z7 X.K CL H A0 v e->d=e
 |n,.H ds,e,v,hd,he,r,q=>by
  obtain⟨a,xs,rfl,_,s1,r1⟩:=r;cases e with
  |H es=>
   obtain⟨b,ys,e,_,s2,r2⟩:=q;cases e;have z:=I.tuple_inj s1 s2;subst z;cases n with
   |zero=>cases hd
   |succ n=>rw[xu I n ds es hd he r1 r2]
  |L es=>
   obtain⟨b,ys,e,_,s2,r2⟩:=q;cases e;exact(SK I s2 s1).elim
  |obj=>cases n<;>cases he
  |exc=>cases n<;>cases he
  |dic=>cases n<;>cases he
  |_=>cases q
 |n,.L ds,e,v,hd,he,r,q=>by
  obtain⟨a,xs,rfl,_,s1,r1⟩:=r;cases e with
  |L es=>
   obtain⟨b,ys,e,_,s2,r2⟩:=q;cases e;have z:=I.list_inj s1 s2;subst z;cases n with
   |zero=>cases hd
   |succ n=>rw[xu I n ds es hd he r1 r2]
  |H es=>
   obtain⟨b,ys,e,_,s2,r2⟩:=q;cases e;exact(SK I s1 s2).elim
  |obj=>cases n<;>cases he
  |exc=>cases n<;>cases he
  |dic=>cases n<;>cases he
  |_=>cases q
 |n,.obj _ _,e,v,hd,he,r,q=>by cases n<;>cases hd
 |n,.exc _ _,e,v,hd,he,r,q=>by cases n<;>cases hd
 |n,.dic _,e,v,hd,he,r,q=>by cases n<;>cases hd
 |n,.O,e,v,hd,he,r,q=>by
  cases r;cases e with
  |H=>obtain⟨_,_,z,_⟩:=q;cases z
  |L=>obtain⟨_,_,z,_⟩:=q;cases z
  |obj=>cases n<;>cases he
  |exc=>cases n<;>cases he
  |dic=>cases n<;>cases he
  |_=>cases q<;>rfl
 |n,.bl b,e,v,hd,he,r,q=>by
  cases r;cases e with
  |H=>obtain⟨_,_,z,_⟩:=q;cases z
  |L=>obtain⟨_,_,z,_⟩:=q;cases z
  |obj=>cases n<;>cases he
  |exc=>cases n<;>cases he
  |dic=>cases n<;>cases he
  |_=>cases q<;>rfl
 |n,.int b,e,v,hd,he,r,q=>by
  cases r;cases e with
  |H=>obtain⟨_,_,z,_⟩:=q;cases z
  |L=>obtain⟨_,_,z,_⟩:=q;cases z
  |obj=>cases n<;>cases he
  |exc=>cases n<;>cases he
  |dic=>cases n<;>cases he
  |_=>cases q<;>rfl
 |n,.str b,e,v,hd,he,r,q=>by
  cases r;cases e with
  |H=>obtain⟨_,_,z,_⟩:=q;cases z
  |L=>obtain⟨_,_,z,_⟩:=q;cases z
  |obj=>cases n<;>cases he
  |exc=>cases n<;>cases he
  |dic=>cases n<;>cases he
  |_=>cases q<;>rfl
theorem xu{pI:Pn}{Y:L2.St}{H:Hp}{s:Ar}(I:Z8 X pI Y H s):∀(n:Ag)(ds es:Ac D){xs:Ac V},ds.all (Y8 n)=Ab->es.all (Y8 n)=Ab->Z9 X.K CL H A0 xs ds->Z9 X.K CL H A0 xs es->ds=es
 |_,[],[],_,_,_,_,_=>rfl
 |n,d::ds,e::es,x::xs,hd,he,r,q=>by
  simp only[E9,Am]at hd he;rw[MY I n d e hd.1 he.1 r.1 q.1,xu I n ds es hd.2 he.2 r.2 q.2]
 |_,[],_::_,[],_,_,_,q=>q.elim
 |_,[],_::_,_::_,_,_,r,_=>r.elim
 |_,_::_,[],[],_,_,r,_=>r.elim
 |_,_::_,[],_::_,_,_,_,q=>q.elim
 |_,_::_,_::_,[],_,_,r,_=>r.elim
end
theorem MV:∀{ds es:Ac D},ds.length≠es.length->LE ds es=Ae
 |[],[],h=>absurd rfl h
 |[],_::_,_=>rfl
 |_::_,[],_=>rfl
 |d::ds,e::es,h=>by
  simp only[PV,MV (ds:=ds) (es:=es) (by simpa using h),Jf]
theorem Sj(n:Ag)(f:Ag->An):(BR (n+1)).all f=(f 0&&(BR n).all λj=>f (j+1)):=by
 rw[List.range_succ_eq_map,E9,EC];rfl
theorem MW:∀{ds es:Ac D},ds.length=es.length->LE ds es=(BR ds.length).all λj=>Tm (ds.getD j .O) (es.getD j .O)
 |[],[],_=>rfl
 |d::ds,e::es,h=>by
  rw[PV,MW (ds:=ds) (es:=es) (by simpa using h),A8,Sj]
  rfl
 |[],_::_,h=>by cases h
 |_::_,[],h=>by cases h
theorem JA{ds:Ac D}(r:Z9 K CL H A0 xs ds)(rv:A1 xs its)(h:j<its.length):∃ x,Z7 K CL H A0 x (ds.getD j .O)/\Bt x its[j]:=by
 have e1:=rv.length;have e2:=r.length;have hd:ds[j]?=Aa (ds.getD j .O):=by
  rw[Dl,Cz (by omega)];rfl
 obtain⟨x,hx,q⟩:=r.get hd;obtain⟨u,hu,ru⟩:=rv.get hx;refine⟨x,q,?_⟩;rw[Cz h]at hu;cases hu;exact ru
theorem IL{ds:Ac D}(h:ds.all (Y8 n)=Ab)(j:Ag):Y8 n (ds.getD j .O)=Ab:=by
 rw[Dl];cases e:ds[j]? with
 |none=>cases n<;>rfl
 |some d=>exact Bh.mp h d (GN e)
def CM(B:A4)(s:Ar)(u t:Al)(k:An):Prop:=LK B s u t k/\Ek B s u t k/\J9 B s u t (!k)
section
variable{B:A4}{s:Ar}
open SeqAt
theorem vO:CM B s .none .none Ab:=⟨RcAt.none_none,EqAt.same _,RcNeAt.none_none⟩
theorem uK(a b:An):CM B s (.bool a) (.bool b) (a==b):=⟨RcAt.bool_bool _ _,EqAt.bool_bool _ _,RcNeAt.bool_bool _ _⟩
theorem vR(b:An):CM B s .none (.bool b) Ae:=⟨RcAt.none_bool _,EqAt.none_bool _,RcNeAt.none_bool _⟩
theorem uH(b:An):CM B s (.bool b) .none Ae:=⟨RcAt.bool_none _,EqAt.bool_none _,RcNeAt.bool_none _⟩
theorem wB(a:Ai)(t:Cf)(b:Ai)(u:Cf):CM B s (.int a t) (.int b u) (a==b):=⟨RcAt.int_int _ _ _ _,EqAt.int_int _ _ _ _,RcNeAt.int_int _ _ _ _⟩
theorem vG(a:Ah)(t:Cf)(b:Ah)(u:Cf):CM B s (.str a t) (.str b u) (a==b):=⟨RcAt.str_str _ _ _ _,EqAt.str_str _ _ _ _,RcNeAt.str_str _ _ _ _⟩
theorem vY(a:Ai)(t:Cf)(b:Ah)(u:Cf):CM B s (.int a t) (.str b u) Ae:=⟨RcAt.int_str _ _ _ _,EqAt.int_str _ _ _ _,RcNeAt.int_str _ _ _ _⟩
theorem vK(a:Ah)(t:Cf)(b:Ai)(u:Cf):CM B s (.str a t) (.int b u) Ae:=⟨RcAt.str_int _ _ _ _,EqAt.str_int _ _ _ _,RcNeAt.str_int _ _ _ _⟩
theorem vQ(b:Ai)(u:Cf):CM B s .none (.int b u) Ae:=⟨RcAt.none_int _ _,EqAt.none_int _ _,RcNeAt.none_int _ _⟩
theorem vZ(b:Ai)(u:Cf):CM B s (.int b u) .none Ae:=⟨RcAt.int_none _ _,EqAt.int_none _ _,RcNeAt.int_none _ _⟩
theorem vN(b:Ah)(u:Cf):CM B s .none (.str b u) Ae:=⟨RcAt.none_str _ _,EqAt.none_str _ _,RcNeAt.none_str _ _⟩
theorem vH(b:Ah)(u:Cf):CM B s (.str b u) .none Ae:=⟨RcAt.str_none _ _,EqAt.str_none _ _,RcNeAt.str_none _ _⟩
theorem uJ(a:An)(b:Ai)(u:Cf):CM B s (.bool a) (.int b u) (î a==b):=⟨RcAt.bool_int _ _ _,EqAt.bool_int _ _ _,RcNeAt.bool_int _ _ _⟩
theorem uE(a:An)(b:Ai)(u:Cf):CM B s (.int b u) (.bool a) (b==î a):=⟨RcAt.int_bool _ _ _,EqAt.int_bool _ _ _,RcNeAt.int_bool _ _ _⟩
theorem uG(a:An)(b:Ah)(u:Cf):CM B s (.bool a) (.str b u) Ae:=⟨RcAt.bool_str _ _ _,EqAt.bool_str _ _ _,RcNeAt.bool_str _ _ _⟩
theorem vL(a:An)(b:Ah)(u:Cf):CM B s (.str b u) (.bool a) Ae:=⟨RcAt.str_bool _ _ _,EqAt.str_bool _ _ _,RcNeAt.str_bool _ _ _⟩
variable{l:Ak}{items:Bl Al}
theorem vU(h:s.heap.IsList l items)(hu:B.units<Bx):CM B s (.ref l) .none Ae:=⟨RcAt.list_none h hu,EqAt.list_none h hu,RcNeAt.list_none h hu⟩
theorem vP(h:s.heap.IsList l items)(hu:B.units<Bx):CM B s .none (.ref l) Ae:=⟨RcAt.none_list h hu,EqAt.none_list h hu,RcNeAt.none_list h hu⟩
theorem vW(b:An)(h:s.heap.IsList l items)(hu:B.units<Bx):CM B s (.ref l) (.bool b) Ae:=⟨RcAt.list_bool b h hu,EqAt.list_bool b h hu,RcNeAt.list_bool b h hu⟩
theorem uI(b:An)(h:s.heap.IsList l items)(hu:B.units<Bx):CM B s (.bool b) (.ref l) Ae:=⟨RcAt.bool_list b h hu,EqAt.bool_list b h hu,RcNeAt.bool_list b h hu⟩
theorem vV(b:Ai)(u:Cf)(h:s.heap.IsList l items)(hu:B.units<Bx):CM B s (.ref l) (.int b u) Ae:=⟨RcAt.list_int b u h hu,EqAt.list_int b u h hu,RcNeAt.list_int b u h hu⟩
theorem wA(b:Ai)(u:Cf)(h:s.heap.IsList l items)(hu:B.units<Bx):CM B s (.int b u) (.ref l) Ae:=⟨RcAt.int_list b u h hu,EqAt.int_list b u h hu,RcNeAt.int_list b u h hu⟩
theorem vT(b:Ah)(u:Cf)(h:s.heap.IsList l items)(hu:B.units<Bx):CM B s (.ref l) (.str b u) Ae:=⟨RcAt.list_str b u h hu,EqAt.list_str b u h hu,RcNeAt.list_str b u h hu⟩
theorem vJ(b:Ah)(u:Cf)(h:s.heap.IsList l items)(hu:B.units<Bx):CM B s (.str b u) (.ref l) Ae:=⟨RcAt.str_list b u h hu,EqAt.str_list b u h hu,RcNeAt.str_list b u h hu⟩
theorem vB(h:s.heap.IsTuple l items)(hu:B.units<Bx):CM B s (.ref l) .none Ae:=⟨RcAt.tuple_none h hu,EqAt.tuple_none h hu,RcNeAt.tuple_none h hu⟩
theorem vM(h:s.heap.IsTuple l items)(hu:B.units<Bx):CM B s .none (.ref l) Ae:=⟨RcAt.none_tuple h hu,EqAt.none_tuple h hu,RcNeAt.none_tuple h hu⟩
theorem vE(b:An)(h:s.heap.IsTuple l items)(hu:B.units<Bx):CM B s (.ref l) (.bool b) Ae:=⟨RcAt.tuple_bool b h hu,EqAt.tuple_bool b h hu,RcNeAt.tuple_bool b h hu⟩
theorem uF(b:An)(h:s.heap.IsTuple l items)(hu:B.units<Bx):CM B s (.bool b) (.ref l) Ae:=⟨RcAt.bool_tuple b h hu,EqAt.bool_tuple b h hu,RcNeAt.bool_tuple b h hu⟩
theorem vD(b:Ai)(u:Cf)(h:s.heap.IsTuple l items)(hu:B.units<Bx):CM B s (.ref l) (.int b u) Ae:=⟨RcAt.tuple_int b u h hu,EqAt.tuple_int b u h hu,RcNeAt.tuple_int b u h hu⟩
theorem vX(b:Ai)(u:Cf)(h:s.heap.IsTuple l items)(hu:B.units<Bx):CM B s (.int b u) (.ref l) Ae:=⟨RcAt.int_tuple b u h hu,EqAt.int_tuple b u h hu,RcNeAt.int_tuple b u h hu⟩
theorem sX(b:Ah)(u:Cf)(h:s.heap.IsTuple l items)(hu:B.units<Bx):CM B s (.ref l) (.str b u) Ae:=⟨RcAt.tuple_str b u h hu,EqAt.tuple_str b u h hu,RcNeAt.tuple_str b u h hu⟩
theorem vF(b:Ah)(u:Cf)(h:s.heap.IsTuple l items)(hu:B.units<Bx):CM B s (.str b u) (.ref l) Ae:=⟨RcAt.str_tuple b u h hu,EqAt.str_tuple b u h hu,RcNeAt.str_tuple b u h hu⟩
theorem vS(h:s.heap.IsList l items)(h2:s.heap.IsTuple b ri)(hu:B.units<Bx):CM B s (.ref l) (.ref b) Ae:=⟨RcAt.list_tuple h h2 hu,EqAt.list_tuple h h2 hu,RcNeAt.list_tuple h h2 hu⟩
theorem vC(h:s.heap.IsTuple l items)(h2:s.heap.IsList b ri)(hu:B.units<Bx):CM B s (.ref l) (.ref b) Ae:=⟨RcAt.tuple_list h h2 hu,EqAt.tuple_list h h2 hu,RcNeAt.tuple_list h h2 hu⟩
end
end
section
variable{X:Cx}{CL:ClA}{W:XW}
theorem Mc{its:Bl Al}(x:PlainL h a its):h.IsList a its:=let ⟨o,n,e,c,_,d⟩:=x;⟨o,e,c,n,d⟩
def yC(X:Cx)(CL:ClA)(H:Hp)(s:Ar)(d:D)(u:Al):Prop:=match d with
  |.O=>u=.none
  |.bl b=>u=.bool b
  |.int i=>∃ t,u=.int i t
  |.str x=>∃ t,u=.str x t
  |.H ds=>∃ a xs its,u=.ref a/\Z9 X.K CL H A0 xs ds/\A1 xs its/\s.heap.IsTuple a its.toArray
  |.L ds=>∃ a xs its,u=.ref a/\Z9 X.K CL H A0 xs ds/\A1 xs its/\s.heap.IsList a its.toArray
  |_=>AM
theorem UP(I:Z8 X pI Y H s)(hd:Y8 n d=Ab)(r:Z7 X.K CL H A0 v d)(q:Bt v u):yC X CL H s d u:=by
 cases d with
 |O=>cases r;exact q
 |bl b=>cases r;exact q
 |int b=>cases r;exact q
 |str b=>cases r;exact q
 |H ds=>
  obtain⟨a,xs,rfl,_,sq,r⟩:=r;obtain⟨its,rv,p,_⟩:=I.tuple sq;cases q;exact⟨a,xs,its,rfl,r,rv,p⟩
 |L ds=>
  obtain⟨a,xs,rfl,_,sq,r⟩:=r;obtain⟨its,rv,p,_⟩:=I.list sq;cases q;exact⟨a,xs,its,rfl,r,rv,Mc p⟩
 |obj=>cases n<;>cases hd
 |exc=>cases n<;>cases hd
 |dic=>cases n<;>cases hd
theorem iH{B:A4}{ds es:Ac D}(hl:s.heap.IsList l its.toArray)(hb:s.heap.IsList b zo.toArray)(e1:its.length=ds.length)(e2:zo.length=es.length)(hu:B.units<Bx)(hs:l=b->LE ds es=Ab)(he:∀ j (h1:j<its.length) (h2:j<zo.length),Ek B.in1 s its[j] zo[j] (Tm (ds.getD j .O) (es.getD j .O))):CM B s (.ref l) (.ref b) (LE ds es):=by
 have rc:LK B s (.ref l) (.ref b) (LE ds es):=by
  by_cases hz:its.length=zo.length
  .have q:=SeqAt.RcAt.lists (e:=λj=>Tm (ds.getD j .O) (es.getD j .O)) hl hb (by simpa using hz) hu (λj h1 h2=>by simpa using he j (by simpa using h1) (by simpa using h2))
   rw[MW (by omega)]
   have e:its.toArray.size=ds.length:=by simpa using e1
   rwa [e]at q
  .rw[MV (by omega)]
   exact SeqAt.RcAt.lists_lengths hl hb (by simpa using hz) hu
 have ne:J9 B s (.ref l) (.ref b) (!LE ds es):=by
  by_cases hz:its.length=zo.length
  .have q:=SeqAt.RcNeAt.lists (e:=λj=>Tm (ds.getD j .O) (es.getD j .O)) hl hb (by simpa using hz) hu (λj h1 h2=>by simpa using he j (by simpa using h1) (by simpa using h2))
   rw[MW (by omega)]
   have e:its.toArray.size=ds.length:=by simpa using e1
   rwa [e]at q
  .rw[MV (by omega)]
   exact SeqAt.RcNeAt.lists_lengths hl hb (by simpa using hz) hu
 refine⟨rc,?_,ne⟩;by_cases hlb:l=b
 .rw[hs hlb,hlb];exact Zq _
 .exact Zp hlb rc
theorem iG{B:A4}{ds es:Ac D}(hl:s.heap.IsTuple l its.toArray)(hb:s.heap.IsTuple b zo.toArray)(e1:its.length=ds.length)(e2:zo.length=es.length)(hu:B.units<Bx)(hs:l=b->LE ds es=Ab)(he:∀ j (h1:j<its.length) (h2:j<zo.length),Ek B.in1 s its[j] zo[j] (Tm (ds.getD j .O) (es.getD j .O))):CM B s (.ref l) (.ref b) (LE ds es):=by
 have rc:LK B s (.ref l) (.ref b) (LE ds es):=by
  have q:=SeqAt.RcAt.tuples (e:=λj=>Tm (ds.getD j .O) (es.getD j .O)) hl hb hu (λj h1 h2=>by simpa using he j (by simpa using h1) (by simpa using h2))
  have e:its.toArray.size=ds.length:=by simpa using e1
  have e':zo.toArray.size=es.length:=by simpa using e2
  rw[e,e']at q;by_cases hz:ds.length=es.length
  .rw[MW hz];rw[hz,Ym,BE,JV]at q;rw[hz];exact q
  .rw[MV hz]
   rwa [Bg.mpr hz,Jf]at q
 have ne:J9 B s (.ref l) (.ref b) (!LE ds es):=by
  have q:=SeqAt.RcNeAt.tuples (e:=λj=>Tm (ds.getD j .O) (es.getD j .O)) hl hb hu (λj h1 h2=>by simpa using he j (by simpa using h1) (by simpa using h2))
  have e:its.toArray.size=ds.length:=by simpa using e1
  have e':zo.toArray.size=es.length:=by simpa using e2
  rw[e,e']at q;by_cases hz:ds.length=es.length
  .rw[MW hz];rw[hz,Ym,BE,JV]at q;rw[hz];exact q
  .rw[MV hz]
   rwa [Bg.mpr hz,Jf]at q
 refine⟨rc,?_,ne⟩;by_cases hlb:l=b
 .rw[hs hlb,hlb];exact Zq _
 .exact Zp hlb rc
theorem L7{pI:Pn}{Y:L2.St}{H:Hp}{s:Ar}(I:Z8 X pI Y H s):∀(n:Ag)(d e:D)(v w':V)(u t:Al)(B:A4),Y8 n d=Ab->Y8 n e=Ab->Z7 X.K CL H A0 v d->Z7 X.K CL H A0 w' e->Bt v u->Bt w' t->B.units+n<Bx->CM B s u t (Tm d e)
  |n,d,e,v,w',u,t,B,hd,he,r,q,rv,w6,hu=>by
    have xk:B.units<Bx:=by omega
    have sd:=UP I hd r rv;have se:=UP I he q w6
    match d,e,sd,se with
    |.O,.O,s1,s2=>cases s1;cases s2;exact vO
    |.O,.bl b,s1,s2=>cases s1;cases s2;exact vR b
    |.O,.int b,s1,s2=>cases s1;obtain⟨_,rfl⟩:=s2;exact vQ b _
    |.O,.str b,s1,s2=>cases s1;obtain⟨_,rfl⟩:=s2;exact vN b _
    |.O,.H es,s1,s2=>cases s1;obtain⟨_,_,_,rfl,_,_,p⟩:=s2;exact vM p xk
    |.O,.L es,s1,s2=>cases s1;obtain⟨_,_,_,rfl,_,_,p⟩:=s2;exact vP p xk
    |.bl a,.O,s1,s2=>cases s1;cases s2;exact uH a
    |.bl a,.bl b,s1,s2=>cases s1;cases s2;exact uK a b
    |.bl a,.int b,s1,s2=>cases s1;obtain⟨_,rfl⟩:=s2;exact uJ a b _
    |.bl a,.str b,s1,s2=>cases s1;obtain⟨_,rfl⟩:=s2;exact uG a b _
    |.bl a,.H es,s1,s2=>cases s1;obtain⟨_,_,_,rfl,_,_,p⟩:=s2;exact uF a p xk
    |.bl a,.L es,s1,s2=>cases s1;obtain⟨_,_,_,rfl,_,_,p⟩:=s2;exact uI a p xk
    |.int a,.O,s1,s2=>obtain⟨_,rfl⟩:=s1;cases s2;exact vZ a _
    |.int a,.bl b,s1,s2=>obtain⟨_,rfl⟩:=s1;cases s2;exact uE b a _
    |.int a,.int b,s1,s2=>obtain⟨_,rfl⟩:=s1;obtain⟨_,rfl⟩:=s2;exact wB a _ b _
    |.int a,.str b,s1,s2=>obtain⟨_,rfl⟩:=s1;obtain⟨_,rfl⟩:=s2;exact vY a _ b _
    |.int a,.H es,s1,s2=>obtain⟨_,rfl⟩:=s1;obtain⟨_,_,_,rfl,_,_,p⟩:=s2;exact vX a _ p xk
    |.int a,.L es,s1,s2=>obtain⟨_,rfl⟩:=s1;obtain⟨_,_,_,rfl,_,_,p⟩:=s2;exact wA a _ p xk
    |.str a,.O,s1,s2=>obtain⟨_,rfl⟩:=s1;cases s2;exact vH a _
    |.str a,.bl b,s1,s2=>obtain⟨_,rfl⟩:=s1;cases s2;exact vL b a _
    |.str a,.int b,s1,s2=>obtain⟨_,rfl⟩:=s1;obtain⟨_,rfl⟩:=s2;exact vK a _ b _
    |.str a,.str b,s1,s2=>obtain⟨_,rfl⟩:=s1;obtain⟨_,rfl⟩:=s2;exact vG a _ b _
    |.str a,.H es,s1,s2=>obtain⟨_,rfl⟩:=s1;obtain⟨_,_,_,rfl,_,_,p⟩:=s2;exact vF a _ p xk
    |.str a,.L es,s1,s2=>obtain⟨_,rfl⟩:=s1;obtain⟨_,_,_,rfl,_,_,p⟩:=s2;exact vJ a _ p xk
    |.H ds,.O,s1,s2=>cases s2;obtain⟨_,_,_,rfl,_,_,p⟩:=s1;exact vB p xk
    |.H ds,.bl b,s1,s2=>cases s2;obtain⟨_,_,_,rfl,_,_,p⟩:=s1;exact vE b p xk
    |.H ds,.int b,s1,s2=>obtain⟨_,rfl⟩:=s2;obtain⟨_,_,_,rfl,_,_,p⟩:=s1;exact vD b _ p xk
    |.H ds,.str b,s1,s2=>obtain⟨_,rfl⟩:=s2;obtain⟨_,_,_,rfl,_,_,p⟩:=s1;exact sX b _ p xk
    |.H ds,.L es,s1,s2=>obtain⟨_,_,_,rfl,_,_,p⟩:=s1;obtain⟨_,_,_,rfl,_,_,p2⟩:=s2;exact vC p p2 xk
    |.L ds,.O,s1,s2=>cases s2;obtain⟨_,_,_,rfl,_,_,p⟩:=s1;exact vU p xk
    |.L ds,.bl b,s1,s2=>cases s2;obtain⟨_,_,_,rfl,_,_,p⟩:=s1;exact vW b p xk
    |.L ds,.int b,s1,s2=>obtain⟨_,rfl⟩:=s2;obtain⟨_,_,_,rfl,_,_,p⟩:=s1;exact vV b _ p xk
    |.L ds,.str b,s1,s2=>obtain⟨_,rfl⟩:=s2;obtain⟨_,_,_,rfl,_,_,p⟩:=s1;exact vT b _ p xk
    |.L ds,.H es,s1,s2=>obtain⟨_,_,_,rfl,_,_,p⟩:=s1;obtain⟨_,_,_,rfl,_,_,p2⟩:=s2;exact vS p p2 xk
    |.H ds,.H es,s1,s2=>
      match n,hd,he,hu with
      |n+1,hd,he,hu=>
        obtain⟨a,xs,its,rfl,r1,v1,p1⟩:=s1;obtain⟨b,ys,zo,rfl,r2,v2,p2⟩:=s2;have l1:=v1.length;have l2:=r1.length;have l3:=v2.length;have l4:=r2.length
        refine iG p1 p2 (by omega) (by omega) xk (λhab=>?_) λj h1 h2=>?_
        · have e1:v=.ref a:=Bt.inj rv rfl;have e2:w'=.ref b:=Bt.inj w6 rfl;subst e1 e2 hab;have z:=MY I (n+1) _ _ hd he r q
          injection z with z
          rw[z];exact zr n es he
        · obtain⟨x,rx,qx⟩:=JA r1 v1 h1;obtain⟨y,ry,qy⟩:=JA r2 v2 h2;exact(L7 I n _ _ x y _ _ B.in1 (IL hd j) (IL he j) rx ry qx qy (by show B.units+1+n<Bx;omega)).2.1
    |.L ds,.L es,s1,s2=>
      match n,hd,he,hu with
      |n+1,hd,he,hu=>
        obtain⟨a,xs,its,rfl,r1,v1,p1⟩:=s1;obtain⟨b,ys,zo,rfl,r2,v2,p2⟩:=s2;have l1:=v1.length;have l2:=r1.length;have l3:=v2.length;have l4:=r2.length
        refine iH p1 p2 (by omega) (by omega) xk (λhab=>?_) λj h1 h2=>?_
        · have e1:v=.ref a:=Bt.inj rv rfl;have e2:w'=.ref b:=Bt.inj w6 rfl;subst e1 e2 hab;have z:=MY I (n+1) _ _ hd he r q
          injection z with z
          rw[z];exact zr n es he
        · obtain⟨x,rx,qx⟩:=JA r1 v1 h1;obtain⟨y,ry,qy⟩:=JA r2 v2 h2;exact(L7 I n _ _ x y _ _ B.in1 (IL hd j) (IL he j) rx ry qx qy (by show B.units+1+n<Bx;omega)).2.1
    |.obj _ _,_,s1,_=>exact s1.elim
    |.exc _ _,_,s1,_=>exact s1.elim
    |.dic _,_,s1,_=>exact s1.elim
    |_,.obj _ _,_,s2=>exact s2.elim
    |_,.exc _ _,_,s2=>exact s2.elim
    |_,.dic _,_,s2=>exact s2.elim
end
section
variable{X:Cx}{CL:ClA}{W:XW}
theorem Oa(I:Z8 X pI Y H s){ds:Ac D}(B:A4)(hd:Y8 n d=Ab)(hs:ds.all (Y8 n)=Ab)(r:Z9 X.K CL H A0 xs ds)(rv:A1 xs its)(q:Z7 X.K CL H A0 v d)(qv:Bt v u)(hu:B.units+n<Bx):∃ e:Al->An,(∀ y,y∈its.toArray->Ek B s y u (e y))/\its.toArray.any e=ds.any λy=>Tm y d:=by
 have l1:=rv.length;have l2:=r.length
 have key:∀ y,y∈its->∃ k:An,Ek B s y u k/\∀ j (h:j<its.length),its[j]=y->Tm (ds.getD j .O) d=k:=λy hy=>by
  obtain⟨j,hj,rfl⟩:=Fn hy;obtain⟨x,rx,qx⟩:=JA r rv hj;refine⟨Tm (ds.getD j .O) d,(L7 I n _ _ x v _ _ B (IL hs j) hd rx q qx qv hu).2.1,λj' ie e=>?_⟩
  obtain⟨x',i8,ck⟩:=JA r rv ie;rw[e]at ck;have z:=Bt.inj qx ck;subst z;rw[MY I n _ _ (IL hs j') (IL hs j) i8 rx]
 have wn:∀ y,∃ k:An,y∈its->Ek B s y u k/\∀ j (h:j<its.length),its[j]=y->Tm (ds.getD j .O) d=k:=λy=>by
  by_cases hy:y∈its
  .obtain⟨k,hk⟩:=key y hy;exact⟨k,λ_=>hk⟩
  .exact⟨Ab,λh=>absurd h hy⟩
 refine⟨λy=>XG (wn y),λy hy=>(DN (wn y) (by simpa using hy)).1,?_⟩
 rw[DM];simp only[List.any_toArray,ER];constructor
 .rintro⟨y,hy,hk⟩;obtain⟨j,hj,rfl⟩:=Fn hy;have z:=(DN (wn its[j]) hy).2 j hj rfl;rw[hk]at z;refine⟨ds.getD j .O,?_,z⟩;rw[Dl,Cz (by omega)]
  exact ES _
 .rintro⟨y,hy,hk⟩;obtain⟨j,hj,rfl⟩:=Fn hy;have ie:j<its.length:=by omega
  refine⟨its[j],ES _,?_⟩;have z:=(DN (wn its[j]) (ES _)).2 j ie rfl;rw[<-z,Dl,Cz hj];exact hk
theorem NX{g:Ai->Ai->An}(ho:za X (CP op) (o5 λi j=>.bl (g i j)))(hg:∀ dx dy,(∃ i j,dx=.int i/\dy=.int j/\BS op dx dy=.ok (.bl (g i j)))\/BS op dx dy=.bad):uj X CL W (CP op) (BS op):=by
 intro A pI s Y H x y v u Q I rx ry ⟨hA,dx,dy,hx,hy,p⟩;rcases hg dx dy with ⟨i,j,rfl,rfl,e⟩|e
 .have ex:=hx.int_of;have ey:=hy.int_of
  subst ex ey;rw[e]at p;exact ho pI s Y H _ _ v u Q I rx ry ⟨i,j,rfl,rfl,p _ H (Az.refl H) rfl⟩
 .rw[e]at p;exact p.elim
theorem VU{x:V}(h:Cv X.K CL H A x d)(hd:d≠.O):x≠.O:=by
 rintro rfl;have h:=h.plain;cases d with
 |O=>exact hd rfl
 |H=>obtain⟨_,_,e,_⟩:=h;cases e
 |L=>obtain⟨_,_,e,_⟩:=h;cases e
 |obj=>obtain⟨_,_,_,_,e,_⟩:=h;cases e
 |exc=>obtain⟨_,_,_,e,_⟩:=h;cases e
 |dic=>exact h.elim
 |_=>cases h
theorem IM(hu:X.A.units+64<Bx)(op:DC):uj X CL W (CP op) (BS op):=by
 cases op with
 |Eq=>
  intro A pI s Y H x y v u Q I rx ry ⟨hA,dx,dy,hx,hy,p⟩;rw[xM]at p;split at p
  .rename_i h;simp only[Am]at h;exact(L7 I 5 dx dy x y v u X.A h.1 h.2 hx.plain hy.plain rx ry (by omega)).1 X.prog X.w X.xe _ ⟨.bl _,H,I,rfl,p _ H (Az.refl H) rfl⟩
  .exact p.elim
 |NotEq=>
  intro A pI s Y H x y v u Q I rx ry ⟨hA,dx,dy,hx,hy,p⟩;rw[wZ]at p;split at p
  .rename_i h;simp only[Am]at h;exact(L7 I 5 dx dy x y v u X.A h.1 h.2 hx.plain hy.plain rx ry (by omega)).2.2 X.prog X.w X.xe _ ⟨.bl _,H,I,rfl,p _ H (Az.refl H) rfl⟩
  .exact p.elim
 |Lt=>
  refine NX uC λdx dy=>?_
  cases dx with
  |int i=>
   cases dy with
   |int j=>exact .inl ⟨i,j,rfl,rfl,rfl⟩
   |_=>exact .inr rfl
  |_=>exact .inr rfl
 |LtE=>
  refine NX uD λdx dy=>?_
  cases dx with
  |int i=>
   cases dy with
   |int j=>exact .inl ⟨i,j,rfl,rfl,rfl⟩
   |_=>exact .inr rfl
  |_=>exact .inr rfl
 |Gt=>
  refine NX wS λdx dy=>?_
  cases dx with
  |int i=>
   cases dy with
   |int j=>exact .inl ⟨i,j,rfl,rfl,rfl⟩
   |_=>exact .inr rfl
  |_=>exact .inr rfl
 |GtE=>
  refine NX wT λdx dy=>?_
  cases dx with
  |int i=>
   cases dy with
   |int j=>exact .inl ⟨i,j,rfl,rfl,rfl⟩
   |_=>exact .inr rfl
  |_=>exact .inr rfl
 |In=>
  intro A pI s Y H x y v u Q I rx ry ⟨hA,dx,dy,hx,hy,p⟩;cases dy with
  |L es=>
   rw[yM]at p;split at p
   .rename_i h;simp only[Am]at h;obtain⟨a,xs,e,_,sq,r⟩:=hy.plain;subst e;cases ry;obtain⟨its,rv,pl,_⟩:=I.list sq;obtain⟨e,he,ha⟩:=Oa I (n:=5) X.A.in1 h.1 h.2 r rv hx.plain rx (by show X.A.units+1+5<Bx;omega)
    refine SeqAt.in_listAt e (Mc pl) he ?_;rw[ha];exact⟨.bl _,H,I,rfl,p _ H (Az.refl H) rfl⟩
   .exact p.elim
  |H es=>
   rw[yL]at p;split at p
   .rename_i h;simp only[Am]at h;obtain⟨a,xs,e,_,sq,r⟩:=hy.plain;subst e;cases ry;obtain⟨its,rv,pl,_⟩:=I.tuple sq;obtain⟨e,he,ha⟩:=Oa I (n:=5) X.A.in1 h.1 h.2 r rv hx.plain rx (by show X.A.units+1+5<Bx;omega)
    refine SeqAt.in_tupleAt e pl he ?_;rw[ha];exact⟨.bl _,H,I,rfl,p _ H (Az.refl H) rfl⟩
   .exact p.elim
  |dic kvs=>exact hy.plain.elim
  |_=>exact p.elim
 |NotIn=>
  intro A pI s Y H x y v u Q I rx ry ⟨hA,dx,dy,hx,hy,p⟩;cases dy with
  |L es=>
   rw[wY]at p;split at p
   .rename_i h;simp only[Am]at h;obtain⟨a,xs,e,_,sq,r⟩:=hy.plain;subst e;cases ry;obtain⟨its,rv,pl,_⟩:=I.list sq;obtain⟨e,he,ha⟩:=Oa I (n:=5) X.A.in1 h.1 h.2 r rv hx.plain rx (by show X.A.units+1+5<Bx;omega)
    refine SeqAt.notIn_listAt e (Mc pl) he ?_;rw[ha];exact⟨.bl _,H,I,rfl,p _ H (Az.refl H) rfl⟩
   .exact p.elim
  |H es=>
   rw[wX]at p;split at p
   .rename_i h;simp only[Am]at h;obtain⟨a,xs,e,_,sq,r⟩:=hy.plain;subst e;cases ry;obtain⟨its,rv,pl,_⟩:=I.tuple sq;obtain⟨e,he,ha⟩:=Oa I (n:=5) X.A.in1 h.1 h.2 r rv hx.plain rx (by show X.A.units+1+5<Bx;omega)
    refine SeqAt.notIn_tupleAt e pl he ?_;rw[ha];exact⟨.bl _,H,I,rfl,p _ H (Az.refl H) rfl⟩
   .exact p.elim
  |_=>exact p.elim
 |Is=>
  intro A pI s Y H x y v u Q I rx ry ⟨hA,dx,dy,hx,hy,p⟩;cases dy with
  |O=>
   have ey:=hy.non_of;subst ey;refine qW pI s Y H _ _ v u Q I rx ry ⟨rfl,?_⟩;cases dx with
   |O=>
    have ex:=hx.non_of;subst ex;exact p _ H (Az.refl H) rfl
   |exc=>exact p.elim
   |dic=>exact p.elim
   |_=>rw[BM (VU hx (by simp))];exact p _ H (Az.refl H) rfl
  |bl b=>
   cases dx with
   |bl a=>
    have ey:=hy.bl_of;have ex:=hx.bl_of;subst ex ey;cases rx;cases ry;refine wpAny_is_plain rfl ⟨.bl (a==b),H,I,?_,p _ H (Az.refl H) rfl⟩;cases a<;>cases b<;>rfl
   |_=>exact p.elim
  |_=>cases dx<;>exact p.elim
 |IsNot=>
  intro A pI s Y H x y v u Q I rx ry ⟨hA,dx,dy,hx,hy,p⟩;cases dy with
  |O=>
   have ey:=hy.non_of;subst ey;refine lE pI s Y H _ _ v u Q I rx ry ⟨rfl,?_⟩;cases dx with
   |O=>
    have ex:=hx.non_of;subst ex;exact p _ H (Az.refl H) rfl
   |exc=>exact p.elim
   |dic=>exact p.elim
   |_=>rw[BM (VU hx (by simp))];exact p _ H (Az.refl H) rfl
  |bl b=>
   cases dx with
   |bl a=>
    have ey:=hy.bl_of;have ex:=hx.bl_of;subst ex ey;cases rx;cases ry;refine wpAny_isNot_plain rfl ⟨.bl (!(a==b)),H,I,?_,p _ H (Az.refl H) rfl⟩;cases a<;>cases b<;>rfl
   |_=>exact p.elim
  |_=>cases dx<;>exact p.elim
end
section
variable{X:Cx}{CL:ClA}{W:XW}{a b c:Aq}{fa fb fc:Rho->R D}{pos:AF}
theorem CS.bind{f:D->R An}{Q:An->Hp->Prop}{Q':VK}(h:CS W H (r.bind f) Q)(k:∀ d v H',r=.ok d->Az H H'->Rp H' v d->CS W H' (f d) Q->Q' v H'):AW Rp W H r Q':=by
 cases r with
 |ok d=>exact λv H2 s2 q=>k d v H2 rfl s2 q (CS.same s2 h)
 |exn x=>exact h
 |bad=>exact h
theorem CS.bindB{r:R An}{f:An->R An}{Q:An->Hp->Prop}{Q':An->Hp->Prop}(h:CS W H (r.bind f) Q)(k:∀ b H',r=.ok b->Az H H'->CS W H' (f b) Q->Q' b H'):CS W H r Q':=by
 cases r with
 |ok d=>exact λH2 s2=>k d H2 rfl s2 (CS.same s2 h)
 |exn x=>exact h
 |bad=>exact h
theorem Iu.bind{Rp:Hp->Ac V->Ac D->Prop}{r:R (Ac D)}{f:Ac D->R D}{Q':Ac V->Hp->Prop}(h:AW Rq W H (r.bind f) Q)(k:∀ d v H',r=.ok d->Az H H'->Rp H' v d->AW Rq W H' (f d) Q->Q' v H'):Iu Rp W H r Q':=by
 cases r with
 |ok d=>exact λv H2 s2 q=>k d v H2 rfl s2 q (AW.same s2 h)
 |exn x=>exact h
 |bad=>exact h
theorem nZ(ha:ST X CL W a fa):SE X CL W (.UnaryOp .USub a pos) (λU=>(fa U).bind λx=>ç .USub x):=λA=>PE.weak (tW oP (ha A)) λY H Q ⟨hA,U,g,p⟩=>⟨hA,U,g,AW.bind p λd v H1 _ s1 r1 p1=>by
 cases d with
 |int i=>
  have e:=r1.int_of;subst e;exact⟨i,rfl,p1 _ H1 (Az.refl H1) rfl⟩
 | _=>exact p1.elim⟩
theorem PH{f:An->R D}(h:AW Rq W H ((Dj d).bind f) Q):∃ c,d=.bl c/\AW Rq W H (f c) Q:=by
 cases d with
 |bl c=>exact⟨c,rfl,h⟩
 |_=>exact h.elim
theorem Vc(ha:ST X CL W a fa):SE X CL W (.UnaryOp .Not a pos) (λU=>(fa U).bind λx=>(Dj x).bind λb=>.ok (.bl (!b))):=λA=>PE.weak (qP (ha A)) λY H Q ⟨hA,U,g,p⟩=>⟨hA,U,g,AW.bind p λd v H1 _ s1 r1 p1=>by
 obtain⟨c,rfl,p2⟩:=PH p1;exact⟨c,r1.bl_of,p2 _ H1 (Az.refl H1) rfl⟩⟩
theorem QS{op}(ha:SE X CL W a fa):SE X CL W (.BoolOp op [a] pos) fa:=λA=>qO (ha A)
theorem Vh{rest:Ac Aq}(ha:SE X CL W a fa)(hb:SE X CL W (.BoolOp .And (b::rest) pos) fb):SE X CL W (.BoolOp .And (a::b::rest) pos) (λU=>(fa U).bind λx=>(Dj x).bind λc=>if c=Ab then fb U else .ok (.bl Ae)):=
 λA=>PE.weak (qR (ha A) (hb A)) λY H Q ⟨hA,U,g,p⟩=>⟨hA,U,g,AW.bind p λd v H1 _ s1 r1 p1=>by
  obtain⟨c,rfl,p2⟩:=PH p1;refine⟨c,r1,?_⟩;cases c with
  |true=>exact⟨hA.same s1,U,g.same s1,p2⟩
  | false=>exact p2 _ H1 (Az.refl H1) rfl⟩
theorem sW{rest:Ac Aq}(ha:SE X CL W a fa)(hb:SE X CL W (.BoolOp .Or (b::rest) pos) fb):SE X CL W (.BoolOp .Or (a::b::rest) pos) (λU=>(fa U).bind λx=>(Dj x).bind λc=>if c=Ab then .ok (.bl Ab) else fb U):=
 λA=>PE.weak (tX (ha A) (hb A)) λY H Q ⟨hA,U,g,p⟩=>⟨hA,U,g,AW.bind p λd v H1 _ s1 r1 p1=>by
  obtain⟨c,rfl,p2⟩:=PH p1;refine⟨c,r1,?_⟩;cases c with
  |false=>exact⟨hA.same s1,U,g.same s1,p2⟩
  | true=>exact p2 _ H1 (Az.refl H1) rfl⟩
theorem U_6{xs:Ac D}{i:Ai}(h:DU xs i=.ok d):∃ k,qd xs.length i=Aa k/\xs[k]?=Aa d:=by
 unfold DU at h;split at h
 .rename_i k e;split at h
  .rename_i d' e';cases h;exact⟨k,e,e'⟩
  .cases h
 .cases h
theorem P3{xs:Ac D}{i:Ai}{x:Ex}(h:DU xs i=.exn x):AM:=by
 unfold DU at h;split at h
 .split at h<;>cases h
 .cases h
theorem U_0{ds:Ac D}{i:Ai}(r:Z9 K CL H A xs ds)(h:DU ds i=.ok d):∃ v,vj xs i=Aa v/\Z7 K CL H A v d:=by
 obtain⟨k,e,q⟩:=U_6 h;obtain⟨v,hv,rv⟩:=r.get q;refine⟨v,?_,rv⟩;unfold vj;have:io xs.length i=Aa k:=by rw[r.length];exact e
 rw[this];exact hv
theorem mU{z:Ah}{i:Ai}(h:DU (NC z) i=.ok d):∃ c,vj z.cps.toList i=Aa c/\d=.str ⟨#[c]⟩:=by
 obtain⟨k,e,q⟩:=U_6 h;unfold NC at e q;rw[Bc]at e;rw[Ez]at q;cases hc:z.cps.toList[k]? with
 |none=>rw[hc]at q;cases q
 |some c=>
  rw[hc]at q;refine⟨c,?_,(BD q).symm⟩;unfold vj;have:io z.cps.toList.length i=Aa k:=e;rw[this];exact hc
theorem SM(h:CY n=Ab):n<=sizeLine:=by
 unfold CY at h;have:=AR h;rw[Bz];omega
theorem Vf(hs:N9 b)(ha:ST X CL W a fa)(hb:ST X CL W b fb):SE X CL W (.Subscript a b pos) (λU=>(fa U).bind λx=>(fb U).bind λy=>G8 x y):=
 λA=>PE.weak (Rb (r:=rIx X.K) pB (ha A) (hb A) hs) λY H Q h=>by
  obtain⟨hA,U,g,h⟩:=ub h;refine⟨hA,U,g,?_⟩;cases e:fa U with
  |bad=>rw[e]at h;exact h
  |exn x=>rw[e]at h;exact h
  |ok dx0=>
   rw[e]at h;intro x H1 s1 r1;obtain⟨ju,U1,g1,h1⟩:=h x H1 s1 r1;refine⟨ju,U1,g1,?_⟩;cases e1:fb U1 with
   |bad=>rw[e1]at h1;exact h1
   |exn x=>rw[e1]at h1;exact h1
   |ok dy0=>
    rw[e1]at h1;intro y H2 s2 r2;obtain⟨ac,dx,dy,rx,ry,p⟩:=h1 y H2 s2 r2;cases dy with
    |int i=>
     have ey:=ry.int_of;subst ey;cases dx with
     |L ds=>
      obtain⟨q,xs,rfl,sq,r⟩:=rx.lst_of;rw[wH]at p;cases e2:DU ds i with
      |ok d=>
       rw[e2]at p;obtain⟨v,hv,rv⟩:=U_0 r e2;exact .inl ⟨q,xs,i,v,rfl,rfl,sq,hv,p v H2 (Az.refl H2) rv⟩
      |exn x=>exact(P3 e2).elim
      |bad=>rw[e2]at p;exact p.elim
     |H ds=>
      obtain⟨q,xs,rfl,_,sq,r⟩:=rx.tup_of;rw[wG]at p;cases e2:DU ds i with
      |ok d=>
       rw[e2]at p;obtain⟨v,hv,rv⟩:=U_0 r e2;exact .inr (.inl ⟨q,xs,i,v,rfl,rfl,sq,hv,p v H2 (Az.refl H2) rv⟩)
      |exn x=>exact(P3 e2).elim
      |bad=>rw[e2]at p;exact p.elim
     |str z=>
      have ex:=rx.str_of;subst ex;have p':AW (λH=>Z7 X.K CL H A) W H2 (if CY z.length=Ab then DU (NC z) i else .bad) Q:=p
      split at p'
      .rename_i hz;cases e2:DU (NC z) i with
       |ok d=>
        rw[e2]at p';obtain⟨c,hc,rfl⟩:=mU e2;exact .inr (.inr ⟨z,i,c,rfl,rfl,SM hz,hc,p' _ H2 (Az.refl H2) rfl⟩)
       |exn x=>exact(P3 e2).elim
       |bad=>rw[e2]at p';exact p'.elim
      .exact p'.elim
     |dic=>exact rx.plain.elim
     |_=>exact p.elim
    |_=>cases dx<;>first|exact p.elim|exact rx.plain.elim
theorem QI:SA X CL W [] (λ_=>.ok []):=λA=>PA.weak Cb λY H Q ⟨hA,U,g,p⟩=>p [] H (Az.refl H) trivial
theorem Qk(ha:SE X CL W a fa)(hs:SA X CL W es fs)(yo:Aw (a::es) X.env=(Ae,eval a X.env)::Aw es X.env):SA X CL W (a::es) (λU=>(fa U).bind λx=>(fs U).bind λxs=>.ok (x::xs)):=
 λA=>PA.weak (Bv (ha A) (hs A) yo) λY H Q ⟨hA,U,g,p⟩=>by
  dsimp only at p;refine⟨hA,U,g,?_⟩;cases e:fa U with
  |bad=>rw[e]at p;exact p
  |exn x=>rw[e]at p;exact p
  |ok d=>
   rw[e]at p;intro v H1 s1 r1;refine⟨hA.same s1,U,g.same s1,?_⟩;cases e1:fs U with
   |bad=>rw[R.bind_ok,e1]at p;exact p
   |exn x=>rw[R.bind_ok,e1]at p;exact λH2 s2=>p H2 (s1.trans s2)
   |ok ds=>
    rw[R.bind_ok,e1]at p;exact λvs H2 s2 r2=>p (v::vs) H2 (s1.trans s2) ⟨r1.same s2,r2⟩
theorem Vb{k:Ag}(hs:SA X CL W es fs)(hz:∀ U ds,fs U=.ok ds->ds.length<=100000):SE X CL W (.Tuple es k pos) (λU=>(fs U).bind λxs=>.ok (.H xs)):=
 λA=>PE.weak (Of (hs A)) λY H Q ⟨hA,U,g,p⟩=>⟨hA,U,g,Iu.bind p λds vs H1 e s1 r1 p1=>⟨by
  rw[r1.length,Bz];have:=hz U ds e;omega,λq hq=>p1 _ _ (EZ hq _) (N6 (hA.same s1) hq r1)⟩⟩
def Ll(W:XW)(H:Hp)(r:R (Ao Ai))(Q:Ao Ai->Hp->Prop):Prop:=match r with
  |.ok o=>∀ H',Az H H'->Q o H'
  |.exn x=>∀ H',Az H H'->W x H'
  |.bad=>AM
theorem Ll.bind{r:R (Ao Ai)}{f:Ao Ai->R D}(h:AW Rq W H (r.bind f) Q)(k:∀ o H',r=.ok o->Az H H'->AW Rq W H' (f o) Q->Q' o H'):Ll W H r Q':=by
 cases r with
 |ok d=>exact λH2 s2=>k d H2 rfl s2 (AW.same s2 h)
 |exn x=>exact h
 |bad=>exact h
def SO(X:Cx)(CL:ClA)(W:XW)(e:Ao Aq)(f:Rho->R (Ao Ai)):Prop:=∀ A,PO X e (λY H Q=>My H A/\∃ U,Y9 X.K CL A U Y H/\Ll W H (f U) Q)
theorem PO.weak{e:Ao Aq}{t t':TO}(h:PO X e t)(k:∀ Y H Q,t' Y H Q->t Y H Q):PO X e t':=λpI s Y H Q I q=>h pI s Y H Q I (k _ _ _ q)
theorem jH:SO X CL W Af (λ_=>.ok Af):=λA=>PO.weak gY λY H Q ⟨hA,U,g,p⟩=>p H (Az.refl H)
theorem jG(ha:ST X CL W a fa):SO X CL W (Aa a) (λU=>(fa U).bind λd=>(FQ d).bind λi=>.ok (Aa i)):=λA=>PO.weak (gX (ha A)) λY H Q ⟨hA,U,g,p⟩=>by
 dsimp only at p;refine⟨hA,U,g,?_⟩;cases e:fa U with
 |bad=>rw[e]at p;exact p
 |exn x=>rw[e]at p;exact p
 |ok d=>
  rw[e]at p;intro v H1 s1 r1;cases d with
  |int i=>exact⟨i,r1.int_of,p H1 s1⟩
  |_=>exact p.elim
theorem UU{ds:Ac D}(lo hi:Ao Ai)(r:Z9 K CL H A xs ds):Z9 K CL H A (K0 xs lo hi) (JK ds lo hi):=by
 unfold K0 JK;have e:∀ d o,HT.sIx xs.length d o=IX ds.length d o:=λd o=>by rw[r.length];cases o<;>rfl
 rw[e,e,r.length];exact(r.drop _).take _
end
section
variable{X:Cx}{CL:ClA}{W:XW}{a b c:Aq}{fa fb fc:Rho->R D}{pos:AF}
def Gy(K:Fg)(CL:ClA)(H:Hp)(A:Ak->Prop):Ac V->Ac D->Prop
 |[],[]=>F8
 |v::vs,d::ds=>Cv K CL H A v d/\Gy K CL H A vs ds
 |_,_=>AM
theorem Gy.same{K:Fg}{H H':Hp}{A:Ak->Prop}(s:Az H H'):∀{vs:Ac V}{ds:Ac D},Gy K CL H A vs ds->Gy K CL H' A vs ds
 |[],[],h=>h
 |_::_,_::_,h=>⟨h.1.same s,Gy.same s h.2⟩
 |[],_::_,h=>h.elim
 |_::_,[],h=>h.elim
theorem Gy.one(h:Gy K CL H A vs [d]):∃ v,vs=[v]/\Cv K CL H A v d:=by
 cases vs with
 |nil=>exact h.elim
 |cons v vs=>
  cases vs with
  |nil=>exact⟨v,rfl,h.1⟩
  |cons=>exact h.2.elim
theorem Gy.two{e:D}(h:Gy K CL H A vs [d,e]):∃ v w',vs=[v,w']/\Cv K CL H A v d/\Cv K CL H A w' e:=by
 cases vs with
 |nil=>exact h.elim
 |cons v vs=>
  cases vs with
  |nil=>exact h.2.elim
  |cons w' vs=>
   cases vs with
   |nil=>exact⟨v,w',rfl,h.1,h.2.1⟩
   |cons=>exact h.2.2.elim
def uk(X:Cx)(CL:ClA)(W:XW)(es:Ac Aq)(f:Rho->R (Ac D)):Prop:=∀ A,PA X es (λY H Q=>My H A/\∃ U,Y9 X.K CL A U Y H/\Iu (λH=>Gy X.K CL H A) W H (f U) Q)
theorem Uz:uk X CL W [] (λ_=>.ok []):=λA=>PA.weak Cb λY H Q ⟨hA,U,g,p⟩=>p [] H (Az.refl H) trivial
theorem T4(ha:ST X CL W a fa)(hs:uk X CL W es fs)(yo:Aw (a::es) X.env=(Ae,eval a X.env)::Aw es X.env):uk X CL W (a::es) (λU=>(fa U).bind λx=>(fs U).bind λxs=>.ok (x::xs)):=
 λA=>PA.weak (Bv (ha A) (hs A) yo) λY H Q ⟨hA,U,g,p⟩=>by
  dsimp only at p;refine⟨hA,U,g,?_⟩;cases e:fa U with
  |bad=>rw[e]at p;exact p
  |exn x=>rw[e]at p;exact p
  |ok d=>
   rw[e]at p;intro v H1 s1 r1;refine⟨hA.same s1,U,g.same s1,?_⟩;cases e1:fs U with
   |bad=>rw[R.bind_ok,e1]at p;exact p
   |exn x=>rw[R.bind_ok,e1]at p;exact λH2 s2=>p H2 (s1.trans s2)
   |ok ds=>
    rw[R.bind_ok,e1]at p;exact λvs H2 s2 r2=>p (v::vs) H2 (s1.trans s2) ⟨r1.same s2,r2⟩
def Lm(X:Cx)(CL:ClA)(W:XW)(f:Al)(g:Ac D->R D):Prop:=∀ A,Gz X f (λxs H Q=>My H A/\∃ ds,Gy X.K CL H A xs ds/\AW (λH=>Z7 X.K CL H A) W H (g ds) Q)
theorem QV{id:CQ}{p:AF}{g:Ac D->R D}(hc:Lm X CL W (.builtin id) g)(hg:Gl X x)(hm:X.mg x=Af)(hv:Dg x=Aa (.builtin id))(ha:uk X CL W (e::es) fs)(hn:x≠"__name__")(zw:(x==("__debug__" : Ah))=Ae)(he:Aw (e::es) X.env=(Ae,eval e X.env)::Aw es X.env)(zv:∀ pos,(Bs pos (Aw es X.env)).any (·.1)=Ae):SE X CL W (.Call (.Name x p) (e::es) [] pos) (λU=>(fs U).bind g):=λA=>PE.weak (Kl (hc A) hg hm hv (ha A) hn zw he (zv _)) λY H Q ⟨hA,U,gd,q⟩=>⟨hA,U,gd,Iu.bind q λds vs H1 _ s1 r1 p1=>⟨hA.same s1,ds,r1,p1⟩⟩
theorem Vg{p:AF}{g:Ac D->R D}(hc:Lm X CL W (.type T) g)(hg:Gl X x)(hm:X.mg x=Af)(hv:Dg x=Aa (.type T))(ha:uk X CL W (e::es) fs)(hn:x≠"__name__")(zw:(x==("__debug__" : Ah))=Ae)(he:Aw (e::es) X.env=(Ae,eval e X.env)::Aw es X.env)(zv:∀ pos,(Bs pos (Aw es X.env)).any (·.1)=Ae):SE X CL W (.Call (.Name x p) (e::es) [] pos) (λU=>(fs U).bind g):=λA=>PE.weak (PL (hc A) hg hm hv (ha A) hn zw he (zv _)) λY H Q ⟨hA,U,gd,q⟩=>⟨hA,U,gd,Iu.bind q λds vs H1 _ s1 r1 p1=>⟨hA.same s1,ds,r1,p1⟩⟩
theorem rB:Lm X CL W (.builtin "len") (zY .len):=by
  intro A pI s Y H xs us Q I r ⟨hA,ds,rs,p⟩
  match ds,rs,p with
  |[.L es],rs,p=>
    obtain⟨v,rfl,rv⟩:=rs.one;obtain⟨q,ys,rfl,sq,ry⟩:=rv.lst_of;exact NO pI s Y H _ us Q I r ⟨q,ys,rfl,.inl sq,p _ H (Az.refl H) (by rw[ry.length];rfl)⟩
  |[.H es],rs,p=>
    obtain⟨v,rfl,rv⟩:=rs.one;obtain⟨q,ys,rfl,_,sq,ry⟩:=rv.tup_of;exact NO pI s Y H _ us Q I r ⟨q,ys,rfl,.inr sq,p _ H (Az.refl H) (by rw[ry.length];rfl)⟩
  |[.str x],rs,p=>
    obtain⟨v,rfl,rv⟩:=rs.one;have e:=rv.str_of;subst e;have p':AW (λH=>Z7 X.K CL H A) W H (if CY x.length=Ab then .ok (.int x.length) else .bad) Q:=p
    split at p'
    · rename_i h;exact aI pI s Y H _ us Q I r ⟨x,rfl,Lb h,p' _ H (Az.refl H) rfl⟩
    · exact p'.elim
  |[],_,p=>exact p.elim
  |[.O],_,p=>exact p.elim
  |[.bl _],_,p=>exact p.elim
  |[.int _],_,p=>exact p.elim
  |[.obj _ _],_,p=>exact p.elim
  |[.exc _ _],_,p=>exact p.elim
  |[.dic _],rs,p=>first|exact p.elim|(obtain⟨v,rfl,rv⟩:=rs.one;exact rv.plain.elim)
  |x::_::_,_,p=>cases x<;>exact p.elim
theorem S7:∀(is:Ac Ai)(i:Ai),IZ i is∈i::is/\∀ a∈i::is,IZ i is<=a
 |[],i=>⟨AY,λa h=>by rw[List.mem_singleton]at h;rw[h];exact XI _⟩
 |j::r,i=>by
  obtain⟨h1,h2⟩:=S7 r (if j<i then j else i)
  refine⟨?_,λa h=>?_⟩
  .show IZ (if j<i then j else i) r∈_
   rcases A6.mp h1 with e|e
   .rw[e];split
    .exact AE _ AY
    .exact AY
   .exact AE _ (AE _ e)
  .show IZ (if j<i then j else i) r<=a
   have h0:=h2 _ AY;rcases A6.mp h with e|e
   .subst e;refine XJ h0 ?_;split<;>omega
   .rcases A6.mp e with e|e
    .subst e;refine XJ h0 ?_;split<;>omega
    .exact h2 a (AE _ e)
theorem SY:∀{is:Ac Ai}{its:Ac Al},A1 (is.map V.int) its->∃ xs:Bl (Ai×Cf),its.toArray=ME xs/\xs.toList.map (·.1)=is
 |[],_,h=>by cases h;exact⟨#[],by simp[ME],rfl⟩
 |i::is,_,h=>by
  cases h with
  |cons h1 h2=>
   obtain⟨t,rfl⟩:=h1;obtain⟨xs,e1,e2⟩:=SY h2;refine⟨((i,t)::xs.toList).toArray,?_,?_⟩
   .apply Array.toList_inj.mp
    have e1':=congrArg J4 e1;simp[ME]at e1' ⊢;exact e1'
   .simp[e2]
theorem cN(hc:X.calm=Ab):Gz X (.builtin "min") (λxs H Q=>∃ a i is,xs=[.ref a]/\Id X.K H a ((i::is).map V.int)/\Q (.int (IZ i is)) H):=by
 intro pI s Y H xs us Q I r h;obtain⟨a,i,is,rfl,sq,q⟩:=h;obtain⟨u,rfl,ru⟩:=KP r;cases ru;obtain⟨its,rv,pl,hz⟩:=I.list sq;obtain⟨ys,e1,e2⟩:=SY rv;have hsz:0<ys.size:=by
  have:=congrArg X6 e2;simp at this;omega
 have hl:=pl.isList;rw[e1]at hl;refine min_intList (I.ok.hd hc) hl hsz λv h' tk hv hk=>?_
 obtain⟨t,rfl⟩:=intItems_at hv;obtain⟨h1,h2⟩:=argBest_lt (Ju ys) (ys.size-1);have nm:∀ j,j<ys.size->Ju ys j∈i::is:=λj hj=>by
  rw[<-e2];unfold Ju;rw[XC hj];simp only[Ys,Option.getD_some];exact List.mem_map.mpr ⟨ys[j],by simp,rfl⟩
 have nx:∀ x∈i::is,∃ j,j<ys.size/\Ju ys j=x:=λx hx=>by
  rw[<-e2]at hx;obtain⟨y,hy,rfl⟩:=Ih.mp hx;obtain⟨j,hj,ej⟩:=Array.mem_iff_getElem.mp (XD.mp hy);refine⟨j,hj,?_⟩;unfold Ju;rw[XC hj,ej];rfl
 obtain⟨m1,m2⟩:=S7 is i;have em:Ju ys (argBest (λi j=>decide (Ju ys i<Ju ys j)) (ys.size-1))=IZ i is:=by
  refine Int.le_antisymm ?_ (m2 _ (nm _ (by omega)))
  obtain⟨j,hj,ej⟩:=nx _ m1;rw[<-ej];exact h2 j (by omega)
 rw[em];exact⟨.int (IZ i is),H,I.kept hk,⟨_,rfl⟩,q⟩
theorem SZ{K:Fg}{CL:ClA}{H:Hp}{A:Ak->Prop}:∀{es:Ac D}{is:Ac Ai}{ys:Ac V},JE es=Aa is->Z9 K CL H A ys es->ys=is.map V.int
 |[],_,[],h,_=>by cases h;rfl
 |[],_,_::_,_,r=>r.elim
 |_::_,_,[],_,r=>r.elim
 |e::es,is,y::ys,h,r=>by
  cases e with
  |int i=>
   have h':(JE es).map (i :: ·)=Aa is:=h;cases e2:JE es with
   |none=>rw[e2]at h';cases h'
   |some js=>
    rw[e2]at h';cases h';have ih:=SZ e2 r.2;have e1:y=.int i:=r.1;rw[ih,e1];rfl
  |_=>cases h
theorem bN(ds:Ac D)(hl:∀ es,ds≠[.L es]):(∃ i j,ds=[.int i,.int j])\/zY .min ds=.bad:=by
 rcases ds with _|⟨x,_|⟨y,_|⟨z,r⟩⟩⟩
 .exact .inr rfl
 .cases x with
  |L es=>exact absurd rfl (hl es)
  |_=>exact .inr rfl
 .cases x with
  |int i=>
   cases y with
   |int j=>exact .inl ⟨i,j,rfl⟩
   |_=>exact .inr rfl
  |_=>exact .inr rfl
 .cases x with
  |int i=>cases y<;>exact .inr rfl
  |_=>exact .inr rfl
theorem rA(hc:X.calm=Ab):Lm X CL W (.builtin "min") (zY .min):=by
  intro A pI s Y H xs us Q I r ⟨hA,ds,rs,p⟩;by_cases hls:∃ es,ds=[.L es]
  · obtain⟨es,rfl⟩:=hls;obtain⟨v,rfl,rv⟩:=rs.one;obtain⟨a,ys,rfl,sq,ry⟩:=rv.lst_of;have p':AW (Z7 X.K CL · A) W H (match JE es with
      |some (i::is)=>R.ok (.int (IZ i is))
      | _=>.bad) Q:=p
    cases e1:JE es with
    |none=>rw[e1]at p';exact p'.elim
    |some is=>
      cases is with
      |nil=>rw[e1]at p';exact p'.elim
      |cons i is=>
        rw[e1]at p';have ey:=SZ e1 ry;subst ey;exact cN hc pI s Y H _ us Q I r ⟨a,i,is,rfl,sq,p' _ H (Az.refl H) rfl⟩
  rcases bN ds (λes z=>hls ⟨es,z⟩) with ⟨i,j,rfl⟩|e
  · obtain⟨v,w',rfl,rv,w6⟩:=rs.two;have e1:=rv.int_of;have e2:=w6.int_of
    subst e1 e2;exact cO hc pI s Y H _ us Q I r ⟨i,j,rfl,p _ H (Az.refl H) rfl⟩
  · rw[e]at p;exact p.elim
theorem fH:Lm X CL W (.type "tuple") (zY .tuple):=by
  intro A pI s Y H xs us Q I r ⟨hA,ds,rs,p⟩
  match ds,rs,p with
  |[.L es],rs,p=>
    obtain⟨v,rfl,rv⟩:=rs.one;obtain⟨q,ys,rfl,sq,ry⟩:=rv.lst_of;exact Sk pI s Y H _ us Q I r ⟨q,ys,rfl,.inl ⟨sq,λl hl=>p _ _ (EZ hl _) (N6 hA hl ry)⟩⟩
  |[.H es],rs,p=>
    obtain⟨v,rfl,rv⟩:=rs.one;obtain⟨q,ys,rfl,na,sq,ry⟩:=rv.tup_of;exact Sk pI s Y H _ us Q I r ⟨q,ys,rfl,.inr ⟨sq,p _ H (Az.refl H) ⟨q,ys,rfl,na,sq,ry⟩⟩⟩
  |[],_,p=>exact p.elim
  |[.O],_,p=>exact p.elim
  |[.bl _],_,p=>exact p.elim
  |[.int _],_,p=>exact p.elim
  |[.str _],_,p=>exact p.elim
  |[.obj _ _],_,p=>exact p.elim
  |[.exc _ _],_,p=>exact p.elim
  |[.dic _],rs,p=>first|exact p.elim|(obtain⟨v,rfl,rv⟩:=rs.one;exact rv.plain.elim)
  |x::_::_,_,p=>cases x<;>exact p.elim
end
section
variable{X:Cx}{CL:ClA}{W:XW}{a b c:Aq}{fa fb fc:Rho->R D}{pos:AF}
theorem SB.congr{f g:Rho->R An}(h:SB X CL W a f)(e:∀ U,g U=f U):SB X CL W a g:=λA=>PT.weak (h A) λY H Q ⟨hA,U,q,p⟩=>⟨hA,U,q,by rw[<-e];exact p⟩
theorem VH{f:Rho->R An}(ha:SB X CL W a f):SB X CL W (.UnaryOp .Not a pos) (λU=>(f U).bind λb=>.ok (!b)):=λA=>PT.weak (qG (ha A)) λY H Q ⟨hA,U,g,p⟩=>⟨hA,U,g,CS.bindB p λb H1 _ s1 p1=>p1 H1 (Az.refl H1)⟩
def SW(X:Cx)(CL:ClA)(W:XW)(e:Aq)(f:Rho->R An):Prop:=∀ A,PW X e (λY H Q=>My H A/\∃ U,Y9 X.K CL A U Y H/\CS W H (f U) Q)
theorem PW.weak{t t':TT}(h:PW X e t)(k:∀ Y H Q,t' Y H Q->t Y H Q):PW X e t':=λwh pI s Y H Q I q=>h wh pI s Y H Q I (k _ _ _ q)
theorem SW.sb{f:Rho->R An}(h:SW X CL W a f):SB X CL W a f:=λA=>PW.pt (h A)
theorem SW.congr{f g:Rho->R An}(h:SW X CL W a f)(e:∀ U,g U=f U):SW X CL W a g:=λA=>PW.weak (h A) λY H Q ⟨hA,U,q,p⟩=>⟨hA,U,q,by rw[<-e];exact p⟩
theorem Ue{f:Rho->R An}(ha:SB X CL W a f):SW X CL W (.BoolOp .And [a] pos) f:=λA=>UA (ha A)
theorem Vp{f:Rho->R An}(ha:SB X CL W a f):SW X CL W (.BoolOp .Or [a] pos) f:=λA=>VL (ha A)
theorem Vr{f g:Rho->R An}{rest:Ac Aq}(ha:SB X CL W a f)(hb:SW X CL W (.BoolOp .And (b::rest) pos) g):SW X CL W (.BoolOp .And (a::b::rest) pos) (λU=>(f U).bind λc=>if c=Ab then g U else .ok Ae):=
 λA=>PW.weak (QJ (ha A) (hb A)) λY H Q ⟨hA,U,gd,p⟩=>⟨hA,U,gd,CS.bindB p λc H1 _ s1 p1=>by
  cases c with
  |true=>exact⟨hA.same s1,U,gd.same s1,p1⟩
  | false=>exact p1 H1 (Az.refl H1)⟩
theorem Wc{f g:Rho->R An}{rest:Ac Aq}(ha:SB X CL W a f)(hb:SW X CL W (.BoolOp .Or (b::rest) pos) g):SW X CL W (.BoolOp .Or (a::b::rest) pos) (λU=>(f U).bind λc=>if c=Ab then .ok Ab else g U):=
 λA=>PW.weak (Ri (ha A) (hb A)) λY H Q ⟨hA,U,gd,p⟩=>⟨hA,U,gd,CS.bindB p λc H1 _ s1 p1=>by
  cases c with
  |false=>exact⟨hA.same s1,U,gd.same s1,p1⟩
  | true=>exact p1 H1 (Az.refl H1)⟩
theorem VI(ho:uj X CL W (CP op) g)(ha:ST X CL W a fa)(hb:ST X CL W b fb)(hm:HF op b=Ae):SB X CL W (.Compare a [op] [b] pos) (λU=>(fa U).bind λx=>(fb U).bind λy=>(g x y).bind Dj):=
 λA=>PT.weak (LY (ho A) (ha A) (hb A) hm) λY H Q ⟨hA,U,gd,p⟩=>⟨hA,U,gd,CS.bind p λdx x H1 _ s1 r1 p1=>⟨hA.same s1,U,gd.same s1,CS.bind p1 λdy y H2 _ s2 r2 p2=>
  ⟨(hA.same s1).same s2,dx,dy,r1.same s2,r2,CS.bind p2 λdz z H3 _ s3 r3 p3=>by
   cases dz with
   |bl k=>exact⟨k,r3,p3 H3 (Az.refl H3)⟩
   | _=>exact p3.elim⟩⟩⟩
theorem eS{op':DC}(hu:X.A.units+64<Bx)(ha:ST X CL W a fa)(hb:ST X CL W b fb)(hc:ST X CL W c fc)(hm:lastMarks [op,op'] [b,c]=Ae):SB X CL W (.Compare a [op,op'] [b,c] pos) (λU=>(fa U).bind λx=>(fb U).bind λy=>(BS op x y).bind λz=>(Dj z).bind λk=>if k=Ab then (fc U).bind λu=>(BS op' y u).bind Dj else .ok Ae):=
  λA=>PT.weak (eY (IM hu op A) (IM hu op' A) (ha A) (hb A) (hc A) hm) λY H Q ⟨hA,U,g,p⟩=>⟨hA,U,g,CS.bind p λdx x H1 _ s1 r1 p1=>⟨hA.same s1,U,g.same s1,CS.bind p1 λdy y H2 _ s2 r2 p2=>
    ⟨(hA.same s1).same s2,dx,dy,r1.same s2,r2,CS.bind p2 λdz z H3 _ s3 r3 p3=>by
      cases dz with
      |bl k=>
        refine⟨k,r3,?_⟩;cases k with
        |false=>exact⟨Ae,rfl,p3 H3 (Az.refl H3)⟩
        | true=>exact⟨((hA.same s1).same s2).same s3,U,((g.same s1).same s2).same s3,CS.bind p3 λdu u H4 _ s4 r4 p5=>⟨(((hA.same s1).same s2).same s3).same s4,dy,du,(r2.same s3).same s4,r4,CS.bind p5 λdv v H5 _ s5 r5 p6=>by
            cases dv with
            |bl k'=>exact⟨k',r5,p6 H5 (Az.refl H5)⟩
            | _=>exact p6.elim⟩⟩
      | _=>exact p3.elim⟩⟩⟩
theorem QW(ha:ST X CL W a fa)(he:∀ whole,Jk a X.env whole=(do let v <-whole;standAt a.pos;holding [v] (truthy v))):SB X CL W a (λU=>(fa U).bind Bq):=
 λA=>PT.weak (eX (ha A) he) λY H Q ⟨hA,U,g,p⟩=>⟨hA,U,g,CS.bind p λd v H1 _ s1 r1 p1=>by
  cases d with
  |O=>
   have e:=r1.non_of;subst e;exact⟨Ae,rfl,p1 H1 (Az.refl H1)⟩
  |bl b=>
   have e:=r1.bl_of;subst e;exact⟨b,rfl,p1 H1 (Az.refl H1)⟩
  |int i=>
   have e:=r1.int_of;subst e;exact⟨_,rfl,p1 H1 (Az.refl H1)⟩
  |str x=>
   have e:=r1.str_of;subst e;have p2:CS W H1 (if CY x.length=Ab then .ok (x.length != 0) else .bad) Q:=p1
   split at p2
   .rename_i h;refine⟨_,⟨Lb h,rfl⟩,?_⟩;have e:((x.length:Ai) != 0)=(x.length != 0):=by
     rw[DM];simp
    rw[e];exact p2 H1 (Az.refl H1)
   .exact p2.elim
  |H ds=>
   obtain⟨q,xs,rfl,_,sq,r⟩:=r1.tup_of;refine⟨_,.inr (.inl ⟨xs,sq,rfl⟩),?_⟩;have e:xs.isEmpty=ds.isEmpty:=by
    have:=r.length;cases xs<;>cases ds<;>first|rfl|cases this
   rw[e];exact p1 H1 (Az.refl H1)
  |L ds=>
   obtain⟨q,xs,rfl,sq,r⟩:=r1.lst_of;refine⟨_,.inl ⟨xs,sq,rfl⟩,?_⟩;have e:xs.isEmpty=ds.isEmpty:=by
    have:=r.length;cases xs<;>cases ds<;>first|rfl|cases this
   rw[e];exact p1 H1 (Az.refl H1)
  | _=>exact p1.elim⟩
noncomputable def yX(K:Fg)(CL:ClA)(H:Hp)(A:Ak->Prop)(cls:Al)(dx:Ao Ak)(x:Ex):Prop:=
 ∃ C,CL x.c=Aa C/\cls=.ref C/\(x.fs=[]\/∃ d vs,dx=Aa d/\¬ A d/\H d=Aa (.xd vs)/\z9 K CL H A vs x.fs)
def Dz(K:Fg)(CL:ClA)(H:Hp)(cls:Al)(dx:Ao Ak)(x:Ex):Prop:=∀ A,My H A->yX K CL H A cls dx x
end
structure Fr where
 f:Ak->HO->Prop
 pin:Ag->Ak->HO->Prop
variable{Fz:Fr}
instance:CoeFun Fr λ_=>Ak->HO->Prop:=⟨Fr.f⟩
def BN(B:Ak->Prop)(U:Rho)(Y:L2.St):Ak->Prop:=λa=>B a\/∃(j:Ag)(d:D),U[j]?=Aa (Aa (d,Ab))/\Y[j]?=Aa (Aa (.ref a))
structure Sx (K:Fg) (CL:ClA) (Fz:Fr) (B:Ak->Prop) (U:Rho) (Y:L2.St) (H:Hp):Prop where
 good:Y9 K CL (BN B U Y) U Y H
 aok:My H (BN B U Y)
 new:∀(j:Ag)(d:D)(a:Ak),U[j]?=Aa (Aa (d,Ab))->Y[j]?=Aa (Aa (.ref a))->(∀ o,¬ Fz a o)/\¬ B a
 dis:∀(i j:Ag)(d e:D)(a:Ak),U[i]?=Aa (Aa (d,Ab))->U[j]?=Aa (Aa (e,Ab))->Y[i]?=Aa (Aa (.ref a))->Y[j]?=Aa (Aa (.ref a))->i=j
 same:∀ b o,Fz b o->H b=Aa o
 len:U.length=Y.length
 pin:∀ j:Ag,U[j]?=Aa (Aa (.O,Ab))->∃ a o,Fz.pin j a o/\Y[j]?=Aa (Aa (.ref a))/\H a=Aa o
def B5(K:Fg)(CL:ClA)(Fz:Fr)(B:Ak->Prop)(W:XW)(o:O)(D:xm):Prop:=match o with
  |.next U=>∀ Y H,Sx K CL Fz B U Y H->D.nx Y H
  |.brk U=>∀ Y H,Sx K CL Fz B U Y H->D.bk Y H
  |.cont U=>∀ Y H,Sx K CL Fz B U Y H->D.ct Y H
  |.ret d fr=>∀ v H,(∀ b o,Fz b o->H b=Aa o)->Z7 K CL H B v d->(fr=Ab->∀ ds,d=.L ds->∃ a xs,v=.ref a/\(∀ o,¬ Fz a o)/\H a=Aa (.L xs)/\Z9 K CL H (λb=>B b\/b=a) xs ds)->D.rt v H
  |.exn x _=>∀ H,(∀ b o,Fz b o->H b=Aa o)->W x H
  |.bad=>AM
section
variable{K:Fg}{CL:ClA}{Fz Fy:Fr}{B:Ak->Prop}{U:Rho}{Y:L2.St}{H H':Hp}
theorem Sx.mono(k:∀ b o,Fz b o->Fy b o)(kp:∀ j a xs,Fy.pin j a xs->Fz.pin j a xs)(x:Sx K CL Fy B U Y H):Sx K CL Fz B U Y H:=⟨x.good,x.aok,λj d a h1 h2=>⟨λo z=>(x.new j d a h1 h2).1 o (k _ _ z),(x.new j d a h1 h2).2⟩,x.dis,λb o z=>x.same b o (k _ _ z),x.len,λj h=>let ⟨a,xs,h1,h2⟩:=x.pin j h;⟨a,xs,kp _ _ _ h1,h2⟩⟩
theorem Sx.grow(x:Sx K CL Fz B U Y H)(s:Az H H'):Sx K CL Fz B U Y H':=⟨x.good.same s,x.aok.same s,x.new,x.dis,λb o z=>s _ _ (x.same b o z),x.len,λj h=>let ⟨a,xs,h1,h2,h3⟩:=x.pin j h;⟨a,xs,h1,h2,s _ _ h3⟩⟩
theorem Bu{l:Ac α}{v:α}(h:i≠j):(l.set i v)[j]?=l[j]?:=by rw[GM h]
theorem Ee{l:Ac α}{v w':α}(h:(l.set i v)[i]?=Aa w'):w'=v:=by
 rw[F3]at h;cases e:l[i]? with
 |none=>rw[e]at h;cases h
 |some x=>rw[e]at h;cases h;rfl
theorem Sx.set(x:Sx K CL Fz B U Y H){v:V}{d:D}(i:Ag)(r:Z7 K CL H (BN B U Y) v d):Sx K CL Fz B (U.set i (Aa (d,Ae))) (Y.set i (Aa v)) H:=by
 have own:∀(j:Ag)(e:D),(U.set i (Aa (d,Ae)))[j]?=Aa (Aa (e,Ab))->i≠j/\U[j]?=Aa (Aa (e,Ab)):=λj e h=>by
  by_cases hj:i=j
  .subst hj;have:=Ee h;cases this
  .exact⟨hj,by rw[Bu hj]at h;exact h⟩
 have sub:∀ a,BN B (U.set i (Aa (d,Ae))) (Y.set i (Aa v)) a->BN B U Y a:=λa h=>by
  rcases h with h|⟨j,e,h1,h2⟩
  .exact .inl h
  .obtain⟨hj,h1⟩:=own j e h1;rw[Bu hj]at h2;exact .inr ⟨j,e,h1,h2⟩
 refine⟨⟨λj e h=>?_,λj e h hn=>?_,by rw[AT,AT];exact x.len⟩,λa h=>x.aok a (sub a h),λj e a h1 h2=>?_,λj k e f a h1 h2 h3 h4=>?_,x.same,by rw[AT,AT];exact x.len,λj h=>?_⟩
 .by_cases hj:i=j
  .subst hj;have e1:=Ee h;cases e1;refine⟨v,?_,Z7.sub sub _ r⟩;have hl:i<Y.length:=by
    rw[<-x.len];have:=(A5.mp h).1;simpa using this
   rw[By hl]
  .rw[Bu hj]at h;obtain⟨w',q,w6⟩:=x.good.sh j e h;exact⟨w',by rw[Bu hj];exact q,Z7.sub sub _ w6⟩
 .obtain⟨hj,h1⟩:=own j e h;obtain⟨a,xs,ds,q,z,ha,hh,rr⟩:=x.good.ow j e h1 hn;exact⟨a,xs,ds,by rw[Bu hj];exact q,z,.inr ⟨j,e,h,by rw[Bu hj];exact q⟩,hh,Z9.sub sub _ rr⟩
 .obtain⟨hj,h1⟩:=own j e h1;rw[Bu hj]at h2;exact x.new j e a h1 h2
 .obtain⟨hj,h1⟩:=own j e h1;obtain⟨hk,h2⟩:=own k f h2;rw[Bu hj]at h3;rw[Bu hk]at h4;exact x.dis j k e f a h1 h2 h3 h4
 .obtain⟨hj,h1⟩:=own j _ h;obtain⟨a,xs,p1,p2,p3⟩:=x.pin j h1;exact⟨a,xs,p1,by rw[Bu hj];exact p2,p3⟩
end
section
variable{X:Cx}{CL:ClA}{W:XW}{pos:AF}{e:Aq}{fe:Rho->R D}
def SS(X:Cx)(CL:ClA)(W:XW)(st:AL)(f:Rho->O):Prop:=∀ Fz B,PS X st (λD Y H=>∃ U,Sx X.K CL Fz B U Y H/\B5 X.K CL Fz B W (f U) D)
def vx(X:Cx)(CL:ClA)(W:XW)(st:Ac AL)(f:Rho->O):Prop:=∀ Fz B,yj X st (λD Y H=>∃ U,Sx X.K CL Fz B U Y H/\B5 X.K CL Fz B W (f U) D)
theorem PS.weak{e:AL}{t t':TS}(h:PS X e t)(k:∀ D Y H,t' D Y H->t D Y H):PS X e t':=λpI s Y H D I q=>h pI s Y H D I (k _ _ _ q)
theorem yj.weak{e:Ac AL}{t t':TS}(h:yj X e t)(k:∀ D Y H,t' D Y H->t D Y H):yj X e t':=λpI s Y H D I q=>h pI s Y H D I (k _ _ _ q)
theorem B5.ex{f:D->O}(x:Sx X.K CL Fz B U Y H)(h:B5 X.K CL Fz B W (O.of U r f) D')(k:∀ d v H',r=.ok d->Az H H'->Rp H' v d->Sx X.K CL Fz B U Y H'->B5 X.K CL Fz B W (f d) D'->Q v H'):AW Rp W H r Q:=by
 cases r with
 |ok d=>exact λv H' s r=>k d v H' rfl s r (x.grow s) h
 |exn y=>exact λH' s=>h H' λb o z=>s _ _ (x.same b o z)
 |bad=>exact h
theorem B5.exB{r:R An}{f:An->O}{Q:An->Hp->Prop}(x:Sx X.K CL Fz B U Y H)(h:B5 X.K CL Fz B W (O.of U r f) D')(k:∀ b H',r=.ok b->Az H H'->Sx X.K CL Fz B U Y H'->B5 X.K CL Fz B W (f b) D'->Q b H'):CS W H r Q:=by
 cases r with
 |ok d=>exact λH' s=>k d H' rfl s (x.grow s) h
 |exn y=>exact λH' s=>h H' λb o z=>s _ _ (x.same b o z)
 |bad=>exact h
theorem jC(he:SE X CL W e fe)(hs:Dr e Af pos.line X.env=pure Ae):SS X CL W (.Expr e pos) (λU=>O.of U (fe U) λ_=>.next U):=λFz B pI s Y H D I ⟨U,x,p⟩=>
 Kg (he (BN B U Y)) hs pI s Y H D I ⟨x.aok,U,x.good,B5.ex x p λd v H' _ s r x' q=>q Y H' x'⟩
theorem nO{n:Ah}(hN:X.N.Nodup)(hi:X.N[i]?=Aa n)(hx:pi X.env.scope n)(he:SE X CL W e fe)(hs:Dr e (Aa (.Name n pos')) pos.line X.env=pure Ae)(hf:X.fn n=Ab\/X.env.scope.names.lookup n=Aa .local):SS X CL W (.Assign [.Name n pos'] e pos) (λU=>O.of U (fe U) λd=>.next (U.set i (Aa (d,Ae)))):=λFz B pI s Y H D I ⟨U,x,p⟩=>
 EH hN hi hx (he (BN B U Y)) hs hf pI s Y H D I ⟨x.aok,U,x.good,B5.ex x p λd v H' _ s r x' q=>q _ H' (x'.set i r)⟩
theorem UK(he:SE X CL W e fe):SS X CL W (.Return (Aa e) pos) (λU=>O.of U (fe U) λd=>.ret d Ae):=λFz B pI s Y H D I ⟨U,x,p⟩=>
 Hm (he (BN B U Y)) pI s Y H D I ⟨x.aok,U,x.good,B5.ex x p λd v H' _ s r x' q=>q v H' x'.same (Z7.sub (λa h=>.inl h) _ r) λz=>nomatch z⟩
theorem V5{a b:Ac AL}{fa fb:Rho->O}(hc:SB X CL W c fc)(ha:vx X CL W a fa)(hb:vx X CL W b fb):SS X CL W (.If c a b pos) (λU=>O.of U (fc U) λk=>if k=Ab then fa U else fb U):=λFz B pI s Y H D I ⟨U,x,p⟩=>
 FO (hc (BN B U Y)) (ha Fz B) (hb Fz B) pI s Y H D I ⟨x.aok,U,x.good,B5.exB x p λk H' _ s x' q=>by
  cases k with
  |true=>exact⟨U,x',q⟩
  | false=>exact⟨U,x',q⟩⟩
theorem Qj:vx X CL W [] (λU=>.next U):=λFz B=>yj.weak G1 λD Y H ⟨U,x,p⟩=>p Y H x
theorem LZ{st:AL}{rest:Ac AL}{f g:Rho->O}(h1:SS X CL W st f)(h2:vx X CL W rest g):vx X CL W (st::rest) (λU=>(f U).seq g):=λFz B=>yj.weak (Ca (h1 Fz B) (h2 Fz B)) λD Y H ⟨U,x,p⟩=>⟨U,x,by
 dsimp only at p;cases e:f U with
 |next U'=>rw[e]at p;exact λY' H' x'=>⟨U',x',p⟩
 |ret d b=>rw[e]at p;exact p
 |brk U'=>rw[e]at p;exact p
 |cont U'=>rw[e]at p;exact p
 |exn y U'=>rw[e]at p;exact p
 | bad=>rw[e]at p;exact p⟩
end
def LD(K:Fg)(CL:ClA)(A:Ak->Prop)(ds:Ac D)(J:It)(H1:Hp):Prop:=∀ H,Kp A H1 H->∀ i:Ag,(ds.length<=i->J.stop i H)/\∀ d,ds[i]?=Aa d->J.go i H/\∀ x H',J.yld i H x H'->Az H H'/\∀ B,(∀ a,B a->A a\/H1 a=Af)->My H B->Z7 K CL H' B x d
def Gb(K:Fg)(CL:ClA)(A:Ak->Prop)(W:XW)(H:Hp)(r:R (Ac D))(Q:It->Hp->Prop):Prop:=match r with
  |.ok ds=>∀ J H',Az H H'->LD K CL A ds J H'->ds.length<=sizeLine->Q J H'
  |.exn x=>∀ H',Az H H'->W x H'
  |.bad=>AM
def SI(X:Cx)(CL:ClA)(W:XW)(tg iter:Aq)(f:Rho->R (Ac D)):Prop:=∀ A,PI X tg iter (λY H R=>My H A/\∃ U,Y9 X.K CL A U Y H/\Gb X.K CL A W H (f U) R)
theorem PI.weak{t t':TI}(h:PI X tg e t)(k:∀ Y H Q,t' Y H Q->t Y H Q):PI X tg e t':=λpI s Y H Q I q=>h pI s Y H Q I (k _ _ _ q)
section
variable{X:Cx}{CL:ClA}{W:XW}{pos p:AF}{tg e a b:Aq}{fe fa fb:Rho->R D}
theorem Gb.ex{f:D->R (Ac D)}{Q:It->Hp->Prop}{Q':VK}(h:Gb X.K CL A W H (r.bind f) Q)(k:∀ d v H',r=.ok d->Az H H'->Rp H' v d->Gb X.K CL A W H' (f d) Q->Q' v H'):AW Rp W H r Q':=by
  cases r with
  | ok d=>exact λv H' s q=>k d v H' rfl s q (by
      have h':Gb X.K CL A W H (f d) Q:=h;cases e:f d with
      |ok ds=>rw[e]at h';exact λJ H2 s2 y z=>h' J H2 (s.trans s2) y z
      |exn y=>rw[e]at h';exact λH2 s2=>h' H2 (s.trans s2)
      | bad=>rw[e]at h';exact h')
  |exn y=>exact h
  |bad=>exact h
theorem Tw{x:V}(r:Z7 K CL H1 A x d)(k:Kp A H1 H)(hB:∀ a,B a->A a\/H1 a=Af):Z7 K CL H B x d:=by
 have r1:Z7 K CL H1 (λa=>A a\/B a) x d:=Z7.wide (λa ha=>ha.elim .inl (hB a)) _ r
 have r2:Z7 K CL H (λa=>A a\/B a) x d:=Z7.kp (λb o e na=>k b o e λz=>na (.inl z)) _ r1
 exact Z7.sub (λa ha=>.inr ha) _ r2
theorem bD{ds:Ac D}(na:¬ A q\/KL K q xs)(s:Id K H q xs)(r:Z9 K CL H A xs ds):LD K CL A ds (Itl K q) H:=λH' k i=>by
 have s':=QN k na s;refine⟨λh=>⟨xs,s',by rw[r.length];exact h⟩,λd hd=>?_⟩
 obtain⟨v,hv,rv⟩:=r.get hd;exact⟨⟨xs,v,s',hv⟩,λx H2 ⟨e,y⟩=>by
  subst e;have:=y xs s';rw[hv]at this;cases this;exact⟨Az.refl _,λB hB _=>Tw rv k hB⟩⟩
theorem cE{ds:Ac D}(na:¬ A q\/KT K q xs)(s:yt K H q xs)(r:Z9 K CL H A xs ds):LD K CL A ds (Itt K q) H:=λH' k i=>by
 have s':=QM k na s;refine⟨λh=>⟨xs,s',by rw[r.length];exact h⟩,λd hd=>?_⟩
 obtain⟨v,hv,rv⟩:=r.get hd;exact⟨⟨xs,v,s',hv⟩,λx H2 ⟨e,y⟩=>by
  subst e;have:=y xs s';rw[hv]at this;cases this;exact⟨Az.refl _,λB hB _=>Tw rv k hB⟩⟩
theorem TR(lo:Ai)(n:Ag):LD K CL A (Iz lo n) (ë lo n) H:=λH' k i=>by
 refine⟨λh=>by rw[Py]at h;exact h,λd hd=>?_⟩
 obtain⟨h1,rfl⟩:=fN hd;exact⟨h1,λx H2 ⟨e,y⟩=>by
  subst e y;exact⟨Az.refl _,λ_ _ _=>rfl⟩⟩
theorem qM{l:Aq}{tl:TE}(hl:PE X l tl):PI X tg l (λY H R=>tl Y H λx H1=>(∃ a,x=.ref a/\(∃ xs,Id X.K H1 a xs/\(xs.length<=sizeLine->R (Itl X.K a) H1)))\/∃ a,x=.ref a/\(∃ xs,yt X.K H1 a xs/\(xs.length<=sizeLine->R (Itt X.K a) H1))):=by
 intro pI s Y H R I h;refine U0 (hl pI s Y H _ I h) λv s1 ⟨x,H1,I1,r1,q1⟩=>?_
 rcases q1 with ⟨a,e,xs,hq,q⟩|⟨a,e,xs,hq,q⟩
 .subst e;cases r1;obtain⟨its,rv,p,hz⟩:=I1.list hq;refine HX p.isList ?_;refine⟨s1.heap.objs.size,[s1.heap.objs.size],_,_,H1,rfl,I1.kept (t':=s1.toks) λb o e=>AB _ e,aP a _,⟨_,Bp _ rfl,rfl,rfl⟩,λb hb=>?_,q hz⟩
  have e:b=s1.heap.objs.size:=by simpa using hb
  subst e;exact I1.fpOk (AU _) (I1.hok.fresh (AU _))
 .subst e;cases r1;obtain⟨its,rv,p,hz⟩:=I1.tuple hq;refine wpAny_pyIter_tuple (show s1.heap.IsTuple a its.toArray from p) ?_
  refine⟨s1.heap.objs.size,[s1.heap.objs.size],_,_,H1,rfl,I1.kept (t':=s1.toks) λb o e=>AB _ e,bG a _,⟨_,Bp _ rfl,rfl,rfl⟩,λb hb=>?_,q hz⟩
  have e:b=s1.heap.objs.size:=by simpa using hb
  subst e;exact I1.fpOk (AU _) (I1.hok.fresh (AU _))
theorem zN(he:SE X CL W e fe):SI X CL W tg e (λU=>(fe U).bind Eu):=λA=>PI.weak (qM (he A)) λY H R ⟨hA,U,g,p⟩=>⟨hA,U,g,Gb.ex p λd v H1 _ s1 r1 p1=>by
 cases d with
 |L ds=>
  obtain⟨q,xs,rfl,na,sq,r⟩:=r1;exact .inl ⟨q,rfl,xs,sq,λhz=>p1 _ H1 (Az.refl H1) (bD na sq r) (by rw[<-r.length];exact hz)⟩
 |H ds=>
  obtain⟨q,xs,rfl,na,sq,r⟩:=r1;exact .inr ⟨q,rfl,xs,sq,λhz=>p1 _ H1 (Az.refl H1) (cE na sq r) (by rw[<-r.length];exact hz)⟩
 | _=>exact p1.elim⟩
theorem Tx{lo hi:Ai}{ds:Ac D}(h:EX lo hi=.ok ds):(-(2 ^ 62)<=lo/\lo<2 ^ 62)/\(-(2 ^ 62)<=hi/\hi<2 ^ 62)/\ds=Iz lo (hi-lo).toNat/\(Iz lo (hi-lo).toNat).length<=sizeLine:=by
 unfold EX at h;split at h
 .rename_i q;cases h;exact⟨by omega,by omega,rfl,by rw[Py,Bz];omega⟩
 .cases h
theorem SQ{lo hi:Ai}{x:Ex}(h:EX lo hi=.exn x):AM:=by
 unfold EX at h;split at h<;>cases h
theorem nW(ha:ST X CL W a fa)(hg:Gl X "range")(hm:X.mg "range" = Af)(hs:Aw [a] X.env=[(Ae,eval a X.env)]):SI X CL W tg (.Call (.Name "range" p) [a] [] pos) (λU=>(fa U).bind λx=>(FQ x).bind λj=>EX 0 j):=
 λA=>PI.weak (bU hg hm (Bv (ha A) Cb hs) hs) λY H R ⟨hA,U,g,q⟩=>⟨hA,U,g,Gb.ex q λd v H1 _ s1 r1 p1=>by
  cases d with
  |int j=>
   have e:=r1.int_of;subst e;have p2:Gb X.K CL A W H1 (EX 0 j) R:=p1;cases e2:EX 0 j with
   |ok ds=>
    rw[e2]at p2;obtain⟨_,h2,rfl,hz⟩:=Tx e2;exact⟨j,rfl,h2.1,h2.2,p2 _ H1 (Az.refl H1) (by rw[XU];exact TR 0 j.toNat) hz⟩
   |exn y=>exact(SQ e2).elim
   |bad=>rw[e2]at p2;exact p2.elim
  | _=>exact p1.elim⟩
theorem jK(ha:ST X CL W a fa)(hb:ST X CL W b fb)(hg:Gl X "range")(hm:X.mg "range" = Af)(hs:Aw [a,b] X.env=[(Ae,eval a X.env),(Ae,eval b X.env)])(ou:Aw [b] X.env=[(Ae,eval b X.env)]):
  SI X CL W tg (.Call (.Name "range" p) [a,b] [] pos) (λU=>(fa U).bind λx=>(fb U).bind λy=>(FQ x).bind λi=>(FQ y).bind λj=>EX i j):=
 λA=>PI.weak (TB hg hm (Bv (ha A) (Bv (hb A) Cb ou) (by rw[hs,ou])) hs ou) λY H R ⟨hA,U,g,q⟩=>⟨hA,U,g,Gb.ex q λd v H1 _ s1 r1 p1=>⟨hA.same s1,U,g.same s1,Gb.ex p1 λd2 v2 H2 _ s2 r2 p2=>by
  cases d with
  |int i=>
   cases d2 with
   |int j=>
    have e:=r1.int_of;have e':=r2.int_of
    subst e e';have p3:Gb X.K CL A W H2 (EX i j) R:=p2;cases e2:EX i j with
    |ok ds=>
     rw[e2]at p3;obtain⟨h1,h2,rfl,hz⟩:=Tx e2;exact⟨i,j,rfl,⟨h1.1,h1.2,h2.1,h2.2⟩,p3 _ H2 (Az.refl H2) (TR _ _) hz⟩
    |exn y=>exact(SQ e2).elim
    |bad=>rw[e2]at p3;exact p3.elim
   |_=>exact p2.elim
  | _=>exact p2.elim⟩⟩
theorem B5.exI{r:R (Ac D)}{f:Ac D->O}{Q:It->Hp->Prop}(x:Sx X.K CL Fz B U Y H)(h:B5 X.K CL Fz B W (O.of U r f) D')(k:∀ ds J H',r=.ok ds->Az H H'->LD X.K CL A ds J H'->ds.length<=sizeLine->Sx X.K CL Fz B U Y H'->B5 X.K CL Fz B W (f ds) D'->Q J H'):Gb X.K CL A W H r Q:=by
 cases r with
 |ok d=>exact λJ H' s y z=>k d J H' rfl s y z (x.grow s) h
 |exn y=>exact λH' s=>h H' λb o z=>s _ _ (x.same b o z)
 |bad=>exact h
theorem B5.turn{Fy:Fr}{o:O}{g:Rho->O}{N:L2.St->Hp->Prop}(hf:∀ b q,Fz b q->Fy b q)(hp:∀ j a xs,Fy.pin j a xs->Fz.pin j a xs)(h:B5 K CL Fz B W (o.turn g) D')(k:∀ U' Y' H',Sx K CL Fy B U' Y' H'->B5 K CL Fz B W (g U') D'->N Y' H'):B5 K CL Fy B W o {D' with nx:=N,ct:=N,bk:=D'.nx}:=by
 cases o with
 |next U'=>exact λY' H' x=>k U' Y' H' x h
 |cont U'=>exact λY' H' x=>k U' Y' H' x h
 |brk U'=>exact λY' H' x=>h Y' H' (x.mono hf hp)
 |ret d b=>exact λv H' s r n=>h v H' (λb o z=>s b o (hf b o z)) r λz ds e=>let ⟨a,xs,h1,h2,h3⟩:=n z ds e;⟨a,xs,h1,λo q=>h2 o (hf a o q),h3⟩
 |exn y U'=>exact λH' s=>h H' (λb o z=>s b o (hf b o z))
 |bad=>exact h
noncomputable def G5(ts:Ac Ag)(U:Rho):Rho:=ts.foldl (λU t=>U.set t Af) U
def GT(K:Fg)(CL:ClA)(as:D->Rho->R Rho)(g:TG):Prop:=∀ Fz B U Y H v d U' Q,Sx K CL Fz B U Y H->Z7 K CL H (BN B U Y) v d->as d U=.ok U'->(∀ Y',Sx K CL Fz B U' Y' H->Q Y' H)->g v Y H Q
theorem kT(i:Ag):GT K CL (λd U=>.ok (U.set i (Aa (d,Ae)))) (G6 i):=λFz B U Y H v d U' Q x r e k=>by
 cases e;exact k _ (x.set i r)
theorem Q5{K:Fg}{Fz:Fr}{B:Ak->Prop}{H:Hp}:∀(ts:Ac Ag)(ds:Ac D)(vs:Ac V)(U U':Rho)(Y:L2.St)(Q:L2.St->Hp->Prop),Sx K CL Fz B U Y H->Z9 K CL H (BN B U Y) vs ds->Hk ts ds U=Aa U'->(∀ Y',Sx K CL Fz B U' Y' H->Q Y' H)->(ts.foldr (λt u=>Lr (G6 t) u) Ly) vs Y H Q
 |[],[],[],U,U',Y,Q,x,_,e,k=>by
  cases e;exact⟨rfl,k Y x⟩
 |t::ts,d::ds,v::vs,U,U',Y,Q,x,r,e,k=>by
  refine⟨v,vs,rfl,Q5 ts ds vs _ U' _ Q (x.set t r.1) (Z9.sub (λa ha=>?_) ds r.2) e k⟩
  rcases ha with ha|⟨j,c,h1,h2⟩
  .exact .inl ha
  .by_cases hj:t=j
   .subst hj;have:=Ee h1;cases this
   .rw[Bu hj]at h1 h2;exact .inr ⟨j,c,h1,h2⟩
 |[],_::_,_,_,_,_,_,_,_,e,_=>by cases e
 |_::_,[],_,_,_,_,_,_,_,e,_=>by cases e
 |[],[],_::_,_,_,_,_,_,r,_,_=>r.elim
 |_::_,_::_,[],_,_,_,_,_,r,_,_=>r.elim
theorem Px:∀(ts:Ac Ag)(ds:Ac D)(U U':Rho),Hk ts ds U=Aa U'->ds.length=ts.length
 |[],[],_,_,_=>rfl
 |_::ts,_::ds,_,_,e=>congrArg (· + 1) (Px ts ds _ _ e)
 |[],_::_,_,_,e=>by cases e
 |_::_,[],_,_,e=>by cases e
theorem VW(ts:Ac Ag):GT K CL (HK ts) (O7 K ts.length (ts.foldr (λt u=>Lr (G6 t) u) Ly)):=λFz B U Y H v d U' Q x r e k=>by
 cases d with
 |H ds=>
  obtain⟨a,xs,rfl,na,sq,rs⟩:=r;rw[aW]at e;cases e2:Hk ts ds U with
  |none=>rw[e2]at e;cases e
  |some U2=>
   rw[e2]at e;cases e;exact⟨a,xs,rfl,sq,by rw[rs.length];exact Px _ _ _ _ e2,Q5 ts ds xs U _ Y Q x rs e2 k⟩
 |_=>cases e
theorem U_8{body:Ac AL}{jt:Rho->O}{g:TG}(hp:FM (model X.prog X.w) X.A X.env X.xe)(hc:X.calm=Ab)(hGT:GT X.K CL as g)(hg:PG X tg g)(hit:SI X CL W tg iter fi)(hb:vx X CL W body jt)(hs:∀ x,Da iter X.env x=pure x)(hax:∀ d U x,as d U≠.exn x):SS X CL W (.For tg iter body [] pos) (λU=>O.of U (fi U) λxs=>Ev (λx U'=>O.of U' (as x U') jt) xs U):=λFz B pI s Y H D I ⟨U,x,p⟩=>by
 refine VM hp hc (hit (BN B U Y)) hg (tb:=λD Y H=>∃ Fy,(λD Y H=>∃ U,Sx X.K CL Fy B U Y H/\B5 X.K CL Fy B W (jt U) D) D Y H) (λpI s Y H D I ⟨Fy,q⟩=>hb Fy B pI s Y H D I q) hs pI s Y H D I ⟨x.aok,U,x.good,B5.exI x p λds J H1 _ s1 y _ x1 q=>?_⟩
 let Fy:Fr:=⟨λb o=>H1 b=Aa o/\¬ ∃(j:Ag)(d:Ov.D),U[j]?=Aa (Aa (d,Ab))/\Y[j]?=Aa (Aa (.ref b)),Fz.pin⟩
 have hfy:∀ b o,Fz b o->Fy b o:=λb o z=>⟨x1.same b o z,λ⟨j,d,h1,h2⟩=>(x1.new j d b h1 h2).1 o z⟩
 have xy:Sx X.K CL Fy B U Y H1:=⟨x1.good,x1.aok,λj d a h1 h2=>⟨λo z=>z.2 ⟨j,d,h1,h2⟩,(x1.new j d a h1 h2).2⟩,x1.dis,λb o z=>z.1,x1.len,x1.pin⟩
 refine⟨λk m Y' H'=>m=ds.length-k/\k<=ds.length/\∃ U',Sx X.K CL Fy B U' Y' H'/\B5 X.K CL Fz B W (Ev (λx U'=>O.of U' (as x U') jt) (ds.drop k) U') D,⟨ds.length,by simp,Dt _,U,xy,q⟩,?_⟩
 rintro k m Y' H' ⟨rfl,hk,U',x',q'⟩;have kp:Kp (BN B U Y) H1 H':=λb o e na=>x'.same b o ⟨e,λz=>na (.inr z)⟩
 obtain⟨yst,ygo⟩:=y H' kp k;by_cases yh:k<ds.length
 .have hd:ds[k]?=Aa ds[k]:=Cz yh;obtain⟨hgo,hyl⟩:=ygo _ hd;refine .inr ⟨hgo,λY'' H''=>∃ vi,Sx X.K CL Fy B vi Y'' H''/\B5 X.K CL Fz B W (Ev (λx U'=>O.of U' (as x U') jt) (ds.drop (k+1)) vi) D,λY'' H'' z=>⟨ds.length-(k+1),by omega,rfl,yh,z⟩,λv H2 hv=>?_⟩
  obtain⟨e2,rv⟩:=hyl v H2 hv;rw[DW yh]at q';have q2:B5 X.K CL Fz B W ((O.of U' (as ds[k] U') jt).turn (Ev (λx U'=>O.of U' (as x U') jt) (ds.drop (k+1)))) D:=q'
  have rv':Z7 X.K CL H2 (BN B U' Y') v ds[k]:=rv _ (λa ha=>by
    rcases ha with ha|⟨j,d,h1,h2⟩
    .exact .inl (.inl ha)
    .cases e:H1 a with
     |none=>exact .inr rfl
     |some o=>
      by_cases ho:∃(j:Ag)(d:Ov.D),U[j]?=Aa (Aa (d,Ab))/\Y[j]?=Aa (Aa (.ref a))
      .exact .inl (.inr ho)
      .exact absurd ⟨e,ho⟩ ((x'.new j d a h1 h2).1 o)) x'.aok
  cases ea:as ds[k] U' with
  |bad=>rw[ea]at q2;exact q2.elim
  |exn z=>exact absurd ea (hax _ _ z)
  |ok U2=>
   rw[ea,O.of_ok]at q2;exact hGT Fy B U' Y' H2 v ds[k] U2 _ (x'.grow e2) rv' ea λY3 x3=>⟨Fy,U2,x3,B5.turn hfy (λ_ _ _ z=>z) q2 λU3 Y3 H3 x3 q3=>⟨U3,x3,q3⟩⟩
 .have vy:ds.length<=k:=by omega
  rw[Ge vy]at q';exact .inl ⟨yst vy,q' Y' H' (x'.mono hfy λ_ _ _ z=>z)⟩
end
section
variable{X:Cx}{CL:ClA}{W:XW}{a b c:Aq}{fa fb fc:Rho->R D}{pos:AF}
noncomputable def sy:Ki->Ao CQ
 |.int=>Aa "int"
 |.bool=>Aa "bool"
 |.str=>Aa "str"
 |.list=>Aa "list"
 |.tuple=>Aa "tuple"
 |_=>Af
noncomputable def QK:D->An
 |.obj _ _=>Ae
 |.exc _ _=>Ae
 |.dic _=>Ae
 |_=>Ab
theorem pE{Q:Vq}{E:Vq}(I:Z8 X pI Y H s)(r:Cv X.K CL H A v d)(q:Bt v u)(hT:sy k=Aa T)(hd:QK d=Ab)(h:∀ s',Z8 X pI Y H s'->Q (.bool (yc up k d)) s'):
  AA (model X.prog X.w) X.A (call (.builtin "isinstance") [u,.type T]) Q E s:=by
 have r':=r.plain;have it:=λt=>h _ (I.tok t)
 cases d with
 |obj=>cases hd
 |exc=>cases hd
 |dic=>cases hd
 |O=>
  cases r';cases q;cases k<;>simp only[sy]at hT<;>cases hT
  .exact IsiPair.NoneType_int (it _)
  .exact IsiPair.NoneType_bool (it _)
  .exact IsiPair.NoneType_str (it _)
  .exact IsiPair.NoneType_list (it _)
  .exact IsiPair.NoneType_tuple (it _)
 |bl b=>
  cases r';cases q;cases k<;>simp only[sy]at hT<;>cases hT
  .exact IsiPair.bool_int (h _ I)
  .exact IsiPair.bool_bool (h _ I)
  .exact IsiPair.bool_str (it _)
  .exact IsiPair.bool_list (it _)
  .exact IsiPair.bool_tuple (it _)
 |int i=>
  cases r';obtain⟨t,rfl⟩:=q;cases k<;>simp only[sy]at hT<;>cases hT
  .exact IsiPair.int_int (h _ I)
  .exact IsiPair.int_bool (it _)
  .exact IsiPair.int_str (it _)
  .exact IsiPair.int_list (it _)
  .exact IsiPair.int_tuple (it _)
 |str x=>
  cases r';obtain⟨t,rfl⟩:=q;cases k<;>simp only[sy]at hT<;>cases hT
  .exact IsiPair.str_int (it _)
  .exact IsiPair.str_bool (it _)
  .exact IsiPair.str_str (h _ I)
  .exact IsiPair.str_list (it _)
  .exact IsiPair.str_tuple (it _)
 |H ds=>
  obtain⟨p,xs,rfl,_,sq,rr⟩:=r';obtain⟨its,rv,pt,_⟩:=I.tuple sq;cases q;have rm:s.heap.IsTuple p its.toArray:=pt;cases k<;>simp only[sy]at hT<;>cases hT
  .exact IsiPair.isTuple_int rm (λ_ _ e=>e) (it _)
  .exact IsiPair.isTuple_bool rm (λ_ _ e=>e) (it _)
  .exact IsiPair.isTuple_str rm (λ_ _ e=>e) (it _)
  .exact IsiPair.isTuple_list rm (λ_ _ e=>e) (it _)
  .exact IsiPair.isTuple_tuple rm (λ_ _ e=>e) (h _ I)
 |L ds=>
  obtain⟨p,xs,rfl,_,sq,rr⟩:=r';obtain⟨its,rv,pl,_⟩:=I.list sq;cases q;have rm:s.heap.IsList p its.toArray:=Mc pl;cases k<;>simp only[sy]at hT<;>cases hT
  .exact IsiPair.isList_int rm (λ_ _ e=>e) (it _)
  .exact IsiPair.isList_bool rm (λ_ _ e=>e) (it _)
  .exact IsiPair.isList_str rm (λ_ _ e=>e) (it _)
  .exact IsiPair.isList_list rm (λ_ _ e=>e) (h _ I)
  .exact IsiPair.isList_tuple rm (λ_ _ e=>e) (it _)
theorem cT(hT:sy k=Aa T)(p:AW Rp W H (Eg up [k] d) Q):QK d=Ab/\AW Rp W H (.ok (.bl (yc up k d))) Q:=by
 cases k<;>simp only[sy]at hT<;>cases hT<;>cases d<;>first|exact p.elim|exact⟨rfl,by simpa using p⟩
theorem oC{p:AF}(hT:sy k=Aa T)(hg:Gl X "isinstance")(hm:X.mg "isinstance" = Af)(wz:Gl X x)(ra:X.mg x=Af)(hv:Dg x=Aa (.type T))(hn:x≠"__name__")(zw:(x==("__debug__" : Ah))=Ae)(ha:ST X CL W a fa)(he:Aw [a,.Name x p2] X.env=(Ae,eval a X.env)::Aw [.Name x p2] X.env):SE X CL W (.Call (.Name "isinstance" p) [a,.Name x p2] [] pos) (λU=>(fa U).bind λx=>Eg up [k] x):=λA=>
 PE.weak (Kl (r:=λxs H Q=>∃ y d,xs=[y,.ty T]/\Cv X.K CL H A y d/\QK d=Ab/\Q (.bl (yc up k d)) H) (λpI s Y H xs us Q I r ⟨y,d,e,ry,hd,q⟩=>by
   subst e;obtain⟨u,w',rfl,r1,r2⟩:=Li r;cases r2;exact pE I ry r1 hT hd λs' I'=>⟨.bl _,H,I',rfl,q⟩)
  hg hm Fx (Bv (ha A) (Bv (UC (v:=.ty T) wz ra hv rfl hn zw) Cb rfl) he) (by decide) (by decide) he rfl) λY H Q ⟨hA,U,g,q⟩=>⟨hA,U,g,AW.bind q λd v H1 _ s1 r1 p1=>by
   obtain⟨hd,p2⟩:=cT hT p1;exact⟨v,d,rfl,r1,hd,p2 _ H1 (Az.refl H1) rfl⟩⟩
theorem gE{b:An}{A':A4}{E:Vq}{Q:An->Ar->Prop}{prog:AK}{w:AI}(r:Z7 X.K CL H A v d)(q:Bt v u)(h:Ix d=.ok b)(hq:Q b s):AA (model prog w) A' (truthy u) Q E s:=by
 cases d with
 |O=>
  cases r;cases q;cases h;exact truthy_none hq
 |bl k=>
  cases r;cases q;cases h;exact Db hq
 |int i=>
  cases r;obtain⟨t,rfl⟩:=q;cases h;exact truthy_int hq
 |_=>cases h
theorem Sn:∀{ds:Ac D}{b:An},G4 ds=.ok b->(∀ j,j<ds.length->∃ c,Ix (ds.getD j .O)=.ok c)/\b=(BR ds.length).all λj=>match Ix (ds.getD j .O) with
  |.ok c=>c
  |_=>Ae
 |[],b,h=>by cases h;exact⟨λj hj=>absurd hj (Nat.not_lt_zero _),rfl⟩
 |d::ds,b,h=>by
  rw[SJ]at h;cases e:Ix d with
  |bad=>rw[e]at h;cases h
  |exn x=>rw[e]at h;cases h
  |ok c=>
   rw[e,R.bind_ok]at h;cases e2:G4 ds with
   |bad=>rw[e2]at h;cases h
   |exn x=>rw[e2]at h;cases h
   |ok c2=>
    rw[e2,R.bind_ok]at h;cases h;obtain⟨h1,h2⟩:=Sn e2;refine⟨λj hj=>?_,?_⟩
    .cases j with
     |zero=>exact⟨c,e⟩
     |succ j=>exact h1 j (by simpa using hj)
    .rw[A8,Sj,h2];show (c&&_)=((match Ix d with | .ok c=>c|_=>Ae)&&_)
     rw[e];rfl
theorem mX{ds:Ac D}(r:Z9 X.K CL H A0 xs ds)(rv:A1 xs its){v:Al}(h:its.toArray[j]?=Aa v):j<ds.length/\∃ x,Z7 X.K CL H A0 x (ds.getD j .O)/\Bt x v:=by
 have h':its[j]?=Aa v:=by simpa using h
 obtain⟨hj,e⟩:=A5.mp h';obtain⟨x,rx,q⟩:=JA r rv hj;have l1:=rv.length;have l2:=r.length
 exact⟨by omega,x,rx,by rw[<-e];exact q⟩
theorem xG{o:CZ}(k:∀ b q,b∉[h.objs.size]->(h.push o).get? b=Aa q->h'.get? b=Aa q):∀ b q,h.get? b=Aa q->h'.get? b=Aa q:=λb q e=>k b q (by
 intro z;have:=BX.mp z;rw[this]at e;exact absurd (AS e) (BG _)) (AB _ e)
theorem rC(hc:X.calm=Ab):Lm X CL W (.builtin "all") (zY .all):=by
  intro A pI s Y H xs us Q I r ⟨hA,ds,rs,p⟩
  match ds,rs,p with
  |[.L es],rs,p=>
    obtain⟨v,rfl,rv⟩:=rs.one;obtain⟨q,ys,e,_,sq,ry⟩:=rv.plain;subst e;obtain⟨u,rfl,ru⟩:=KP r;cases ru;rw[xH]at p;cases e1:G4 es with
    |bad=>rw[e1]at p;exact p.elim
    |exn x=>
      exfalso
      have:∀(es:Ac D) x,G4 es≠.exn x:=by
        intro es
        induction es with
        |nil=>intro x h;cases h
        |cons d ds ih=>
          intro x h;rw[SJ]at h;cases e:Ix d with
          |bad=>rw[e]at h;cases h
          |exn y=>cases d<;>cases e
          |ok c=>
            rw[e,R.bind_ok]at h;cases e2:G4 ds with
            |bad=>rw[e2]at h;cases h
            |exn y=>exact ih y e2
            |ok c2=>rw[e2]at h;cases h
      exact this es x e1
    |ok b=>
      rw[e1,R.bind_ok]at p;obtain⟨h1,h2⟩:=Sn e1;obtain⟨its,rvv,pl,_⟩:=I.list sq;have yh:q<s.heap.objs.size:=by obtain⟨o,n,e,_⟩:=pl;exact AS e
      have hl:its.toArray.size=es.length:=by rw[AX,<-rvv.length,ry.length]
      refine call_all_walk (HX (Mc pl) ⟨s.heap.objs.size,_,_,_,_,_,(λj=>match Ix (es.getD j .O) with | .ok c=>c|_=>Ae),rfl,Walks.list (A:=X.A.in1) (I.ok.hd hc) s.heap.objs.size q (BB yh) its.toArray,⟨⟨_,Bp _ rfl,rfl,rfl⟩,(Mc pl).push _⟩,λj v s' Q' E' hv hQ=>?_,λh' tk k=>?_⟩)
      · obtain⟨hj,x,rx,qx⟩:=mX ry rvv hv;obtain⟨c,ec⟩:=h1 j hj;exact gE rx qx ec (by dsimp only at hQ;rw[ec]at hQ;exact hQ)
      · rw[hl,<-h2];exact⟨.bl b,H,I.kept (xG k),rfl,p _ H (Az.refl H) rfl⟩
  |[],_,p=>exact p.elim
  |[.O],_,p=>exact p.elim
  |[.bl _],_,p=>exact p.elim
  |[.int _],_,p=>exact p.elim
  |[.str _],_,p=>exact p.elim
  |[.H _],_,p=>exact p.elim
  |[.obj _ _],_,p=>exact p.elim
  |[.exc _ _],_,p=>exact p.elim
  |[.dic _],_,p=>exact p.elim
  |x::_::_,_,p=>cases x<;>exact p.elim
end
section
variable(K:Fg)(CL:ClA)
def xL(H0:Hp)(A:Ak->Prop)(H:Hp)(v:V)(d:D):Prop:=∀ ds,d=.L ds->∃ a xs,v=.ref a/\H0 a=Af/\H a=Aa (.L xs)/\Z9 K CL H (λb=>A b\/b=a) xs ds
def Cw(fr:An)(H0:Hp)(A:Ak->Prop)(H:Hp)(v:V)(d:D):Prop:=Z7 K CL H A v d/\(fr=Ab->xL K CL H0 A H v d)
end
section
variable{X:Cx}{CL:ClA}{W:XW}{a b c:Aq}{fa fb fc:Rho->R D}{pos:AF}
def SC(X:Cx)(CL:ClA)(W:XW)(fr:An)(e:Aq)(f:Rho->R D):Prop:=∀ A,PE X e (λY H Q=>My H A/\∃ U,Y9 X.K CL A U Y H/\AW (Cw X.K CL fr H A) W H (f U) Q)
theorem SC.se{fr:An}(h:SC X CL W fr a fa):SE X CL W a fa:=λA=>PE.weak (h A) λY H Q ⟨hA,U,g,p⟩=>⟨hA,U,g,by
 cases e:fa U with
 |ok d=>rw[e]at p;exact λv H' s r=>p v H' s r.1
 |exn x=>rw[e]at p;exact p
 | bad=>rw[e]at p;exact p⟩
theorem SE.sc(h:SE X CL W a fa):SC X CL W Ae a fa:=λA=>PE.weak (h A) λY H Q ⟨hA,U,g,p⟩=>⟨hA,U,g,by
 cases e:fa U with
 |ok d=>rw[e]at p;exact λv H' s r=>p v H' s ⟨r,λz=>nomatch z⟩
 |exn x=>rw[e]at p;exact p
 | bad=>rw[e]at p;exact p⟩
theorem SC.congr{fr:An}{f g:Rho->R D}(h:SC X CL W fr a f)(e:∀ U,g U=f U):SC X CL W fr a g:=λA=>PE.weak (h A) λY H Q ⟨hA,U,q,p⟩=>⟨hA,U,q,by rw[<-e];exact p⟩
theorem K7{ds:Ac D}(s:Az H0 H)(hA:My H A)(hp:H p=Af)(r:Z9 K CL H A xs ds):Cw K CL Ab H0 A (upd H p (.L xs)) (.ref p) (.L ds):=
 ⟨Uu hA hp r,λ_ uu e=>by
  cases e;exact⟨p,xs,rfl,s.free hp,BO,(Z9.wide (λa ha=>ha.imp id λe=>by rw[e];exact hp) _ r).same (EZ hp _)⟩⟩
theorem Qo{fr:An}(r:Z7 K CL H A v d)(h:∀ ds,d≠.L ds):Cw K CL fr H0 A H v d:=⟨r,λ_ ds e=>absurd e (h ds)⟩
theorem QP(hs:SA X CL W es fs)(hz:∀ U ds,fs U=.ok ds->ds.length<=100000):SC X CL W Ab (.List es pos) (λU=>(fs U).bind λxs=>.ok (.L xs)):=
 λA=>PE.weak (L8 (hs A)) λY H Q ⟨hA,U,g,p⟩=>⟨hA,U,g,Iu.bind p λds vs H1 e s1 r1 p1=>⟨by
  rw[r1.length,Bz];have:=hz U ds e;omega,λq hq=>p1 _ _ (EZ hq _) (K7 s1 (hA.same s1) hq r1)⟩⟩
theorem AW.bindF{fr:An}{f:D->R D}{Q':VK}(h:AW (Cw K CL fr H A) W H (r.bind f) Q)(k:∀ d v H',r=.ok d->Az H H'->Rp H' v d->AW (Cw K CL fr H A) W H' (f d) Q->Q' v H'):AW Rp W H r Q':=by
 cases r with
 |ok d=>exact λv H2 s2 q=>k d v H2 rfl s2 q (AW.same s2 h)
 |exn x=>exact h
 |bad=>exact h
theorem Iu.bindF{Rp:Hp->Ac V->Ac D->Prop}{r:R (Ac D)}{f:Ac D->R D}{Q':Ac V->Hp->Prop}(h:AW Rq W H (r.bind f) Q)(k:∀ d v H',r=.ok d->Az H H'->Rp H' v d->AW Rq W H' (f d) Q->Q' v H'):Iu Rp W H r Q':=by
 cases r with
 |ok d=>exact λv H2 s2 q=>k d v H2 rfl s2 q (AW.same s2 h)
 |exn x=>exact h
 |bad=>exact h
theorem Ll.bindF{r:R (Ao Ai)}{f:Ao Ai->R D}(h:AW Rq W H (r.bind f) Q)(k:∀ o H',r=.ok o->Az H H'->AW Rq W H' (f o) Q->Q' o H'):Ll W H r Q':=by
 cases r with
 |ok d=>exact λH2 s2=>k d H2 rfl s2 (AW.same s2 h)
 |exn x=>exact h
 |bad=>exact h
def Xe:V->Ao Ai->Ao Ai->Hp->VK->Prop:=λx l h H Q=>∃ z,x=.str z/\(JS z l h).length<=sizeLine/\Q (.str (JS z l h)) H
theorem UD{v:Al}{o:Ao Ai}(h:Hz v o):∃ p:Ao (Ai×Cf),v=partValue p/\p.map (·.1)=o:=by
 cases h with
 |none=>exact⟨Af,rfl,rfl⟩
 |int i t=>exact⟨Aa (i,t),rfl,rfl⟩
theorem nV:pz X Xe:=by
 intro pI s Y H x v vl vu lo hi sl Q I rx hs pl pu h;obtain⟨z,rfl,hz,q⟩:=h;obtain⟨t,rfl⟩:=rx;obtain⟨l,rfl,el⟩:=UD pl;obtain⟨u,rfl,eu⟩:=UD pu;refine⟨"str",_,PySem.F.slot_str_getitem.lookup,FY _ _ _,?_⟩;refine wpAny_getItem_str_slice (l:=l) (u:=u) (st:=Af) hs rfl ?_;subst el eu;unfold sliceMade slicePicked;unfold JS at hz q;by_cases c:((EQ (l.map (·.1)) (u.map (·.1)) 1 z.length).length==z.length)=Ab
 .rw[Au c]at q;rw[Au (by rw[Am];exact⟨rfl,c⟩)]
  exact⟨.str z,H,I,⟨t,rfl⟩,q⟩
 .rw[Ay c]at q hz;rw[Ay (by rw[Am];exact λh=>c h.2)]
  exact⟨hz,.str _,H,I.tok _,⟨_,rfl⟩,q⟩
theorem tP{lo hi:Ao Aq}{fl fh:Rho->R (Ao Ai)}(ha:ST X CL W a fa)(hl:SO X CL W lo fl)(hh:SO X CL W hi fh):SC X CL W Ab (.Subscript a (.Slice lo hi Af p2) pos) (λU=>(fa U).bind λx=>(fl U).bind λl=>(fh U).bind λh=>i9 x l h):=
 λA=>PE.weak (fB (r:=λx l h H Q=>Xf X.K x l h H Q\/(Xd X.K x l h H Q\/Xe x l h H Q)) (pz.or jJ (pz.or nU nV)) (ha A) (hl A) (hh A)) λY H Q ⟨hA,U,g,p⟩=>⟨hA,U,g,AW.bindF p λdx x H1 _ s1 r1 p1=>⟨hA.same s1,U,g.same s1,Ll.bindF p1 λl H2 _ s2 p2=>⟨(hA.same s1).same s2,U,(g.same s1).same s2,Ll.bindF p2 λh H3 _ s3 p3=>by
  cases dx with
  |L ds=>
   obtain⟨q,xs,rfl,sq,r⟩:=((r1.same s2).same s3).lst_of;exact .inl ⟨q,xs,rfl,sq,λt ht=>p3 _ _ (EZ ht _) (K7 ((s1.trans s2).trans s3) (((hA.same s1).same s2).same s3) ht (UU l h r))⟩
  |H ds=>
   obtain⟨q,xs,rfl,_,sq,r⟩:=((r1.same s2).same s3).tup_of;rw[zM]at p3;split at p3
   .exact p3.elim
   .rename_i hw;refine .inr (.inl ⟨q,xs,rfl,sq,?_,λt ht=>p3 _ _ (EZ ht _) (Qo (N6 (((hA.same s1).same s2).same s3) ht (UU l h r)) (by intro _ z;cases z))⟩)
    rintro⟨h1,h2⟩;refine hw ?_;have e:∀ d o,HT.sIx xs.length d o=IX ds.length d o:=λd o=>by rw[r.length];cases o<;>rfl
    rw[e]at h1 h2;rw[r.length]at h2;simp[h1,h2]
  |str z=>
   have e:=((r1.same s2).same s3).str_of;subst e;have p4:AW (Cw X.K CL Ab H A) W H3 (if (CY z.length&&CY (JS z l h).length)=Ab then .ok (.str (JS z l h)) else .bad) Q:=p3
   split at p4
   .rename_i hk;rw[Am]at hk;exact .inr (.inr ⟨z,rfl,SM hk.2,p4 _ H3 (Az.refl H3) (Qo rfl (by intro _ z;cases z))⟩)
   .exact p4.elim
  | _=>exact p3.elim⟩⟩⟩
noncomputable def OpN(X:Cx)(CL:ClA)(W:XW)(f:Al->Al->Fo Al)(g:D->D->R D):Prop:=
 ∀ A H0,za X f (λx y H Q=>Az H0 H/\My H A/\∃ dx dy,Cv X.K CL H A x dx/\Cv X.K CL H A y dy/\AW (Cw X.K CL Ab H0 A) W H (g dx dy) Q)
theorem kY:OpN X CL W (Ch .Add) (Dc .Add):=by
 intro A H0 pI s Y H x y v u Q I rx ry ⟨s0,hA,dx,dy,hx,hy,p⟩;have key:(∀ ds,dx≠.L ds)->EP X pI Y Q=EP X pI Y Q->AA (model X.prog X.w) X.A (Ch .Add v u) (EP X pI Y Q) X.xe s:=λhd _=>by
  refine UE (W:=W) A pI s Y H x y v u Q I rx ry ⟨hA,dx,dy,hx,hy,?_⟩;cases e:Dc .Add dx dy with
  |bad=>rw[e]at p;exact p
  |exn x=>rw[e]at p;exact p
  |ok d=>
   rw[e]at p;refine λv' H' s' r'=>p v' H' s' (Qo r' λds z=>?_)
   subst z;cases dx with
   |L ds=>exact hd _ rfl
   |H xs=>
    cases dy with
    |H ys=>rw[VB]at e;split at e<;>cases e
    |_=>cases e
   |str xs=>
    cases dy with
    |str ys=>rw[Ld]at e;split at e<;>cases e
    |_=>cases e
   |int i=>cases dy<;>cases e
   |_=>cases e
 cases dx with
 |L ds=>
  cases dy with
  |L es=>
   obtain⟨a,xs,rfl,s1,r1⟩:=hx.lst_of;obtain⟨b,ys,rfl,s2,r2⟩:=hy.lst_of;simp only[VC]at p;split at p
   .rename_i h;refine UF pI s Y H _ _ v u Q I rx ry ⟨a,b,xs,ys,rfl,rfl,s1,s2,by rw[r1.length,r2.length];exact Lb h,λq hq=>?_⟩
    exact p _ _ (EZ hq _) (K7 s0 hA hq (r1.append r2))
   .exact p.elim
  |_=>exact p.elim
 |_=>exact key (by intro _ z;cases z) rfl
theorem nS(ha:ST X CL W a fa)(hb:ST X CL W b fb):SC X CL W Ab (.BinOp a .Add b pos) (λU=>(fa U).bind λx=>(fb U).bind λy=>Dc .Add x y):=
 λA pI s Y H Q I h=>by
  obtain⟨hA,U,g,p⟩:=h;exact Wl (kY (W:=W) A H) (ha A) (hb A) pI s Y H Q I ⟨hA,U,g,AW.bindF p λdx x H1 _ s1 r1 p1=>⟨hA.same s1,U,g.same s1,AW.bind (Rq:=Cw X.K CL Ab H A) p1 λdy y H2 _ s2 r2 p2=>⟨s1.trans s2,(hA.same s1).same s2,dx,dy,r1.same s2,r2,p2⟩⟩⟩
def WB(X:Cx)(CL:ClA)(W:XW)(f:Al)(g:Ac D->R D):Prop:=∀ A H0,Gz X f (λxs H Q=>Az H0 H/\My H A/\∃ ds,Gy X.K CL H A xs ds/\AW (Cw X.K CL Ab H0 A) W H (g ds) Q)
theorem mE:WB X CL W (.type "list") (zY .list):=by
  intro A H0 pI s Y H xs us Q I r ⟨s0,hA,ds,rs,p⟩
  match ds,rs,p with
  |[.L es],rs,p=>
    obtain⟨v,rfl,rv⟩:=rs.one;obtain⟨q,ys,rfl,sq,ry⟩:=rv.lst_of;exact Sy pI s Y H _ us Q I r ⟨q,ys,rfl,.inl sq,λl hl=>p _ _ (EZ hl _) (K7 s0 hA hl ry)⟩
  |[.H es],rs,p=>
    obtain⟨v,rfl,rv⟩:=rs.one;obtain⟨q,ys,rfl,_,sq,ry⟩:=rv.tup_of;exact Sy pI s Y H _ us Q I r ⟨q,ys,rfl,.inr sq,λl hl=>p _ _ (EZ hl _) (K7 s0 hA hl ry)⟩
  |[],_,p=>exact p.elim
  |[.O],_,p=>exact p.elim
  |[.bl _],_,p=>exact p.elim
  |[.int _],_,p=>exact p.elim
  |[.str _],_,p=>exact p.elim
  |[.obj _ _],_,p=>exact p.elim
  |[.exc _ _],_,p=>exact p.elim
  |[.dic _],_,p=>exact p.elim
  |x::_::_,_,p=>cases x<;>exact p.elim
theorem nR{p:AF}{g:Ac D->R D}(hc:WB X CL W (.type T) g)(hg:Gl X x)(hm:X.mg x=Af)(hv:Dg x=Aa (.type T))(ha:uk X CL W (e::es) fs)(hn:x≠"__name__")(zw:(x==("__debug__" : Ah))=Ae)(he:Aw (e::es) X.env=(Ae,eval e X.env)::Aw es X.env)(zv:∀ pos,(Bs pos (Aw es X.env)).any (·.1)=Ae):SC X CL W Ab (.Call (.Name x p) (e::es) [] pos) (λU=>(fs U).bind g):=λA pI s Y H Q I ⟨hA,U,gd,q⟩=>
 PL (hc A H) hg hm hv (ha A) hn zw he (zv _) pI s Y H Q I ⟨hA,U,gd,Iu.bindF q λds vs H1 _ s1 r1 p1=>⟨s1,hA.same s1,ds,r1,p1⟩⟩
mutual
theorem Rx{K:Fg}{H:Hp}{A:Ak->Prop}(hA:My H A):∀(n:Ag)(d:D){v:V},xl n d=Ab->Z7 K CL H A0 v d->Z7 K CL H A v d
 |_,.O,_,_,h=>h
 |_,.bl _,_,_,h=>h
 |_,.int _,_,_,h=>h
 |_,.str _,_,_,h=>h
 |0,.H _,_,hn,_=>by cases hn
 |n+1,.H ds,_,hn,h=>by
  obtain⟨a,xs,e,_,s,r⟩:=h;refine⟨a,xs,e,?_,s,vn hA n ds hn r⟩;rcases s with s|s
  .refine .inl λz=>?_
   obtain⟨ys,q,w⟩:=hA a z;rcases s with s|⟨o,s⟩<;>rw[q]at s<;>cases s<;>exact w
  .exact .inr s
 |n,.L _,_,hn,_=>by cases n<;>cases hn
 |n,.obj _ _,_,hn,_=>by cases n<;>cases hn
 |n,.exc _ _,_,hn,_=>by cases n<;>cases hn
 |n,.dic _,_,hn,_=>by cases n<;>cases hn
theorem vn{K:Fg}{H:Hp}{A:Ak->Prop}(hA:My H A):∀(n:Ag)(ds:Ac D){vs:Ac V},ds.all (xl n)=Ab->Z9 K CL H A0 vs ds->Z9 K CL H A vs ds
 |_,[],[],_,h=>h
 |n,d::ds,_::_,hn,h=>by
  simp only[E9,Am]at hn;exact⟨Rx hA n d hn.1 h.1,vn hA n ds hn.2 h.2⟩
 |_,[],_::_,_,h=>h.elim
 |_,_::_,[],_,h=>h.elim
end
theorem Vu{fr:An}(hA0:My H0 A)(s:Az H0 H)(hc:JL fr d=Ab)(r:Cw K CL fr H0 A0 H v d):Cw K CL fr H0 A H v d:=by
 have hA:=hA0.same s;cases d with
 |L ds=>
  have qa:(fr&&ds.all (xl 5))=Ab:=hc;rw[Am]at qa;obtain⟨a,xs,e,h0,h1,rs⟩:=r.2 qa.1 ds rfl;have ac:My H (λb=>A b\/b=a):=λb hb=>hb.elim (hA b) λe=>by rw[e];exact⟨_,h1,trivial⟩
  have ww:=vn ac 5 ds qa.2 (Z9.sub (λ_ z=>z.elim) _ rs)
  refine⟨⟨a,xs,e,.inl (hA0.new h0),Id.of h1,Z9.sub (λ_ z=>.inl z) _ ww⟩,λ_ uu e'=>?_⟩
  cases e';exact⟨a,xs,e,h0,h1,ww⟩
 |_=>exact⟨Rx hA 5 _ hc r.1,λ_ _ z=>nomatch z⟩
def spD(K:Fg)(CL:ClA)(n:Ag)(fr:An)(F:Ac D->R D):Sp:=λvs H Q E=>∃(ds:Ac D)(A:Ak->Prop),vs.length=n/\My H A/\Z9 K CL H A vs ds/\(match F ds with
  |.ok d=>∀ v H',Az H H'->Cw K CL fr H A H' v d->Q v H'
  |.exn x=>∀ cls dx H',Az H H'->Dz K CL H' cls dx x->E cls dx H'
  | .bad=>AM)
def EKW(K:Fg)(CL:ClA)(A:Ak->Prop)(W:XW):XK:=λcls dx H'=>∃ x,Dz K CL H' cls dx x/\W x H'
theorem Gy.plain{K:Fg}{H:Hp}{A:Ak->Prop}:∀{vs:Ac V}{ds:Ac D},Gy K CL H A vs ds->Z9 K CL H A0 vs ds
 |[],[],h=>trivial
 |_::_,_::_,h=>⟨h.1.plain,Gy.plain h.2⟩
 |[],_::_,h=>h.elim
 |_::_,[],h=>h.elim
theorem jQ{CX:CXT}{k:Ag}{fr:An}{f:Ak}{fd:Bi}{ps:Ac Ah}{F:Ac D->R D}{p:AF}{ft:Rho->R (Ac D)}{sh:Rho->An}(G:Y4 X.prog X.w X.K X.mg X.base CX k f fd ps (spD X.K CL n fr F))(hr:U4 k X.A)(hg:Gl X x)(hm:X.mg x=Aa (.ref f))(hk:Ba X.K (.ref f)=Ab)(hb:CW X.K fd ps [])(hx:∀ A,HM CX X (EKW X.K CL A W))(ha:SA X CL W (e::es) fs)(hat:uk X CL W (e::es) ft)(yo:∀ U,sh U=Ab->ft U=fs U)(hn:∀ U ds,ft U=.ok ds->ds.length=n)(zw:(x==("__debug__" : Ah))=Ae)(he:Aw (e::es) X.env=(Ae,eval e X.env)::Aw es X.env)(zv:∀ pos,(Bs pos (Aw es X.env)).any (·.1)=Ae):SC X CL W fr (.Call (.Name x p) (e::es) [] pos) (λU=>(ft U).bind λds=>(F ds).bind λd=>if sh U=Ab then .ok d else if JL fr d=Ab then .ok d else .bad):=λA pI s Y H Q I ⟨hA,U,gd,q⟩=>by
 dsimp only at q;by_cases hs:sh U=Ab
 .rw[yo U hs]at q;refine Kh G hr hg hm hk hb .nil (hx A) (ha A) zw he (zv _) pI s Y H Q I ⟨hA,U,gd,?_⟩;cases e1:fs U with
  |bad=>rw[e1]at q;exact q
  |exn y=>rw[e1]at q;exact q
  |ok ds=>
   rw[e1]at q;intro vs H1 s1 r1;refine⟨ds,A,by rw[BA,r1.length];exact hn U ds (by rw[yo U hs];exact e1),hA.same s1,by rw[BA];exact r1,?_⟩
   have q':AW (Cw X.K CL fr H A) W H ((F ds).bind λd=>if sh U=Ab then .ok d else if JL fr d=Ab then .ok d else .bad) Q:=q
   cases e2:F ds with
   |ok d=>
    rw[e2,R.bind_ok,Au hs]at q';exact λv H2 s2 r2=>q' v H2 (s1.trans s2) ⟨r2.1,λz uu e'=>let ⟨a,xs,z1,z2,z3⟩:=r2.2 z uu e';⟨a,xs,z1,s1.free z2,z3⟩⟩
   |exn y=>rw[e2]at q';exact λcls dx H2 s2 xr=>⟨y,xr,q' H2 (s1.trans s2)⟩
   |bad=>rw[e2]at q';exact q'.elim
 .refine Kh G hr hg hm hk hb .nil (hx A0) (hat A) zw he (zv _) pI s Y H Q I ⟨hA,U,gd,?_⟩;cases e1:ft U with
  |bad=>rw[e1]at q;exact q
  |exn y=>rw[e1]at q;exact q
  |ok ds=>
   rw[e1]at q;intro vs H1 s1 r1;refine⟨ds,A0,by rw[BA,r1.plain.length];exact hn U ds e1,λ_ z=>z.elim,by rw[BA];exact r1.plain,?_⟩
   have q':AW (Cw X.K CL fr H A) W H ((F ds).bind λd=>if sh U=Ab then .ok d else if JL fr d=Ab then .ok d else .bad) Q:=q
   cases e2:F ds with
   |ok d=>
    rw[e2,R.bind_ok,Ay hs]at q';split at q'
    .rename_i hc;exact λv H2 s2 r2=>q' v H2 (s1.trans s2) (Vu hA (s1.trans s2) hc ⟨r2.1,λz uu e'=>let ⟨a,xs,z1,z2,z3⟩:=r2.2 z uu e';⟨a,xs,z1,s1.free z2,z3⟩⟩)
    .exact q'.elim
   |exn y=>rw[e2]at q';exact λcls dx H2 s2 xr=>⟨y,xr,q' H2 (s1.trans s2)⟩
   |bad=>rw[e2]at q';exact q'.elim
end
theorem PZ(env:B7):∀(ns:Ac (Ah×D7))(zy:Ac (Ah×Ak)),(∀ x∈ns,x.2=.free->∃ c,env.cells.lookup x.1=Aa c)->(∀ x c,zy.lookup x=Aa c->env.cells.lookup x=Aa c) ->
  ∃ cl,(forIn ns zy fun(x:Ah×D7)(cs:Ac (Ah×Ak))=>(if (x.2==.free)=Ab then do let c <-cellOf env x.1;pure (Eh ((x.1,c)::cs)) else pure (Eh cs):Fo (ForInStep (Ac (Ah×Ak)))))=pure cl /\
   (∀ x c,cl.lookup x=Aa c->env.cells.lookup x=Aa c)/\(∀ x,((x,DR)∈ns\/∃ c,zy.lookup x=Aa c)->∃ c,cl.lookup x=Aa c)
 |[],zy,_,h2=>⟨zy,by rw[X2],h2,λx hx=>hx.elim (λz=>nomatch z) id⟩
 |(n,k)::r,zy,h1,h2=>by
  rw[List.forIn_cons];by_cases hk:k=.free
  .subst hk;obtain⟨c,hc⟩:=h1 (n,.free) AY rfl;obtain⟨cl,e,p,q⟩:=PZ env r ((n,c)::zy) (λx hx=>h1 x (AE _ hx)) (λx d hd=>by
    rw[Ct]at hd;split at hd
    .rename_i hx;cases hd;rw[eq_of_beq hx];exact hc
    .exact h2 x d hd)
   refine⟨cl,?_,p,λx hx=>q x ?_⟩
   .have e1:cellOf env n=pure c:=by unfold cellOf;dsimp only at hc;rw[hc]
    rw[Au (by rfl),e1]
    exact e
   .rcases hx with hx|⟨d,hd⟩
    .rcases A6.mp hx with z|z
     .cases z;exact .inr ⟨c,by simp[Ct]⟩
     .exact .inl z
    .by_cases qb:x=n
     .exact .inr ⟨c,by subst qb;simp[Ct]⟩
     .exact .inr ⟨d,by rw[Ct];rw[Bg.mpr qb];exact hd⟩
  .obtain⟨cl,e,p,q⟩:=PZ env r zy (λx hx=>h1 x (AE _ hx)) h2
   refine⟨cl,?_,p,λx hx=>q x ?_⟩
   .rw[Ay (by simpa using hk)]
    exact e
   .rcases hx with hx|hx
    .rcases A6.mp hx with z|z
     .cases z;exact absurd rfl hk
     .exact .inl z
    .exact .inr hx
theorem SG(h:∀ x∈scope.names,x.2=.free->∃ c,env.cells.lookup x.1=Aa c):∃ cl,closureFor scope env=pure cl/\(∀ x c,cl.lookup x=Aa c->env.cells.lookup x=Aa c)/\∀ x,(x,DR)∈scope.names->∃ c,cl.lookup x=Aa c:=by
 obtain⟨cl,e,p,q⟩:=PZ env scope.names [] h (λx c z=>by simp at z)
 refine⟨cl,?_,p,λx hx=>q x (.inl hx)⟩
 unfold closureFor
 first
  |exact e
  |(simp only[bind_pure];exact e)
  |(rw[show (forIn scope.names ([]:Ac (Ah×Ak)) _:Fo _)=pure cl from e];rfl)
theorem PC:∀(names:Ac (Ah×D7))(h:AJ)(zy:Ac (Ah×Ak))(x:Ah)(c:Ak),(CO h.objs.size names zy).lookup x=Aa c->zy.lookup x=Aa c\/((x,B1)∈names/\h.objs.size<=c/\(HB h names).IsCell c Af)
 |[],_,_,_,_,e=>.inl e
 |(n,k)::r,h,zy,x,c,e=>by
  unfold CO at e;unfold HB;by_cases hk:(k==B1)=Ab
  .rw[Au hk]at e ⊢;have hs:h.objs.size+1=(h.push { cls:=.type "cell",data:=.cell Af }).objs.size:=(D1 ..).symm;rw[hs]at e;rcases PC r _ _ x c e with q|⟨q1,q2,q3⟩
   .rw[Ct]at q;cases hx:x==n with
    |true=>
     rw[hx]at q;cases q;refine .inr ⟨?_,AU _,?_⟩
     .rw[eq_of_beq hx,eq_of_beq hk];exact AY
     .exact⟨_,IJ r _ _ _ (Bp _ rfl),rfl⟩
    |false=>rw[hx]at q;exact .inl q
   .exact .inr ⟨AE _ q1,by omega,q3⟩
  .rw[Ay hk]at e ⊢;rcases PC r h zy x c e with q|⟨q1,q2,q3⟩
   .exact .inl q
   .exact .inr ⟨AE _ q1,q2,q3⟩
theorem PD:∀(names:Ac (Ah×D7))(h:AJ)(zy:Ac (Ah×Ak)),(∀ x y c,zy.lookup x=Aa c->zy.lookup y=Aa c->x=y)->(∀ x c,zy.lookup x=Aa c->c<h.objs.size)->∀ x y c,(CO h.objs.size names zy).lookup x=Aa c->(CO h.objs.size names zy).lookup y=Aa c->x=y
 |[],_,_,i,_,x,y,c,e1,e2=>i x y c e1 e2
 |(n,k)::r,h,zy,i,b,x,y,c,e1,e2=>by
  unfold CO at e1 e2;by_cases hk:(k==B1)=Ab
  .rw[Au hk]at e1 e2;have hs:h.objs.size+1=(h.push { cls:=.type "cell",data:=.cell Af }).objs.size:=(D1 ..).symm;rw[hs]at e1 e2;have look:∀ z d,B0 z ((n,h.objs.size)::zy)=Aa d->(z=n/\d=h.objs.size)\/(z≠n/\zy.lookup z=Aa d):=λz d q=>by
    rw[Ct]at q;cases hx:z==n with
    |true=>rw[hx]at q;cases q;exact .inl ⟨eq_of_beq hx,rfl⟩
    |false=>rw[hx]at q;exact .inr ⟨λe=>by rw[e]at hx;simp at hx,q⟩
   refine PD r _ _ (λz z' d q q'=>?_) (λz d q=>?_) x y c e1 e2
   .rcases look z d q with ⟨rfl,q1⟩|⟨_,q1⟩<;>rcases look z' d q' with ⟨rfl,q2⟩|⟨_,q2⟩
    .rfl
    .exact absurd (b _ _ q2) (by rw[q1];exact BG _)
    .exact absurd (b _ _ q1) (by rw[q2];exact BG _)
    .exact i _ _ _ q1 q2
   .rw[<-hs];rcases look z d q with ⟨_,q1⟩|⟨_,q1⟩
    .rw[q1];exact Gq _
    .exact HU (b _ _ q1)
  .rw[Ay hk]at e1 e2;exact PD r h zy i b x y c e1 e2
theorem P0:∀(names:Ac (Ah×D7))(n:Ag)(zy:Ac (Ah×Ak))(x:Ah),(x,B1)∉names->(CO n names zy).lookup x=zy.lookup x
 |[],_,_,_,_=>rfl
 |(m,k)::r,n,zy,x,hx=>by
  unfold CO;have hr:(x,B1)∉r:=λz=>hx (AE _ z)
  by_cases hk:(k==B1)=Ab
  .rw[Au hk,P0 r _ _ x hr,Ct];cases q:x==m with
   |true=>exact absurd (by rw[eq_of_beq q,eq_of_beq hk];exact AY) hx
   |false=>rfl
  .rw[Ay hk];exact P0 r n zy x hr
theorem PF(n0:Ag):∀(names:Ac (Ah×D7))(n:Ag)(zy:Ac (Ah×Ak))(x:Ah),n0<=n->((x,B1)∈names\/∃ c,zy.lookup x=Aa c/\n0<=c)->∃ c,(CO n names zy).lookup x=Aa c/\n0<=c
 |[],_,_,_,_,h=>h.elim (λz=>nomatch z) id
 |(m,k)::r,n,zy,x,hn,h=>by
  unfold CO;by_cases hk:(k==B1)=Ab
  .rw[Au hk];refine PF n0 r _ _ x (by omega) ?_
   by_cases hx:(x==m)=Ab
   .exact .inr ⟨n,by rw[Ct,hx],hn⟩
   .rcases h with h|⟨c,h,hc⟩
    .rcases A6.mp h with z|z
     .cases z;simp at hx
     .exact .inl z
    .exact .inr ⟨c,by rw[Ct];simp only[hx];exact h,hc⟩
  .rw[Ay hk];refine PF n0 r _ _ x hn (h.imp (λh=>?_) id)
   rcases A6.mp h with z|z
   .cases z;simp at hk
   .exact z
theorem aH{M:Hv}{A:A4}{E:Vq}{globals:Ak}{qual:Ah}{Q:B7->Ar->Prop}(hQ:Q (newEnv scope s.heap.objs.size globals (CO (s.heap.objs.size+1) scope.names cl) qual Af .none (Aa env) Js) { s with heap:=HB (s.heap.push { cls:=.type "dict",data:=.dict #[] }) scope.names }):AA M A (Jl scope globals cl [] qual Af .none (Aa env)) Q E s:=by
 simp only[Jl,Option.isSome_some,EN];refine As (wpAny_alloc ?_);refine As (wpAny_layCells _ (λname kind cells=>by cases hkc:kind==B1<;>simp[hkc]) _ _ _ _ ?_)
 rw[show ({ s with heap:=s.heap.push { cls:=.type "dict",data:=.dict #[] } }:Ar).heap.objs.size=s.heap.objs.size+1 from D1 ..]
 rw[X2];exact As (A2 (A2 hQ))
noncomputable def yy(X:Cx)(scope:Cc)(cl:Ac (Ah×Ak))(C:Ak)(N':Ac Ah)(s₀:Ar)(H₀:Hp)(fp:Ac Ak):Cx where
 prog:=X.prog
 w:=X.w
 K:=X.K
 mg:=X.mg
 base:=X.base
 A:=X.A
 N:=N'
 s₀:=s₀
 H₀:=H₀
 env:=compEnvC scope cl C X.env
 outer:=X.stack
 stack:=X.stack
 ex:=fp
 fn:=λx=>scope.names.lookup x==Aa B1
 calm:=X.calm
 pn:=[]
 xe:=λ_ _=>AM
theorem NK{env:B7}:∀{names:Ac (Ah×D7)}{x:Ah}{k:D7},(names.map λ(n,k)=>if (k==DR&&env.scope.kind==.function&&env.kindOf n==Aa .cell) then (n,B1) else (n,k)).lookup x=Aa k->names.lookup x=Aa k\/(k=.cell/\names.lookup x=Aa .free)
 |[],_,_,h=>by simp at h
 |(n,j)::r,x,k,h=>by
  have ih:=@NK env r x k;have h':B0 x ((if (j==DR&&env.scope.kind==.function&&env.kindOf n==Aa .cell)=Ab then (n,B1) else (n,j))::(r.map λ(n,k)=>if (k==DR&&env.scope.kind==.function&&env.kindOf n==Aa .cell) then (n,B1) else (n,k)))=Aa k:=h
  by_cases hc:(j==DR&&env.scope.kind==.function&&env.kindOf n==Aa .cell)=Ab
  .rw[Au hc]at h';rw[Ct]at h' ⊢;cases hx:x==n with
   |true=>
    rw[hx]at h';cases h';simp only[Am]at hc;exact .inr ⟨rfl,by rw[eq_of_beq hc.1.1]⟩
   |false=>rw[hx]at h';exact ih h'
  .rw[Ay hc]at h';rw[Ct]at h' ⊢;cases hx:x==n with
   |true=>rw[hx]at h';exact .inl h'
   |false=>rw[hx]at h';exact ih h'
structure zt (X:Cx) (scope:Cc) (N':Ac Ah) (ts:Ac Ag):Prop where
 kind:scope.kind=.function
 uniq:∀ y∈scope.names,scope.names.lookup y.1=Aa y.2
 names:∀ y∈scope.names,y.2=.local->scope.names.lookup y.1=Aa .local
 free:∀ y∈scope.names,y.2=.free->X.env.scope.names.lookup y.1=Aa .cell\/X.env.scope.names.lookup y.1=Aa .free
 len:N'.length=X.N.length
 same:∀ i x,N'[i]?=Aa x->scope.names.lookup x=Aa .free->i∉ts->X.N[i]?=Aa x
 loc:∀ i x,N'[i]?=Aa x->(scope.names.lookup x=Aa .local\/scope.names.lookup x=Aa .cell)->i∈ts
structure qg (X:Cx) (scope:Cc) (cl:Ac (Ah×Ak)) (C:Ak) (h:AJ):Prop where
 own:∀ x c,cl.lookup x=Aa c->X.env.cells.lookup x=Aa c\/(scope.names.lookup x=Aa .cell/\C<c/\h.IsCell c Af)
 inj:∀ x y c,cl.lookup x=Aa c->cl.lookup y=Aa c->x=y
 has:∀ x,scope.names.lookup x=Aa .cell->∃ c,cl.lookup x=Aa c/\C<c
 fr:∀ x,(x,DR)∈scope.names->∃ c,cl.lookup x=Aa c/\X.env.cells.lookup x=Aa c
section
variable{X:Cx}{pI:Pn}{Y:L2.St}{H:Hp}{s:Ar}
noncomputable def hideT(ts:Ac Ag)(Y:L2.St):L2.St:=ts.foldl (λY t=>Y.set t Af) Y
theorem PQ:∀(ts:Ac Ag)(Y:L2.St),(hideT ts Y).length=Y.length
 |[],_=>rfl
 |t::ts,Y=>by show (hideT ts (Y.set t Af)).length=_;rw[PQ ts,AT]
theorem Tb:∀(ts:Ac Ag)(Y:L2.St){i:Ag}{v:V},(hideT ts Y)[i]?=Aa (Aa v)->Y[i]?=Aa (Aa v)/\i∉ts
 |[],_,_,_,h=>⟨h,by simp⟩
 |t::ts,Y,i,v,h=>by
  obtain⟨h1,h2⟩:=Tb ts (Y.set t Af) (i:=i) (v:=v) h;by_cases e:t=i
  .subst e;have:=Ee h1;cases this
  .rw[Bu e]at h1;exact⟨h1,by simp only[A6,NG];exact⟨λz=>e z.symm,h2⟩⟩
theorem aN{tk:Ag}{C:Ak}{m:Ah->Ao Al}(I:Z8 X pI Y H s)(B:zt X scope N' ts)(hf:∀ b∈fp,Jb X pI H b)(jx:∀ b∈fp,b<s.heap.objs.size)(hb:qg X scope cl C h')(hk:∀ b o,s.heap.get? b=Aa o->h'.get? b=Aa o)(hC:s.heap.objs.size<=C)(hn:h'.Ns C m):Z8 (yy X scope cl C N' s H fp) [] (hideT ts Y) H {s with heap:=h',toks:=tk}:=by
 have stf:∀ b∈fp,b∉yu X.stack:=λb hb z=>by
  rcases A6.mp (I.stkSub b z) with e|e
  .exact(hf b hb).2.1 e
  .exact(hf b hb).2.2.1 e
 have ó:∀ x,((relabel scope X.env).names.lookup x=Aa .cell\/(relabel scope X.env).names.lookup x=Aa .free)->scope.names.lookup x=Aa .free\/scope.names.lookup x=Aa .cell:=λx hx=>by
  rcases hx with z|z
  .rcases NK z with z|⟨_,z⟩
   .exact .inr z
   .exact .inl z
  .rcases NK z with z|⟨z,_⟩
   .exact .inl z
   .cases z
 have gtC:∀ c:Ak,C<c->s.heap.objs.size<=c:=λc z=>B9 hC (GR z)
 have cellK:∀ c v,s.heap.IsCell c v->h'.IsCell c v:=λc v ⟨o,ho,hd⟩=>⟨o,hk _ _ ho,hd⟩
 refine⟨⟨I.ok.mod,B.kind,I.ok.glob,I.ok.blt,hC,hb.inj,λx hx=>?_,λx c h e=>?_,I.ok.hd,I.ok.frames,.inl rfl,λb jw=>⟨?_,λx c e=>?_⟩,I.bs,B9 I.ok.bsz I.sz,λb o e jw=>?_,stf,I.stack,I.stkFree⟩,rfl,I.bare,Un.kept hk,⟨m,hn,λi x v h1 h2 h3=>?_⟩,λx c e=>?_,I.hok.fresh hC,λx c e=>(hb.own x c e).elim (I.freeC x c) (λz=>I.hok.fresh (gtC c z.2.1)),λp hp=>absurd (show p∈([]:Pn) from hp) (by simp),I.hok.kept hk,?_⟩
 .rcases ó x hx with z|z
  .obtain⟨c,q,_⟩:=hb.fr x (CK z);exact⟨c,q⟩
  .obtain⟨c,q,_⟩:=hb.has x z;exact⟨c,q⟩
 .obtain⟨c',q,z⟩:=hb.has x (eq_of_beq h);have e':cl.lookup x=Aa c:=e;rw[q]at e';cases e';exact gtC _ z
 .intro z;have z':b=C:=z;have:=jx b jw;rw[z']at this;exact absurd (AZ this hC) (BG _)
 .rcases hb.own x c e with z|z
  .exact(hf b jw).2.2.2.2.1 x c z
  .intro q;have:=jx b jw;have:=gtC c z.2.1;rw[q]at this;exact absurd ‹b<_› (Yp.mpr this)
 .rcases (hf b jw).2.2.2.1 with z|z
  .exact I.ok.noex b o e z
  .exact absurd (AZ (AS e) (B9 I.ok.bsz z)) (BG _)
 .obtain⟨h2,bn⟩:=Tb ts Y h2;have h3':(relabel scope X.env).names.lookup x=Aa .local\/(relabel scope X.env).names.lookup x=Aa .cell\/(relabel scope X.env).names.lookup x=Aa .free:=h3;have mq:N'[i]?=Aa x:=h1;rcases h3' with z|z
  .rcases NK z with z|⟨z,_⟩
   .exact absurd (B.loc i x mq (.inl z)) bn
   .cases z
  .have fr:=(ó x z).resolve_right λq=>bn (B.loc i x mq (.inr q))
   have hm:=CK fr;have hX:=B.same i x mq fr bn;obtain⟨m0,hn0,hl0⟩:=I.loc;obtain⟨u,ru,lk⟩:=hl0 i x v hX h2 (by
    rcases B.free _ hm rfl with q|q
    .exact .inr (.inl q)
    .exact .inr (.inr q))
   refine⟨u,ru,?_⟩;obtain⟨c,hc,gy⟩:=hb.fr x hm;rcases lk with ⟨q,_⟩|⟨_,c',qa,ux⟩
   .have q':X.env.scope.names.lookup x=Aa .local:=q;rcases B.free _ hm rfl with p|p
    .rw[show X.env.scope.names.lookup x=_ from p]at q';cases q'
    .rw[show X.env.scope.names.lookup x=_ from p]at q';cases q'
   .have e:=gy;rw[qa]at e;cases e;exact .inr ⟨z,c,hc,cellK _ _ ux⟩
 .rcases hb.own x c e with z|z
  .obtain⟨v,q⟩:=I.cell x c z;exact⟨v,cellK _ _ q⟩
  .exact⟨_,z.2.2⟩
 .show (hideT ts Y).length=N'.length;rw[PQ,I.len,B.len]
theorem Tk{C D:Ak}{s':Ar}{Y':L2.St}{KK:Pn}{xh:AJ}(I:Z8 X pI Y H s)(hf:∀ b∈fp,Jb X pI H b)(I':Z8 (yy X scope cl C N' s H fp) KK Y' H' s')(hD:s.heap.objs.size<=D)(ol:D≠C)(hC:s.heap.objs.size<=C)(hd:s'.heap.get? D=Aa { cls:=.type "list",data:=.seq ys.toArray n })(gw:H' D=Af)(rv:A1 xs ys)(hz:xs.length<=sizeLine)(hs:FK C s'.heap xh):Z8 X pI Y (upd H' D (.L xs)) {s' with heap:=xh}:=by
  have u:Un (yu X.stack) fp H H' s.heap s'.heap:=I'.base;have lt:∀ b o,s.heap.get? b=Aa o->b≠C/\b≠D:=λb o e=>⟨λz=>absurd (AZ (AS e) (z ▸ hC)) (BG _),λz=>absurd (AZ (AS e) (z ▸ hD)) (BG _)⟩
  have HD:H D=Af:=I.hok.fresh hD;have Â:H' C=Af:=I'.free;have kb:∀ b o,b≠C->s'.heap.get? b=Aa o->xh.get? b=Aa o:=λb o hb e=>(hs.2 b hb).trans e
  have u2:Un (yu X.stack) fp H (upd H' D (.L xs)) s.heap xh:=⟨λb o e q hb hx=>kb b o (lt b o e).1 (u.keep b o e q hb hx),λb o e q hb hx=>by
      obtain⟨sl,e1⟩:=u.slot b o e q hb hx;exact⟨sl,kb b _ (lt b o e).1 e1⟩,λb o e q hx=>by rw[AQ (lt b o e).2];exact u.free b o e q hx,λb o e hx=>by
      obtain⟨o',e1⟩:=u.there b o e hx;exact⟨o',kb b _ (lt b o e).1 e1⟩,λb zs q=>by rw[AQ (Et q HD)];exact u.tups b zs q,λb o zs q=>by rw[AQ (Et q HD)];exact u.frzs b o zs q,λb ps q=>by rw[AQ (Et q HD)];exact u.tbls b ps q⟩
  have hok:zd X.prog X.w (upd H' D (.L xs)) xh:=λb o e=>by
    by_cases hb:b=D
    · subst hb;rw[BO]at e;cases e;exact⟨hz,ys,n,rv,kb _ _ ol hd⟩
    · rw[AQ hb]at e;refine(I'.hok b o e).stay (λc v hc q=>kb c v ?_ q) (λc q=>by rw[AQ (Et q gw)];exact q) λc zs q=>by rw[AQ (Et q gw)];exact q
      rcases hc with rfl|hc
      · exact Et e Â
      · exact Et hc Â
  exact I.call' (s':={s' with heap:=xh}) (ch:=fp) I'.os u2 hok I'.bare λb hb=>⟨(hf b hb).2.2.2.1,(hf b hb).2.1,(hf b hb).2.2.2.2.1,(hf b hb).2.2.2.2.2⟩
end
def gb(X:Cx)(ifs:Ac Aq)(tt:TT):Prop:=∀(pI:Pn)(s:Ar)(Y:L2.St)(H:Hp)(Q:An->Hp->Prop),Z8 X pI Y H s->tt Y H Q ->
 AA (model X.prog X.w) X.A (forIn ifs Ab λc r=>if r=Ab then do let ok <-Jk c X.env (eval c X.env);pure (Eh ok) else pure (Eh r)) (TP X pI Y Q) X.xe s
theorem iP:gb X [] (λY H Q=>Q Ab H):=λpI s Y H Q I h=>wpAny_tests_nil ⟨H,I,h⟩
theorem iO{t:TT}(h:PT X c t):gb X [c] t:=λpI s Y H Q I q=>wpAny_tests_one (h pI s Y H Q I q)
theorem aZ{D:Ak}{y:Al}{E:Vq}{Q:Vq}(I:Z8 X ((D,{ cls:=.type "list",data:=.seq ys.toArray n })::pI) Y H s)(hD:X.s₀.heap.objs.size<=D)(hp:∀ p∈X.pn++pI,p.1≠D)(hc:∀ x c,X.env.cells.lookup x=Aa c->c≠D)(hz:ys.length<=sizeLine)(h:∀ s',Z8 X ((D,{ cls:=.type "list",data:=.seq (ys++[y]).toArray (n+1) })::pI) Y H s'->(∀ b o,b≠D->s.heap.get? b=Aa o->s'.heap.get? b=Aa o)->Q .none s'):AA (model X.prog X.w) X.A (call (.builtin "list.append") [.ref D,y]) Q E s:=by
 obtain⟨e,hn,hL,jy,_⟩:=I.pin (D,{ cls:=.type "list",data:=.seq ys.toArray n }) (Br _ AY);refine append_at (hsz:=by rw[AX];exact hz) e λh' hs hd=>?_
 have mv:h'.get? D=Aa { cls:=.type "list",data:=.seq (ys++[y]).toArray (n+1) }:=by rw[hd];simp
 have kb:∀ b o,b≠D->s.heap.get? b=Aa o->h'.get? b=Aa o:=λb o hb q=>(hs.2 b hb).trans q
 have I0:Z8 X pI Y H s:=I.pins_of λp hp=>I.pin p (Br _ (AE _ hp))
 have I1:Z8 X pI Y H {s with heap:=h'}:=I0.turned (t':=s.toks) kb hn hL (.inr hD) hc hp
 refine h _ (I1.pins_of λp hp=>?_) kb
 rcases A6.mp hp with rfl|hp
 .exact⟨mv,hn,hL,jy,λv z=>by
   have z':MB _ _=Mx v:=z;cases z'⟩
 .exact I1.pin p (Br _ hp)
section
variable{prog:AK}{w:AI}{A:A4}{R:Il->Ar->Prop}{s:Ar}
theorem aM{target:Aq}{it zy:Al}(I:Ag->Ar->Prop)(turn:∀ n s,I n s->AA (model prog w) A (MF it) (λr s₁=>match r with
      |none=>R (.ok .next) s₁
      | some v=>AA (model prog w) A (GW target it v) (λ_ s₁'=>AA (model prog w) A (assign target env v) (λ_ s₂=>
          AA (model prog w) A (forIn ifs Ab λc r=>if r=Ab then do let ok <-Jk c env (eval c env);pure (Eh ok) else pure (Eh r)) (λok s₃=>
            if ok=Ab then AA (model prog w) A (eval elt env) (λx s₄=>
              AA (model prog w) A (call (.builtin "list.append") [zy,x]) (λ_ s₅=>∃ m,m<n/\I m s₅) (Jm (model prog w) A env λe s'=>R (.error e) s') s₄) (Jm (model prog w) A env λe s'=>R (.error e) s') s₃
            else ∃ m,m<n/\I m s₃) (Jm (model prog w) A env λe s'=>R (.error e) s') s₂) (Jm (model prog w) A env λe s'=>R (.error e) s') s₁') (Jm (model prog w) A env λe s'=>R (.error e) s') s₁) (Jm (model prog w) A env λe s'=>R (.error e) s') s)(n:Ag)(h:I n s):EF (model prog w) A (.compLoop (.ListComp elt [⟨target,iter,ifs,0⟩] scope pos) 0 it zy env) R s:=by
  refine codeAny_loop rfl I (λn s hI=>?_) n h
  show AA _ A ((compTurn (.ListComp elt [⟨target,iter,ifs,0⟩] scope pos) 0 it zy env).onRaise (λx=>do FN x env;theTreesLotGoes x)) _ _ s
  refine wpAny_noted ?_;rw[compTurn_list];refine As (CU (As (Bj (turn n s hI) (λr s₁ h₁=>?_) λ_ _ h'=>h')))
  cases r with
  |none=>exact A2 h₁
  |some v=>
    refine As (Bj h₁ (λ_ s₁' h₁'=>?_) λ_ _ h'=>h')
    refine As (Bj h₁' (λ_ s₂ h₂=>As (Bj h₂ (λok s₃ h₃=>?_) λ_ _ h'=>h')) λ_ _ h'=>h')
    cases ok with
    |false=>exact A2 ⟨rfl,h₃⟩
    |true=>
      exact As (As (Bj h₃ (λx s₄ h₄=>As (Bj h₄ (λ_ s₅ h₅=>A2 (A2 ⟨rfl,h₅⟩)) λ_ _ h'=>h')) λ_ _ h'=>h'))
end
def MP(J:It)(ts:Ac Ag)(g:TG)(tt:TT)(te:TE)(Y:L2.St)(H:Hp)(Q:VK):Prop:=∃ W:Ag->Ag->Ac V->L2.St->Hp->Prop,(∃ m,W 0 m [] (hideT ts Y) H)/\∀ i m xs Y H,W i m xs Y H ->
 (J.stop i H/\∀ p,H p=Af->Q (.ref p) (upd H p (.L xs))) \/
 (J.go i H/\xs.length<sizeLine/\∀ x H',J.yld i H x H'->g x Y H' λY2 H2=>tt Y2 H2 λb H3=>if b=Ab then te Y2 H3 λy H4=>∃ m',m'<m/\W (i+1) m' (xs++[y]) Y2 H4 else ∃ m',m'<m/\W (i+1) m' xs Y2 H3)
theorem Ur{g:TG}{it:Ak}{tn:Ag->AJ->Prop}{E:Vq}{RR:Al->Ak->Il->Ar->Prop}(hc:X.calm=Ab)(B:zt X scope N' ts)(I:Z8 X pI Y H s)(T:qm X.prog X.w X.K tg J fp it tn)(st:tn 0 s.heap)(hf:∀ b∈fp,Jb X pI H b)(xz:∀ x c,cl.lookup x=Aa c->X.env.cells.lookup x=Aa c)(qs:∀ x,(x,DR)∈scope.names->∃ c,cl.lookup x=Aa c)(hg:∀ cl C s H,PG (yy X scope cl C N' s H fp) tg g)(ht:∀ cl C s H,gb (yy X scope cl C N' s H fp) ifs tt)(he:∀ cl C s H,PE (yy X scope cl C N' s H fp) elt te)(h:MP J ts g tt te Y H Q)(hRR:∀ cl D C s' H' Y' KK xs ys n m,Z8 (yy X scope cl C N' s H fp) KK Y' H' s'->s'.heap.get? D=Aa { cls:=.type "list",data:=.seq (FE ys) n }->H' D=Af->A1 xs ys->xs.length<=sizeLine->s.heap.objs.size<=D->D≠C->s.heap.objs.size<=C->s'.heap.Ns C m->Q (.ref D) (upd H' D (.L xs))->RR (.ref D) C (.ok .next) s'):AA (model X.prog X.w) X.A (newList []) (λzy s₃=>AA (model X.prog X.w) X.A (Jl scope X.env.globals cl [] X.env.qual Af .none (Aa X.env)) (λï s₄=>EF (model X.prog X.w) X.A (.compStart (.ListComp elt [⟨tg,iter,ifs,0⟩] scope pos) 0 (.ref it) zy {ï with scope:=relabel scope X.env}) (RR zy ï.locals) s₄) E s₃) E s:=by
 refine DV (aH ?_);dsimp only;generalize hH2:s.heap.push { cls:=.type "list",dict:=Af,data:=.seq ([]:Ac Al).toArray }=H2;have ax:(HB (H2.push { cls:=.type "dict",data:=.dict #[] }) scope.names).Ns H2.objs.size (λ_=>Af):=(Heap.Ns.new H2 (.type "dict")).keeps (IJ _ _)
 have ke:∀ b o,H2.get? b=Aa o->(HB (H2.push { cls:=.type "dict",data:=.dict #[] }) scope.names).get? b=Aa o:=λb o e=>IJ _ _ b o (AB _ e)
 have oq:=PC scope.names (H2.push { cls:=.type "dict",data:=.dict #[] }) cl;have j4:=PD scope.names (H2.push { cls:=.type "dict",data:=.dict #[] }) cl;rw[D1]at oq j4;generalize hcl':CO (H2.objs.size+1) scope.names cl=xg at oq j4;have hcf:∀ x,(x,B1)∉scope.names->xg.lookup x=cl.lookup x:=λx hx=>by rw[<-hcl'];exact P0 _ _ _ x hx
 have t4:∀ x,(x,B1)∈scope.names->∃ c,xg.lookup x=Aa c/\H2.objs.size+1<=c:=λx hx=>by rw[<-hcl'];exact PF _ _ _ _ x (AU _) (.inl hx)
 generalize hh₁:HB (H2.push { cls:=.type "dict",data:=.dict #[] }) scope.names=h₁ at ax ke oq;have hC:H2.objs.size=s.heap.objs.size+1:=by rw[<-hH2,D1]
 have qr:s.heap.objs.size<=H2.objs.size:=by rw[hC];exact K4 _
 have ol:s.heap.objs.size≠H2.objs.size:=by rw[hC];exact BB (Gq _)
 have below:∀ b,b<s.heap.objs.size->b≠H2.objs.size:=λb hb=>by rw[hC];exact BB (HU hb)
 have old:∀ b o,s.heap.get? b=Aa o->h₁.get? b=Aa o:=λb o e=>ke b o (hH2 ▸ AB _ e)
 have hacc:h₁.get? s.heap.objs.size=Aa { cls:=.type "list",data:=.seq ([]:Ac Al).toArray 0 }:=ke _ _ (hH2 ▸ Bp _ rfl);have clt:∀ x c,cl.lookup x=Aa c->c<s.heap.objs.size:=λx c e=>by
  obtain⟨v,q⟩:=I.cell x c (xz x c e);exact q.lt
 have bc:qg X scope xg H2.objs.size h₁:=by
  refine⟨λx c e=>?_,j4 (λx y c e1 e2=>I.ok.inj x y c (xz x c e1) (xz y c e2)) (λx c e=>HU (AZ (clt x c e) qr)),λx hx=>?_,λx hx=>?_⟩
  .rcases oq x c e with q|⟨q1,q2,q3⟩
   .exact .inl (xz x c q)
   .exact .inr ⟨B.uniq _ q1,q2,q3⟩
  .have hm:=CK hx;obtain⟨c,e,hc⟩:=t4 x hm;exact⟨c,e,hc⟩
  .have hno:(x,B1)∉scope.names:=λz=>by
    have e1:=B.uniq _ hx;have e2:=B.uniq _ z;rw[show scope.names.lookup x=_ from e1]at e2
    cases e2
   obtain⟨c,e⟩:=qs x hx;exact⟨c,by rw[hcf x hno];exact e,xz x c e⟩
 have jx:∀ b∈fp,b<s.heap.objs.size:=λb hb=>by
  obtain⟨o,e,_⟩:=T.obj 0 _ st b hb;exact AS e
 generalize hD:s.heap.objs.size=D,hC':H2.objs.size=C at *;have I0:Z8 (yy X scope xg C N' s H fp) [] (hideT ts Y) H {s with heap:=h₁,toks:=s.toks+([]:Ac (Ah×Al)).length}:=aN (tk:=s.toks+([]:Ac (Ah×Al)).length) I B hf (λb hb=>by rw[hD];exact jx b hb) bc old (by rw[hD];exact qr) ax
 have nD:H D=Af:=I.hok.fresh (by rw[hD];exact AU _)
 have noD:∀ b∈fp,b≠D:=λb hb=>BB (jx b hb)
 have noC:∀ b∈fp,b≠C:=λb hb=>below b (jx b hb)
 have stfs:D∉yu X.stack:=λz=>by
  obtain⟨_,o,ho,_⟩:=I.stack.mem z;exact absurd (AS ho) (by rw[hD];exact BG _)
 have cD:∀ x c,xg.lookup x=Aa c->c≠D:=λx c e z=>by
  rcases bc.own x c e with q|⟨_,q,_⟩
  .obtain⟨v,q⟩:=I.cell x c q;exact absurd q.lt (by rw[z,hD];exact BG _)
  .rw[z]at q;exact absurd (AZ q qr) (BG _)
 have I1:Z8 (yy X scope xg C N' s H fp) [(D,{ cls:=.type "list",data:=.seq ([]:Ac Al).toArray 0 })] (hideT ts Y) H {s with heap:=h₁,toks:=s.toks+([]:Ac (Ah×Al)).length}:=I0.pins_of λp hp=>by
  have e:=BX.mp hp;subst e;exact⟨hacc,nD,ol,stfs,λv z=>by
   have z':MB _ _=Mx v:=z;cases z'⟩
 have st1:tn 0 h₁:=T.keep _ _ _ st λb _ o e=>old b o e
 obtain⟨W,⟨m0,w0⟩,turn⟩:=h;have fpk:∀{pl:Pn}{H':Hp},(∀ p∈pl,p.1=D)->(∀ b∈fp,H' b=Af)->∀ b∈fp,Jb (yy X scope xg C N' s H fp) pl H' b:=λ{pl H'} hp hn b hb=>
  ⟨hn b hb,noC b hb,λz=>by
   rcases A6.mp (I.stkSub b z) with e|e
   .exact(hf b hb).2.1 e
   .exact(hf b hb).2.2.1 e,.inl hb,λx c e=>(bc.own x c e).elim ((hf b hb).2.2.2.2.1 x c) (λz q=>absurd (FG qr z.2.1) (Yp.mpr (by rw[q];exact GR (jx b hb)))),λp Ç=>by
   have zZ:p∈pl:=Ç;rw[hp p zZ];exact(noD b hb).symm⟩
 have loop:∀ s₃:Ar,s₃={s with heap:=h₁,toks:=s.toks+([]:Ac (Ah×Al)).length} ->
   EF (model X.prog X.w) X.A (.compLoop (.ListComp elt [⟨tg,iter,ifs,0⟩] scope pos) 0 (.ref it) (.ref D) (compEnvC scope xg C X.env)) (RR (.ref D) C) s₃:=by
  rintro s₃ rfl;refine aM (λk s'=>∃ i Y' H' xs ys n,Z8 (yy X scope xg C N' s H fp) [(D,{ cls:=.type "list",data:=.seq (FE ys) n })] Y' H' s'/\tn i s'.heap/\(∀ b∈fp,H' b=Af)/\A1 xs ys/\xs.length<=sizeLine/\W i k xs Y' H') ?_ m0
   ⟨0,_,H,[],[],0,I1,st1,λb hb=>(hf b hb).1,.nil,Dt _,w0⟩
  rintro k s' ⟨i,Y',H',xs,ys,n,I',sk,fr',rv,hz,w'⟩;have one:∀ p∈[((D,{ cls:=.type "list",data:=.seq (FE ys) n }):Ak×CZ)],p.1=D:=λp hp=>by rw[BX.mp hp]
  rcases turn i k xs Y' H' w' with ⟨stop,q⟩|⟨go,yh,step⟩
  .refine Bj (T.done (yy X scope xg C N' s H fp) rfl rfl rfl hc i _ s' Y' H' (λ_ _=>AM) I' (fpk one fr') sk stop) (λr s1 ⟨hr,J1⟩=>?_) λ_ _ f=>f.elim
   subst hr;obtain⟨e,hn,_⟩:=J1.pin _ (Br _ AY);obtain⟨m,hm,_⟩:=J1.loc;exact hRR xg D C s1 H' Y' _ xs ys n m J1 e hn rv hz (AU _) ol qr hm (q D hn)
  .refine Bj (T.item (yy X scope xg C N' s H fp) rfl rfl rfl hc i _ s' Y' H' (λ_ _=>AM) I' (fpk one fr') sk go) (λr s1 ⟨u,hr,h4⟩=>?_) λ_ _ f=>f.elim
   subst hr;refine Bj h4 (λ_ s5 ⟨x,H5,I5,r5,y5,lb,fr5⟩=>?_) λ_ _ f=>f.elim
   have fj:=I5.pinned (fpk one fr5) (T.obj _ _ lb);refine Bj (hg xg C s H _ s5 Y' H5 x u _ fj r5 (step x H5 y5)) (λ_ s6 ⟨Y6,H6,I6,q6⟩=>?_) λ_ _ f=>f.elim
   refine Bj (ht xg C s H _ s6 Y6 H6 _ I6 q6) (λok s7 ⟨H7,I7,q7⟩=>?_) λ_ _ f=>f.elim
   have again:∀{s8:Ar}{H8:Hp}{ys':Ac Al}{n':Ag},Z8 (yy X scope xg C N' s H fp) ((D,{ cls:=.type "list",data:=.seq (FE ys') n' })::Le fp s5.heap) Y6 H8 s8->Z8 (yy X scope xg C N' s H fp) [(D,{ cls:=.type "list",data:=.seq (FE ys') n' })] Y6 H8 s8/\tn (i+1) s8.heap/\∀ b∈fp,H8 b=Af:=λ{s8 H8 ys' n'} I8=>
    ⟨I8.pins_of λp hp=>I8.pin p (Br _ (by rw[BX.mp hp];exact AY)),T.keep _ _ _ lb λb hb o e=>(I8.pin (b,o) (Br _ (AE _ (NR hb e)))).1,λb hb=>by
     obtain⟨o,e,d⟩:=T.obj _ _ lb b hb;exact(I8.pin (b,o) (Br _ (AE _ (NR hb e)))).2.1⟩
   cases ok with
   |false=>
    rw[Ay (by decide)]at q7
    obtain⟨m',hm,w7⟩:=q7;obtain⟨a1,a2,a3⟩:=again I7;rw[Ay (by decide)]
    exact⟨m',hm,i+1,Y6,H7,xs,ys,n,a1,a2,a3,rv,hz,w7⟩
   |true=>
    rw[Au rfl]at q7;rw[Au rfl];refine Bj (he xg C s H _ s7 Y6 H7 _ I7 q7) (λval s8 ⟨y,H8,I8,r8,m',hm,w8⟩=>?_) λ_ _ f=>f.elim
    have hl:=rv.length;refine aZ (X:=yy X scope xg C N' s H fp) (ys:=ys) (n:=n) (pI:=Le fp s5.heap) I8 (by show s.heap.objs.size<=D;rw[hD];exact AU _) (λp hp=>?_) cD (by omega) λs9 I9 kb=>?_
    .have zZ:p∈Le fp s5.heap:=hp;exact noD _ (TC zZ).1
    .obtain⟨a1,a2,a3⟩:=again I9;exact⟨m',hm,i+1,Y6,H8,xs++[y],ys++[val],n+1,a1,a2,a3,rv.append (.cons r8 .nil),by rw[BW];exact yh,w8⟩
 exact codeAny_compStart_list (loop _ rfl) (T.self _ 0 _ _ _ st1 (loop _ rfl))
theorem kW{g:TG}(hc:X.calm=Ab)(B:zt X scope N' ts)(hi:PI X tg iter wi)(hg:∀ cl C s H fp,PG (yy X scope cl C N' s H fp) tg g)(ht:∀ cl C s H fp,gb (yy X scope cl C N' s H fp) ifs tt)(he:∀ cl C s H fp,PE (yy X scope cl C N' s H fp) elt te)(hs:∀ x,Da iter X.env x=pure x):PE X (.ListComp elt [⟨tg,iter,ifs,0⟩] scope pos) (λY H Q=>wi Y H λJ H1=>MP J ts g tt te Y H1 Q):=by
 intro pI s Y H Q I h;obtain⟨cl,qt,xz,qs⟩:=SG (scope:=scope) (env:=X.env) λx hx hk=>I.ok.has x.1 ((B.free x hx hk).imp id id)
 rw[eval_ListComp];refine Z_2 (use:=Af) rfl hs qt B.kind B.names (U0 (hi pI s Y H _ I h) λv s1 h1=>U0 h1 λÉ s2 h2=>?_)
 obtain⟨it,fp,tn,J,H2,e,I2,T,st2,f2,h3⟩:=h2;subst e;refine Ur (RR:=λzy C=>compPost (model X.prog X.w) X.A X.xe Af (EP X pI Y Q) zy C) hc B I2 T st2 f2 xz qs (λcl C s H=>hg cl C s H fp) (λcl C s H=>ht cl C s H fp) (λcl C s H=>he cl C s H fp) h3 λxg D C s' H' Y' KK xs ys n m I' hd gw rv hz hD ol hC hm q=>?_
 exact⟨m,hm,λxh kj=>⟨.ref D,_,Tk I2 f2 I' hD ol hC hd gw rv hz kj,rfl,q⟩⟩
theorem iT{n:Ah}{g:TG}(hc:X.calm=Ab)(B:zt X scope N' ts)(hi:PI X tg iter wi)(hg:∀ cl C s H fp,PG (yy X scope cl C N' s H fp) tg g)(ht:∀ cl C s H fp,gb (yy X scope cl C N' s H fp) ifs tt)(he:∀ cl C s H fp,PE (yy X scope cl C N' s H fp) elt te)(hs:∀ x,Da iter X.env x=pure x)(hN:X.N.Nodup)(re:X.N[i]?=Aa n)(hx:X.env.scope.names.lookup n=Aa .local)(bh:Dr (.ListComp elt [⟨tg,iter,ifs,0⟩] scope pos) (Aa (.Name n pos')) pos2.line X.env=pure Ab):PS X (.Assign [.Name n pos'] (.ListComp elt [⟨tg,iter,ifs,0⟩] scope pos) pos2) (O9 (λY H Q=>wi Y H λJ H1=>MP J ts g tt te Y H1 Q) (G6 i)):=by
 intro pI s Y H Dn I h;obtain⟨cl,qt,xz,qs⟩:=SG (scope:=scope) (env:=X.env) λx hx hk=>I.ok.has x.1 ((B.free x hx hk).imp id id)
 rw[exec_Assign_Name_used _ _ _ _ bh];refine As (CU (As ?_));show AA _ X.A (do let _ <-comprehension (.ListComp elt [⟨tg,iter,ifs,0⟩] scope pos) scope X.env _ (newList []) Ae (eval iter X.env) (Aa (assign (.Name n pos') X.env))) _ _ s
 refine As (Bj (Z_2 (use:=Aa (assign (.Name n pos') X.env)) (Q:=λ_ s'=>SP X pI Dn .next s') rfl hs qt B.kind B.names
  (U0 (hi pI s Y H _ I h) λv s1 h1=>U0 h1 λÉ s2 h2=>?_)) (λ_ s' hq=>A2 (A2 hq)) λ_ _ e=>e)
 obtain⟨it,fp,tn,J,H2,e,I2,T,st2,f2,h3⟩:=h2;subst e;refine Ur (RR:=λzy C=>compPost (model X.prog X.w) X.A X.xe (Aa (assign (.Name n pos') X.env)) (λ_ s'=>SP X pI Dn .next s') zy C) hc B I2 T st2 f2 xz qs (λcl C s H=>hg cl C s H fp) (λcl C s H=>ht cl C s H fp) (λcl C s H=>he cl C s H fp) h3 λxg D C s' H' Y' KK xs ys n' m I' hd gw rv hz hD ol hC hm q=>?_
 have J0:Z8 X pI Y (upd H' D (.L xs)) s':=Tk I2 f2 I' hD ol hC hd gw rv hz (Zh ..);refine Z_1 (Tt J0 hN re (.inl hx) (show Bt (.ref D) (.ref D) from rfl) (λcw J1 ⟨a,sb,ha⟩=>?_) (.inr hx))
 have hC0:X.s₀.heap.objs.size<=C:=B9 I2.sz hC;have hL:C≠X.env.locals:=λz=>absurd (AZ I2.lt (z ▸ hC)) (BG _)
 have hcC:∀ x c,X.env.cells.lookup x=Aa c->c≠C:=λx c e z=>by
  obtain⟨v,q'⟩:=I2.cell x c e;exact absurd (AZ q'.lt (by rw[z];exact hC)) (BG _)
 have hp:∀ p∈X.pn++pI,p.1≠C:=λp hp z=>absurd (AZ (AS (I2.pin p hp).1) (by rw[z];exact hC)) (BG _)
 have Â:upd H' D (.L xs) C=Af:=by rw[AQ ol.symm];exact I'.free
 have hCa:C≠a:=by
  rcases ha with rfl|ha
  .exact hL
  .exact λz=>hcC n a ha z.symm
 refine⟨m,hm.sameBut sb hCa,λxh kj=>⟨_,_,J1.turned (t':=cw.toks) (λb o hb e=>(kj.2 b hb).trans e) Â hL (.inr hC0) hcC hp,q⟩⟩
theorem PU:∀(ts:Ac Ag)(U:Rho)(j:Ag),(G5 ts U)[j]?=if j∈ts then (U[j]?).map (λ_=>Af) else U[j]?
 |[],U,j=>by simp[G5]
 |t::ts,U,j=>by
  show (G5 ts (U.set t Af))[j]?=_;rw[PU ts];by_cases h1:j∈ts
  .rw[Au h1,Au (AE _ h1)];by_cases h2:t=j
   .subst h2;rw[F3];cases U[t]?<;>rfl
   .rw[Bu h2]
  .rw[Ay h1];by_cases h2:t=j
   .subst h2;rw[Au AY,F3];cases U[t]?<;>rfl
   .rw[Bu h2,Ay (by simp only[A6,NG];exact⟨λz=>h2 z.symm,h1⟩)]
theorem PR:∀(ts:Ac Ag)(U:Rho),(G5 ts U).length=U.length
 |[],_=>rfl
 |t::ts,U=>by show (G5 ts (U.set t Af)).length=_;rw[PR ts,AT]
theorem PY:∀(ts:Ac Ag)(Y:L2.St){i:Ag},i∉ts->(hideT ts Y)[i]?=Y[i]?
 |[],_,_,_=>rfl
 |t::ts,Y,i,h=>by
  simp only[A6,NG]at h;show (hideT ts (Y.set t Af))[i]?=_;rw[PY ts _ h.2,Bu (λz=>h.1 z.symm)]
section
variable{K:Fg}{CL:ClA}{A:Ak->Prop}{U U':Rho}{Y:L2.St}{H:Hp}
theorem Y9.less(g:Y9 K CL A U Y H)(hl:U'.length=U.length)(h:∀(i:Ag)(d:D)(o:An),U'[i]?=Aa (Aa (d,o))->U[i]?=Aa (Aa (d,o))):Y9 K CL A U' Y H:=⟨λi d e=>g.sh i d (h i d Ae e),λi d e hn=>g.ow i d (h i d Ab e) hn,hl.trans g.len⟩
theorem Y9.put(g:Y9 K CL A U Y H)(t:Ag)(r:Z7 K CL H A v d):Y9 K CL A (U.set t (Aa (d,Ae))) (Y.set t (Aa v)) H:=by
 refine⟨λj e h=>?_,λj e h hn=>?_,by rw[AT,AT];exact g.len⟩
 .by_cases hj:t=j
  .subst hj;have e1:=Ee h;cases e1;have hl:t<Y.length:=by
    rw[<-g.len];have:=(A5.mp h).1;simpa using this
   exact⟨v,by rw[By hl],r⟩
  .rw[Bu hj]at h;obtain⟨w',q,w6⟩:=g.sh j e h;exact⟨w',by rw[Bu hj];exact q,w6⟩
 .have hj:t≠j:=by
   rintro rfl;have:=Ee h;cases this
  rw[Bu hj]at h;obtain⟨a,xs,ds,q,z⟩:=g.ow j e h hn;exact⟨a,xs,ds,by rw[Bu hj];exact q,z⟩
theorem Y9.hide(g:Y9 K CL A U Y H)(ts:Ac Ag):Y9 K CL A (G5 ts U) Y H:=g.less (PR _ _) λi d o e=>by
 rw[PU]at e;split at e
 .cases q:U[i]? with
  |none=>rw[q]at e;cases e
  |some x=>rw[q]at e;cases e
 .exact e
theorem Y9.hideT(g:Y9 K CL A U Y H)(ts:Ac Ag):Y9 K CL A (G5 ts U) (hideT ts Y) H:=by
 have key:∀ i x,(G5 ts U)[i]?=Aa (Aa x)->U[i]?=Aa (Aa x)/\i∉ts:=λi x e=>by
  rw[PU]at e;split at e
  .cases q:U[i]? with
   |none=>rw[q]at e;cases e
   |some x=>rw[q]at e;cases e
  .exact⟨e,by assumption⟩
 refine⟨λi d e=>?_,λi d e hn=>?_,by rw[PR,PQ];exact g.len⟩
 .obtain⟨e1,e2⟩:=key i _ e;obtain⟨v,q,r⟩:=g.sh i d e1;exact⟨v,by rw[PY _ _ e2];exact q,r⟩
 .obtain⟨e1,e2⟩:=key i _ e;obtain⟨a,xs,ds,q,r⟩:=g.ow i d e1 hn;exact⟨a,xs,ds,by rw[PY _ _ e2];exact q,r⟩
end
def GG(K:Fg)(CL:ClA)(ts:Ac Ag)(as:D->Rho->R Rho)(g:TG):Prop:=∀ A U Y H v d U' Q,Y9 K CL A (G5 ts U) Y H->Z7 K CL H A v d->as d U=.ok U'->(∀ Y',Y9 K CL A U' Y' H->Y9 K CL A (G5 ts U) Y' H->Q Y' H)->g v Y H Q
theorem kU(i:Ag):GG K CL [i] (λd U=>.ok (U.set i (Aa (d,Ae)))) (G6 i):=λA U Y H v d U' Q g r e k=>by
 cases e;have g2:=g.put i r;have e1:(G5 [i] U).set i (Aa (d,Ae))=U.set i (Aa (d,Ae)):=by
  show (U.set i Af).set i (Aa (d,Ae))=_;rw[Yk]
 rw[e1]at g2;refine k _ g2 ?_;have:=g2.hide [i];have e2:G5 [i] (U.set i (Aa (d,Ae)))=G5 [i] U:=by
  show (U.set i _).set i Af=U.set i Af;rw[Yk]
 rwa [e2]at this
noncomputable abbrev W0:XW:=λ_ _=>AM
def jh(X:Cx)(CL:ClA)(ifs:Ac Aq)(f:Rho->R An):Prop:=∀ A,gb X ifs (λY H Q=>My H A/\∃ U,Y9 X.K CL A U Y H/\CS W0 H (f U) Q)
theorem iZ:jh X CL [] (λ_=>.ok Ab):=λA pI s Y H Q I ⟨hA,U,g,p⟩=>iP pI s Y H Q I (p H (Az.refl H))
theorem iY{f:Rho->R An}(h:SB X CL W0 c f):jh X CL [c] f:=λA pI s Y H Q I q=>iO (h A) pI s Y H Q I q
section
variable{X:Cx}{CL:ClA}{W:XW}{tg iter elt:Aq}{ifs:Ac Aq}{scope:Cc}{pos:AF}{N':Ac Ah}{ts:Ac Ag}{fi:Rho->R (Ac D)}{fc:Rho->R An}{fe:Rho->R D}{as:D->Rho->R Rho}{g:TG}
theorem aF{g:D->R An}{f:D->R D}{x:D}{xs ys:Ac D}(h:Cr g f (x::xs)=.ok ys):(g x=.ok Ae/\Cr g f xs=.ok ys)\/∃ y r,g x=.ok Ab/\f x=.ok y/\Cr g f xs=.ok r/\ys=y::r:=by
 unfold Cr at h;cases e:g x with
 |bad=>rw[e]at h;cases h
 |exn z=>rw[e]at h;cases h
 |ok b=>
  rw[e,R.bind_ok]at h;cases b with
  |false=>exact .inl ⟨rfl,h⟩
  |true=>
   rw[Au rfl]at h;cases e2:f x with
   |bad=>rw[e2]at h;cases h
   |exn z=>rw[e2]at h;cases h
   |ok y=>
    rw[e2,R.bind_ok]at h;cases e3:Cr g f xs with
    |bad=>rw[e3]at h;cases h
    |exn z=>rw[e3]at h;cases h
    |ok r=>
     rw[e3,R.bind_ok]at h;cases h;exact .inr ⟨y,r,rfl,rfl,rfl,rfl⟩
theorem K6{β:Type}{r:R α}{f:α->R β}{b:β}(h:r.bind f=.ok b):∃ a,r=.ok a/\f a=.ok b:=by
 cases r with
 |ok a=>exact⟨a,rfl,h⟩
 |exn x=>cases h
 |bad=>cases h
theorem cM{ds ys:Ac D}(tz:GG K CL ts as g)(hA:My H1 A)(gd:Y9 K CL A U Y H1)(yl:LD K CL A ds J H1)(hz:ds.length<=sizeLine)(hcp:Cr (λx=>(as x U).bind fc) (λx=>(as x U).bind fe) ds=.ok ys)(q:∀ xs H2,Az H1 H2->Z9 K CL H2 A xs ys->∀ p,H2 p=Af->Q (.ref p) (upd H2 p (.L xs))):MP J ts g (λY H Q=>My H A/\∃ U,Y9 K CL A U Y H/\CS W0 H (fc U) Q) (λY H Q=>My H A/\∃ U,Y9 K CL A U Y H/\AW (λH=>Z7 K CL H A) W0 H (fe U) Q) Y H1 Q:=by
 refine⟨λi m xs Y' H'=>m=ds.length-i/\i<=ds.length/\xs.length<=i/\Az H1 H'/\Y9 K CL A (G5 ts U) Y' H'/\∃ outs rest,Z9 K CL H' A xs outs/\Cr (λx=>(as x U).bind fc) (λx=>(as x U).bind fe) (ds.drop i)=.ok rest/\ys=outs++rest,
  ⟨ds.length,by simp,Dt _,AU _,Az.refl _,gd.hideT ts,[],ys,trivial,hcp,rfl⟩,?_⟩
 rintro i m xs Y' H' ⟨rfl,hi,hxl,sm,g',outs,rest,rs,hc,e⟩;obtain⟨yst,ygo⟩:=yl H' (Kp.of sm) i;by_cases yh:i<ds.length
 .have hd:ds[i]?=Aa ds[i]:=Cz yh;obtain⟨hgo,hyl⟩:=ygo _ hd;refine .inr ⟨hgo,by omega,λx H2 hx=>?_⟩
  obtain⟨s2,rx⟩:=hyl x H2 hx;have i8:=rx A (λa ha=>.inl ha) (hA.same sm)
  rw[DW yh]at hc;have zb:=sm.trans s2;rcases aF hc with ⟨h1,h2⟩|⟨y,r,h1,h2,h3,h4⟩
  .obtain⟨U',ea,ec⟩:=K6 h1;refine tz A U Y' H2 x ds[i] U' _ (g'.same s2) i8 ea λY3 g3 g4=>⟨hA.same zb,U',g3,?_⟩
   rw[ec];exact λH3 s3=>by
    dsimp only;rw[Ay (by decide)]
    exact⟨ds.length-(i+1),by omega,rfl,yh,by omega,zb.trans s3,g4.same s3,outs,rest,(rs.same s2).same s3,h2,e⟩
  .obtain⟨U',ea,ec⟩:=K6 h1;obtain⟨U2,ea2,ee⟩:=K6 h2;rw[ea]at ea2;cases ea2;refine tz A U Y' H2 x ds[i] U' _ (g'.same s2) i8 ea λY3 g3 g4=>⟨hA.same zb,U',g3,?_⟩
   rw[ec];exact λH3 s3=>by
    dsimp only;rw[Au rfl];refine⟨(hA.same zb).same s3,U',g3.same s3,?_⟩;rw[ee];exact λv H4 s4 r4=>⟨ds.length-(i+1),by omega,rfl,yh,by rw[BW,Yc];omega,(zb.trans s3).trans s4,(g4.same s3).same s4,outs++[y],r,(((rs.same s2).same s3).same s4).append ⟨r4,trivial⟩,h3,by rw[e,h4];simp⟩
 .have vy:ds.length<=i:=by omega
  rw[Ge vy]at hc;have hr:rest=[]:=by cases hc;rfl
  subst hr;rw[BA]at e;subst e;exact .inl ⟨yst vy,λp hp=>q xs H' sm rs p hp⟩
theorem Gb.ok_of{r:R (Ac D)}{f:Ac D->R D}{Q':It->Hp->Prop}(h:AW Rq W H (r.bind f) Q)(k:∀ ds J H',r=.ok ds->Az H H'->LD K CL A ds J H'->ds.length<=sizeLine->AW Rq W H' (f ds) Q->Q' J H'):Gb K CL A W H r Q':=by
 cases r with
 |ok d=>exact λJ H2 s2 y z=>k d J H2 rfl s2 y z (AW.same s2 h)
 |exn x=>exact h
 |bad=>exact h
theorem pM{r:R α}{a:α}(h:zn r=.ok a):r=.ok a:=by
 cases r with
 |ok b=>exact h
 |exn x=>cases h
 |bad=>cases h
theorem Tj(tz:GG X.K CL ts as g)(hA:My H A)(gd:Y9 X.K CL A U Y H)(p:AW (Cw X.K CL Ab H A) W H ((fi U).bind λxs=>(zn (Cr (λx=>(as x U).bind fc) (λx=>(as x U).bind fe) xs)).bind λys=>.ok (.L ys)) Q):Gb X.K CL A W H (fi U) (λJ H1=>MP J ts g (λY H Q=>My H A/\∃ U,Y9 X.K CL A U Y H/\CS W0 H (fc U) Q) (λY H Q=>My H A/\∃ U,Y9 X.K CL A U Y H/\AW (λH=>Z7 X.K CL H A) W0 H (fe U) Q) Y H1 Q):=
 Gb.ok_of p λds J H1 e1 s1 yl hz p1=>by
  cases e2:zn (Cr (λx=>(as x U).bind fc) (λx=>(as x U).bind fe) ds) with
  |ok ys=>
   rw[e2]at p1;exact cM tz (hA.same s1) (gd.same s1) yl hz (pM e2) λxs H2 s2 rs q hq=>p1 _ _ (s2.trans (EZ hq _)) (K7 (s1.trans s2) ((hA.same s1).same s2) hq rs)
  |exn x=>rw[e2]at p1;cases hq:Cr (λx=>(as x U).bind fc) (λx=>(as x U).bind fe) ds<;>rw[hq]at e2<;>cases e2
  |bad=>rw[e2]at p1;exact p1.elim
theorem jP(hc:X.calm=Ab)(B:zt X scope N' ts)(hi:SI X CL W tg iter fi)(tz:GG X.K CL ts as g)(hg:∀ cl C s H fp,PG (yy X scope cl C N' s H fp) tg g)(ht:∀ cl C s H fp,jh (yy X scope cl C N' s H fp) CL ifs fc)(he:∀ cl C s H fp,SE (yy X scope cl C N' s H fp) CL W0 elt fe)(hs:∀ x,Da iter X.env x=pure x):SC X CL W Ab (.ListComp elt [⟨tg,iter,ifs,0⟩] scope pos) (λU=>(fi U).bind λxs=>(zn (Cr (λx=>(as x U).bind fc) (λx=>(as x U).bind fe) xs)).bind λys=>.ok (.L ys)):=λA pI s Y H Q I ⟨hA,U,gd,p⟩=>
 kW hc B (hi A) hg (λcl C s H fp=>ht cl C s H fp A) (λcl C s H fp=>he cl C s H fp A) hs pI s Y H Q I ⟨hA,U,gd,Tj tz hA gd p⟩
end
section
variable{K:Fg}{CL:ClA}{Fz:Fr}{B:Ak->Prop}{U:Rho}{Y:L2.St}{H H':Hp}
theorem Sx.setF(x:Sx K CL Fz B U Y H)(s:Az H H'){ds:Ac D}(h0:H a=Af)(h1:H' a=Aa (.L xs))(r:Z9 K CL H' (λb=>BN B U Y b\/b=a) xs ds):Sx K CL Fz B (U.set i (Aa (.L ds,Ab))) (Y.set i (Aa (.ref a))) H':=by
 have nA:¬ BN B U Y a:=x.aok.new h0;have own:∀(j:Ag)(e:D),(U.set i (Aa (.L ds,Ab)))[j]?=Aa (Aa (e,Ab))->(i=j/\e=.L ds)\/(i≠j/\U[j]?=Aa (Aa (e,Ab))):=λj e h=>by
  by_cases hj:i=j
  .subst hj;have:=Ee h;cases this;exact .inl ⟨rfl,rfl⟩
  .exact .inr ⟨hj,by rw[Bu hj]at h;exact h⟩
 have vj:∀{j:Ag}{y:Sl},(U.set i (Aa (.L ds,Ab)))[j]?=Aa y->i=j->(Y.set i (Aa (.ref a)))[j]?=Aa (Aa (.ref a)):=λ{j y} h e=>by
  subst e;have hl:i<Y.length:=by
   rw[<-x.len];have:=(A5.mp h).1;simpa using this
  rw[By hl]
 have sub:∀ b,BN B (U.set i (Aa (.L ds,Ab))) (Y.set i (Aa (.ref a))) b->BN B U Y b\/b=a:=λb h=>by
  rcases h with h|⟨j,e,h1,h2⟩
  .exact .inl (.inl h)
  .rcases own j e h1 with ⟨hj,_⟩|⟨hj,mq⟩
   .rw[vj h1 hj]at h2;cases h2;exact .inr rfl
   .rw[Bu hj]at h2;exact .inl (.inr ⟨j,e,mq,h2⟩)
 have wide:∀{v:V}{d:D},Z7 K CL H (BN B U Y) v d->Z7 K CL H' (BN B (U.set i (Aa (.L ds,Ab))) (Y.set i (Aa (.ref a)))) v d:=λr=>(Z7.wide (λb hb=>(sub b hb).imp id λe=>by rw[e];exact h0) _ r).same s
 have et:∀{v:Ac V}{d:Ac D},Z9 K CL H (BN B U Y) v d->Z9 K CL H' (BN B (U.set i (Aa (.L ds,Ab))) (Y.set i (Aa (.ref a)))) v d:=λr=>(Z9.wide (λb hb=>(sub b hb).imp id λe=>by rw[e];exact h0) _ r).same s
 refine⟨⟨λj e h=>?_,λj e h hn=>?_,by rw[AT,AT];exact x.len⟩,λb h=>?_,λj e b g1 g2=>?_,λj k e f b g1 g2 g3 g4=>?_,λb o z=>s _ _ (x.same b o z),by rw[AT,AT];exact x.len,λj h=>?_⟩
 .have hj:i≠j:=by
   rintro rfl;have:=Ee h;cases this
  rw[Bu hj]at h;obtain⟨w',q,w6⟩:=x.good.sh j e h;exact⟨w',by rw[Bu hj];exact q,wide w6⟩
 .rcases own j e h with ⟨hj,rfl⟩|⟨hj,h'⟩
  .have q:=vj h hj;exact⟨a,xs,ds,q,rfl,.inr ⟨j,_,h,q⟩,h1,Z9.sub sub _ r⟩
  .obtain⟨b,ys,es,q,z,ha,hh,rr⟩:=x.good.ow j e h' hn;have q':(Y.set i (Aa (.ref a)))[j]?=Aa (Aa (.ref b)):=by rw[Bu hj];exact q
   exact⟨b,ys,es,q',z,.inr ⟨j,e,h,q'⟩,s _ _ hh,et rr⟩
 .rcases sub b h with z|z
  .obtain⟨ys,q,w⟩:=x.aok b z;exact⟨ys,s _ _ q,w⟩
  .rw[z];exact⟨_,h1,trivial⟩
 .rcases own j e g1 with ⟨hj,_⟩|⟨hj,h'⟩
  .rw[vj g1 hj]at g2;cases g2;refine⟨λo z=>?_,λz=>nA (.inl z)⟩
   have:=x.same a o z;rw[h0]at this;cases this
  .rw[Bu hj]at g2;exact x.new j e b h' g2
 .rcases own j e g1 with ⟨hj,_⟩|⟨hj,h'⟩
  .rw[vj g1 hj]at g3;cases g3;rcases own k f g2 with ⟨hk,_⟩|⟨hk,xh⟩
   .exact hj.symm.trans hk
   .rw[Bu hk]at g4;exact absurd (.inr ⟨k,f,xh,g4⟩) nA
  .rw[Bu hj]at g3;rcases own k f g2 with ⟨hk,_⟩|⟨hk,xh⟩
   .rw[vj g2 hk]at g4;cases g4;exact absurd (.inr ⟨j,e,h',g3⟩) nA
   .rw[Bu hk]at g4;exact x.dis j k e f b h' xh g3 g4
 .rcases own j _ h with ⟨_,z⟩|⟨hj,h'⟩
  .cases z
  .obtain⟨b,ys,p1,p2,p3⟩:=x.pin j h';exact⟨b,ys,p1,by rw[Bu hj];exact p2,s _ _ p3⟩
theorem Sx.upd(x:Sx K CL Fz B U Y H){i:Ag}{d:D}{a:Ak}{xs:Ac V}{ds:Ac D}(hi:U[i]?=Aa (Aa (d,Ab)))(ha:Y[i]?=Aa (Aa (.ref a)))(r:Z9 K CL H (BN B U Y) xs ds):Sx K CL Fz B (U.set i (Aa (.L ds,Ab))) Y (L2.upd H a (.L xs)):=by
 have oa:BN B U Y a:=.inr ⟨i,d,hi,ha⟩;have hil:i<U.length:=(A5.mp hi).1;have get:∀(j:Ag)(e:D),(U.set i (Aa (.L ds,Ab)))[j]?=Aa (Aa (e,Ab))↔(i=j/\e=.L ds)\/(i≠j/\U[j]?=Aa (Aa (e,Ab))):=λj e=>by
  by_cases hj:i=j
  .subst hj;rw[By hil];simp;exact⟨λz=>z.symm,λz=>z.symm⟩
  .rw[Bu hj];simp[hj]
 have same:∀ b,BN B (U.set i (Aa (.L ds,Ab))) Y b↔BN B U Y b:=λb=>by
  constructor
  .rintro (h|⟨j,e,h1,h2⟩)
   .exact .inl h
   .rcases (get j e).mp h1 with ⟨rfl,_⟩|⟨_,h1⟩
    .exact .inr ⟨i,d,hi,h2⟩
    .exact .inr ⟨j,e,h1,h2⟩
  .rintro (h|⟨j,e,h1,h2⟩)
   .exact .inl h
   .by_cases hj:i=j
    .subst hj;exact .inr ⟨i,.L ds,(get i _).mpr (.inl ⟨rfl,rfl⟩),h2⟩
    .exact .inr ⟨j,e,(get j e).mpr (.inr ⟨hj,h1⟩),h2⟩
 have kp:Kp (BN B U Y) H (L2.upd H a (.L xs)):=λb o e na=>by
  have wu:b≠a:=by
   rintro rfl;exact na oa
  rw[AQ wu];exact e
 refine⟨⟨λj e h=>?_,λj e h hn=>?_,by rw[AT];exact x.len⟩,λb h=>?_,λj e b g1 g2=>?_,λj k e f b g1 g2 g3 g4=>?_,λb o z=>?_,by rw[AT];exact x.len,λj h=>?_⟩
 .have hj:i≠j:=by
   rintro rfl;have:=Ee h;cases this
  rw[Bu hj]at h;obtain⟨w',q,w6⟩:=x.good.sh j e h;exact⟨w',q,Z7.sub (λb hb=>(same b).mp hb) _ (Z7.kp kp _ w6)⟩
 .rcases (get j e).mp h with ⟨rfl,rfl⟩|⟨hj,h'⟩
  .exact⟨a,xs,ds,ha,rfl,(same a).mpr oa,BO,Z9.sub (λb hb=>(same b).mp hb) _ (Z9.kp kp _ r)⟩
  .obtain⟨b,ys,es,q,z,hb,hh,rr⟩:=x.good.ow j e h' hn;have wu:b≠a:=λz=>hj (x.dis i j d e a hi h' ha (z ▸ q))
   exact⟨b,ys,es,q,z,(same b).mpr hb,by rw[AQ wu];exact hh,Z9.sub (λb hb=>(same b).mp hb) _ (Z9.kp kp _ rr)⟩
 .obtain⟨ys,q,w⟩:=x.aok b ((same b).mp h);by_cases e:b=a
  .rw[e];exact⟨_,BO,trivial⟩
  .exact⟨ys,by rw[AQ e];exact q,w⟩
 .rcases (get j e).mp g1 with ⟨rfl,_⟩|⟨_,h'⟩
  .exact x.new i d b hi g2
  .exact x.new j e b h' g2
 .rcases (get j e).mp g1 with ⟨rfl,_⟩|⟨hj,h'⟩
  .rcases (get k f).mp g2 with ⟨rfl,_⟩|⟨hk,xh⟩
   .rfl
   .exact x.dis i k d f b hi xh g3 g4
  .rcases (get k f).mp g2 with ⟨rfl,_⟩|⟨hk,xh⟩
   .exact x.dis j i e d b h' hi g3 g4
   .exact x.dis j k e f b h' xh g3 g4
 .have wu:b≠a:=λe=>(x.new i d a hi ha).1 o (e ▸ z)
  rw[AQ wu];exact x.same b o z
 .rcases (get j _).mp h with ⟨_,z⟩|⟨hj,h'⟩
  .cases z
  .obtain⟨b,ys,p1,p2,p3⟩:=x.pin j h';have wu:b≠a:=λz=>hj (x.dis i j d _ a hi h' ha (z ▸ p2))
   exact⟨b,ys,p1,p2,by rw[AQ wu];exact p3⟩
theorem Sx.rel(x:Sx K CL Fz B U Y H)(hi:U[i]?=Aa (Aa (d,Ab)))(hn:d≠.O):Sx K CL Fz B (U.set i (Aa (d,Ae))) Y H:=by
 obtain⟨a,xs,ds,q,rfl,oa,hh,rr⟩:=x.good.ow i d hi hn;have own:∀(j:Ag)(e:D),(U.set i (Aa (.L ds,Ae)))[j]?=Aa (Aa (e,Ab))->i≠j/\U[j]?=Aa (Aa (e,Ab)):=λj e h=>by
  by_cases hj:i=j
  .subst hj;have:=Ee h;cases this
  .exact⟨hj,by rw[Bu hj]at h;exact h⟩
 have sub:∀ b,BN B (U.set i (Aa (.L ds,Ae))) Y b->BN B U Y b:=λb h=>by
  rcases h with h|⟨j,e,h1,h2⟩
  .exact .inl h
  .exact .inr ⟨j,e,(own j e h1).2,h2⟩
 have na:¬ BN B (U.set i (Aa (.L ds,Ae))) Y a:=λh=>by
  rcases h with h|⟨j,e,h1,h2⟩
  .exact(x.new i _ a hi q).2 h
  .obtain⟨hj,h1⟩:=own j e h1;exact hj (x.dis i j _ e a hi h1 q h2)
 refine⟨⟨λj e h=>?_,λj e h hn=>?_,by rw[AT];exact x.len⟩,λb h=>x.aok b (sub b h),λj e b g1 g2=>x.new j e b (own j e g1).2 g2,λj k e f b g1 g2 g3 g4=>x.dis j k e f b (own j e g1).2 (own k f g2).2 g3 g4,x.same,by rw[AT];exact x.len,λj h=>x.pin j (own j _ h).2⟩
 .by_cases hj:i=j
  .subst hj;have e1:=Ee h;cases e1;exact⟨_,q,a,xs,rfl,.inl na,Id.of hh,Z9.sub sub _ rr⟩
  .rw[Bu hj]at h;obtain⟨w',q',w6⟩:=x.good.sh j e h;exact⟨w',q',Z7.sub sub _ w6⟩
 .obtain⟨hj,h'⟩:=own j e h;obtain⟨b,ys,es,q',z,hb,hh',rr'⟩:=x.good.ow j e h' hn;exact⟨b,ys,es,q',z,.inr ⟨j,e,h,q'⟩,hh',Z9.sub sub _ rr'⟩
end
section
variable{X:Cx}{CL:ClA}{W:XW}{pos:AF}{e:Aq}{fe:Rho->R D}{fr:An}
theorem B5.exC{f:D->O}(x:Sx X.K CL Fz B U Y H)(h:B5 X.K CL Fz B W (O.of U r f) D')(k:∀ d v H',r=.ok d->Az H H'->Cw X.K CL fr H A H' v d->Sx X.K CL Fz B U Y H'->B5 X.K CL Fz B W (f d) D'->Q v H'):AW (Cw X.K CL fr H A) W H r Q:=by
 cases r with
 |ok d=>exact λv H' s r=>k d v H' rfl s r (x.grow s) h
 |exn y=>exact λH' s=>h H' λb o z=>s _ _ (x.same b o z)
 |bad=>exact h
def gc(X:Cx)(CL:ClA)(W:XW)(fr:An)(i:Ag)(st:AL)(f:Rho->R D):Prop:=∀ A,PS X st (O9 (λY H Q=>My H A/\∃ U,Y9 X.K CL A U Y H/\AW (Cw X.K CL fr H A) W H (f U) Q) (G6 i))
theorem SC.sas{n:Ah}(hN:X.N.Nodup)(hi:X.N[i]?=Aa n)(hx:pi X.env.scope n)(he:SC X CL W fr e fe)(hs:Dr e (Aa (.Name n pos')) pos.line X.env=pure Ae)(hf:X.fn n=Ab\/X.env.scope.names.lookup n=Aa .local):gc X CL W fr i (.Assign [.Name n pos'] e pos) fe:=
 λA=>EH hN hi hx (he A) hs hf
theorem eV{n:Ah}{fe:Rho->R D}{g:TG}(hc:X.calm=Ab)(B:zt X scope N' ts)(hi:SI X CL W tg iter fi)(tz:GG X.K CL ts as g)(hg:∀ cl C s H fp,PG (yy X scope cl C N' s H fp) tg g)(ht:∀ cl C s H fp,jh (yy X scope cl C N' s H fp) CL ifs fc)(he:∀ cl C s H fp,SE (yy X scope cl C N' s H fp) CL W0 elt fe)(hs:∀ x,Da iter X.env x=pure x)(hN:X.N.Nodup)(re:X.N[i]?=Aa n)(hx:X.env.scope.names.lookup n=Aa .local)(bh:Dr (.ListComp elt [⟨tg,iter,ifs,0⟩] scope pos) (Aa (.Name n pos')) pos2.line X.env=pure Ab):gc X CL W Ab i (.Assign [.Name n pos'] (.ListComp elt [⟨tg,iter,ifs,0⟩] scope pos) pos2) (λU=>(fi U).bind λxs=>(zn (Cr (λx=>(as x U).bind fc) (λx=>(as x U).bind fe) xs)).bind λys=>.ok (.L ys)):=λA pI s Y H Dn I ⟨hA,U,gd,p⟩=>
 iT hc B (hi A) hg (λcl C s H fp=>ht cl C s H fp A) (λcl C s H fp=>he cl C s H fp A) hs hN re hx bh pI s Y H Dn I ⟨hA,U,gd,Tj tz hA gd p⟩
theorem U_9{st:AL}(h:gc X CL W fr i st fe):SS X CL W st (λU=>O.of U (fe U) λd=>.next (U.set i (Aa (d,Ae)))):=λFz B pI s Y H D I ⟨U,x,p⟩=>
 h (BN B U Y) pI s Y H D I ⟨x.aok,U,x.good,B5.exC x p λd v H' _ s r x' q=>q _ H' (x'.set i r.1)⟩
theorem UL{st:AL}(h:gc X CL W Ab i st fe):SS X CL W st (λU=>O.of U (fe U) λd=>setF U i d):=λFz B pI s Y H D I ⟨U,x,p⟩=>
 h (BN B U Y) pI s Y H D I ⟨x.aok,U,x.good,B5.exC x p λd v H' _ s r x' q=>by
  cases d with
  |L ds=>
   obtain⟨a,xs,rfl,h0,h1,rs⟩:=r.2 rfl ds rfl;exact q _ H' (x.setF s h0 h1 rs)
  |dic ds=>exact r.1.elim
  | _=>exact q.elim⟩
theorem jB(he:SC X CL W Ab e fe):SS X CL W (.Return (Aa e) pos) (λU=>O.of U (fe U) λd=>.ret d Ab):=λFz B pI s Y H D I ⟨U,x,p⟩=>
 Hm (he (BN B U Y)) pI s Y H D I ⟨x.aok,U,x.good,B5.exC x p λd v H' _ s r x' q=>q v H' x'.same (Z7.sub (λa h=>.inl h) _ r.1) λ_ ds e=>by
  obtain⟨a,xs,h0,h1,h2,h3⟩:=r.2 rfl ds e;refine⟨a,xs,h0,λo z=>?_,h2,Z9.sub (λb hb=>hb.imp .inl id) _ h3⟩
  have:=x.same a o z;rw[h1]at this;cases this⟩
noncomputable def RV(U:Rho)(i:Ag):An:=match U[i]? with
  |some (Aa (_,o))=>o
  |_=>Ae
theorem UJ(he:PE X e (Ci i)):SS X CL W (.Return (Aa e) pos) (λU=>O.of U (CT U i) λd=>.ret d (RV U i)):=λFz B pI s Y H D I ⟨U,x,p⟩=>
 Hm he pI s Y H D I (by
  dsimp only at p;cases e:CT U i with
  |bad=>rw[e]at p;exact p.elim
  |exn z=>exact(TW e).elim
  |ok d=>
   rw[e]at p;obtain⟨o,e,hn⟩:=Uk e;have eo:RV U i=o:=by unfold RV;rw[e]
   rw[O.of_ok,eo]at p;cases o with
   |false=>
    obtain⟨v,q,r⟩:=x.good.sh i d e;exact⟨v,q,p v H x.same (Z7.sub (λa h=>.inl h) _ r) λz=>nomatch z⟩
   |true=>
    obtain⟨a,xs,ds,q,rfl,ha,hh,r⟩:=x.good.ow i d e (hn rfl);obtain⟨n1,n2⟩:=x.new i _ a e q;refine⟨_,q,p _ H x.same ⟨a,xs,rfl,.inl n2,Id.of hh,Z9.sub (λa h=>.inl h) _ r⟩ λ_ uu e'=>?_⟩
    cases e';exact⟨a,xs,rfl,n1,hh,Z9.sub (λb hb=>hb.elim .inl λz=>z ▸ ha) _ r⟩)
theorem kX{ds:Ac D}(h:FU U i=.ok ds):U[i]?=Aa (Aa (.L ds,Ab)):=by
 unfold FU at h;split at h
 .rename_i e;cases h;exact e
 .cases h
theorem dO{x:Ex}(h:FU U i=.exn x):AM:=by
 unfold FU at h;split at h<;>cases h
variable{o:Aq}{i:Ag}{apos cpos:AF}
theorem nP(ho:PE X o (Ci i))(he:SE X CL W e fe)(U7:BH o "append" X.env (eval o X.env)=eval o X.env)(yn:((Bs cpos (Aw [e] X.env)).all (λx=>!x.1)&&(D9 cpos (Dh [] X.env)).all (λx=>x.1.isSome)&&decide ([e].length+([]:Ac CB).length+(if ([]:Ac CB).isEmpty then 0 else 1)<30))=Ab)(U5:(apos.endLine==cpos.line)=Ab)(hs:Aw [e] X.env=[(Ae,eval e X.env)])(bh:Dr (.Call (.Attribute o "append" apos) [e] [] cpos) Af pos.line X.env=pure Ae):
  SS X CL W (.Expr (.Call (.Attribute o "append" apos) [e] [] cpos) pos) (λU=>O.of U (FU U i) λxs=>O.of U (fe U) λd=>if CY (xs.length+1)=Ab then .next (U.set i (Aa (.L (xs++[d]),Ab))) else .bad):=λFz B pI s Y H D I ⟨U,x,p⟩=>by
 refine Kg (IS BJ D5 D6 NQ ho (Bv (he (BN B U Y)) Cb hs) U7 yn U5 hs rfl) bh pI s Y H D I ?_;dsimp only at p;cases e1:FU U i with
 |bad=>rw[e1]at p;exact p.elim
 |exn z=>exact(dO e1).elim
 |ok ds=>
  rw[e1,O.of_ok]at p;have hi:=kX e1;obtain⟨a,xs,uu,q,e2,ha,hh,r⟩:=x.good.ow i _ hi (λz=>nomatch z)
  cases e2;refine⟨_,q,.inl ⟨rfl,xs,Id.of hh⟩,x.aok,U,x.good,B5.ex x p λd v H' _ s rv x' q'=>?_⟩
  split at q'
  .rename_i hz;refine⟨a,xs,v,rfl,rfl,s _ _ hh,?_,q' _ _ (x'.upd hi q ((r.same s).append ⟨rv,trivial⟩))⟩;have:=Lb hz;rw[r.length];omega
  .exact q'.elim
theorem jD{as:Ov.D->Rho->R Rho}{g:TG}(hGT:GT X.K CL as g)(hg:PG X tg g)(he:SE X CL W e fe)(hs:J3 [tg] e pos.line X.env=pure Ae)(hw:HG [tg] e X.env=pure Af)(h1:(Cy [tg] X.env).map (·.2)=[assign tg X.env])(hax:∀ d U x,as d U≠.exn x):SS X CL W (.Assign [tg] e pos) (λU=>O.of U (fe U) λd=>O.of U (as d U) λU'=>.next U'):=λFz B pI s Y H D I ⟨U,x,p⟩=>
 qI (he (BN B U Y)) hg hs hw h1 pI s Y H D I ⟨x.aok,U,x.good,B5.ex x p λd v H' _ s rv x' q'=>by
  cases ea:as d U with
  |bad=>rw[ea]at q';exact q'.elim
  |exn z=>exact absurd ea (hax _ _ z)
  |ok U2=>
   rw[ea,O.of_ok]at q';exact hGT Fz B U Y H' v d U2 _ x' rv ea λY' x3=>q' Y' H' x3⟩
theorem jA{rest:Ac AL}{f:Rho->O}(i:Ag)(h:vx X CL W rest f):vx X CL W rest (λU=>(match U[i]? with
   |some (Aa (d,Ab))=>RY U i d
   | _=>O.next U).seq f):=λFz B=>yj.weak (h Fz B) λD Y H ⟨U,x,p⟩=>by
 dsimp only at p;split at p
 .rename_i d e;cases d with
  |L xs=>exact⟨_,x.rel e (λz=>nomatch z),p⟩
  |_=>exact p.elim
 .exact⟨U,x,p⟩
end
section
variable{X:Cx}{CL:ClA}{W:XW}{pos:AF}{e k o:Aq}{fe fk:Rho->R D}{i:Ag}{apos cpos:AF}
theorem A1.take(r:A1 xs its):∀ n,A1 (xs.take n) (its.take n):=by
 induction r with
 |nil=>intro n;simp;exact .nil
 |cons h _ ih=>
  intro n;cases n with
  |zero=>exact .nil
  |succ n=>exact .cons h (ih n)
theorem A1.drop(r:A1 xs its):∀ n,A1 (xs.drop n) (its.drop n):=by
 induction r with
 |nil=>intro n;simp;exact .nil
 |cons h t ih=>
  intro n;cases n with
  |zero=>exact .cons h t
  |succ n=>exact ih n
end
section
variable{prog:AK}{w:AI}{A:A4}{E:Vq}{s:Ar}
end
def JO(t:An)(h:AJ)(j l:Ak)(i:Ag):Prop:=match t with
  |true=>h.IsTupleIter j l i
  |false=>h.IsListIter j l i
def KW(t:An)(h:AJ)(l:Ak)(its:Bl Al):Prop:=match t with
  |true=>h.IsTuple l its
  |false=>h.IsList l its
theorem nb2{I l c:Ag}(b:l<I)(h:c∈[I+1,l]):c≠I/\c≠I+3/\c≠I+4:=by
 have h':c=I+1\/c=l:=by simpa using h
 omega
section
variable{prog:AK}{w:AI}{A:A4}{E:Vq}{s:Ar}
end
theorem JO.at'{j:Ak}(z:JO t h j l i)(k:∀ o,h.get? j=Aa o->h2.get? j=Aa o):JO t h2 j l i:=by
 cases t with
 |true=>exact PySem.Heap.IsTupleIter.at z k
 |false=>exact PySem.Heap.IsListIter.at z k
section
variable{prog:AK}{w:AI}{A:A4}{E:Vq}{s:Ar}
theorem KW.push{its:Bl Al}(z:KW t h l its)(o:CZ):KW t (h.push o) l its:=by
 cases t with
 |true=>exact PySem.Heap.IsTuple.at z λ_ e=>AB _ e
 |false=>exact PySem.Heap.IsList.at z λ_ e=>AB _ e
end
theorem KW.lt{its:Bl Al}(z:KW t h a its):a<h.objs.size:=by
 cases t with
 |true=>obtain⟨o,e,_⟩:=z;exact AS e
 |false=>obtain⟨o,e,_⟩:=z;exact AS e
section
variable{X:Cx}{CL:ClA}{W:XW}{pos p:AF}{a b:Aq}{fa fb:Rho->R D}
end
theorem JO.keep{l:Ag}(z:JO t h j l i)(k:∀ o,h.get? j=Aa o->h2.get? j=Aa o):JO t h2 j l i:=by
 cases t with
 |true=>exact PySem.Heap.IsTupleIter.at z k
 |false=>exact PySem.Heap.IsListIter.at z k
section
variable{prog:AK}{w:AI}{A:A4}{E:Vq}{s:Ar}
end
section
variable{X:Cx}{CL:ClA}{W:XW}{pos p:AF}{a:Aq}{fa:Rho->R D}
end
noncomputable abbrev WY(h:AJ)(z TI TO:Ak)(f0 f1:Al):Prop:=h.get? z=Aa { cls:=.type "zip",dict:=Af,data:=.fields #[f0,f1,.bool Ae,.ref TI,.ref TO],slots:=#[] }
noncomputable abbrev WZ(h:AJ)(T:Ak)(a b c:Al):Prop:=h.get? T=Aa { cls:=.type "tuple",data:=.seq #[a,b,c] }
section
variable{prog:AK}{w:AI}{A:A4}{E:Vq}{s:Ar}
def jj(t1 t2 t3:An)(I l1 l2 l3 i:Ag)(h:AJ):Prop:=WZ h (I+3) (.ref (I+0)) (.ref (I+1)) (.ref (I+2))/\JO t1 h (I+0) l1 i/\JO t2 h (I+1) l2 i/\JO t3 h (I+2) l3 i/\(∃ a b c,WZ h (I+4) a b c) /\
 (WY h (I+5) (I+3) (I+4) .none (.bool Ae)\/∃(T1:Ag)(f1:An),WY h (I+5) (I+3) (I+4) (HC T1) (.bool f1))
end
section
variable{prog:AK}{w:AI}{A:A4}{R:Il->Ar->Prop}
theorem KW.at'{its:Bl Al}(z:KW t h l its)(k:∀ o,h.get? l=Aa o->h2.get? l=Aa o):KW t h2 l its:=by
 cases t with
 |true=>exact PySem.Heap.IsTuple.at z k
 |false=>exact PySem.Heap.IsList.at z k
theorem jj.at'{t1 t2 t3:An}{I l1 l2 l3 i:Ag}{h h2:AJ}(z:jj t1 t2 t3 I l1 l2 l3 i h)(k:∀ j,j<=5->∀ o,h.get? (I+j)=Aa o->h2.get? (I+j)=Aa o):jj t1 t2 t3 I l1 l2 l3 i h2:=by
 obtain⟨zI,i1,i2,i3,⟨a,b,c,hO⟩,zz⟩:=z;exact⟨k 3 (by decide) _ zI,i1.at' λo q=>k 0 (by decide) o q,i2.at' λo q=>k 1 (by decide) o q,i3.at' λo q=>k 2 (by decide) o q,⟨a,b,c,k 4 (by decide) _ hO⟩,zz.imp (k 5 (by decide) _) λ⟨T1,f1,hz⟩=>⟨T1,f1,k 5 (by decide) _ hz⟩⟩
end
section
variable{prog:AK}{w:AI}{A:A4}{E:Vq}{s:Ar}
end
theorem jj.ty{t1 t2 t3:An}{I l1 l2 l3 i:Ag}(z:jj t1 t2 t3 I l1 l2 l3 i s.heap):s.TypeIs (.ref (I+5)) "zip" := by
 obtain⟨_,_,_,_,_,hz|⟨_,_,hz⟩⟩:=z
 .exact⟨_,hz,rfl⟩
 .exact⟨_,hz,rfl⟩
theorem jj.lt{t1 t2 t3:An}{I l1 l2 l3 i:Ag}(z:jj t1 t2 t3 I l1 l2 l3 i s.heap):I+5<s.heap.objs.size:=by
 obtain⟨o,h,_⟩:=z.ty;exact AS h
section
variable{prog:AK}{w:AI}{A:A4}{E:Vq}{s:Ar}
end
section
variable{X:Cx}{CL:ClA}{W:XW}{pos p pos' p':AF}{a b c:Aq}{fa fb fc:Rho->R D}
end
section
variable{X:Cx}{CL:ClA}{W:XW}{pos p d6:AF}{a b c:Aq}{fa fb fc:Rho->R D}{x:Ah}
end
section
variable{X:Cx}{CL:ClA}{W:XW}{a:Aq}{fa:Rho->R D}
end
section
variable{X:Cx}{CL:ClA}{W:XW}{o o' e:Aq}{fe:Rho->R D}{i j:Ag}{apos cpos apos' cpos' pos:AF}
end
theorem UW{e:Al->An}{f:D->An}:∀{its:Ac Al}{ds:Ac D},its.length=ds.length->(∀ j (h:j<its.length),e its[j]=f (ds.getD j .O))->its.countP e=(ds.filter f).length
 |[],[],_,_=>rfl
 |y::its,d::ds,hl,h=>by
  have h0:e y=f d:=h 0 (by simp)
  have ih:=UW (its:=its) (ds:=ds) (by simpa using hl) λj hj=>by
   have:=h (j+1) (by simpa using hj)
   simpa using this
  rw[List.countP_cons,List.filter_cons,ih,h0];cases f d<;>simp
 |[],_::_,hl,_=>by simp at hl
 |_::_,[],hl,_=>by simp at hl
section
variable{X:Cx}{CL:ClA}{W:XW}
theorem Vy(I:Z8 X pI Y H s){ds:Ac D}(B:A4)(hd:Y8 n d=Ab)(hs:ds.all (Y8 n)=Ab)(r:Z9 X.K CL H A0 xs ds)(rv:A1 xs its)(q:Z7 X.K CL H A0 v d)(qv:Bt v u)(hu:B.units+n<Bx):∃ e:Al->An,(∀ y,y∈its.toArray->Ek B s y u (e y))/\∀ j (h:j<its.length),e its[j]=Tm (ds.getD j .O) d:=by
 have l1:=rv.length;have l2:=r.length
 have key:∀ y,y∈its->∃ k:An,Ek B s y u k/\∀ j (h:j<its.length),its[j]=y->Tm (ds.getD j .O) d=k:=λy hy=>by
  obtain⟨j,hj,rfl⟩:=Fn hy;obtain⟨x,rx,qx⟩:=JA r rv hj;refine⟨Tm (ds.getD j .O) d,(L7 I n _ _ x v _ _ B (IL hs j) hd rx q qx qv hu).2.1,λj' ie e=>?_⟩
  obtain⟨x',i8,ck⟩:=JA r rv ie;rw[e]at ck;have z:=Bt.inj qx ck;subst z;rw[MY I n _ _ (IL hs j') (IL hs j) i8 rx]
 have wn:∀ y,∃ k:An,y∈its->Ek B s y u k/\∀ j (h:j<its.length),its[j]=y->Tm (ds.getD j .O) d=k:=λy=>by
  by_cases hy:y∈its
  .obtain⟨k,hk⟩:=key y hy;exact⟨k,λ_=>hk⟩
  .exact⟨Ab,λh=>absurd h hy⟩
 exact⟨λy=>XG (wn y),λy hy=>(DN (wn y) (by simpa using hy)).1,λj hj=>((DN (wn its[j]) (ES _)).2 j hj rfl).symm⟩
def qF(K:Fg)(CL:ClA):V->Ac V->Hp->VK->Prop:=λx vs H Q=>∃ l xs ds v d,x=.ref l/\vs=[v]/\Id K H l xs/\Z9 K CL H A0 xs ds/\Z7 K CL H A0 v d/\Y8 5 d=Ab/\ds.all (Y8 5)=Ab/\Q (.int ((ds.filter λy=>Tm y d).length:Ag)) H
theorem Qb(hu:X.A.units+64<Bx):pj X "list.count" (qF X.K CL):=by
 intro pI s Y H x vs v us Q I rx rv h;obtain⟨l,xs,ds,y,d,rfl,rfl,sq,rs,ry,h1,h2,q⟩:=h;cases rx;obtain⟨u,rfl,ru⟩:=rv.one;obtain⟨its,r,pl,hz⟩:=I.list sq;obtain⟨⟨c,dct,dt,sl⟩,n,e,hc,hd,om⟩:=pl;obtain⟨f,hf,hn⟩:=Vy I (n:=5) X.A.in1 h1 h2 rs r ry ru (by show X.A.units+1+5<Bx;omega)
 replace hc:c=.type "list" := hc;replace om:dt=.seq its.toArray n:=om;subst hc om;refine EV Ed ⟨_,e,rfl⟩ PySem.F.entry_list_count (PySem.F.args_list_count_2 _ _) (SeqAt.list_countAt l its.toArray n dct sl u f) ⟨e,hf,?_⟩;refine⟨.int _,H,I.tok _,⟨_,rfl⟩,?_⟩;rw[UW (f:=λy=>Tm y d) (by rw[<-r.length,rs.length]) hn]
 exact q
theorem eP{o y:Aq}{apos cpos:AF}{fo:Rho->R D}{j:Ai}(hu:X.A.units+64<Bx)(ho:ST X CL W o fo)(hy:SE X CL W y (λ_=>.ok (.int j)))(U7:BH o "count" X.env (eval o X.env)=eval o X.env)(yn:((Bs cpos (Aw [y] X.env)).all (λx=>!x.1)&&(D9 cpos (Dh [] X.env)).all (λx=>x.1.isSome)&&decide ([y].length+([]:Ac CB).length+(if ([]:Ac CB).isEmpty then 0 else 1)<30))=Ab)(U5:(apos.endLine==cpos.line)=Ab)(hs:Aw [y] X.env=[(Ae,eval y X.env)]):
  SE X CL W (.Call (.Attribute o "count" apos) [y] [] cpos) (λU=>(fo U).bind λx=>zY .count [x,.int j]):=λA=>
 PE.weak (IS BJ Ed F5 (Qb (CL:=CL) hu) (ho A) (Bv (hy A) Cb hs) U7 yn U5 hs rfl) λY H Q ⟨hA,U,g,p⟩=>⟨hA,U,g,AW.bind p λd v H1 _ s1 r1 p1=>by
  cases d with
  |L ds=>
   obtain⟨a,xs,rfl,sq,rs⟩:=r1.lst_of;refine⟨.inl ⟨rfl,xs,sq⟩,hA.same s1,U,g.same s1,λv' H2 s2 r2=>?_⟩
   have r3:Z7 X.K CL H2 A0 (.ref a) (.L ds):=(Cv.same s2 r1).plain;obtain⟨a',lr,e',_,k9,ww⟩:=r3;cases e';replace p1:AW (λH=>Z7 X.K CL H A) W H1 (if (Y8 5 (.int j)&&ds.all (Y8 5))=Ab then .ok (.int ((ds.filter λy=>Tm y (.int j)).length:Ag)) else .bad) Q:=p1
   split at p1
   .rename_i h;simp only[Am]at h;have e2:v'=.int j:=r2;subst e2;exact⟨a,lr,ds,.int j,.int j,rfl,rfl,k9,ww,rfl,h.1,h.2,p1 _ H2 s2 rfl⟩
   .exact p1.elim
  | _=>exact p1.elim⟩
end
section
variable{X:Cx}
variable{CL:ClA}{W:XW}{pos p pos' p':AF}{a b:Aq}{fa fb:Rho->R D}
end
section
variable{X:Cx}{CL:ClA}{W:XW}{e o o' k l:Aq}{fe:Rho->R Ov.D}{i ik il:Ag}{pos spos spos' d6:AF}{kt:Ag}
end
section
variable{prog:AK}{w:AI}{A:A4}{E:Vq}{s:Ar}
theorem Ti{it t:Ak}{items:Bl Al}(wu:t≠it):∀(n i:Ag)(s:Ar)(Q:Ac Al->Ar->Prop),s.heap.IsListIter it t i->s.heap.IsList t items->i+n<=items.size->(∀ h',h'.IsListIter it t (i+n)->FK it s.heap h'->Q ((items.toList.drop i).take n) {s with heap:=h'})->AA (model prog w) A (draw (.ref it) n) Q E s
 |0,i,s,Q,hit,_,_,hQ=>by
  show AA _ _ (pure []) Q E s;exact A2 (by simpa using hQ s.heap hit (Zh ..))
 |n+1,i,s,Q,hit,ht,hle,hQ=>by
  have yh:i<items.size:=by omega
  show AA _ _ (MF (.ref it) >>= _) Q E s;refine As (Z_8 hit ht (x:=items[i]) (by simp[yh]) λh₁ ka bj=>?_)
  refine As (Cm (Ti wu n (i+1) _ _ ka (ht.extBut bj.extBut wu) (by omega) λh₂ hit₂ hs₂=>A2 ?_))
  have hd:items.toList.drop i=items[i]::items.toList.drop (i+1):=by simp[DW,yh]
  have:=hQ h₂ (by rw[show i+(n+1)=i+1+n by omega];exact hit₂) (bj.trans hs₂)
  rwa [hd,List.take_succ_cons]at this
theorem aD{t:Ak}{Q:Ac Al->Ar->Prop}(hh:A.handled=Af)(ht:s.heap.IsList t items)(hQ:∀ h',Zf s.heap.objs.size s.heap h'->Q items.toList {s with heap:=h'}):AA (model prog w) A (unpackItems (.ref t) items.size Af) Q E s:=by
 have yh:t≠s.heap.objs.size:=by obtain⟨o,ho,_⟩:=ht;exact BB (AS ho)
 have È:(s.heap.push { cls:=.type "list_iterator",data:=.fields #[.ref t,.int 0 0] }).IsList t items:=by
  obtain⟨o,ho,r⟩:=ht;exact⟨o,AB _ ho,r⟩
 unfold unpackItems;refine As ?_
 .unfold notIterableAtAll;refine As (wpAny_specialOf ht.typeIs slot_list_iter.lookup ?_);refine A2 ?_;simp only[XF,JT];refine As (Cm (HX ht ?_));refine As (Cm (Ti yh items.size 0 _ _ ⟨_,Bp _ rfl,rfl,rfl⟩ È (by omega) λh₁ ka bj=>?_))
  have jv:List.take items.size (List.drop 0 items.toList)=items.toList:=by
   rw[XZ];exact List.take_of_length_le (by simp)
  rw[jv];rw[Ay (by simp)]
  have ht₁:h₁.IsList t items:=È.extBut bj.extBut yh;refine As (Cm (Z_7 hh ka ht₁ (by simp) λh₂ he₂=>?_))
  simp only[Option.isSome_none,XF,JT];refine A2 (hQ h₂ λb o hb e=>he₂ b o hb (bj.extBut b o hb (AB _ e)))
theorem aA{oi:Ac Aq}{x1}{t:Ak}{Q:Ea->Ar->Prop}(hh:A.handled=Af)(ht:s.heap.IsList t items) (hn:(Cy oi env).length=items.size) (bg:(Cy oi env).findIdx? (·.1)=Af) (h:∀ h',Zf s.heap.objs.size s.heap h'->AA (model prog w) A (assignInOrder ((Cy oi env).map (·.2)) items.toList) Q E {s with heap:=h'}):AA (model prog w) A (assign (.Tuple oi x1 pos) env (.ref t)) Q E s:=by
 rw[assign_Tuple];refine As (CU ?_);unfold unpack;rw[hn,bg];exact As (Cm (aD hh ht h))
end
section
variable{X:Cx}{pos:AF}{CL:ClA}
def gSq(K:Fg)(n:Ag)(t:TGs):TG:=λv Y H Q=>O7 K n t v Y H Q\/∃ a xs,v=.ref a/\Id K H a xs/\xs.length=n/\t xs Y H Q
theorem tV{k:Ag}{t:TGs}(hc:X.calm=Ab)(h:fz X es t)(hn:(Cy es X.env).length=n)(yo:(Cy es X.env).findIdx? (·.1)=Af):PG X (.Tuple es k pos) (gSq X.K n t):=by
 intro pI s Y H v u Q I r hw;rcases hw with hw|hw
 .exact VN hc h hn yo pI s Y H v u Q I r hw
 .obtain⟨a,xs,e1,hq,hl,hw⟩:=hw;subst e1;cases r;obtain⟨its,rv,ht,hz⟩:=I.list hq;refine aA (I.ok.hd hc) ht.isList (by simp[hn,<-hl,rv.length]) yo λh' hx=>?_
  have I1:Z8 X pI Y H {s with heap:=h'}:=I.kept (t':=s.toks) λb o e=>hx b o (BB (AS e)) e
  exact h pI _ Y H xs _ Q I1 (by simpa using rv) hw
theorem wL(ts:Ac Ag):GT K CL (Mh ts) (gSq K ts.length (ts.foldr (λt u=>Lr (G6 t) u) Ly)):=λFz B U Y H v d U' Q x r e k=>by
 cases d with
 |L ds=>
  obtain⟨a,xs,rfl,na,sq,rs⟩:=r;rw[cQ]at e;cases e2:Hk ts ds U with
  |none=>rw[e2]at e;cases e
  |some U2=>
   rw[e2]at e;cases e;exact .inr ⟨a,xs,rfl,sq,by rw[rs.length];exact Px _ _ _ _ e2,Q5 ts ds xs U _ Y Q x rs e2 k⟩
 |_=>exact .inl (VW ts Fz B U Y H v _ U' Q x r e k)
end
section
variable{X:Cx}{CL:ClA}{W:XW}
end
end Ov
namespace Ov
open PySem PySem.W PyProof.Rows
variable{p:Bl Ag}{m:Ag}
def Kr{α:Type}(lt:Ag->Ag->An)(n:Ag):KasT α->(α->Prop)->Prop
 |.ret a,Q=>Q a
 |.ask i j k,Q=>i<n/\j<n/\Kr lt n (k (lt i j)) Q
theorem Kr.mono{α:Type}{lt:Ag->Ag->An}{n:Ag}{Q Q':α->Prop}:∀{t:KasT α},Kr lt n t Q->(∀ a,Q a->Q' a)->Kr lt n t Q'
 |.ret _,h,k=>k _ h
 |.ask i j f,h,k=>⟨h.1,h.2.1,Kr.mono (t:=f (lt i j)) h.2.2 k⟩
theorem Kr.bind{α β:Type}{lt:Ag->Ag->An}{n:Ag}{f:α->KasT β}{Q:β->Prop}:∀{t:KasT α},Kr lt n t (λa=>Kr lt n (f a) Q)->Kr lt n (t.bind f) Q
 |.ret _,h=>h
 |.ask i j k,h=>⟨h.1,h.2.1,Kr.bind (t:=k (lt i j)) h.2.2⟩
structure Sto (lt:Ag->Ag->An) (n:Ag):Prop where
 tr:∀ i j k,i<n->j<n->k<n->lt i j=Ab->lt j k=Ab->lt i k=Ab
 tot:∀ i j,i<n->j<n->i≠j->lt i j=Ae->lt j i=Ab
 asy:∀ i j,i<n->j<n->lt i j=Ab->lt j i=Ae
noncomputable def qo(p:Bl Ag)(x:Ag):Ag:=p.getD x 0
structure Pm (n:Ag) (p:Bl Ag):Prop where
 sz:p.size=n
 lt:∀ x,x<n->qo p x<n
 inj:∀ x y,x<n->y<n->qo p x=qo p y->x=y
section
variable{lt:Ag->Ag->An}{n:Ag}
def R8(lt:Ag->Ag->An)(p:Bl Ag)(m:Ag):Prop:=∀ x y,x<y->y<m->lt (qo p x) (qo p y)=Ab
def Sb(lt:Ag->Ag->An)(p:Bl Ag)(m:Ag):Prop:=∀ x y,x<y->y<m->lt (qo p y) (qo p x)=Ab
theorem R8.succ(S:Sto lt n)(hp:Pm n p)(h1:1<=m)(hm:m<n)(h:R8 lt p m)(e:lt (qo p (m-1)) (qo p m)=Ab):R8 lt p (m+1):=λx y hxy hy=>by
 by_cases hym:y<m
 .exact h x y hxy hym
 .have:y=m:=by omega
  subst this;by_cases hx:x=y-1
  .rw[hx];exact e
  .exact S.tr _ _ _ (hp.lt _ (by omega)) (hp.lt _ (by omega)) (hp.lt _ hm) (h x (y-1) (by omega) (by omega)) e
theorem Sb.succ(S:Sto lt n)(hp:Pm n p)(h1:1<=m)(hm:m<n)(h:Sb lt p m)(e:lt (qo p m) (qo p (m-1))=Ab):Sb lt p (m+1):=λx y hxy hy=>by
 by_cases hym:y<m
 .exact h x y hxy hym
 .have:y=m:=by omega
  subst this;by_cases hx:x=y-1
  .rw[hx];exact e
  .exact S.tr _ _ _ (hp.lt _ hm) (hp.lt _ (by omega)) (hp.lt _ (by omega)) e (h x (y-1) (by omega) (by omega))
end
section
variable{prog:AK}{w:AI}{A:A4}{E:Vq}{κ:SortKind}{it:Bl Keyed}
end
section
variable{lt:Ag->Ag->An}{n:Ag}
end
def QA(h:AJ)(v:Al)(r:Ac Ai):Prop:=∃ a its,v=.ref a/\LI h a its/\Jg its.toList r/\r≠[]
theorem QA.kept{h h':AJ}{v:Al}{r:Ac Ai}(t:QA h v r)(k:∀ b o,h.get? b=Aa o->h'.get? b=Aa o):QA h' v r:=by
 obtain⟨a,its,e,⟨o,ho,q⟩,i,n⟩:=t;exact⟨a,its,e,⟨o,k _ _ ho,q⟩,i,n⟩
section
variable{prog:AK}{w:AI}{A:A4}{E:Vq}{s:Ar}
end
end Ov
section
namespace Ov
open PySem PySem.Spec PyProof.Rows L2
section
variable{X:Cx}{CL:ClA}{W:XW}
end
end Ov
end
section
namespace Ov
open PySem PySem.Spec PyProof.Rows
section
variable{t:SetTable}{hashAt:Ag->Ai}{h:Ai}
noncomputable def stand(i b:Ag):SetTable.Probe:=⟨i,0,i,b,Af⟩
end
section
variable{prog:AK}{w:AI}{A:A4}{E:Vq}{s:Ar}{K:Type} [DecidableEq K] {knd:KeyKind prog w K}
end
section
variable{prog:AK}{w:AI}{A:A4}{R:Il->Ar->Prop}{I:Ak}{fp wr:Ac Ak}{G:Bl Eo->Bl Eo->Prop}{n:Ag}{P:Ag->Al->Prop}{St:Ag->Ar->Prop}
end
section
variable{prog:AK}{w:AI}{A:A4}{E:Vq}{s:Ar}
end
end Ov
end
namespace Ov
open PySem PySem.Spec PyProof.Rows L2
variable{h h':AJ}{P:AK}{w:AI}{H H':Hp}{oe:CZ}{vs:Bl Al}{Q:Ea->Ar->Prop}{T' C C' OV:Ak}{a0 cdv:Al}{X:Cx}{pI:Pn}{Y:L2.St}{K:Fg}{x name qual z par x0 x1 x2 txt dw:Ah}{v:Ao Al}{M:Hv}{tk:Cf}{fill expr:An}{φ:AJ->Prop}{CL:ClA}{Fz:Fr}{B A:Ak->Prop}{U:Rho}{W:XW}{hs b4:Ac AL}{h0:AL}{fh:Rho->O}{dx an od:Ao Ak}{Xw:Vq}{xn:Ag->Ac D->R Ex}{up:Ag->Ac Ag}{Rp:Hp->V->D->Prop}{kk k id:Ag}{scope:Cc}{osl:Bl (Ao Al)}{sp:Sp}{fd:Bi}{F FR:Ac D->R D}{p1 p2 p3 p4 p8 p10 pos apos p5 p6 cpos p7 p9 wv wa uo uc ud ue vb uf oz ng ni kq b8 iy:AF}{ev e1 c1 c4:Aq}{outer:Ac B7}{fy fo:Rho->R D}{Z:Z4}{d1 d2 dd:D}{α:Type}{as:Es}{env:B7}{xs ys:Ac Aq}{ts:Ac Ag}{y1 y2:V}{tb:L2.St->XK->TS}
section
variable{X:Cx}
def Pf(K:Fg)(H:Hp):Ac V->Ac (Ac Ai)->Prop
 |[],[]=>F8
 |x::xs,k::ks=>(∃ b,x=.ref b/\yt K H b (k.map V.int))/\Pf K H xs ks
 |_,_=>AM
theorem Pf.length{K:Fg}{H:Hp}:∀{xs:Ac V}{ks:Ac (Ac Ai)},Pf K H xs ks->xs.length=ks.length
 |[],[],_=>rfl
 |_::_,_::_,h=>congrArg (· + 1) (Pf.length h.2)
 |[],_::_,h=>h.elim
 |_::_,[],h=>h.elim
variable{CL:ClA}{W:XW}{pos p pos' p':AF}{a:Aq}{fa:Rho->R D}
end
section
end
section
variable{X:Cx}
variable{CL:ClA}{W:XW}{o e:Aq}{fe:Rho->R D}{i:Ag}{apos cpos pos:AF}
end
section
open PySem.AutoSeq1 (wpAny_loadPart')
end
section
variable{prog:AK}{w:AI}{A:A4}{R:Il->Ar->Prop}{I S T:Ak}{u v:Al}{c:Ag}{P:Ag->Al->Prop}{St:Ag->AJ->Prop}{s:Ar}{r q:Ac Ai}
end
section
variable{X:Cx}{CL:ClA}{W:XW}
end
def Pi(e T:Ak)(cls:Al)(dx:Ao Ak)(fl:Al)(h:AJ):Prop:=∃ oe vs oT ts a0,h.get? e=Aa oe/\oe.cls=cls/\oe.dict=dx/\vs[0]?=Aa a0/\oe.data=.fields vs/\vs[1]?=Aa (.ref T)/\T≠e/\h.get? T=Aa oT/\oT.data=.fields ts/\ts[3]?=Aa fl
noncomputable abbrev vf(e T:Ak)(cls:Al)(dx:Ao Ak)(h:AJ):Prop:=Pi e T cls dx Dv h
noncomputable def Gx(C:Ak)(dx:Ao Ak)(t:Ak):CZ:={cls:=.ref C,dict:=dx,data:=.fields #[.ref t,.none,.none,.none,.bool Ae,.none]}
structure zx (ex fs:Ac Ak) (h h':AJ):Prop where
 keep:∀ b o,h.get? b=Aa o->b∉ex->b∉fs->h'.get? b=Aa o
 slot:∀ b o,h.get? b=Aa o->b∈fs->∃ sl,h'.get? b=Aa {o with slots:=sl}
theorem zx.trans{ex fs:Ac Ak}{h1 h2:AJ}(a:zx ex fs h h1)(b:zx ex fs h1 h2):zx ex fs h h2:=
 ⟨λc o q n m=>b.keep c o (a.keep c o q n m) n m,λc o q m=>by
  obtain⟨sl,e1⟩:=a.slot c o q m;obtain⟨uq,e2⟩:=b.slot c _ e1 m;exact⟨uq,e2⟩⟩
theorem ObjOk.isThere{a:Ak}:∀(o:HO),L2.ObjOk P w H h a o->∃ ob,h.get? a=Aa ob
 |.L _,x=>by obtain⟨_,_,_,_,e⟩:=x;exact⟨_,e⟩
 |.H _,x=>by obtain⟨_,_,_,p⟩:=x;obtain⟨o,e,_⟩:=p;exact⟨_,e⟩
 |.dK _,x=>by obtain⟨_,_,_,_,o,_,_,e,_⟩:=x;exact⟨_,e⟩
 |.dT _,x=>by obtain⟨_,_,_,_,o,_,_,e,_⟩:=x;exact⟨_,e⟩
 |.set _ _,x=>by obtain⟨o,_,_,_,e,_⟩:=x;exact⟨_,e⟩
 |.ins _ _ _,x=>by obtain⟨_,_,_,e,_⟩:=x;exact⟨_,e⟩
 |.own _,x=>x
 |.xd _,x=>by obtain⟨_,⟨_,_,_,e,_⟩,_⟩:=x;exact⟨_,e⟩
 |.met _ _,x=>⟨_,x⟩
 |.rng _ _,x=>by obtain⟨_,_,_,e⟩:=x;exact⟨_,e⟩
 |.frz _ _,x=>⟨_,x.1⟩
 |.tbl _,x=>⟨_,x⟩
 |.ext _,x=>x.2.1
theorem L5{a:Ak}(x:zd P w H h)(e:h.get? a=Af):H a=Af:=by
 cases q:H a with
 |none=>rfl
 |some o=>
  obtain⟨ob,z⟩:=ObjOk.isThere o (x a o q);rw[e]at z;cases z
theorem zd.shift{ex fs:Ac Ak}(x:zd P w H h)(sh:zx ex fs h h')(h1:∀ b∈ex,H b=Af)(h2:∀ b∈fs,H b=Af):zd P w H h':=λa o e=>
 (x a o e).stay (λb u hb q=>by
  have hs:∃ v,H b=Aa v:=by
   rcases hb with rfl|hb
   .exact⟨_,e⟩
   .exact⟨_,hb⟩
  obtain⟨v,hv⟩:=hs;exact sh.keep b u q (λz=>by rw[h1 b z]at hv;cases hv) (λz=>by rw[h2 b z]at hv;cases hv)) (λ_ q=>q) λ_ _ q=>q
theorem Un.shift{À fs ex:Ac Ak}{h0:AJ}(u:Un À [] H H' h0 h)(sh:zx ex fs h h')(h1:∀ b∈ex,h0.get? b=Af)(h2:∀ b∈fs,b∈À\/h0.get? b=Af):Un À [] H H' h0 h' where
 keep:=λb o q n hb hx=>sh.keep b o (u.keep b o q n hb hx) (λz=>by rw[h1 b z]at q;cases q) λz=>(h2 b z).elim hb λe=>by rw[e]at q;cases q
 slot:=λb o q n hb hx=>by
  obtain⟨sl,e1⟩:=u.slot b o q n hb hx;by_cases hf:b∈fs
  .obtain⟨uq,e2⟩:=sh.slot b _ e1 hf;exact⟨uq,e2⟩
  .exact⟨sl,sh.keep b _ e1 (λz=>by rw[h1 b z]at q;cases q) hf⟩
 free:=u.free
 there:=λb o q hx=>by
  obtain⟨o',e1⟩:=u.there b o q hx;by_cases hf:b∈fs
  .obtain⟨uq,e2⟩:=sh.slot b _ e1 hf;exact⟨_,e2⟩
  .exact⟨o',sh.keep b _ e1 (λz=>by rw[h1 b z]at q;cases q) hf⟩
 tups:=u.tups
 frzs:=u.frzs
 tbls:=u.tbls
theorem mC(f:Bl Al->Bl Al)(o:CZ):(Gk f o).dict=o.dict:=by
 obtain⟨c,d,dt,sl⟩:=o;cases dt<;>rfl
section
variable{M:Hv}{A:A4}{E:Vq}{s:Ar}{env:B7}{outer:Ac B7}{L e T:Ak}{cls:Al}{dx:Ao Ak}{base h:AJ}
theorem Tz{hd:Al}{nx:An}(xj:A.frames=Aa (env::outer))(hf:env.frame=Aa L)(ff:s.heap.FunFrames base (env::outer))(he:s.heap.get? e=Aa oe)(dt:oe.data=.fields vs)(hz:1<vs.size)(hQ:∀ h' T' oT ts,h'.get? e=Aa (Gk (·.setIfInBounds 1 (.ref T')) oe)->T'≠e->s.heap.get? T'=Af->h'.get? T'=Aa oT->oT.data=.fields ts->ts[3]?=Aa (HC L)->zx [e] (yu (env::outer)) s.heap h'->Q () {s with heap:=h'}):
  AA M A (do
   let fr <-frameOf env
   let pl <-entryPlaceOf L nx
   let en <-YD hd fr .none (HC L) .none pl
   setField (.ref e) 1 en) Q E s:=by
 have nf:e∉yu (env::outer):=λz=>by
  obtain⟨_,o,q,n⟩:=ff.mem z;rw[he]at q;cases q;exact n vs dt
 refine As (wpAny_frameOf_fun xj ff hf λk1 so=>As (wpAny_entryPlaceOf λpl ip=>?_))
 obtain⟨sz,sm,sl⟩:=so;have e1:k1.get? e=Aa oe:=(sm e nf).trans he;unfold YD;unfold newFields;refine As (DV ?_ (ip.sizeOk5 _ _ _ _ _));generalize hX:({ cls:=.type "traceback",dict:=Af,data:=.fields ([hd,.ref L,.none,HC L,.none]++(if pl.isEmpty then EE 6 Dv else pl)).toArray }:CZ)=ob
 have od:ob.data=.fields ([hd,.ref L,.none,HC L,.none]++(if pl.isEmpty then EE 6 Dv else pl)).toArray:=by rw[<-hX]
 have nl:k1.objs.size≠e:=Yo (AS e1);have e2:=AB ob e1;refine Jn e2 dt hz ?_;have up:∀ b,b≠e->((k1.push ob).update e (Gk (·.setIfInBounds 1 (.ref k1.objs.size)))).get? b=(k1.push ob).get? b:=λb nb=>De _ _ (CG nb)
 have lf:ob.isFreed=Ae:=by rw[<-hX];rfl
 refine hQ _ k1.objs.size ob _ (DO _ e2 (GF (Ej dt _))) nl ?_ ((up _ nl).trans (Bp k1 lf)) od ?_ ⟨λb o q n1 n2=>?_,λb o q hb=>?_⟩
 .rw[sz];exact Du (AU _)
 .simp
 .have nb:b≠e:=λz=>n1 (by rw[z];exact AY)
  rw[up b nb];exact AB ob ((sm b n2).trans q)
 .obtain⟨uq,q'⟩:=sl b o q;have nb:b≠e:=λz=>nf (z ▸ hb)
  exact⟨uq,(up b nb).trans (AB ob q')⟩
theorem Tf{oT:CZ}{ts:Bl Al}{fl:Al}(hc:oe.cls=cls)(hx:oe.dict=dx)(h0:vs[0]?=Aa a0)(dt:oe.data=.fields vs)(hz:1<vs.size)(g:h'.get? e=Aa (Gk (·.setIfInBounds 1 (.ref T')) oe))(ne:T'≠e)(gT:h'.get? T'=Aa oT)(dT:oT.data=.fields ts)(f3:ts[3]?=Aa fl):Pi e T' cls dx fl h':=
 ⟨_,_,oT,ts,a0,g,(Obj.cls_mapFields _ _).trans hc,(mC _ _).trans hx,by rw[Array.getElem?_setIfInBounds_ne (by decide)];exact h0,Ej dt _,by simp[hz],ne,gT,dT,f3⟩
theorem LU{i:Ag}{v:Al}(q:vs[i]?=Aa v):i<vs.size:=(Array.getElem?_eq_some_iff.mp q).1
theorem Uo(xj:A.frames=Aa (env::outer))(hf:env.frame=Aa L)(ff:s.heap.FunFrames base (env::outer))(fl:vf e T cls dx s.heap)(hQ:∀ h' T',Pi e T' cls dx (HC L) h'->zx [e,T] (yu (env::outer)) s.heap h'->s.heap.get? T'=Af->Q () {s with heap:=h'}):AA M A (FN (.ref e) env) Q E s:=by
 obtain⟨oe,vs,oT,ts,a0,he,hc,hx,h0,dt,h1,ne,hT,dT,h3⟩:=fl;have z3:=LU h3;unfold FN;simp only[hf];refine As (Fk he dt h1 ?_);rw[Au (by simp:(Bm T != Dv)=Ab)]
 refine As (Fk hT dT h3 ?_);rw[Ay (by simp[HC]:¬ (Dv==HC L)=Ab)]
 refine As (Jn hT dT z3 ?_);have up:∀ b,b≠T->(s.heap.update T (Gk (·.setIfInBounds 3 Dv))).get? b=s.heap.get? b:=λb nb=>De _ _ (CG nb)
 have rcd:∀ b o,s.heap.get? b=Aa o->(∀ us,o.data≠.fields us)->b≠T:=λb o q n z=>by
  rw[z,hT]at q;cases q;exact n ts dT
 refine Tz (base:=base) xj hf (ff.of_keeps λb o q n=>⟨o,(up b (rcd b o q n)).trans q,rfl⟩) ((up e (CG ne)).trans he) dt (LU h1) λh' T' oT' xo g nT gn gT dT' f3 sh=>?_
 have T0:s.heap.get? T'=Af:=by
  by_cases z:T'=T
  .rw[z]at gn;rw[DO _ hT (GF (Ej dT _))]at gn;cases gn
  .rw[<-up T' z];exact gn
 refine hQ h' T' (Tf hc hx h0 dt (LU h1) g nT gT dT' f3) ⟨λb o q n1 n2=>?_,λb o q hb=>?_⟩ T0
 .simp only[A6,List.not_mem_nil,or_false,NG]at n1;exact sh.keep b o ((up b n1.2).trans q) (by simp[n1.1]) n2
 .obtain⟨_,o',q',n⟩:=ff.mem hb;rw[q]at q';cases q';exact sh.slot b o ((up b (rcd b o q n)).trans q) hb
theorem NZ{fv:Al}(fl:Pi e T cls dx fv s.heap)(hQ:∀ h',vf e T cls dx h'->(∀ b o,b≠T->s.heap.get? b=Aa o->h'.get? b=Aa o)->Q () {s with heap:=h'}):AA M A (GJ (.ref e) Af) Q E s:=by
 obtain⟨oe,vs,oT,ts,a0,he,hc,hx,h0,dt,h1,ne,hT,dT,h3⟩:=fl;have z3:=LU h3;unfold GJ;refine As (Fk he dt h1 ?_);rw[Au (by simp:(Bm T != Dv)=Ab)]
 refine Jn hT dT z3 (hQ _ ?_ λb o nb q=>(De _ _ (CG nb)).trans q)
 exact⟨oe,vs,_,_,a0,(De _ _ ne).trans he,hc,hx,h0,dt,h1,ne,DO _ hT (GF (Ej dT _)),Ej dT _,by simp[z3]⟩
theorem PK{h1 h2:AJ}{ex:Ac Ak}(ff:s.heap.FunFrames base (env::outer))(sh:zx ex (yu (env::outer)) s.heap h1)(hT:s.heap.get? T'=Af)(k:∀ b o,b≠T'->h1.get? b=Aa o->h2.get? b=Aa o):zx ex (yu (env::outer)) s.heap h2:=
 ⟨λb o q n1 n2=>k b o (λz=>by rw[z,hT]at q;cases q) (sh.keep b o q n1 n2),λb o q hb=>let ⟨sl,q'⟩:=sh.slot b o q hb;⟨sl,k b _ (λz=>by rw[z,hT]at q;cases q) q'⟩⟩
theorem cY(xj:A.frames=Aa (env::outer))(hf:env.frame=Aa L)(ff:s.heap.FunFrames base (env::outer))(fl:vf e T cls dx s.heap)(hQ:∀ h' T',vf e T' cls dx h'->zx [e,T] (yu (env::outer)) s.heap h'->(T'=T\/s.heap.get? T'=Af)->Q () {s with heap:=h'}):AA M A (leaving env (.ref e)) Q E s:=by
 unfold leaving;exact As (Uo xj hf ff fl λh1 T' f1 sh hT=>NZ f1 λh2 f2 k=>hQ h2 T' f2 (PK ff sh hT k) (.inr hT))
theorem aR(xj:A.frames=Aa (env::outer))(hf:env.frame=Aa L)(ff:s.heap.FunFrames base (env::outer))(he:s.heap.get? e=Aa oe)(hc:oe.cls=cls)(hx:oe.dict=dx)(dt:oe.data=.fields vs)(h0:vs[0]?=Aa a0)(h1:vs[1]?=Aa .none)(hQ:∀ h' T',vf e T' cls dx h'->zx [e] (yu (env::outer)) s.heap h'->s.heap.get? T'=Af->Q () {s with heap:=h'}):AA M A (leaving env (.ref e)) Q E s:=by
 unfold leaving FN;simp only[hf];refine As (As (Fk he dt h1 ?_));rw[Ay (by decide)]
 exact Tz (base:=base) xj hf ff he dt (LU h1) λh' T' oT ts g nT gn gT dT f3 sh=>NZ (Tf hc hx h0 dt (LU h1) g nT gT dT f3) λh2 f2 k=>hQ h2 T' f2 (PK ff sh gn k) gn
theorem fR(xj:A.frames=Aa (env::outer))(hf:env.frame=Aa L)(ff:s.heap.FunFrames base (env::outer))(fl:vf e T cls dx s.heap)(hQ:∀ h' T',vf e T' cls dx h'->zx [e,T] (yu (env::outer)) s.heap h'->(T'=T\/s.heap.get? T'=Af)->Q () {s with heap:=h'}):AA M A (FN (.ref e) env) (λ_ s2=>AA M A (GJ (.ref e) Af) Q E s2) E s:=
 Uo xj hf ff fl λh1 T' f1 sh hT=>NZ f1 λh2 f2 k=>hQ h2 T' f2 (PK ff sh hT k) (.inr hT)
theorem cZ{l:Ac B7}{A':A4}(ff:s.heap.FunFrames base l)(fl:vf e T cls dx s.heap)(hQ:∀ h' T',vf e T' cls dx h'->zx [e,T] (yu l) s.heap h'->(T'=T\/s.heap.get? T'=Af)->Q () {s with heap:=h'}):AA M A' (GJ (.ref e) Af) Q E s:=by
 obtain⟨oe,vs,oT,ts,a0,he,hc,hx,h0,dt,h1,ne,hT,dT,h3⟩:=id fl;refine NZ fl λh' f' k=>hQ h' T f' ⟨λb o q n1 n2=>k b o (λz=>n1 (by rw[z];simp)) q,λb o q hb=>⟨o.slots,k b o (λz=>?_) q⟩⟩ (.inl rfl)
 obtain⟨_,o',q',n⟩:=ff.mem hb;rw[z,hT]at q';cases q';exact n ts dT
end
def CXR(P:AK)(w:AI):CXT:=λouter H s E ev s'=>∃ e T cls dx H',ev=.ref e/\s'.os=s.os/\FW s'.gens/\Un (yu outer) [] H H' s.heap s'.heap/\zd P w H' s'.heap/\vf e T cls dx s'.heap/\H' e=Af/\H' T=Af/\s.heap.get? e=Af/\s.heap.get? T=Af/\E cls dx H'
def NE(X:Cx)(CL:ClA)(W:XW):Prop:=∀ pI Y H s e C dx t x,Z8 X pI Y H s->(X.ex=[]->X.s₀.heap.get? e=Af)->H e=Af->s.heap.get? e=Aa (Gx C dx t)->Dz X.K CL H (.ref C) dx x->W x H->X.xe (.ref e) s
section
variable{P:AK}{w:AI}{K:Fg}{mg:Ah->Ao Al}{base:AJ}{N:Ac Ah}{qual:Ah}{scope:Cc}{f:Ak}{cd:Al}{A:A4}{outer:Ac B7}{s:Ar}{H:Hp}{E:XK}{CL:ClA}{W:XW}
theorem Qu{s:Ar}(I:Z8 X pI Y H s):∀ b∈yu X.stack,b∈X.fs\/X.s₀.heap.get? b=Af:=λb hb=>by
 rcases A6.mp (I.stkSub b hb) with z|z
 .exact .inr (by rw[z];exact Du I.ok.above)
 .exact .inl z
theorem La{s:Ar}{b:Ak}(I:Z8 X pI Y H s)(hx:X.ex=[])(h:s.heap.get? b=Af):X.s₀.heap.get? b=Af:=by
 cases q:X.s₀.heap.get? b with
 |none=>rfl
 |some o=>
  obtain⟨o',z⟩:=I.base.there b o q (by rw[hx];simp)
  rw[h]at z;cases z
theorem Oo(hE:∀ x cls dx H',W x H'->Dz K CL H' cls dx x->E cls dx H'):∀ A',HM (CXR P w) (B2 (CXR P w) P w K mg base N qual scope f cd A outer s H E) (EKW K CL A' W):=by
 intro A' pI Y H1 s1 ev s2 I h;obtain⟨e,T,cls,dx,H',rfl,os,bare,un,hok,fl,he,hT,ne,nT,x,xr,wx⟩:=h;have I':=I.call' (s':=s2) (ch:=[]) os un hok bare (λb z=>absurd z (by simp))
 have hb0:Un (yu outer) [] H H' s.heap s2.heap:=I'.base;show AA (model P w) (A.deeper (D3 qual scope s.heap.objs.size f cd)) (leaving (D3 qual scope s.heap.objs.size f cd) (.ref e)) _ _ s2;refine cY (L:=s.heap.objs.size) I'.ok.frames rfl I'.stack fl λh' T' fl' sh ad=>?_
 have e0:s.heap.get? e=Af:=La I rfl ne;have T0:s.heap.get? T=Af:=La I rfl nT;refine⟨e,T',cls,dx,H',rfl,I'.os,bare,Un.shift hb0 sh ?_ (Qu I'),zd.shift hok sh ?_ I'.stkFree,fl',he,?_,e0,?_,?_⟩
 .intro b hb;rcases A6.mp hb with rfl|hb
  .exact e0
  .rw[BX.mp hb];exact T0
 .intro b hb;rcases A6.mp hb with rfl|hb
  .exact he
  .rw[BX.mp hb];exact hT
 .rcases ad with rfl|z
  .exact hT
  .exact L5 hok z
 .rcases ad with rfl|z
  .exact T0
  .exact La I' rfl z
 .exact hE x cls dx H' wx xr
theorem Ù(hE:∀ x cls dx H',W x H'->Dz K CL H' cls dx x->E cls dx H'):NE (B2 (CXR P w) P w K mg base N qual scope f cd A outer s H E) CL W:=by
 intro pI Y H1 s1 e C dx t x I e0 he ge xr hw;have hb0:Un (yu outer) [] H H1 s.heap s1.heap:=I.base;have e0':s.heap.get? e=Af:=e0 rfl;show AA (model P w) (A.deeper (D3 qual scope s.heap.objs.size f cd)) (leaving (D3 qual scope s.heap.objs.size f cd) (.ref e)) _ _ s1;refine aR (cls:=.ref C) (dx:=dx) (L:=s.heap.objs.size) I.ok.frames rfl I.stack ge rfl rfl rfl (a0:=.ref t) rfl rfl λh' T' fl' sh ad=>?_
 have one:∀{Z_:Ak->Prop},Z_ e->∀ b∈[e],Z_ b:=λ{Z_} z b hb=>by rw[BX.mp hb];exact z
 exact⟨e,T',.ref C,dx,H1,rfl,I.os,I.bare,Un.shift hb0 sh (one e0') (Qu I),zd.shift I.hok sh (one (Z_:=λb=>H1 b=Af) he) I.stkFree,fl',he,L5 I.hok ad,e0',La I rfl ad,hE x _ dx H1 hw xr⟩
theorem rl:FM (model P w) (B2 (CXR P w) P w K mg base N qual scope f cd A outer s H E).A (B2 (CXR P w) P w K mg base N qual scope f cd A outer s H E).env (B2 (CXR P w) P w K mg base N qual scope f cd A outer s H E).xe:=Zm
end
noncomputable def td:Ac Al:=[.type "ValueError",.type "Exception",.type "BaseException",.type "object"]
noncomputable def DF(K:Fg)(C:Ak)(v:Ao Al):An:=match K.lookup C with
  | some ⟨.type "type",_,.cls c,z⟩=>(match c.mro,z.toList with
    |.ref c0::tl,[_,_,_,_,Aa (.builtin nw),_]=>c0==C&&(nw == "ValueError.__new__" && (!c.hasDel&&(PySem.W.tailIn K td tl&&(ZS K c.ns&&Bb K c.ns "__init__" == Aa v))))
    | _,_=>Ae)
  |_=>Ae
theorem gM(q:JZ K C td "ValueError.__new__" = Ab):DF K C Af=Ab:=by
 unfold JZ at q;unfold DF;split at q
 .rename_i dd cd sl ho;split at q
  .rename_i C' bm k0 k1 k2 k3 n k5 hm hs;simp only[Am]at q;obtain⟨⟨⟨⟨⟨h1,h2⟩,h3⟩,h4⟩,h5⟩,h6⟩:=q;simp only[ho,hm,hs,Am];exact⟨h1,h2,h3,h4,h5,h6⟩
  .cases q
 .cases q
structure zq (K:Fg) (C:Ak):Prop where
 exc:∃ v,DF K C v=Ab
 ga:At K (.ref C) "__getattribute__" = Aa (Aa (.builtin "BaseException.__getattribute__"))
 gt:At K (.ref C) "__getattr__" = Aa Af
 cl:At K (.ref C) "__class__" = Aa (Aa (.builtin "object.__class__"))
 ob:Ck K C (.type "object")=Aa Ab
 be:BQ K (.ref C) (.type "BaseException")=Aa Ab
 cs:(Dy K C).isSome=Ab
 ve:B8 K (.ref C) (.type "ValueError")=Aa Ab
def tm(e C:Ak)(h:AJ):Prop:=∃ o,h.get? e=Aa o/\o.cls=.ref C
theorem pL{N:Ak}{m:Ah->Ao Al}{v:Al}(X:K.In h)(G:h.Ns N m)(q:Bb K N x=Aa (Aa v)):m x=Aa v:=by
 obtain⟨ob,es,ep,g,dt,_,fd⟩:=G;unfold Bb at q;split at q
 .rename_i zf n' sl lk;have g':=X _ _ lk;rw[g]at g';cases g';cases dt;split at q
  .rename_i hf;cases q;rw[<-fd];unfold nsFind findBy;rw[<-Xz,hf];rfl
  .by_cases z:(es.toList.any λy=>y.refKey)=Ab
   .rw[Au z]at q;cases q
   .rw[Ay z]at q;cases q
 .cases q
theorem P5{h0:AJ}(X0:K.In h0)(q:DF K C v=Ab):
  ∃ bm N nm qn bs hd sn sub ab col dd k0 k1 k2 k3 k5 mN,(∀ h:AJ,K.In h->h.get? C=Aa (Cu nm qn C N bs bm hd sn sub ab col dd k0 k1 k2 k3 k5 "ValueError.__new__")/\h.Ns N mN/\D2 h td bm)/\mN "__init__" = v/\bm.contains (.type "BaseException")=Ab:=by
 unfold DF at q;split at q
 .rename_i dd cd sl ho;split at q
  .rename_i C' bm k0 k1 k2 k3 n k5 hm hs;simp only[Am,AD,Bf]at q;obtain⟨rfl,rfl,ai,ht,hok,re⟩:=q;obtain⟨nm,bs,mro,ns,qn,hd,sn,sub,ab,col,del⟩:=cd;dsimp only at hm ai hok re;subst hm ai;have hsl:sl=#[k0,k1,k2,k3,Aa (.builtin "ValueError.__new__"),k5]:=by
    obtain⟨l⟩:=sl;simp only at hs;rw[hs]
   subst hsl;have kN:∃ o,K.lookup ns=Aa o:=by
    unfold ZS at hok;split at hok
    .rename_i z;exact⟨_,z⟩
    .cases hok
   obtain⟨oN,hoN⟩:=kN;have nsAt:∀ h:AJ,K.In h->h.Ns ns (h0.nsMap ns):=λh X=>by
    obtain⟨o,es,ep,e1,r⟩:=Heap.Ns.of_isNs (ZM X0 hok);have e2:=X0 _ _ hoN;rw[e1]at e2;cases e2;exact⟨_,es,ep,X _ _ hoN,r⟩
   refine⟨bm,ns,nm,qn,bs,hd,sn,sub,ab,col,dd,k0,k1,k2,k3,k5,h0.nsMap ns,λh X=>⟨X _ _ ho,nsAt h X,ZT X ht⟩,?_,(ZT X0 ht).hasType (by decide)⟩
   cases v with
   |none=>exact PySem.W.nsMap_none_of_in X0 hok re
   |some u=>exact pL X0 (.of_isNs (ZM X0 hok)) re
  .cases q
 .cases q
theorem jU(X:K.In h)(q:DF K C v=Ab):
  ∃ bm N nm qn bs hd sn sub ab col dd k0 k1 k2 k3 k5 mN,h.get? C=Aa (Cu nm qn C N bs bm hd sn sub ab col dd k0 k1 k2 k3 k5 "ValueError.__new__")/\h.Ns N mN/\mN "__init__" = v/\D2 h td bm:=by
 obtain⟨bm,N,nm,qn,bs,hd,sn,sub,ab,col,dd,k0,k1,k2,k3,k5,mN,ho,hi,_⟩:=P5 X q;obtain⟨o1,o2,o3⟩:=ho h X;exact⟨bm,N,nm,qn,bs,hd,sn,sub,ab,col,dd,k0,k1,k2,k3,k5,mN,o1,o2,hi,o3⟩
section
variable{prog:AK}{w:AI}{A:A4}{E:Vq}{h:AJ}{g:Bl Eo}{d:IE}{t:Ag}{os:BU}{K:Fg}{e C:Ak}
theorem KH(p:tm e C h):PySem.W.Looks M h (typeOf (.ref e)) (.ref C):=by
 obtain⟨o,h1,h2⟩:=p;exact h2 ▸ (PySem.W.Looks.ld h1).andThen .now
theorem cK{R:Il->Ar->Prop}{tp:Al}(X:K.In h)(p:tm e C h)(hm:Ck K C (.type "object")=Aa Ab)(hq:R (.ok (.ret (.ref C))) ⟨h,g,d,t,os⟩):
  EF (model prog w) A (.call (.builtin "getset_descriptor.__get__") ⟨[.builtin "object.__class__",.ref e,tp],[]⟩) R ⟨h,g,d,t,os⟩:=by
 have L0:=KH (M:=model prog w) p;have L1:=PySem.W.looks_mroIn (M:=model prog w) X hm;refine DZ PySem.W.KF.slot_gs.plain PySem.W.KF.entry_gs (PySem.W.KF.slot_gs.check _ _ _ _ _ _ _ _ PySem.W.KF.type_class (PySem.W.KF.args_gs _ _ _) ?_);unfold Builtin.«getset_descriptor.__get__» Builtin.Getset_descriptor.descrGet;rw[PySem.W.dga_obj];refine As (A2 ?_);unfold Builtin.Getset_descriptor.descrGetter Builtin.Getset_descriptor.descrCheckInstance Builtin.Getset_descriptor.descrNameAndClass Jt;simp only[PySem.W.KF.owner_class]
 repeat lk
 refine⟨Hy _ (by decide+kernel),codeAny_builtin PySem.W.KF.entry_class ?_⟩
 unfold Builtin.«object.__class__» shownTypeOf
 repeat lk
 exact hq
theorem bE{Q:Fin->Ar->Prop}(X:K.In h)(x:zq K C)(p:tm e C h)(hq:Q (.done (.ret (.ref C))) ⟨h,g,d,t,os⟩):
  AA (model prog w) A (Builtin.«object.__getattribute__» ⟨[.ref e,.str "__class__" tk],[]⟩) Q E ⟨h,g,d,t,os⟩:=by
 have L0:=KH (M:=model prog w) p;have L1:=Cq (M:=model prog w) X x.cl;have hT5:(⟨h,g,d,t,os⟩:Ar).TypeIs (.builtin "object.__class__") "getset_descriptor" := Zd;have f5:=Zd;have f6:=F.slot_gs_get.lookup;have f7:=F.slot_gs_set.lookup
 repeat (any_goals (first|assumption|with_reducible refine L0.at ?_|with_reducible refine L1.at ?_|wp_step))
 refine cK X p x.ob ?_
 repeat (any_goals (first|assumption|wp_step))
theorem SL{m7:Al}(X:K.In h)(x:zq K C)(p:tm e C h)(hq:Q () ⟨h,g,d,t,os⟩):AA M A (Gs "BaseException.__getattribute__" ⟨[.ref e,m7],[]⟩) Q E ⟨h,g,d,t,os⟩:=by
 have hk:builtinKind "BaseException.__getattribute__" = Aa .slot:=by decide+kernel
 have kl:splitId "BaseException.__getattribute__" = Aa ("BaseException", "__getattribute__"):=by decide+kernel
 have L0:=KH (M:=M) p;have L1:=ZR (M:=M) X x.be;have ha:=F.args_bexc_ga (.ref e) m7;simp only[Gs,hk,kl];refine As ?_
 .unfold Jt
  repeat (first|(with_reducible refine As (L0.at ?_))|(with_reducible refine L1.at ?_)|wp_step)
  exact hq
theorem gN{Q:Vq}(X:K.In h)(x:zq K C)(p:tm e C h)(hq:Q (.ref C) ⟨h,g,d,t,os⟩):AA (model prog w) A (getAttrBy (.ref e) (.str "__class__" tk) fill expr) Q E ⟨h,g,d,t,os⟩:=by
 have L0:=KH (M:=model prog w) p;have L1:=Cq (M:=model prog w) X x.ga;have L2:=Cq (M:=model prog w) X x.gt;have f3:=F6.ga.bind (.ref e);have hx0:(expr&&Kf (Dm "BaseException.__getattribute__"))=Ae:=by cases expr<;>rfl
 have hx2:(Dm "BaseException.__getattribute__" == Dm "object.__getattribute__")=Ae:=by decide+kernel
 have hx1:(Kf (Bm C)&&Dm "BaseException.__getattribute__" == Dm "object.__getattribute__")=Ae:=by rw[hx2];rfl
 repeat (any_goals (first|assumption|with_reducible refine L0.at ?_|with_reducible refine L1.at ?_|with_reducible refine L2.at ?_|wp_step))
 refine DZ F6.ga.plain Y_6 (SL X x p (bE X x p ?_))
 repeat (any_goals (first|assumption|wp_step))
theorem bC{Q:Ao Al->Ar->Prop}(X:K.In h)(x:zq K C)(p:tm e C h)(hq:Q (Aa (.ref C)) ⟨h,g,d,t+1,os⟩):AA (model prog w) A (getAttr? (.ref e) "__class__") Q E ⟨h,g,d,t,os⟩:=by
 unfold getAttr? getAttrBy?
 repeat (any_goals (first|assumption|with_reducible apply gN X x p|wp_step))
end
theorem TN{e C:Ak}(x:zq K C):PySem.W.KitX K (.ref e) (.ref C) (tm e C) where
 ty:=λM h _ p=>KH p
 it:=λM h X _=>by
  obtain⟨cd,hc⟩:=CA.mp x.cs;unfold Dy at hc;split at hc
  .rename_i c' d' cd' uq ho;intro A' Q' E' s' k q;unfold isType loadHead;exact As (Z_5 (k _ _ (X _ _ ho)) (A2 q))
  .cases hc
 ne:=λh tp dd its n sl X È=>by
  obtain⟨cd,hc⟩:=CA.mp x.cs;refine Bool.eq_false_iff.mpr λq=>?_
  have e:C=tp:=JY (AD.mp q);subst e;unfold Dy at hc;split at hc
  .rename_i c' d' cd' uq ho;have z:=(X _ _ ho).symm.trans È;cases z
  .cases hc
 ca:=λ{_ _ _ _ _ s} X p k=>by
  obtain⟨h,g,d,t,os⟩:=s;exact bC X x p k
theorem cL{A:A4}{E:Vq}{g:Bl Eo}{d:IE}{t:Ag}{os:BU}{e C C':Ak}{b:An}{Q:An->Ar->Prop}(X:K.In h)(p:tm e C h)(x':zq K C')(hs:BQ K (.ref C) (.ref C')=Aa b)(hq:Q b ⟨h,g,d,t,os⟩):AA M A (excMatches (.ref e) (.ref C')) Q E ⟨h,g,d,t,os⟩:=by
 obtain⟨bm,N,nm,qn,bs,hd,sn,sub,ab,col,dd,k0,k1,k2,k3,k5,mN,hC',_,_,T⟩:=jU X x'.exc.choose_spec;have hcB:(Bm C'::bm).contains (.type "BaseException")=Ab:=by rw[Hx,T.hasType (show td.contains (.type "BaseException")=Ab by decide),J5]
 have L0:=KH (M:=M) p;have L1:=ZR (M:=M) X hs;have f:=tc_notTuple;unfold excMatches
 repeat (first|(with_reducible refine As (L0.at ?_))|(with_reducible refine L1.at ?_)|(with_reducible refine As (L1.at ?_))|with_reducible refine Ce hC' ?_|(with_reducible refine Fp hC' ?_;rw[hcB])|wp_step)
 all_goals first|exact hq|(cases b<;>(wp_walk;exact hq))
def HS(X:Cx)(pI:Pn)(e:Ak):Prop:=e≠X.env.locals/\(∀ x c,X.env.cells.lookup x=Aa c->c≠e)/\(∀ p∈X.pn++pI,p.1≠e)/\X.s₀.heap.get? e=Af
section
variable{X:Cx}{pI:Pn}{Y:L2.St}{H:Hp}{s:Ar}{e:Ak}
theorem MO(I:Z8 X pI Y H s)(hx:X.ex=[])(h:s.heap.get? e=Af):HS X pI e:=by
 refine⟨?_,λx c q z=>?_,λp hp z=>?_,La I hx h⟩
 .rintro rfl;obtain⟨m,⟨o,_,_,ho,_⟩,_⟩:=I.loc;rw[h]at ho;cases ho
 .obtain⟨v,o,ho,_⟩:=I.cell x c q;rw[z,h]at ho;cases ho
 .obtain⟨q,_⟩:=I.pin p hp;rw[z,h]at q;cases q
theorem S9{ex:Ac Ak}(I:Z8 X pI Y H s)(hx:X.ex=[])(sh:zx ex (yu X.stack) s.heap h')(ha:∀ b∈ex,HS X pI b)(hH:∀ b∈ex,H b=Af):Z8 X pI Y H {s with heap:=h'}:=by
 have kp:∀ b o,s.heap.get? b=Aa o->b∉ex->∃ sl,h'.get? b=Aa {o with slots:=sl}:=λb o q n=>by
  by_cases hb:b∈yu X.stack
  .exact sh.slot b o q hb
  .exact⟨o.slots,sh.keep b o q n hb⟩
 have cellK:∀ x c,X.env.cells.lookup x=Aa c->∀ v,s.heap.IsCell c v->h'.IsCell c v:=λx c q v ⟨o,ho,hd⟩=>by
  obtain⟨sl,z⟩:=kp c o ho λz=>(ha c z).2.1 x c q rfl
  exact⟨_,z,hd⟩
 refine⟨I.ok,I.os,I.bare,?_,?_,λx c q=>?_,I.free,I.freeC,λp hp=>?_,zd.shift I.hok sh hH I.stkFree,I.len⟩
 .have b0:=I.base;rw[hx]at b0 ⊢;exact Un.shift b0 sh (λb hb=>(ha b hb).2.2.2) (Qu I)
 .obtain⟨m,⟨o,es,ep,ho,r⟩,hl⟩:=I.loc;obtain⟨sl,z⟩:=kp _ o ho λz=>(ha _ z).1 rfl
  refine⟨m,⟨_,es,ep,z,r⟩,λi x v e1 e2 e3=>?_⟩
  obtain⟨u,ru,l⟩:=hl i x v e1 e2 e3;refine⟨u,ru,?_⟩;rcases l with l|⟨k,c,q,z⟩
  .exact .inl l
  .exact .inr ⟨k,c,q,cellK x c q _ z⟩
 .obtain⟨v,z⟩:=I.cell x c q;exact⟨v,cellK x c q v z⟩
 .obtain⟨q,n,ne,nf,d⟩:=I.pin p hp;exact⟨sh.keep p.1 p.2 q (λz=>(ha p.1 z).2.2.1 p hp rfl) (λz=>(A6.mp (I.stkSub p.1 z)).elim ne nf),n,ne,nf,d⟩
theorem cV(I:Z8 X pI Y H s)(hx:X.ex=[])(ha:HS X pI e)(hH:H e=Af)(ho:∃ o,s.heap.get? e=Aa o)(p:φ s.heap)(hφ:∀ h1 h2:AJ,φ h1->(∀ o,h1.get? e=Aa o->h2.get? e=Aa o)->φ h2):Z8 X pI Y (upd H e (.ext φ)) s:=by
 have ne:∀ b o,H b=Aa o->b≠e:=λb o q z=>by rw[z,hH]at q;cases q
 refine⟨I.ok,I.os,I.bare,⟨I.base.keep,I.base.slot,λb o q n hb=>?_,I.base.there,λb xs q=>?_,λb o u q=>?_,λb ps q=>?_⟩,I.loc,I.cell,?_,λx c q=>?_,λp hp=>?_,λb o q=>?_,I.len⟩
 .rw[AQ λz=>by rw[z,ha.2.2.2]at q;cases q]
  exact I.base.free b o q n hb
 .have:=I.base.tups b xs q;rw[AQ (ne _ _ this)];exact this
 .have:=I.base.frzs b o u q;rw[AQ (ne _ _ this)];exact this
 .obtain⟨more,this⟩:=I.base.tbls b ps q;exact⟨more,by rw[AQ (ne _ _ this)];exact this⟩
 .rw[AQ λz=>ha.1 z.symm];exact I.free
 .rw[AQ (ha.2.1 x c q)];exact I.freeC x c q
 .obtain⟨q,n,r⟩:=I.pin p hp;exact⟨q,by rw[AQ (ha.2.2.1 p hp)];exact n,r⟩
 .by_cases hb:b=e
  .subst hb;rw[BO]at q;cases q;exact⟨p,ho,hφ⟩
  .rw[AQ hb]at q;exact(I.hok b o q).stay (λc v hc z=>z) (λc z=>by rw[AQ (ne _ _ z)];exact z) λc zs z=>by rw[AQ (ne _ _ z)];exact z
theorem cU{i:Ag}{n:Ah}{m:Ah->Ao Al}{tk:Ag}(I:Z8 X pI Y H s)(hN:X.N.Nodup)(hi:X.N[i]?=Aa n)(hn:s.heap.Ns X.env.locals m)(aw:h'.Ns X.env.locals (λx=>if x=n then v else m x))(hs:FK X.env.locals s.heap h'):Z8 X pI (Y.set i Af) H {s with heap:=h',toks:=tk}:=by
 obtain⟨m0,hn0,hl⟩:=I.loc;have em:m0=m:=by
  obtain⟨o,es,ep,h1,h2,_,h3⟩:=hn0;obtain⟨o',zf,jr,mq,h2',_,h3'⟩:=hn;rw[h1]at mq;cases mq;rw[h2]at h2';cases h2'
  funext y
  rw[<-h3,<-h3']
 subst em;obtain⟨oL,_,_,hoL,_⟩:=id hn;have lt:∀ b o,X.s₀.heap.get? b=Aa o->b≠X.env.locals:=λb o q=>BB (AZ (AS q) I.ok.above)
 refine⟨I.ok,I.os,I.bare,⟨λb o q n hb hx=>?_,λb o q n hb hx=>?_,I.base.free,λb o q hx=>?_,I.base.tups,I.base.frzs,I.base.tbls⟩,⟨_,aw,λj y v' e1 e2 e3=>?_⟩,λy c q=>?_,I.free,I.freeC,λp hp=>?_,λb ob q=>?_,by rw[AT];exact I.len⟩
 .exact(hs.2 b (lt b o q)).trans (I.base.keep b o q n hb hx)
 .obtain⟨sl,e1⟩:=I.base.slot b o q n hb hx;exact⟨sl,(hs.2 b (lt b o q)).trans e1⟩
 .obtain⟨o',e1⟩:=I.base.there b o q hx;exact⟨o',(hs.2 b (lt b o q)).trans e1⟩
 .by_cases hj:i=j
  .subst hj;have:=Ee e2;cases this
  .rw[Bu hj]at e2;obtain⟨u',r',q⟩:=hl j y v' e1 e2 e3;refine⟨u',r',?_⟩;rcases q with ⟨k,e⟩|⟨k,c,e,z⟩
   .refine .inl ⟨k,?_⟩;have:y≠n:=λe=>hj (Qa hN hi (e ▸ e1))
    simp[this,e]
   .exact .inr ⟨k,c,e,z.sameBut hs (I.cne y c e)⟩
 .obtain⟨w',z⟩:=I.cell y c q;exact⟨w',z.sameBut hs (I.cne y c q)⟩
 .obtain⟨q,n,ne,nf,d⟩:=I.pin p hp;exact⟨(hs.2 p.1 ne).trans q,n,ne,nf,d⟩
 .refine(I.hok b ob q).stay (λc w' hc z=>(hs.2 c ?_).trans z) (λ_ q=>q) λ_ _ q=>q
  rintro rfl;have wk:=I.free;rcases hc with z|hc
  .rw[<-z,wk]at q;cases q
  .rw[wk]at hc;cases hc
end
noncomputable def Cx.hot(X:Cx)(e:Ak):Cx:={X with A:=X.A.mark (Aa (.ref e)),calm:=Ae,xe:=λ_ _=>AM}
section
variable{X:Cx}{pI:Pn}{Y:L2.St}{H:Hp}{s:Ar}{e:Ak}
theorem pK(ok:X.Ok):(Cx.hot X e).Ok:=⟨ok.mod,ok.kind,ok.glob,ok.blt,ok.above,ok.inj,ok.has,ok.cab,λz=>(nomatch z),ok.frames,ok.stk,ok.exf,ok.bs,ok.bsz,ok.noex,ok.exfs,ok.funs,ok.frf⟩
theorem Qr(I:Z8 X pI Y H s)(e:Ak):Z8 (Cx.hot X e) pI Y H s:=⟨pK I.ok,I.os,I.bare,I.base,I.loc,I.cell,I.free,I.freeC,I.pin,I.hok,I.len⟩
theorem fL(ok:X.Ok)(I:Z8 (Cx.hot X e) pI Y H s):Z8 X pI Y H s:=⟨ok,I.os,I.bare,I.base,I.loc,I.cell,I.free,I.freeC,I.pin,I.hok,I.len⟩
theorem Sx.unset(x:Sx K CL Fz B U Y H)(i:Ag):Sx K CL Fz B (U.set i Af) (Y.set i Af) H:=by
 have get:∀(j:Ag)(y:D×An),(U.set i Af)[j]?=Aa (Aa y)->i≠j/\U[j]?=Aa (Aa y):=λj y h=>by
  by_cases hj:i=j
  .subst hj;have:=Ee h;cases this
  .exact⟨hj,by rw[Bu hj]at h;exact h⟩
 have sub:∀ a,BN B (U.set i Af) (Y.set i Af) a->BN B U Y a:=λa h=>by
  rcases h with h|⟨j,d,h1,h2⟩
  .exact .inl h
  .obtain⟨hj,h1⟩:=get j _ h1;rw[Bu hj]at h2;exact .inr ⟨j,d,h1,h2⟩
 refine⟨⟨λj d h=>?_,λj d h hn=>?_,by rw[AT,AT];exact x.len⟩,λa h=>x.aok a (sub a h),λj d a h1 h2=>?_,λj k d f a h1 h2 h3 h4=>?_,x.same,by rw[AT,AT];exact x.len,λj h=>?_⟩
 .obtain⟨hj,h1⟩:=get j _ h;obtain⟨v,q,r⟩:=x.good.sh j d h1;exact⟨v,by rw[Bu hj];exact q,Z7.sub sub _ r⟩
 .obtain⟨hj,h1⟩:=get j _ h;obtain⟨a,xs,ds,q,z,ha,hh,rr⟩:=x.good.ow j d h1 hn;exact⟨a,xs,ds,by rw[Bu hj];exact q,z,.inr ⟨j,d,h,by rw[Bu hj];exact q⟩,hh,Z9.sub sub _ rr⟩
 .obtain⟨hj,h1⟩:=get j _ h1;rw[Bu hj]at h2;exact x.new j d a h1 h2
 .obtain⟨hj,h1⟩:=get j _ h1;obtain⟨hk,h2⟩:=get k _ h2;rw[Bu hj]at h3;rw[Bu hk]at h4;exact x.dis j k d f a h1 h2 h3 h4
 .obtain⟨hj,h1⟩:=get j _ h;obtain⟨a,xs,p1,p2,p3⟩:=x.pin j h1;exact⟨a,xs,p1,by rw[Bu hj];exact p2,p3⟩
end
def JM(e C:Ak)(dx:Ao Ak)(h:AJ):Prop:=∃ o,h.get? e=Aa o/\o.cls=.ref C/\o.dict=dx/\∃ us,o.data=.fields us
noncomputable def Nk(X:Cx)(CL:ClA)(pI:Pn)(Y:L2.St)(H:Hp)(y:Ex)(Xw:Vq):Prop:=
 ∀ s' H' e T cls dx,Z8 X pI Y H' s'->Az H H'->vf e T cls dx s'.heap->H' e=Af->H' T=Af->HS X pI e->HS X pI T->Dz X.K CL H' cls dx y->Xw (.ref e) s'
def STB(X:Cx)(CL:ClA)(body:Ac AL)(f:Rho->O):Prop:=∀ Fz B pI s Y H D U (Xw:Vq),FM (model X.prog X.w) X.A X.env Xw->Z8 X pI Y H s->Sx X.K CL Fz B U Y H ->
  (match f U with
   |.exn y U'=>U'=U->Nk X CL pI Y H y Xw
   | o=>B5 X.K CL Fz B (λ_ _=>AM) o D)->(∀ y U',f U=.exn y U'->U'=U)->AA (model X.prog X.w) X.A (execs body X.env) (SP X pI D) Xw s
theorem Qs{i:Ag}{g n:Ah}{p1 hp:AF}{b:An}{rest:Ac ExceptHandler}{s1:Ar}{U':Rho}{D:xm}{e T1:Ak}{y:Ex}(hx:X.ex=[])(hN:X.N.Nodup)(hi:X.N[i]?=Aa n)(hl:X.env.scope.names.lookup n=Aa .local)(hg:Gl X g)(hm:X.mg g=Aa (.ref C'))(zw:(g==("__debug__" : Ah))=Ae)(xc:zq X.K C')(hsu:BQ X.K (.ref C) (.ref C')=Aa b)(hh:∀ e,vx (Cx.hot X e) CL (λ_ _=>AM) (h0::hs) fh)(I1:Z8 X pI Y H' s1)(oj:vf e T1 (.ref C) dx s1.heap)(ae:HS X pI e)(gf:HS X pI T1)(he:H' e=Af)(fg:H' T1=Af)(gx:Sx X.K CL Fz B U' Y H')(xz:CL y.c=Aa C)(xr:Dz X.K CL H' (.ref C) dx y)(p2:b=Ab->B5 X.K CL Fz B W (ul i y U' fh) D)(p3:b=Ae->AA (model X.prog X.w) X.A (Im (.ref e) X.env rest) (SP X pI D) X.xe s1):AA (model X.prog X.w) X.A (Im (.ref e) X.env (.ExceptHandler (Aa (.Name g p1)) (Aa n) (h0::hs) hp::rest)) (SP X pI D) X.xe s1:=by
 obtain⟨Cx0,hcl0,ecl,jy⟩:=xr (BN B U' Y) gx.aok;have xat:∀{h:AJ}{T:Ak},vf e T (.ref C) dx h->tm e C h:=λ{h T} z=>by
  obtain⟨oe,_,_,_,_,z1,z2,_⟩:=z;exact⟨oe,z1,z2⟩
 have xad:∀{h:AJ}{T:Ak},vf e T (.ref C) dx h->JM e C dx h:=λ{h T} z=>by
  obtain⟨oe,vs,_,_,_,z1,z2,z3,_,z4,_⟩:=z;exact⟨oe,z1,z2,z3,vs,z4⟩
 have two:∀{T:Ak}{Z_:Ak->Prop},Z_ e->Z_ T->∀ b∈[e,T],Z_ b:=λ{T Z_} h1 h2 b hb=>by
  rcases A6.mp hb with rfl|hb
  .exact h1
  .rw[BX.mp hb];exact h2
 refine wpAny_handleBy_cons (codeAny_handlers_test (Jy (X:=Cx.hot X e) (Qr I1 e) hg hm ?_ zw)) (by intro q;cases q)
 refine cL (K:=X.K) I1.kIn (xat oj) xc hsu ?_;cases b with
 |false=>exact p3 rfl
 |true=>
 have p2:=p2 rfl;refine codeAny_handlers_suite_as ?_;refine cZ (base:=X.base) (l:=X.stack) I1.stack oj λh3 T3 fl3 sh3 hT3=>?_
 have I3:=S9 I1 hx sh3 (two ae gf) (two (Z_:=λb=>H' b=Af) he fg)
 obtain⟨oe,oeg,oec⟩:=xad fl3;have I3':=cV (φ:=JM e C dx) I3 hx ae he ⟨oe,oeg⟩ ⟨oe,oeg,oec⟩ λh1 h2 ⟨o,q1,q2⟩ k=>⟨o,k o q1,q2⟩
 have wb:Az H' (upd H' e (.ext (JM e C dx))):=λb o q=>by rw[AQ λz=>by rw[z,he]at q;cases q];exact q
 refine P6 (X:=Cx.hot X e) (i:=i) (v:=.ref e) (Qr I3' e) hN hi (.inl hl) rfl (λs4 I4=>?_) (.inr hl)
 have x3:=gx.grow wb;have nA:¬ BN B U' Y e:=λz=>by
  obtain⟨xs,q,w⟩:=x3.aok e z;rw[BO]at q;cases q;exact w
 have rp:Z7 X.K CL (upd H' e (.ext (JM e C dx))) (BN B U' Y) (.ref e) (.exc y.c y.fs):=by
  refine⟨e,C,JM e C dx,rfl,nA,xz,BO,λh ⟨o,z1,z2,_⟩=>⟨o,z1,z2⟩,?_⟩
  rcases jy with z|⟨d,vs,ed,nd,hd,rf⟩
  .exact .inl z
  .exact .inr ⟨d,vs,nd,wb _ _ hd,z9.kp (Kp.of wb) _ rf,λh ⟨o,z1,_,z3,z4⟩=>⟨o,z1,z3.trans ed,z4⟩⟩
 have x4:=x3.set i rp;have fin:∀{s5:Ar}{Y5:L2.St}{H5:Hp}{Q:Ea->Ar->Prop},Z8 (Cx.hot X e) pI Y5 H5 s5->(∀ s6,Z8 X pI (Y5.set i Af) H5 s6->Q () s6)->AA (model X.prog X.w) X.A (do bindName X.env n .none;unbindBehindTheSuite X.env n hp) Q X.xe s5:=λ{s5 Y5 H5 Q} I5 k=>by
  have fj:=fL I1.ok I5;obtain⟨m,hn,_⟩:=id fj.loc;refine wpAny_nameGoes_keeps hl hn (by rw[I1.ok.kind];rfl) λh6 v6 hn6 sb6=>?_
  exact k _ (cU fj hN hi hn hn6 sb6)
 refine Bj (hh e Fz B pI s4 _ _ {nx:=λY5 H5=>D.nx (Y5.set i Af) H5,rt:=D.rt} I4 ⟨_,x4,?_⟩) (λf s5 hf=>?_) λ_ _ z=>A7 z
 .unfold ul at p2;cases ef:fh (U'.set i (Aa (.exc y.c y.fs,Ae))) with
  |next vi=>rw[ef]at p2;exact λY5 H5 x5=>p2 _ _ (x5.unset i)
  |ret d b=>rw[ef]at p2;exact p2
  |brk _=>rw[ef]at p2;exact p2.elim
  |cont _=>rw[ef]at p2;exact p2.elim
  |exn _ _=>rw[ef]at p2;exact p2.elim
  |bad=>rw[ef]at p2;exact p2.elim
 .cases f with
  |next=>
   obtain⟨Y5,H5,I5,q⟩:=hf;exact fin I5 λs6 I6=>⟨_,H5,I6,q⟩
  |ret u=>
   obtain⟨v,Y5,H5,I5,r,q⟩:=hf;exact fin I5 λs6 I6=>⟨v,_,H5,I6,r,q⟩
  |brk=>obtain⟨_,_,_,q⟩:=hf;exact A7 q
  |cont=>obtain⟨_,_,_,q⟩:=hf;exact A7 q
def Ph(X:Cx)(CL:ClA)(up:Ag->Ac Ag)(g:Ah)(c:Ag):Prop:=∃ C',Gl X g/\X.mg g=Aa (.ref C')/\(g==("__debug__" : Ah))=Ae/\zq X.K C'/\∀ c' C,CL c'=Aa C->BQ X.K (.ref C) (.ref C')=Aa ((up c').contains c)
theorem TX{y:Ex}{Q:Flow->Ar->Prop}{hd:Ac ExceptHandler}(hx:X.ex=[])(yo:X.stack=X.env::X.outer)(ak:X.env.frame=Aa X.env.locals)(k:∀ e T1 cls dx H' s1,Z8 X pI Y H' s1->Az H H'->vf e T1 cls dx s1.heap->HS X pI e->HS X pI T1->H' e=Af->H' T1=Af->Dz X.K CL H' cls dx y->AA (model X.prog X.w) X.A (Im (.ref e) X.env hd) Q X.xe s1):Nk X CL pI Y H y (λev s1=>AA (model X.prog X.w) X.A (FN ev X.env) (λ_ s2=>AA (model X.prog X.w) X.A (GJ ev Af) (λ_ s3=>AA (model X.prog X.w) X.A (Im ev X.env hd) Q X.xe s3) X.xe s2) X.xe s1):=by
 intro s' H' e T cls dx I' sm fl he hT ae aT xr;have two:∀{T:Ak}{Z_:Ak->Prop},Z_ e->Z_ T->∀ b∈[e,T],Z_ b:=λ{T Z_} h1 h2 b hb=>by
  rcases A6.mp hb with rfl|hb
  .exact h1
  .rw[BX.mp hb];exact h2
 have xj:X.A.frames=Aa (X.env::X.outer):=by rw[<-yo];exact I'.ok.frames
 refine fR (base:=X.base) xj ak (by rw[<-yo];exact I'.stack) fl λh1 T1 oj sh1 hT1=>?_
 rw[<-yo]at sh1;exact k e T1 cls dx H' _ (S9 I' hx sh1 (two ae aT) (two (Z_:=λb=>H' b=Af) he hT)) sm oj ae (hT1.elim (λz=>z ▸ aT) λz=>MO I' hx z) he (hT1.elim (λz=>z ▸ hT) λz=>L5 I'.hok z) xr
noncomputable def Cx.pw(X:Cx)(pI:Pn)(Xw:Vq):Cx:={X with pn:=X.pn++pI,xe:=Xw}
section
variable{X:Cx}{pI KK:Pn}{Y:L2.St}{H:Hp}{s:Ar}{Xw:Vq}
theorem wU(ok:X.Ok):(Cx.pw X pI Xw).Ok:=⟨ok.mod,ok.kind,ok.glob,ok.blt,ok.above,ok.inj,ok.has,ok.cab,ok.hd,ok.frames,ok.stk,ok.exf,ok.bs,ok.bsz,ok.noex,ok.exfs,ok.funs,ok.frf⟩
theorem QZ(I:Z8 X pI Y H s)(Xw:Vq):Z8 (Cx.pw X pI Xw) [] Y H s:=⟨wU I.ok,I.os,I.bare,I.base,I.loc,I.cell,I.free,I.freeC,λp hp=>I.pin p (by
 rcases Ei.mp hp with z|z
 .exact z
 .exact absurd z (by simp)),I.hok,I.len⟩
theorem MT(ok:X.Ok)(I:Z8 (Cx.pw X pI Xw) KK Y H s):Z8 X pI Y H s:=⟨ok,I.os,I.bare,I.base,I.loc,I.cell,I.free,I.freeC,λp hp=>I.pin p (ET _ hp),I.hok,I.len⟩
theorem jE(ok:X.Ok){D:xm}{f:Flow}{s':Ar}(h:SP (Cx.pw X pI Xw) KK D f s'):SP X pI D f s':=by
 cases f with
 |next=>obtain⟨Y',H',I,q⟩:=h;exact⟨Y',H',MT ok I,q⟩
 |brk=>obtain⟨Y',H',I,q⟩:=h;exact⟨Y',H',MT ok I,q⟩
 |cont=>obtain⟨Y',H',I,q⟩:=h;exact⟨Y',H',MT ok I,q⟩
 |ret u=>obtain⟨v,Y',H',I,r,q⟩:=h;exact⟨v,Y',H',MT ok I,r,q⟩
end
section
variable{X:Cx}{CL:ClA}{k n:Ag}{fr:An}{f:Ak}{fd:Bi}{ps:Ac Ah}{F:Ac D->R D}{x:Ah}{p pos pos2:AF}{e:Aq}{es:Ac Aq}{fs ft:Rho->R (Ac D)}{sh:Rho->An}
theorem Ui{y:Ex}(hx:X.ex=[])(ok:X.Ok)(q:Nk X CL pI Y H y Xw):∀ KK H1 s1 e s',Z8 (Cx.pw X pI Xw) KK Y H1 s1->CXR X.prog X.w (Cx.pw X pI Xw).stack H1 s1 (λcls dx H'=>Dz X.K CL H' cls dx y/\Az H H') e s'->(Cx.pw X pI Xw).xe e s':=by
 intro KK H1 s1 ev s' J h;obtain⟨e,T,cls,dx,H',rfl,os,bare,un,hok,fl,he,hT,ne,nT,xr,sm⟩:=h;have J':=MT ok J;have J2:=J'.call' (s':=s') (ch:=[]) os un hok bare (λb z=>absurd z (by simp))
 exact q s' H' e T cls dx J2 sm fl he hT (MO J' hx ne) (MO J' hx nT) xr
theorem fZ:∀ KK H1 s1 e s',Z8 (Cx.pw X pI Xw) KK Y H1 s1->CXR X.prog X.w (Cx.pw X pI Xw).stack H1 s1 (λ_ _ _=>AM) e s'->(Cx.pw X pI Xw).xe e s':=by
 intro KK H1 s1 ev s' J h;obtain⟨e,T,cls,dx,H',rfl,os,bare,un,hok,fl,he,hT,ne,nT,w⟩:=h;exact w.elim
variable(hx0:X.ex=[])(G:Y4 X.prog X.w X.K X.mg X.base (CXR X.prog X.w) k f fd ps (spD X.K CL n fr F))(hr:U4 k X.A)(hg:Gl X x)(hm:X.mg x=Aa (.ref f))
    (hk:Ba X.K (.ref f)=Ab) (hb:CW X.K fd ps []) (yo:∀ U,sh U=Ab->ft U=fs U) (hn:∀ U ds,ft U=.ok ds->ds.length=n) (hnx:∀ U y,ft U≠.exn y)
    (zw:(x==("__debug__" : Ah))=Ae) (he:Aw (e::es) X.env=(Ae,eval e X.env)::Aw es X.env) (zv:∀ pos,(Bs pos (Aw es X.env)).any (·.1)=Ae)
    (ha:∀ pI Xw,FM (model X.prog X.w) X.A X.env Xw->SA (Cx.pw X pI Xw) CL (λ_ _=>AM) (e::es) fs/\uk (Cx.pw X pI Xw) CL (λ_ _=>AM) (e::es) ft)
include hx0 G hr hg hm hk hb yo hn hnx zw he zv ha
end
section
variable{X:Cx}{CL:ClA}{W:XW}
theorem eJ{c:Ag}{g:Ah}{np cpos pos:AF}{e:Aq}{es:Ac Aq}{fs:Rho->R (Ac D)}(uw:X.calm=Ab)(rz:NE X CL W)(hg:Gl X g)(hm:X.mg g=Aa (.ref C))(zw:(g==("__debug__" : Ah))=Ae)(xc:DF X.K C Af=Ab)(xz:CL c=Aa C)(ha:SA X CL W (e::es) fs)(qb:∀ ds,xn c ds=.bad\/xn c ds=.ok ⟨c,[]⟩)(he:Aw (e::es) X.env=(Ae,eval e X.env)::Aw es X.env)(zv:∀ pos,(Bs pos (Aw es X.env)).any (·.1)=Ae)(hz:∀ U ds,fs U=.ok ds->ds.length<=100000):SS X CL W (.Raise (Aa (.Call (.Name g np) (e::es) [] cpos)) Af pos) (λU=>O.of U (zn (fs U)) λxs=>O.of U (xn c xs) λx=>.exn x U):=λFz B pI s Y H D I ⟨U,x,p⟩=>by
 dsimp only at p;cases e1:fs U with
 |bad=>rw[e1]at p;exact p.elim
 |exn y=>rw[e1]at p;exact p.elim
 |ok ds=>
  rw[e1]at p;have p2:B5 X.K CL Fz B W (O.of U (xn c ds) λx=>.exn x U) D:=p
  rcases qb ds with e2|e2
  .rw[e2]at p2;exact p2.elim
  .rw[e2]at p2;have p3:∀ H,(∀ b o,Fz b o->H b=Aa o)->W ⟨c,[]⟩ H:=p2;obtain⟨bm,N,nm,qn,bs,hd,sn,sub,ab,col,dd,k0,k1,k2,k3,k5,mN,um,re,U7⟩:=P5 I.kIn xc;refine wpAny_Raise_call_subT (bmB:=td) (nm:=nm) (q:=qn) (C:=C) (N:=N) (bs:=bs) (bm:=bm) (hdct:=hd) (sn:=sn) (sub:=sub) (ab:=ab) (col:=col) (dd:=dd) (k0:=k0) (k1:=k1) (k2:=k2) (k3:=k3) (k5:=k5) (mN:=mN) Fb U7 (I.ok.hd uw) (by rw[he];show (Ae||(Bs cpos (Aw es X.env)).any (·.1))=Ae;rw[zv];rfl) re ?_
   refine Jy I hg hm ⟨rfl,?_⟩ zw;have q1:=ha (BN B U Y) cpos pI s Y H (λvs H1=>Az H H1/\vs.length=ds.length) I ⟨x.aok,U,x.good,by rw[e1];exact λvs H1 s1 r1=>⟨s1,r1.length⟩⟩
   rw[he]at q1 ⊢;refine EU (Bj q1 (λus s2 ⟨vs,H2,I2,r2,s2',hl⟩=>⟨rfl,?_⟩) λ_ _ z=>z)
   obtain⟨o1,o2,o3⟩:=um _ I2.kIn;refine⟨?_,o1,o2,o3,λh' ev uy=>?_⟩
   .rw[<-r2.length,hl,Bz];have:=hz U ds e1;omega
   .obtain⟨t,ge,_⟩:=uy.there;have I3:Z8 X pI Y H2 {s2 with heap:=h'}:=I2.kept (t':=s2.toks) uy.keeps
    exact rz pI Y H2 _ ev C Af t ⟨c,[]⟩ I3 (λhx=>La I2 hx uy.new) (L5 I2.hok uy.new) ge (λA _=>⟨C,xz,rfl,.inl rfl⟩) (p3 H2 λb o z=>s2' _ _ (x.same b o z))
def M8(K:Fg)(CL:ClA)(up:Ag->Ac Ag)(c':Ag)(C':Ak):Prop:=∀ c C,CL c=Aa C->B8 K (.ref C) (.ref C')=Aa ((up c).contains c')
theorem TQ{s:Ar}{a C:Ak}{cv:Al}{b:An}{Q:VK}(I:Z8 X pI Y H s)(ha:H a=Aa (.ext φ))(hφ:∀ h,φ h->∃ o,h.get? a=Aa o/\o.cls=.ref C)(xc:zq X.K C)(e:B8 X.K (.ref C) cv=Aa b)(q:Q (.bl b) H):
  AA (model X.prog X.w) X.A (call (.builtin "isinstance") [.ref a,cv]) (EP X pI Y Q) X.xe s:=by
 have p:tm a C s.heap:=hφ _ (I.hok a _ ha).1;exact Cp (TN xc) I.kIn p e (by intro z;cases z) λtk=>⟨.bl b,H,I.tok tk,rfl,q⟩
theorem Tr:∀(Cs:Ac Ak){its:Ac Al},A1 (Cs.map V.ref) its->its=Cs.map Bm
 |[],_,rv=>by cases rv;rfl
 |c::cs,_,rv=>by
  cases rv with
  |cons h1 h2=>rw[Tr cs h2];cases h1;rfl
theorem kK{s:Ar}{a C tp:Ak}{Cs:Ac Ak}{b:An}{Q:VK}(I:Z8 X pI Y H s)(ha:H a=Aa (.ext φ))(hφ:∀ h,φ h->∃ o,h.get? a=Aa o/\o.cls=.ref C)(xc:zq X.K C)(ht:H tp=Aa (.H (Cs.map V.ref)))(e:Ji X.K (.ref C) (Cs.map Bm)=Aa b)(q:Q (.bl b) H):
  AA (model X.prog X.w) X.A (call (.builtin "isinstance") [.ref a,.ref tp]) (EP X pI Y Q) X.xe s:=by
 have p:tm a C s.heap:=hφ _ (I.hok a _ ha).1;obtain⟨_,its,rv,⟨o,ho,hc,n,hd⟩⟩:=I.hok tp _ ht;have ei:its=Cs.map Bm:=Tr Cs rv;subst ei;obtain⟨cls,dd,dat,sl⟩:=o;have qa:cls=.type "tuple" := hc;have mv:dat=.seq (FE (Cs.map Bm)) n:=hd;subst qa mv;exact PySem.W.kia_tup (TN xc) I.kIn p ho e (by intro z;cases z) λtk=>⟨.bl b,H,I.tok tk,rfl,q⟩
theorem U_2{K:Fg}{up:Ag->Ac Ag}{c:Ag}{C:Ak}(h:CL c=Aa C):∀(cs:Ac (Ag×Ak)),(∀ p∈cs,M8 K CL up p.1 p.2)->Ji K (.ref C) ((cs.map λq:Ag×Ak=>q.2).map Bm)=Aa (cs.any λp=>(up c).contains p.1)
  |[],_=>rfl
  |p::cs,hk=>by
    have h1:=hk p AY c C h;have h2:=U_2 h cs λq hq=>hk q (AE _ hq)
    show (match B8 K (.ref C) (.ref p.2) with
      |some Ab=>Aa Ab
      |some Ae=>Ji K (.ref C) ((cs.map λq:Ag×Ak=>q.2).map Bm)
      | none=>Af)=_
    rw[h1,JW];cases (up c).contains p.1 with
    |true=>rfl
    |false=>rw[h2];rfl
theorem P2{ks:Ac Ki}{d:D}{Q:VK}(hk:ks.all E5=Ab)(wu:ks≠[])(p:AW Rp W H (Eg up ks d) Q):∃ c fs,d=.exc c fs/\AW Rp W H (.ok (.bl (ks.any λk=>yc up k d))) Q:=by
 have ha:ks.any E5=Ab:=by
  cases ks with
  |nil=>exact absurd rfl wu
  |cons k ks=>simp only[E9,Am]at hk;simp[JW,hk.1]
 cases d with
 | exc c fs=>exact⟨c,fs,rfl,by
   have p':AW Rp W H (if ks.all E5=Ab then .ok (.bl (ks.any λk=>yc up k (.exc c fs))) else .bad) Q:=p
   rw[Au hk]at p';exact p'⟩
 |obj c fs=>exact A7 p
 |dic _=>exact A7 p
 |O=>simp only[Eg,ha,EN]at p;exact A7 p
 |bl _=>simp only[Eg,ha,EN]at p;exact A7 p
 |int _=>simp only[Eg,ha,EN]at p;exact A7 p
 |str _=>simp only[Eg,ha,EN]at p;exact A7 p
 |H _=>simp only[Eg,ha,EN]at p;exact A7 p
 |L _=>simp only[Eg,ha,EN]at p;exact A7 p
theorem Qn{v:V}{c:Ag}{fs:Ac (Ah×D)}(r:Cv K CL H A v (.exc c fs)):∃ a C φ,v=.ref a/\CL c=Aa C/\H a=Aa (.ext φ)/\∀ h,φ h->∃ o,h.get? a=Aa o/\o.cls=.ref C:=by
 rcases r with ⟨a,C,φ,e,_,hc,hH,hφ,_⟩|⟨a,xs,ds,_,z,_⟩
 .exact⟨a,C,φ,e,hc,hH,hφ⟩
 .cases z
variable{a:Aq}{fa:Rho->R D}{up:Ag->Ac Ag}{x:Ah}{p p2 pos:AF}
theorem Ve{c':Ag}(mz:∀ c C,CL c=Aa C->zq X.K C)(hg:Gl X "isinstance")(hm:X.mg "isinstance" = Af)(wz:Gl X x)(ra:X.mg x=Aa (.ref C'))(qz:M8 X.K CL up c' C')(zw:(x==("__debug__" : Ah))=Ae)(ha:ST X CL W a fa)(he:Aw [a,.Name x p2] X.env=(Ae,eval a X.env)::Aw [.Name x p2] X.env):SE X CL W (.Call (.Name "isinstance" p) [a,.Name x p2] [] pos) (λU=>(fa U).bind λx=>Eg up [.cls c'] x):=λA=>
 PE.weak (Kl (r:=λxs H Q=>∃ a C φ c,xs=[.ref a,.ref C']/\CL c=Aa C/\H a=Aa (.ext φ)/\(∀ h,φ h->∃ o,h.get? a=Aa o/\o.cls=.ref C)/\Q (.bl ((up c).contains c')) H) (λpI s Y H xs us Q I r ⟨b,C,φ,c,e,hc,hH,hφ,q⟩=>by
   subst e;obtain⟨u,w',rfl,r1,r2⟩:=Li r;cases r1;cases r2;exact TQ I hH hφ (mz c C hc) (qz c C hc) q)
  hg hm Fx (Bv (ha A) (Bv (M0 (v:=.ref C') wz ra rfl zw) Cb rfl) he) (by decide) (by decide) he rfl) λY H Q ⟨hA,U,g,q⟩=>⟨hA,U,g,AW.bind q λd v H1 _ s1 r1 p1=>by
   obtain⟨c,fs,rfl,p2⟩:=P2 (by rfl) (by simp) p1
   obtain⟨b,C,φ,rfl,hc,hH,hφ⟩:=Qn r1;refine⟨b,C,φ,c,rfl,hc,hH,hφ,p2 _ H1 (Az.refl H1) ?_⟩;exact congrArg V.bl (DQ _).symm⟩
theorem Vd(mz:∀ c C,CL c=Aa C->zq X.K C)(hg:Gl X "isinstance")(hm:X.mg "isinstance" = Af)(wz:Gl X "ValueError")(ra:X.mg "ValueError" = Af)(ha:ST X CL W a fa)(he:Aw [a,.Name "ValueError" p2] X.env=(Ae,eval a X.env)::Aw [.Name "ValueError" p2] X.env):SE X CL W (.Call (.Name "isinstance" p) [a,.Name "ValueError" p2] [] pos) (λU=>(fa U).bind λx=>Eg up [.verr] x):=λA=>
 PE.weak (Kl (r:=λxs H Q=>∃ a C φ c,xs=[.ref a,.ty "ValueError"]/\CL c=Aa C/\H a=Aa (.ext φ)/\(∀ h,φ h->∃ o,h.get? a=Aa o/\o.cls=.ref C)/\Q (.bl Ab) H) (λpI s Y H xs us Q I r ⟨b,C,φ,c,e,hc,hH,hφ,q⟩=>by
   subst e;obtain⟨u,w',rfl,r1,r2⟩:=Li r;cases r1;cases r2;exact TQ I hH hφ (mz c C hc) (mz c C hc).ve q)
  hg hm Fx (Bv (ha A) (Bv (UC (v:=.ty "ValueError") wz ra PyProof.Rows.Boot.«ValueError» rfl (by decide) (by decide)) Cb rfl) he) (by decide) (by decide) he rfl) λY H Q ⟨hA,U,g,q⟩=>⟨hA,U,g,AW.bind q λd v H1 _ s1 r1 p1=>by
   obtain⟨c,fs,rfl,p2⟩:=P2 (by rfl) (by simp) p1
   obtain⟨b,C,φ,rfl,hc,hH,hφ⟩:=Qn r1;refine⟨b,C,φ,c,rfl,hc,hH,hφ,p2 _ H1 (Az.refl H1) ?_⟩;exact congrArg V.bl (DQ _).symm⟩
theorem lS(up:Ag->Ac Ag)(c:Ag)(fs:Ac (Ah×D))(cs:Ac (Ag×Ak)):((cs.map λq=>Ki.cls q.1).any λk=>yc up k (.exc c fs))=cs.any λq=>(up c).contains q.1:=XX
def WT(Cs:Ac Ak):TA:=λ_ H Q=>Q (Cs.map V.ref) H
theorem oA{ts:Ac Aq}{cs:Ac (Ag×Ak)}(mz:∀ c C,CL c=Aa C->zq X.K C)(hg:Gl X "isinstance")(hm:X.mg "isinstance" = Af)(bn:PA X ts (WT (cs.map λq:Ag×Ak=>q.2)))(wu:cs≠[])(hl:cs.length<=1000)(qz:∀ q∈cs,M8 X.K CL up q.1 q.2)(ha:ST X CL W a fa)(he:Aw [a,.Tuple ts kk p2] X.env=(Ae,eval a X.env)::Aw [.Tuple ts kk p2] X.env):SE X CL W (.Call (.Name "isinstance" p) [a,.Tuple ts kk p2] [] pos) (λU=>(fa U).bind λx=>Eg up (cs.map λq=>.cls q.1) x):=λA=>
 PE.weak (Kl (r:=λxs H Q=>∃ a C φ c tp,xs=[.ref a,.ref tp]/\CL c=Aa C/\H a=Aa (.ext φ)/\(∀ h,φ h->∃ o,h.get? a=Aa o/\o.cls=.ref C)/\H tp=Aa (.H ((cs.map λq:Ag×Ak=>q.2).map V.ref))/\Q (.bl (cs.any λq=>(up c).contains q.1)) H) (λpI s Y H xs us Q I r ⟨b,C,φ,c,tp,e,hc,hH,hφ,ht,q⟩=>by
   subst e;obtain⟨u,w',rfl,r1,r2⟩:=Li r;cases r1;cases r2;exact kK I hH hφ (mz c C hc) ht (U_2 hc cs qz) q)
  hg hm Fx (Bv (ha A) (Bv (Of bn) Cb rfl) he) (by decide) (by decide) he rfl) λY H Q ⟨hA,U,g,q⟩=>⟨hA,U,g,AW.bind q λd v H1 _ s1 r1 p1=>by
   have hk:(cs.map λq=>Ki.cls q.1).all E5=Ab:=by simp[EC,E5]
   obtain⟨c,fs,rfl,p2⟩:=P2 hk (by simpa using wu) p1
   obtain⟨b,C,φ,rfl,hc,hH,hφ⟩:=Qn r1;refine⟨by rw[Bc,Bc,Bz];omega,λt ht=>?_⟩
   have hbt:b≠t:=Et hH ht;refine⟨b,C,φ,c,t,rfl,hc,by rw[AQ hbt];exact hH,hφ,BO,p2 _ _ (EZ ht _) ?_⟩
   exact congrArg V.bl (lS up c fs cs).symm⟩
end
theorem VZ(q:DF K C v=Ab):∃ dd cd sl bm,K.lookup C=Aa ⟨.type "type",dd,.cls cd,sl⟩/\cd.mro=.ref C::bm:=by
 unfold DF at q;split at q
 .rename_i dd cd sl ho;split at q
  .rename_i C' bm k0 k1 k2 k3 n k5 hm hs;simp only[Am,AD,Bf]at q;obtain⟨rfl,_⟩:=q;exact⟨dd,cd,sl,bm,ho,hm⟩
  .cases q
 .cases q
theorem N1(q:DF K C v=Ab):∃ cd bm,Dy K C=Aa cd/\cd.mro=.ref C::bm:=by
 obtain⟨dd,cd,sl,bm,h1,h2⟩:=VZ q;exact⟨cd,bm,by unfold Dy;rw[h1],h2⟩
theorem sN(q:DF K C v=Ab):Dq K (.ref C)=Aa (.type "type"):=by
 obtain⟨dd,cd,sl,bm,h1,h2⟩:=VZ q;show (K.lookup C).map _=_;rw[h1];rfl
theorem kG{v:An}{i i':Ao Al}(q:DF K C i=Ab)(q':DF K C' i'=Ab)(su:BQ K (.ref C) (.ref C')=Aa v):B8 K (.ref C) (.ref C')=Aa v:=by
 unfold B8;by_cases e:C=C'
 .subst e;obtain⟨cd,bm,h1,h2⟩:=N1 q;have lg:Ck K C (.ref C)=Aa v:=su;have:v=Ab:=by
   unfold Ck at lg;rw[h1,Ii,h2,Ay (by simp)]at lg
   rw[<-BD lg];simp
  rw[Au (by simp),this]
 .rw[Ay (λz=>e (JY (AD.mp z)))]
  obtain⟨cd,bm,h1,h2⟩:=N1 q';show (if ((Dy K C').isSome&&Dq K (.ref C')==Aa (.type "type"))=Ab then BQ K (.ref C) (.ref C') else Af)=_
  rw[h1,sN q',Au (by simp),su]
theorem tR(exc:DF K C v=Ab)(ga:At K (.ref C) "__getattribute__" = Aa (Aa (.builtin "BaseException.__getattribute__")))(gt:At K (.ref C) "__getattr__" = Aa Af)(cl:At K (.ref C) "__class__" = Aa (Aa (.builtin "object.__class__")))(ob:Ck K C (.type "object")=Aa Ab)(be:BQ K (.ref C) (.type "BaseException")=Aa Ab)(sv:BQ K (.ref C) (.type "ValueError")=Aa Ab):zq K C:=by
 obtain⟨cd,bm,h1,h2⟩:=N1 exc;refine⟨⟨v,exc⟩,ga,gt,cl,ob,be,by rw[h1];rfl,?_⟩
 unfold B8;rw[Ay (λz=>by cases AD.mp z)]
 have hm:ZO "ValueError" = Ab:=by decide+kernel
 show (if ZO "ValueError" = Ab then BQ K (.ref C) (.type "ValueError") else Af)=_
 rw[Au hm,sv]
noncomputable abbrev JN:CXT:=λ_ _ _ _ _ _=>AM
structure xa (P:AK) (w:AI) (K:Fg) (mg:Ah->Ao Al) (base:AJ) (k:Ag) (f:Ak) (fd:Bi) (ps:Ac Ah) (sp:Sp):Prop where
 len:∀ vs H Q E,sp vs H Q E->vs.length=ps.length
 run:∀(A:A4)(ev:Ak)(outer:Ac B7)(s:Ar)(H:Hp)(args:Args)(us:Ac Al)(vs:Ac V)(Q:VK)(E:XK),U4 k A->yi P w K mg base (A.mark (Aa (.ref ev))) outer s H->GE s fd args (ps.zip us)->A1 vs us->sp vs H Q E ->
  EF (model P w) (A.mark (Aa (.ref ev))) (.call (.ref f) args) (CR JN outer P w H s Q E) s
theorem rX{mg:Ah->Ao Al}{base:AJ}{f:Ak}{params:Mw}{body:Ac AL}{dV kV doc pm cdv ct oc:Al}{N ps:Ac Ah}(lk:K.lookup f=Aa ⟨oc,od,.func (B4 name qual params body scope dV kV doc pm an cdv ct),osl⟩)(zu:DE K cdv qual=Ab)(S:zW N ps scope)(len:∀ vs H Q E,sp vs H Q E->vs.length=ps.length)(wj:∀(A:A4)(ev:Ak)(outer:Ac B7)(s:Ar)(H:Hp)(vs:Ac V)(Q:VK)(E:XK),U4 k (A.deeper (D3 qual scope s.heap.objs.size f cdv))->sp vs H Q E ->
   ∃ t,yj (Cx.hot (B2 JN P w K mg base N qual scope f cdv A outer s H E) ev) body t/\t {nx:=λ_ H'=>Q .O H',rt:=Q} (start N vs) H):xa P w K mg base (k+1) f (B4 name qual params body scope dV kV doc pm an cdv ct) ps sp:=by
 refine⟨len,λA ev outer s H args us vs Q E hr e0 hb r rh=>?_⟩
 have hl:=len _ _ _ _ rh;have e1:yi P w K mg base A outer s H:=⟨e0.frames,e0.mod,e0.bs,e0.bsz,e0.funs,e0.frf,e0.hok,e0.bare⟩;have KX:K.In s.heap:=e0.mod.kin.keeps λb o e=>(e0.bs b o e).1
 have lim:s.heap.NoLimit:=e0.mod.nolimit.keeps λb o e=>(e0.bs b o e).1
 have wl:∀ y∈ps.zip us,scope.names.lookup y.1=Aa .local\/(scope.names.lookup y.1=Aa .cell/\((CO (s.heap.objs.size+1) scope.names []).lookup y.1).isSome=Ab):=λ⟨n,v⟩ hy=>by
  rcases S.par n (GP hy).1 with q|q
  .exact .inl q
  .exact .inr ⟨q,Gi _ _ _ (.inl q)⟩
 have hdp:(A.mark (Aa (.ref ev))).depth<Hh:=hr.depth;refine GI hdp (KX _ _ lk) rfl S.co S.gen rfl (HA KX zu) (hb _ _ _ _ ?_);refine Fh S.kind wl λenv he s1 x=>?_
 subst he;refine⟨lim.keeps x.toInCall.keep,Kd ?_⟩;obtain⟨t,ht,hq⟩:=wj A ev outer s H vs Q E (hr.deeper _) rh;have I:Z8 (B2 JN P w K mg base N qual scope f cdv A outer s H E) [] (start N vs) H s1:=PN S hr.hd e1 hl r x;refine Bj (ht [] s1 (start N vs) H _ (Qr I ev) hq) (λfl s' hs=>?_) λe s' hs=>hs.elim
 have fin:∀{Y':L2.St}{H':Hp}{v:V}{u:Al},Z8 (Cx.hot (B2 JN P w K mg base N qual scope f cdv A outer s H E) ev) [] Y' H' s'->Bt v u->Q v H'->CE outer P w H s Q u s':=
  λ{Y' H' v u} J rv q=>⟨v,H',J.os,J.bare,J.base,J.hok,rv,q⟩
 cases fl with
 |ret u=>
  obtain⟨v,Y',H',J,rv,q⟩:=hs;exact fin J rv q
 |next=>
  obtain⟨Y',H',J,q⟩:=hs;exact fin (v:=V.O) (u:=Dv) J rfl q
 |brk=>
  obtain⟨_,_,_,q⟩:=hs;exact A7 q
 |cont=>
  obtain⟨_,_,_,q⟩:=hs;exact A7 q
theorem dJ{v:An}{i:Ao Al}(q:DF K C i=Ab)(mr:Ck K C' (.type "object")=Aa Ab)(ty:Dq K (.ref C')=Aa (.type "type"))(su:BQ K (.ref C) (.ref C')=Aa v):B8 K (.ref C) (.ref C')=Aa v:=by
 unfold B8;by_cases e:C=C'
 .subst e;obtain⟨cd,bm,h1,h2⟩:=N1 q;have lg:Ck K C (.ref C)=Aa v:=su;have:v=Ab:=by
   unfold Ck at lg;rw[h1,Ii,h2,Ay (by simp)]at lg
   rw[<-BD lg];simp
  rw[Au (by simp),this]
 .rw[Ay (λz=>e (JY (AD.mp z)))]
  show (if ((Dy K C').isSome&&Dq K (.ref C')==Aa (.type "type"))=Ab then BQ K (.ref C) (.ref C') else Af)=_
  have cs:(Dy K C').isSome=Ab:=by
   unfold Ck at mr;cases e1:Dy K C' with
   |none=>rw[e1]at mr;cases mr
   |some cd=>rfl
  rw[cs,ty,Au (by simp),su]
def spH(K:Fg)(CL:ClA)(n:Ag)(fr:An)(F:Ac D->R D):Sp:=λvs H Q _=>∃(ds:Ac D)(A:Ak->Prop),vs.length=n/\My H A/\Z9 K CL H A vs ds/\(match F ds with
  |.ok d=>∀ v H',Az H H'->Cw K CL fr H A H' v d->Q v H'
  |.exn _=>AM
  | .bad=>AM)
section
variable{X:Cx}{CL:ClA}{ev:Ak}
theorem T8{f:Ak}{ps:Ac Ah}{E:XK}{p pos:AF}{e:Aq}{es:Ac Aq}{t:TA}(F:xa X.prog X.w X.K X.mg X.base k f fd ps sp)(hr:U4 k X.A)(hg:Gl X x)(hm:X.mg x=Aa (.ref f))(hk:Ba X.K (.ref f)=Ab)(hb:CW X.K fd ps [])(ha:PA (Cx.hot X ev) (e::es) t)(zw:(x==("__debug__" : Ah))=Ae)(he:Aw (e::es) X.env=(Ae,eval e X.env)::Aw es X.env)(zv:(Bs pos (Aw es X.env)).any (·.1)=Ae):PE (Cx.hot X ev) (.Call (.Name x p) (e::es) [] pos) (λY H Q=>t Y H λvs H1=>sp vs H1 Q E):=by
 intro pI s Y H Q I h;refine DJ (Jy (X:=Cx.hot X ev) I hg hm ?_ zw);refine DI (h₀:=X.base) I.ok.mod.kin hk (U0 (ha pos pI s Y H _ I h) λus s1 ⟨vs,H1,I1,r,q⟩=>⟨I1.kIn,?_⟩) he zv
 have hl:us.length=ps.length:=by rw[<-r.length];exact F.len _ _ _ _ q
 have af:GE s1 fd ⟨us,[]⟩ (ps.zip us):=by
  have:=hb s1 us I1.kIn (by rw[BA];exact hl)
  rwa [BA]at this
 refine F0 (EG (F.run X.A ev X.stack s1 H1 ⟨us,[]⟩ us vs Q E hr I1.env0 af r q) λr s' hq=>?_)
 cases r with
 |error e=>exact A7 hq
 |ok fl=>
  cases fl with
  |ret u=>exact I1.after hq
  |next=>exact A7 hq
  |brk=>exact A7 hq
  |cont=>exact A7 hq
theorem eQ{k n:Ag}{fr:An}{f:Ak}{ps:Ac Ah}{p pos:AF}{e:Aq}{es:Ac Aq}{fs ft:Rho->R (Ac D)}{sh:Rho->An}(G:xa X.prog X.w X.K X.mg X.base k f fd ps (spH X.K CL n fr F))(hr:U4 k X.A)(hg:Gl X x)(hm:X.mg x=Aa (.ref f))(hk:Ba X.K (.ref f)=Ab)(hb:CW X.K fd ps [])(ha:SA (Cx.hot X ev) CL (λ_ _=>AM) (e::es) fs)(hat:uk (Cx.hot X ev) CL (λ_ _=>AM) (e::es) ft)(yo:∀ U,sh U=Ab->ft U=fs U)(hn:∀ U ds,ft U=.ok ds->ds.length=n)(zw:(x==("__debug__" : Ah))=Ae)(he:Aw (e::es) X.env=(Ae,eval e X.env)::Aw es X.env)(zv:∀ pos,(Bs pos (Aw es X.env)).any (·.1)=Ae):SC (Cx.hot X ev) CL (λ_ _=>AM) fr (.Call (.Name x p) (e::es) [] pos) (λU=>(ft U).bind λds=>(F ds).bind λd=>if sh U=Ab then .ok d else if JL fr d=Ab then .ok d else .bad):=λA pI s Y H Q I ⟨hA,U,gd,q⟩=>by
 dsimp only at q;by_cases hs:sh U=Ab
 .rw[yo U hs]at q;refine T8 (E:=λ_ _ _=>AM) G hr hg hm hk hb (ha A) zw he (zv _) pI s Y H Q I ⟨hA,U,gd,?_⟩
  cases e1:fs U with
  |bad=>rw[e1]at q;exact q
  |exn y=>rw[e1]at q;exact q
  |ok ds=>
   rw[e1]at q;intro vs H1 s1 r1;refine⟨ds,A,by rw[r1.length];exact hn U ds (by rw[yo U hs];exact e1),hA.same s1,r1,?_⟩
   have q':AW (Cw X.K CL fr H A) (λ_ _=>AM) H ((F ds).bind λd=>if sh U=Ab then .ok d else if JL fr d=Ab then .ok d else .bad) Q:=q
   cases e2:F ds with
   |ok d=>
    rw[e2,R.bind_ok,Au hs]at q';exact λv H2 s2 r2=>q' v H2 (s1.trans s2) ⟨r2.1,λz uu e'=>let ⟨a,xs,z1,z2,z3⟩:=r2.2 z uu e';⟨a,xs,z1,s1.free z2,z3⟩⟩
   |exn y=>rw[e2]at q';exact(q' H (Az.refl H)).elim
   |bad=>rw[e2]at q';exact q'.elim
 .refine T8 (E:=λ_ _ _=>AM) G hr hg hm hk hb (hat A) zw he (zv _) pI s Y H Q I ⟨hA,U,gd,?_⟩
  cases e1:ft U with
  |bad=>rw[e1]at q;exact q
  |exn y=>rw[e1]at q;exact q
  |ok ds=>
   rw[e1]at q;intro vs H1 s1 r1;refine⟨ds,A0,by rw[r1.plain.length];exact hn U ds e1,λ_ z=>z.elim,r1.plain,?_⟩
   have q':AW (Cw X.K CL fr H A) (λ_ _=>AM) H ((F ds).bind λd=>if sh U=Ab then .ok d else if JL fr d=Ab then .ok d else .bad) Q:=q
   cases e2:F ds with
   |ok d=>
    rw[e2,R.bind_ok,Ay hs]at q';split at q'
    .rename_i hc;exact λv H2 s2 r2=>q' v H2 (s1.trans s2) (Vu hA (s1.trans s2) hc ⟨r2.1,λz uu e'=>let ⟨a,xs,z1,z2,z3⟩:=r2.2 z uu e';⟨a,xs,z1,s1.free z2,z3⟩⟩)
    .exact q'.elim
   |exn y=>rw[e2]at q';exact(q' H (Az.refl H)).elim
   |bad=>rw[e2]at q';exact q'.elim
end
section
variable{M:Hv}{A:A4}{E:Vq}{s:Ar}{env:B7}{nm q:Ah}{C N:Ak}{bs bm bmB:Ac Al}{hdct:An}{sn:Ac Ah}{sub:Ac Al}{ab:An}{col:Ao An}{dd:Ao Ak}{k0 k1 k2 k3 k5:Ao Al}{B newId zj:CQ}
theorem iC{x:Fo Al}{Q:Flow->Ar->Prop}(hb:bm.contains (.type "BaseException")=Ab)(hh:A.handled=Af)(h:AA M A x (λv s'=>∃ e t dx,v=.ref e/\s'.heap.get? C=Aa (Cu nm q C N bs bm hdct sn sub ab col dd k0 k1 k2 k3 k5 newId)/\s'.heap.get? e=Aa (Gx C dx t)/\E (.ref e) s') E s):AA M A (raiseStmt env (Aa x) Af) Q E s:=by
 have hB:(Bm C::bm).contains (.type "BaseException")=Ab:=by rw[Hx,hb,J5]
 unfold raiseStmt;refine As (Bj h (λv s' z=>?_) λ_ _ z=>z)
 obtain⟨e,t,dx,rfl,gC,ge,hE⟩:=z;obtain⟨hp,g,d,tk,os⟩:=s';unfold Gx at ge
 repeat (first|(with_reducible refine Ce ge ?_)|(with_reducible refine Ce gC ?_)|(with_reducible refine Fp gC ?_;rw[hB])|wp_step)
 exact wpAny_raiseNew_none hh hE
end
section
variable{prog:AK}{w:AI}{A:A4}{E:Vq}{h:AJ}{g:Bl Eo}{d:IE}{t:Ag}{os:BU}
variable{nm q:Ah}{C N fI:Ak}{bs bm bmB:Ac Al}{hdct:An}{sn:Ac Ah}{sub:Ac Al}{ab:An}{col:Ao An}{dd:Ao Ak}{k0 k1 k2 k3 k5:Ao Al}{B newId zj:CQ}{mN:Ah->Ao Al}{rest:Ac Al}{oI:CZ}
theorem gK{Q:Fin->Ar->Prop}(F:Ij B newId zj bmB)(T:D2 h bmB bm)(gC:h.get? C=Aa (Cu nm q C N bs bm hdct sn sub ab col dd k0 k1 k2 k3 k5 newId))(hn:h.Ns N mN)(hi:mN "__init__" = Aa (.ref fI))(gI:h.get? fI=Aa oI)(cI:oI.cls=.type "function")(hl:rest.length<=sizeLine)(hq:∀ h' e,Jh h h' e (.ref C) rest->AA (model prog w) A (call (.ref fI) (.ref e::rest)) (λr s'=>r=.none/\Q (.done (.ret (.ref e))) s') E ⟨h',g,d,t,os⟩):AA (model prog w) A (Builtin.«type.__call__» ⟨.ref C::rest,[]⟩) Q E ⟨h,g,d,t,os⟩:=by
 repeat (first|(with_reducible refine Ce gC ?_)|(with_reducible refine wpAny_madeBy_exc gC ?_)|wp_step)
 refine codeAny_call_builtin_code (Hy _ F.quiet) (wpAny_check_new_subT F T gC (codeAny_exc_new_subT F T gC ?_ hl));show AA _ _ _ _ _ _;have kp:∀ b o,h.get? b=Aa o->((h.push { cls:=.type "tuple",data:=.seq rest.toArray }).push {cls:=.ref C,data:=.fields #[.ref h.objs.size,.none,.none,.none,.bool Ae,.none]}).get? b=Aa o:=λb o z=>AB _ (AB _ z)
 have ge:((h.push { cls:=.type "tuple",data:=.seq rest.toArray }).push {cls:=.ref C,data:=.fields #[.ref h.objs.size,.none,.none,.none,.bool Ae,.none]}).get? (h.objs.size+1)=Aa {cls:=.ref C,data:=.fields #[.ref h.objs.size,.none,.none,.none,.bool Ae,.none]}:=by heap_get
 have gt:((h.push { cls:=.type "tuple",data:=.seq rest.toArray }).push {cls:=.ref C,data:=.fields #[.ref h.objs.size,.none,.none,.none,.bool Ae,.none]}).get? h.objs.size=Aa { cls:=.type "tuple",data:=.seq rest.toArray }:=AB _ (Zi rfl rfl);generalize (h.push { cls:=.type "tuple",data:=.seq rest.toArray }).push {cls:=.ref C,data:=.fields #[.ref h.objs.size,.none,.none,.none,.bool Ae,.none]}=h2 at *;have gC2:=kp _ _ gC;have gI2:=kp _ _ gI;have ig:h2.Ns N mN:=let ⟨o,es,ep,z,r⟩:=hn;⟨o,es,ep,kp _ _ z,r⟩
 have T2:=T.keeps (h':=h2) kp;have cC:(Bm C::bm).contains (.ref C)=Ab:=by simp
 unfold Jt
 repeat (first|(with_reducible refine Ce ge ?_)|(with_reducible refine Fp gC2 ?_;rw[cC])|wp_step)
 show AA _ _ (typeLookup (.ref C) _) _ _ _;refine wpAny_typeLookup_tail gC2 ig T2 F.mroIs F.init.lookup ?_;rw[hi];refine Cm (As ?_);unfold bindSpecial;refine As (wpAny_typeOf (T := "function") ⟨_,gI2,cI⟩ ?_);rw[Au (by decide)]
 refine A2 (As (Bj (hq h2 (h.objs.size+1) ⟨kp,Du (K4 _),h.objs.size,ge,Du (AU _),gt⟩) (λr s' z=>?_) λ_ _ z=>z))
 obtain⟨rfl,z⟩:=z
 wp_walk
 exact z
theorem gL{Q:Vq}(F:Ij B newId zj bmB)(T:D2 h bmB bm)(gC:h.get? C=Aa (Cu nm q C N bs bm hdct sn sub ab col dd k0 k1 k2 k3 k5 newId))(hn:h.Ns N mN)(hi:mN "__init__" = Aa (.ref fI))(gI:h.get? fI=Aa oI)(cI:oI.cls=.type "function")(hl:rest.length<=sizeLine)(hq:∀ h' e,Jh h h' e (.ref C) rest->AA (model prog w) (A.under (.builtin "type.__call__" ⟨.ref C::rest,[]⟩)) (call (.ref fI) (.ref e::rest)) (λr s'=>r=.none/\Q (.ref e) s') E ⟨h',g,d,t,os⟩):AA (model prog w) A (call (.ref C) rest) Q E ⟨h,g,d,t,os⟩:=by
 have l1:=tc_lookup;have l2:=tc_bind (.ref C);have ty:(⟨h,g,d,t,os⟩:Ar).TypeIs (.ref C) "type" := ⟨_,gC,rfl⟩;refine F0 (codeAny_of_tree ?_);show AA _ _ (callAny (.ref C) _) _ _ _
 repeat (any_goals (first|assumption|(with_reducible refine Ce gC ?_)|wp_step))
 refine⟨rfl,codeAny_call_builtin_at (Hy _ (by decide+kernel)) entry_typeCall (wpAny_check_type_call_sub gC (gK F T gC hn hi gI cI hl λh' e m=>?_))⟩
 exact hq h' e m
end
section
variable{prog:AK}{w:AI}{A:A4}{E:Vq}{s:Ar}{env:B7}
variable{nm q:Ah}{C N fI:Ak}{bs bm bmB:Ac Al}{hdct:An}{sn:Ac Ah}{sub:Ac Al}{ab:An}{col:Ao An}{dd:Ao Ak}{k0 k1 k2 k3 k5:Ao Al}{B newId zj:CQ}{mN:Ah->Ao Al}
theorem cH{Q:Flow->Ar->Prop}{np cpos pos:AF}{args:Ac Aq}(F:Ij B newId zj bmB)(hb:bm.contains (.type "BaseException")=Ab)(hh:A.handled=Af)(hp:(Bs cpos (Aw args env)).any (·.1)=Ae)(hi:mN "__init__" = Aa (.ref fI))(h:AA (model prog w) A (eval (.Name x np) env) (λf s1=>f=.ref C/\AA (model prog w) A (evalArgs (.ref C) Ab (Bs cpos (Aw args env)) [])
   (λa s2=>a.kw=[]/\a.pos.length<=sizeLine/\s2.heap.get? C=Aa (Cu nm q C N bs bm hdct sn sub ab col dd k0 k1 k2 k3 k5 newId)/\s2.heap.Ns N mN/\D2 s2.heap bmB bm/\(∃ oI,s2.heap.get? fI=Aa oI/\oI.cls=.type "function") /\
    ∀ h' e,Jh s2.heap h' e (.ref C) a.pos->AA (model prog w) (A.under (.builtin "type.__call__" ⟨.ref C::a.pos,[]⟩)) (call (.ref fI) (.ref e::a.pos)) (λr s'=>r=.none/\∃ t dx,s'.heap.get? C=Aa (Cu nm q C N bs bm hdct sn sub ab col dd k0 k1 k2 k3 k5 newId)/\s'.heap.get? e=Aa (Gx C dx t)/\E (.ref e) s') E {s2 with heap:=h'}) E s1) E s):AA (model prog w) A (exec (.Raise (Aa (.Call (.Name x np) args [] cpos)) Af pos) env) Q E s:=by
 rw[arm_exec_Raise]
 try simp only[evalOpt,Option.map]
 refine As (CU (iC (nm:=nm) (q:=q) (C:=C) (N:=N) (bs:=bs) (bm:=bm) (hdct:=hdct) (sn:=sn) (sub:=sub) (ab:=ab) (col:=col) (dd:=dd) (k0:=k0) (k1:=k1) (k2:=k2) (k3:=k3) (k5:=k5) (newId:=newId) hb hh ?_));refine As (Bj (wpAny_Call_ofName (Bj h (λf s1 z=>?_) λ_ _ z=>z)) (λv s3 z=>As (CU (A2 z))) λ_ _ z=>z)
 obtain⟨rfl,z⟩:=z;unfold callWith;refine As (Cm (Bj z (λa s2 y=>As (CU ?_)) λ_ _ y=>y))
 obtain⟨us,kw⟩:=a;obtain⟨hk,hl,gC,hn,T,⟨oI,gI,cI⟩,k⟩:=y;obtain rfl:kw=[]:=hk;obtain⟨zZ,g,d,tk,os⟩:=s2;simp only[hp];refine As (wpAny_keeperOf_exc gC (As (gL F T gC hn hi gI cI hl λh' e m=>Bj (k h' e m) (λr s' y=>?_) λ_ _ y=>y)))
 obtain⟨rfl,t,dx,c1,c2,c3⟩:=y;exact⟨rfl,As (Cm (wpAny_point (A2 ⟨e,t,dx,rfl,c1,c2,c3⟩)))⟩
end
section
variable{prog:AK}{w:AI}{A:A4}{E:Vq}{h:AJ}{g:Bl Eo}{d:IE}{nv:Ag}{os:BU}
variable{nm q:Ah}{C N e t:Ak}{dx:Ao Ak}{bs bm bmB:Ac Al}{hdct:An}{sn:Ac Ah}{sub:Ac Al}{ab:An}{col:Ao An}{dd:Ao Ak}{k0 k1 k2 k3 k5:Ao Al}{B newId zj:CQ}
theorem oM{Q:Vq}(F:Ij B newId zj bmB)(T:D2 h bmB bm)(gC:h.get? C=Aa (Cu nm q C N bs bm hdct sn sub ab col dd k0 k1 k2 k3 k5 newId))(ge:h.get? e=Aa (Gx C dx t))(hq:∀ h' t',(∀ b o,b≠e->h.get? b=Aa o->h'.get? b=Aa o)->h'.get? e=Aa (Gx C dx t')->Q .none ⟨h',g,d,nv,os⟩):AA (model prog w) A (call (.builtin zj) [.ref e,.str z tk]) Q E ⟨h,g,d,nv,os⟩:=by
 refine F0 (DZ F.init.plain F.initEntry (wpAny_check_init_subT F T gC ge rfl ?_));unfold Gx at ge
 wp_walk
 refine hq _ h.objs.size (λb o nb z=>(De _ _ (CG nb)).trans (AB _ z)) ?_
 rw[DO _ (AB _ ge) rfl];rfl
end
noncomputable def lq:Ag->Ag
 |0=>4
 |n+1=>8*lq n+19
theorem U_4:∀ n:Fin 100,(Aj (toString ((n.val:Ag):Ai))).length<=4:=by decide+kernel
theorem Vs{α:Type}(f:α->Ag){m:Ag}:∀ l:Ac α,(∀ x∈l,f x<=m)->(l.map f).sum<=l.length*m
 |[],_=>by simp
 |x::l,h=>by
  have h1:=h x AY;have h2:=Vs f l λy hy=>h y (AE _ hy)
  rw[BP,List.sum_cons,A8,Nat.succ_mul];omega
section
variable{X:Cx}{CL:ClA}{pI:Pn}{Y:L2.St}{H:Hp}{s:Ar}
structure Shw (h:AJ) (n:Ag) (u:Al) (pd:LJ):Prop where
 rd:Reads h u pd []
 sh:pd.showable=Ab
 nd:pd.hasDict=Ae
 dp:pd.depth<=n
 ln:pd.shown.length<=lq n
inductive qk (h:AJ) (n:Ag):Ac Al->Ac LJ->Prop where
 |nil:qk h n [] []
 |cons {u:Al} {pd:LJ} {us:Ac Al} {pds:Ac LJ}:Shw h n u pd->qk h n us pds->qk h n (u::us) (pd::pds)
theorem UO{h:AJ}{n:Ag}:∀{us:Ac Al}{pds:Ac LJ},qk h n us pds->ReadsAll h us pds []/\Zo pds=Ab/\Zn pds=Ae/\IF pds<=n/\(∀ t∈DP pds,t.length<=lq n)/\(DP pds).length=us.length
 |[],[],_=>⟨.nil,rfl,rfl,Dt _,(λ_ h=>nomatch h),rfl⟩
 |u::us,pd::pds,.cons h1 h2=>by
  obtain⟨a,b,c,d,e,f⟩:=UO h2;refine⟨.cons h1.rd a,?_,?_,?_,?_,?_⟩
  .show (pd.showable&&Zo pds)=Ab;rw[h1.sh,b];rfl
  .show (pd.hasDict||Zn pds)=Ae;rw[h1.nd,c];rfl
  .show max pd.depth (IF pds)<=n;exact Nat.max_le.mpr ⟨h1.dp,d⟩
  .intro t ht;rcases A6.mp ht with rfl|ht
   .exact h1.ln
   .exact e t ht
  .show (DP pds).length+1=us.length+1;rw[f]
theorem tS(I:Z8 X pI Y H s):∀(n:Ag){d:D}{v:V}{u:Al},wy n d=Ab->Z7 X.K CL H A v d->Bt v u->∃ pd,Shw s.heap n u pd:=by
 intro n
 induction n with
 |zero=>
  intro d v u hx r rv;cases d with
  |int i=>
   have e:v=.int i:=r;subst e;obtain⟨t,rfl⟩:=rv;simp only[wy,Am,AG]at hx;refine⟨.int i,.int i t,?_,rfl,AU _,?_⟩
   .show decide (i.natAbs.log2<1920)=Ab;refine CI (FG (Gp _) (by omega))
   .have:=U_4 ⟨i.toNat,by omega⟩
    rwa [show ((i.toNat:Ag):Ai)=i by omega]at this
  |_=>exact absurd (show Ae=Ab from hx) Ax
 |succ n ih0=>
  intro d v u hx r rv;cases d with
  |H ds=>
   obtain⟨a,xs,rfl,_,sq,rs⟩:=r;cases rv;obtain⟨its,vs,⟨o,ho,hc,m,hd⟩,hz⟩:=I.tuple sq;simp only[wy,Am,Bh]at hx;have key:∀{xs:Ac V}{ds:Ac D}{its:Ac Al},(∀ d∈ds,wy n d=Ab)->Z9 X.K CL H A xs ds->A1 xs its->∃ pds,qk s.heap n its pds:=λ{xs}=>by
    induction xs with
    |nil=>
     intro ds its _ rs vs;cases vs;exact⟨[],.nil⟩
    |cons x xs ih=>
     intro ds its hd rs vs;cases ds with
     |nil=>exact rs.elim
     |cons d ds=>
      cases vs with
      |cons v1 v2=>
       obtain⟨pd,h1⟩:=ih0 (hd d AY) rs.1 v1;obtain⟨pds,h2⟩:=ih (λe he=>hd e (AE _ he)) rs.2 v2
       exact⟨pd::pds,.cons h1 h2⟩
   obtain⟨pds,hf⟩:=key hx.2 rs vs;obtain⟨p1,p2,p3,p4,p5,p6⟩:=UO hf;have l8:its.length<=8:=by
    have h8:=Nat.ble_eq.mp hx.1;rw[<-vs.length,rs.length];exact h8
   refine⟨.tuple pds,.tuple ho hc hd (by simpa using p1),p2,p3,?_,?_⟩
   .show IF pds+1<=n+1;omega
   .show (tupleText (DP pds)).length<=8*lq n+19;have h1:=tupleText_len_le (DP pds);have h2:=Vs (λt:Ah=>t.length) (DP pds) p5
    have h3:(DP pds).length*lq n<=8*lq n:=Nat.mul_le_mul_right _ (by omega)
    omega
  |_=>exact absurd (show Ae=Ab from hx) Ax
end
section
variable{X:Cx}{CL:ClA}
def tFs(K:Fg)(CL:ClA)(i:Ag):TE:=λY H Q=>∃ v d A n,Y[i]?=Aa (Aa v)/\Z7 K CL H A v d/\wy n d=Ab/\n<=2/\∀ t:Ah,Q (.str t) H
def tFm(K:Fg)(CL:ClA)(i:Ag):TE:=λY H Q=>∃ v d A n,Y[i]?=Aa (Aa v)/\Z7 K CL H A v d/\wy n d=Ab/\n<=2/\∀ t:Ah,t.length<=500->Q (.str t) H
theorem VP{e:Aq}{i:Ag}(hu:X.A.units+64<Bx)(hg:X.A.guards=Aa [])(he:PE X e (Ci i)):PE X (.FormattedValue e (-1) Af p1) (tFm X.K CL i):=by
 intro pI s Y H Q I ⟨v,d,A,n,hv,r,hx,hn,q⟩;refine wpAny_FormattedValue_plain (U0 (he pI s Y H (λx H1=>x=v/\H1=H) I ⟨v,hv,rfl,rfl⟩) λu s1 ⟨x,H1,I1,r1,e1,e2⟩=>?_)
 subst e1 e2;have zl:sizeLine ≥ 2000:=by decide
 obtain⟨pd,sw⟩:=tS I1 n hx r r1;have aw:n=0\/n=1\/n=2:=by omega
 have xb:lq n<=500:=by rcases aw with rfl|rfl|rfl<;>decide
 have ln:=sw.ln;have dp:=sw.dp;cases d with
 |int j=>
  have e:x=.int j:=r;subst e;obtain⟨t,rfl⟩:=r1;cases n with
  |zero=>
   have hx':(decide (0<=j)&&decide (j<100))=Ab:=hx;rw[Am,AG,AG]at hx';have il:=U_4 ⟨j.toNat,by omega⟩
   rw[show ((j.toNat:Ag):Ai)=j by omega]at il
   exact formatField_int_small (FG (Gp _) (by omega)) ⟨.str _,H1,I1.tok _,⟨_,rfl⟩,q _ (B9 il (by omega))⟩
  |succ n=>cases hx
 |H ds=>
  obtain⟨a,xs,rfl,_,sq,rs⟩:=r;cases r1;refine formatField_of_reads sw.rd sw.sh (λz=>by rw[sw.nd]at z;cases z) hg (by omega) (λ_ _ z=>z) (λh' tk1 á kp=>?_) (by omega)
  exact⟨.str pd.shown,H1,I1.kept kp,⟨_,rfl⟩,q _ (by omega)⟩
 |_=>cases n<;>cases hx
theorem hR{e:Aq}{i:Ag}(hu:X.A.units+64<Bx)(hg:X.A.guards=Aa [])(hz:z.length<=1000)(he:PE X e (Ci i)):PE X (.JoinedStr [.FormattedValue e (-1) Af p1,.Constant (.str z) k p2] p3) (tFs X.K CL i):=by
 intro pI s Y H Q I ⟨v,d,A,n,hv,r,hx,hn,q⟩;have zl:sizeLine ≥ 2000:=by decide
 refine ZZ ?_;show AA (model X.prog X.w) X.A (eval (.FormattedValue e (-1) Af p1) X.env) (λv s1=>∃ y t,v=.str y t/\(Dp++y).length<=sizeLine/\Joins (model X.prog X.w) X.A X.xe [eval (.Constant (.str z) k p2) X.env] (Dp++y) _ s1) X.xe s
 refine U0 (VP (CL:=CL) hu hg he pI s Y H (λx H1=>∃ y:Ah,x=.str y/\y.length<=500/\H1=H) I ⟨v,d,A,n,hv,r,hx,hn,λt ht=>⟨t,rfl,ht,rfl⟩⟩) λu s1 ⟨x,H1,I1,r1,y,e1,hy,e2⟩=>?_
 subst e1 e2;obtain⟨t1,rfl⟩:=r1;have l0:(Dp++y).length<=500:=by
  rw[Go];have:Dp.length=0:=rfl;omega
 refine⟨y,t1,rfl,by omega,?_⟩
 show AA (model X.prog X.w) X.A (eval (.Constant (.str z) k p2) X.env) _ X.xe s1;refine U0 (KI (X:=X) pI _ Y H1 (λx H2=>x=.str z/\H2=H1) I1 ⟨rfl,rfl⟩) λu2 s2 ⟨x2,H2,I3,r3,e3,e4⟩=>?_
 subst e3 e4;obtain⟨t3,rfl⟩:=r3;have l1:(Dp++y++z).length<=sizeLine:=by
  rw[Go];omega
 exact⟨z,t3,rfl,l1,l1,⟨.str _,H2,I3.tok _,⟨_,rfl⟩,q _⟩⟩
theorem dN{e:Aq}{i:Ag}{z':Ah}{k':Ag}{p0:AF}(hu:X.A.units+64<Bx)(hg:X.A.guards=Aa [])(bo:z'.length<=400)(hz:z.length<=1000)(he:PE X e (Ci i)):PE X (.JoinedStr [.Constant (.str z') k' p0,.FormattedValue e (-1) Af p1,.Constant (.str z) k p2] p3) (tFs X.K CL i):=by
 intro pI s Y H Q I ⟨v,d,A,n,hv,r,hx,hn,q⟩;have zl:sizeLine ≥ 2000:=by decide
 refine ZZ ?_;show AA (model X.prog X.w) X.A (eval (.Constant (.str z') k' p0) X.env) (λv s1=>∃ y t,v=.str y t/\(Dp++y).length<=sizeLine/\Joins (model X.prog X.w) X.A X.xe [eval (.FormattedValue e (-1) Af p1) X.env,eval (.Constant (.str z) k p2) X.env] (Dp++y) _ s1) X.xe s
 refine U0 (KI (X:=X) pI _ Y H (λx H2=>x=.str z'/\H2=H) I ⟨rfl,rfl⟩) λu0 s0 ⟨x0,H0,I0,r0,e0,e00⟩=>?_
 subst e0 e00;obtain⟨t0,rfl⟩:=r0;have le:(Dp++z').length<=400:=by
  rw[Go];have:Dp.length=0:=rfl;omega
 refine⟨z',t0,rfl,by omega,?_⟩
 show AA (model X.prog X.w) X.A (eval (.FormattedValue e (-1) Af p1) X.env) _ X.xe s0;refine U0 (VP (CL:=CL) hu hg he pI s0 Y H0 (λx H1=>∃ y:Ah,x=.str y/\y.length<=500/\H1=H0) I0 ⟨v,d,A,n,hv,r,hx,hn,λt ht=>⟨t,rfl,ht,rfl⟩⟩) λu s1 ⟨x,H1,I1,r1,y,e1,hy,e2⟩=>?_
 subst e1 e2;obtain⟨t1,rfl⟩:=r1;have l0:(Dp++z'++y).length<=900:=by
  rw[Go];omega
 refine⟨y,t1,rfl,by omega,?_⟩
 show AA (model X.prog X.w) X.A (eval (.Constant (.str z) k p2) X.env) _ X.xe s1;refine U0 (KI (X:=X) pI _ Y H1 (λx H2=>x=.str z/\H2=H1) I1 ⟨rfl,rfl⟩) λu2 s2 ⟨x2,H2,I3,r3,e3,e4⟩=>?_
 subst e3 e4;obtain⟨t3,rfl⟩:=r3;have l1:(Dp++z'++y++z).length<=sizeLine:=by
  rw[Go];omega
 exact⟨z,t3,rfl,l1,l1,⟨.str _,H2,I3.tok _,⟨_,rfl⟩,q _⟩⟩
structure ui (par:Ah) (j:Aq):Prop where
 st:∀ env,Aw [j] env=[(Ae,eval j env)]
 pe:∀(X:Cx)(CL:ClA)(i:Ag),X.A.units+64<Bx->X.A.guards=Aa []->(∀ p,PE X (.Name par p) (Ci i))->PE X j (tFs X.K CL i)
theorem sI(hz:z.length<=1000):ui par (.JoinedStr [.FormattedValue (.Name par p1) (-1) Af p2,.Constant (.str z) k p3] p4):=⟨λ_=>rfl,λ_ _ _ hu hg he=>hR hu hg hz (he _)⟩
theorem fQ{z':Ah}{k':Ag}{p0:AF}(bo:z'.length<=400)(hz:z.length<=1000):ui par (.JoinedStr [.Constant (.str z') k' p0,.FormattedValue (.Name par p1) (-1) Af p2,.Constant (.str z) k p3] p4):=⟨λ_=>rfl,λ_ _ _ hu hg he=>dN hu hg bo hz (he _)⟩
end
def wq(e C:Ak)(dx:Ao Ak)(t:Ak):AJ->Prop:=λh=>h.get? e=Aa (Gx C dx t)
theorem QE{e C:Ak}{t:Ak}:∀ h1 h2:AJ,wq e C dx t h1->(∀ o,h1.get? e=Aa o->h2.get? e=Aa o)->wq e C dx t h2:=λ_ _ p k=>k _ p
section
variable{X:Cx}{CL:ClA}{C:Ak}{nm q:Ah}{N:Ak}{bs bm:Ac Al}{hdct:An}{sn:Ac Ah}{sub:Ac Al}{ab:An}{col:Ao An}{dd:Ao Ak}{k0 k1 k2 k3 k5:Ao Al}
theorem dM{g:Ah}{np apos cpos:AF}{es ej:Aq}{i j:Ag}(um:∀ h:AJ,X.K.In h->h.get? C=Aa (Cu nm q C N bs bm hdct sn sub ab col dd k0 k1 k2 k3 k5 "ValueError.__new__")/\D2 h td bm)(hg:Gl X g)(hm:X.mg g=Aa (.ref OV))(zw:(g==("__debug__" : Ah))=Ae)(s1:C3 X.K (.ref OV) "__getattribute__" = Aa (Aa (.builtin "type.__getattribute__")))(s2:FC X.K OV (.type "type")=Ab)(s3:FB X.K (.ref OV) (.type "type") "__init__" = Aa (.val (.builtin "ValueError.__init__")))(U5:(apos.endLine==cpos.line)=Ab)(he:PE X es (Ci i))(hj:PE X ej (tFs X.K CL j))(sA:Aw [es,ej] X.env=(Ae,eval es X.env)::Aw [ej] X.env)(sB:Aw [ej] X.env=[(Ae,eval ej X.env)]):
  PE X (.Call (.Attribute (.Name g np) "__init__" apos) [es,ej] [] cpos) (λY H Q=>∃ e dx t v d A n,Y[i]?=Aa (Aa (.ref e))/\H e=Aa (.ext (wq e C dx t))/\Y[j]?=Aa (Aa v)/\Z7 X.K CL H A v d/\wy n d=Ab/\n<=2/\∀ t',Q .O (upd H e (.ext (wq e C dx t')))):=by
 have st1:Aw [es,ej] X.env=[(Ae,eval es X.env),(Ae,eval ej X.env)]:=by rw[sA,sB]
 intro pI s Y H Q I ⟨e,dx,t,v,d,A,n,h1,h2,h3,r,hx,hn,hq⟩;rw[Gm];refine As (show AA (model X.prog X.w) X.A (eval (.Name g np) X.env) _ X.xe s from Jy I hg hm ?_ zw)
 refine As (CU ?_);have form:FX ([es,ej].length+([]:Ac CB).length) (Bs cpos (Aw [es,ej] X.env)) (D9 cpos (Dh [] X.env))=Ab:=by
  rw[st1];rfl
 have mpos:Do Ab (.Name g np) X.env apos cpos=pure cpos:=by
  unfold Do;simp[U5]
 unfold HY;rw[form];refine As (Cm (PySem.W.method_cls I.kIn s1 (PySem.W.cls_value I.kIn s2 s3 rfl ?_)));refine As (Gj mpos ?_);have I1:=I.tok (s.toks+1);have pa:PA X [es,ej] _:=Bv he (Bv hj Cb sB) sA;have hA:=pa cpos pI {s with toks:=s.toks+1} Y H (λxs H'=>H'=H/\∃ z,xs=[.ref e,.str z]) I1 ⟨_,h1,⟨v,d,A,n,h3,r,hx,hn,λz=>⟨rfl,z,rfl⟩⟩⟩
 rw[st1]at hA ⊢;refine Gg rfl (EU (U0 hA λus s2 ⟨xs,H2,I2,rv,e2,z,ex⟩=>?_))
 subst e2 ex;obtain⟨u1,u2,rfl,rq,ug⟩:=Li rv;cases rq;obtain⟨tk,rfl⟩:=ug;obtain⟨gC,T⟩:=um _ I2.kIn;have ge:wq e C dx t s2.heap:=(I2.hok e _ h2).1;obtain⟨hp,g2,d2,á,os2⟩:=s2;refine oM Fb T gC ge λh' t' kp uv=>?_
 refine⟨.O,_,I2.write (x:=e) (e:=e) (o:=.ext (wq e C dx t')) (t':=á) (by rw[h2];exact trivial) (.inl rfl) kp ⟨_,uv⟩ ⟨uv,⟨_,uv⟩,QE⟩,rfl,hq t'⟩
end
theorem aL{bmB bm:Ac Al}(T:D2 h bmB bm){self:Al}{ek:Ah}(hb:refuseLoop self ek bmB=pure ()):refuseLoop self ek bm=pure ():=by
 induction T with
 |base=>exact hb
 |own _ _ _ _ ih=>rw[ZX];exact ih
section
variable{prog:AK}{w:AI}{A:A4}{E:Vq}{h:AJ}{g:Bl Eo}{d:IE}{nv:Ag}{os:BU}{K:Fg}
variable{nm q:Ah}{C N e t:Ak}{bs bm bmB:Ac Al}{sn:Ac Ah}{sub:Ac Al}{ab:An}{col:Ao An}{dd:Ao Ak}{k0 k1 k2 k3 k5:Ao Al}{B newId sa owner:CQ}
theorem gO{Q:Fin->Ar->Prop}{v:Al}(X:K.In h)(SF:LL B bmB sa owner)(T:D2 h bmB bm)(gC:h.get? C=Aa (Cu nm q C N bs bm Ab sn sub ab col dd k0 k1 k2 k3 k5 newId))(hf:At K (.ref C) name=Aa Af)(ge:h.get? e=Aa (Gx C Af t))(hq:∀ h' dx li,(∀ b o,b≠e->h.get? b=Aa o->h'.get? b=Aa o)->h'.get? e=Aa (Gx C (Aa dx) t)->h.get? dx=Af->h'.Ns1 dx (λy=>if y=name then Aa v else Af)->Q (.done (.ret .none)) ⟨h',g,d,li,os⟩):AA (model prog w) A (Builtin.«object.__setattr__» ⟨[.ref e,.str name tk,v],[]⟩) Q E ⟨h,g,d,nv,os⟩:=by
  have pass:=aL T (SF.passes (.ref e));have L1:=Cq (M:=model prog w) X hf;obtain⟨o,ho⟩:∃ o,Gx C Af t=o:=⟨_,rfl⟩;rw[ho]at ge;have oc:o.cls=.ref C:=by rw[<-ho];rfl
  unfold Builtin.«object.__setattr__»
  repeat (first|rw[refuse_eq]|(rw[ZX,pass])|(with_reducible refine Ce ge ?_;rw[oc])|(with_reducible refine wpAny_mroOf_exc gC ?_)|(with_reducible refine L1.at ?_)|(with_reducible refine As (L1.at ?_))|wp_step)
  have od:o.dict=Af:=by rw[<-ho];rfl
  have odt:o.data=.fields #[.ref t,.none,.none,.none,.bool Ae,.none]:=by rw[<-ho];rfl
  rw[od,odt,Ay (by simp[typeHasDict])]
  let D:CZ:={ cls:=.type "dict",data:=.dict #[] }
  have g1:(h.push D).get? e=Aa o:=AB _ ge;have ne:e≠h.objs.size:=BB (AS ge);refine As (wpAny_alloc' ?_);refine As (wpAny_update' g1 ?_);refine A2 ?_
  let U_:CZ->CZ:=λo=>{cls:=o.cls,dict:=Aa h.objs.size,data:=o.data,slots:=o.slots}
  have gD:((h.push D).update e U_).get? h.objs.size=Aa D:=(Zj _ _ _ _ ne.symm).trans (Zi rfl rfl);have nD:((h.push D).update e U_).Ns h.objs.size (λ_=>Af):=⟨_,#[],_,gD,rfl,λz hz=>absurd hz (by simp),λ_=>rfl⟩
  change AA _ _ (Yy h.objs.size (.str name tk) name v) _ _ _;unfold Yy Builtin.ObjectAttr.newKeyGuard;refine As (A2 (As (wpAny_nsSet1 (Zg nD) λk hk hs=>?_)))
  obtain⟨oD,eD,pD,q1,q2,q3⟩:=hk.count (Within.cons name v Within.nil);have le:oD.data.pastItsLine=Af:=by
    rw[q2];refine ZV (B9 q3 ?_);rw[A8,X9,Bz];omega
  refine As (Z_6 q1 le ?_)
  wp_walk
  refine hq k h.objs.size _ (λb ob nb hb=>?_) ?_ (Du (AU _)) hk
  · rw[hs.2 b (BB (AS hb)),Zj _ _ _ _ nb];exact AB _ hb
  · rw[hs.2 e ne];have:Aa (Gx C (Aa h.objs.size) t)=Aa (U_ o):=by rw[<-ho];rfl
    rw[this];exact DO _ g1 (by rw[<-ho];rfl)
end
section
variable{prog:AK}{w:AI}{A:A4}{E:Vq}{h:AJ}{g:Bl Eo}{d:IE}{nv:Ag}{os:BU}{K:Fg}
variable{nm q:Ah}{C N e t:Ak}{bs bm bmB:Ac Al}{sn:Ac Ah}{sub:Ac Al}{ab:An}{col:Ao An}{dd:Ao Ak}{k0 k1 k2 k3 k5:Ao Al}{B newId sa owner:CQ}
theorem gP{o:CZ}{a b:Al}(SF:LL B bmB sa owner)(T:D2 h bmB bm)(gC:h.get? C=Aa (Cu nm q C N bs bm Ab sn sub ab col dd k0 k1 k2 k3 k5 newId))(ge:h.get? e=Aa o)(hc:o.cls=.ref C)(hq:Q () ⟨h,g,d,nv,os⟩):AA M A (Gs sa ⟨[.ref e,a,b],[]⟩) Q E ⟨h,g,d,nv,os⟩:=by
 have hb:(Bm C::bm).contains (.type owner)=Ab:=by rw[Hx,T.hasType SF.hasOwner,J5]
 have ha:=SF.args (.ref e) a b;simp only[Gs,SF.kind,SF.split];refine As ?_;unfold Jt
 repeat (first|(with_reducible refine Ce ge ?_;rw[hc])|(with_reducible refine Fp gC ?_;rw[hb])|wp_step)
 unfold argsOk at ha;split
 .rename_i sig hs;rw[hs]at ha;refine Gj ha ?_;exact hq
 .exact A2 hq
theorem oK{v:Al}(X:K.In h)(SF:LL B bmB sa owner)(T:D2 h bmB bm)(gC:h.get? C=Aa (Cu nm q C N bs bm Ab sn sub ab col dd k0 k1 k2 k3 k5 newId))(hf:At K (.ref C) name=Aa Af)(hs:At K (.ref C) "__setattr__" = Aa (Aa (.builtin sa)))(ge:h.get? e=Aa (Gx C Af t))(hq:∀ h' dx li,(∀ b o,b≠e->h.get? b=Aa o->h'.get? b=Aa o)->h'.get? e=Aa (Gx C (Aa dx) t)->h.get? dx=Af->h'.Ns1 dx (λy=>if y=name then Aa v else Af)->Q () ⟨h',g,d,li,os⟩):AA (model prog w) A (LP (.ref e) name v) Q E ⟨h,g,d,nv,os⟩:=by
 have f3:=SF.slot.bind (.ref e);have L1:=Cq (M:=model prog w) X hs;obtain⟨o,ho⟩:∃ o,Gx C Af t=o:=⟨_,rfl⟩;have oc:o.cls=.ref C:=by rw[<-ho];rfl
 have uv:=ge;rw[ho]at uv;unfold LP callSpecial? specialOf
 repeat (any_goals (first|assumption|(with_reducible refine Ce uv ?_;rw[oc])|(with_reducible refine As (L1.at ?_))|(with_reducible refine L1.at ?_)|wp_step))
 refine DZ SF.slot.plain SF.entry (gP SF T gC uv oc (gO X SF T gC hf ge λh' dx li k1 k2 k3 k4=>?_))
 repeat (any_goals (first|assumption|wp_step))
 exact hq h' dx li k1 k2 k3 k4
end
section
variable{X:Cx}{pI:Pn}{Y:L2.St}{H:Hp}{s:Ar}{e:Ak}
theorem U_3{o:HO}(I:Z8 X pI Y H s)(ha:HS X pI e)(hH:H e=Af)(ho:ObjOk X.prog X.w (upd H e o) s.heap e o):Z8 X pI Y (upd H e o) s:=by
 have ne:∀ b o,H b=Aa o->b≠e:=λb o q z=>by rw[z,hH]at q;cases q
 refine⟨I.ok,I.os,I.bare,⟨I.base.keep,I.base.slot,λb o q n hb=>?_,I.base.there,λb xs q=>?_,λb o u q=>?_,λb ps q=>?_⟩,I.loc,I.cell,?_,λx c q=>?_,λp hp=>?_,λb o q=>?_,I.len⟩
 .rw[AQ λz=>by rw[z,ha.2.2.2]at q;cases q]
  exact I.base.free b o q n hb
 .have:=I.base.tups b xs q;rw[AQ (ne _ _ this)];exact this
 .have:=I.base.frzs b o u q;rw[AQ (ne _ _ this)];exact this
 .obtain⟨more,this⟩:=I.base.tbls b ps q;exact⟨more,by rw[AQ (ne _ _ this)];exact this⟩
 .rw[AQ λz=>ha.1 z.symm];exact I.free
 .rw[AQ (ha.2.1 x c q)];exact I.freeC x c q
 .obtain⟨q,n,r⟩:=I.pin p hp;exact⟨q,by rw[AQ (ha.2.2.1 p hp)];exact n,r⟩
 .by_cases hb:b=e
  .subst hb;rw[BO]at q;cases q;exact ho
  .rw[AQ hb]at q;exact(I.hok b o q).stay (λc v hc z=>z) (λc z=>by rw[AQ (ne _ _ z)];exact z) λc zs z=>by rw[AQ (ne _ _ z)];exact z
theorem fK(I:Z8 X pI Y H s)(hH:H e=Aa (.ext φ))(h0:X.s₀.heap.get? e=Af)(h1:X.ex=[]->F8):Z8 X pI Y (λb=>if b=e then Af else H b) s:=by
 have get:∀ b o,(if b=e then Af else H b)=Aa o->b≠e/\H b=Aa o:=λb o q=>by
  by_cases z:b=e
  .rw[Au z]at q;cases q
  .rw[Ay z]at q;exact⟨z,q⟩
 have put:∀ b o,H b=Aa o->o≠.ext φ->(if b=e then Af else H b)=Aa o:=λb o q n=>by
  by_cases z:b=e
  .rw[z,hH]at q;cases q;exact absurd rfl n
  .rw[Ay z];exact q
 have Ë:∀ b,H b=Af->(if b=e then Af else H b)=Af:=λb q=>by
  by_cases z:b=e
  .rw[Au z]
  .rw[Ay z];exact q
 refine⟨I.ok,I.os,I.bare,⟨λb o q n hb hx=>?_,I.base.slot,λb o q n hb=>?_,I.base.there,λb xs q=>?_,λb o u q=>?_,λb ps q=>?_⟩,I.loc,I.cell,Ë _ I.free,λx c q=>Ë _ (I.freeC x c q),λp hp=>?_,λb o q=>?_,I.len⟩
 .exact I.base.keep b o q n hb hx
 .exact Ë b (I.base.free b o q n hb)
 .exact put b _ (I.base.tups b xs q) (by intro z;cases z)
 .exact put b _ (I.base.frzs b o u q) (by intro z;cases z)
 .obtain⟨more,this⟩:=I.base.tbls b ps q;exact⟨more,put b _ this (by intro z;cases z)⟩
 .obtain⟨q,n,r⟩:=I.pin p hp;exact⟨q,Ë _ n,r⟩
 .obtain⟨nb,q⟩:=get b o q;exact(I.hok b o q).stay (λc v hc z=>z) (λc z=>put c _ z (by intro z;cases z)) λc zs z=>put c _ z (by intro z;cases z)
end
section
variable{X:Cx}{C:Ak}{nm q:Ah}{N:Ak}{bs bm:Ac Al}{sn:Ac Ah}{sub:Ac Al}{ab:An}{col:Ao An}{dd:Ao Ak}{k0 k1 k2 k3 k5:Ao Al}
theorem iQ{i j:Ag}{f:Ah}{eo:Aq}(um:∀ h:AJ,X.K.In h->h.get? C=Aa (Cu nm q C N bs bm Ab sn sub ab col dd k0 k1 k2 k3 k5 "ValueError.__new__")/\D2 h td bm)(hx:X.ex=[])(hf:At X.K (.ref C) f=Aa Af)(hs:At X.K (.ref C) "__setattr__" = Aa (Aa (.builtin "object.__setattr__")))(he:PE X eo (Ci i))(hv:PE X ev (Ci j))(sw:Dr ev (Aa (.Attribute eo f p8)) p10.line X.env=pure Ae):PS X (.Assign [.Attribute eo f p8] ev p10) (λD Y H=>∃ e t v,Y[i]?=Aa (Aa (.ref e))/\H e=Aa (.ext (wq e C Af t))/\Y[j]?=Aa (Aa v)/\∀ dx,H dx=Af->dx≠e->D.nx Y (upd (upd H e (.ext (wq e C (Aa dx) t))) dx (.xd [(f,v)]))):=by
 intro pI s Y H D I ⟨e,t,v,h1,h2,h3,hq⟩;refine ZW (U0 (hv pI s Y H (λx H1=>x=v/\H1=H) I ⟨v,h3,rfl,rfl⟩) λu s1 ⟨x,H1,I1,r1,e1,e2⟩=>?_) sw
 subst e1 e2;refine U0 (he pI s1 Y H1 (λx H2=>x=.ref e/\H2=H1) I1 ⟨_,h1,rfl,rfl⟩) λu2 s2 ⟨x2,H2,I2,r2,e3,e4⟩=>?_
 subst e3 e4;cases r2;obtain⟨gC,T⟩:=um _ I2.kIn;have ge:wq e C Af t s2.heap:=(I2.hok e _ h2).1;obtain⟨hp,g2,d2,á,os2⟩:=s2;refine oK I2.kIn PySem.F.store_ValueError T gC hf hs ge λh' dx li kp uv nd ns=>?_
 have nH:H2 dx=Af:=L5 I2.hok nd;have nde:dx≠e:=λz=>by rw[z,h2]at nH;cases nH
 have ap:HS X pI dx:=MO I2 hx nd;have I3:=I2.write (x:=e) (e:=e) (o:=.ext (wq e C (Aa dx) t)) (t':=li) (by rw[h2];exact trivial) (.inl rfl) kp ⟨_,uv⟩ ⟨uv,⟨_,uv⟩,QE⟩
 have I4:=U_3 (o:=.xd [(f,x)]) I3 ap (by rw[AQ nde];exact nH) ⟨_,ns,λy=>by
  by_cases z:y=f
  .subst z;rw[Au rfl];simp only[B0,BE];exact r1
  .rw[Ay z];have:(y==f)=Ae:=by simp[z]
   simp only[B0,this]
   trivial⟩
 exact⟨Y,_,I4,hq dx nH nde⟩
end
noncomputable def G7(K:Fg)(C:Ak):An:=match K.lookup C with
  |some ⟨_,_,.cls c,_⟩=>c.hasDict
  |_=>Ae
noncomputable def RZ(g par f:Ah)(j:Aq)(np apos p1 cpos p6 p7 p8 p9 p10:AF):Ac AL:=
 [.Expr (.Call (.Attribute (.Name g np) "__init__" apos) [.Name "self" p1,j] [] cpos) p6,.Assign [.Attribute (.Name "self" p7) f p8] (.Name par p9) p10]
inductive lu (K:Fg) (mg:Ah->Ao Al) (C:Ak) (f:Ah):Prop
 |mk {fI OV:Ak} {x qual g par:Ah} {j:Aq} {st:AL} {fd:Bi} {np apos p1 cpos p6 p7 p8 p9 p10:AF} (xc:DF K C (Aa (.ref fI))=Ab) (dc:G7 K C=Ab) (fn:qi K x qual st fI fd) (ty:Dq K (.ref fI)=Aa (.type "function"))
  (S:zW ["self",par] ["self",par] (AH st)) (l1:(AH st).names.lookup ("self" : Ah)=Aa .local) (l2:(AH st).names.lookup par=Aa .local) (bd:CW K fd ["self",par] []) (body:Di st=RZ g par f j np apos p1 cpos p6 p7 p8 p9 p10)
  (gl:(AH st).names.lookup g=Aa .globalImplicit) (mo:mg g=Aa (.ref OV)) (dg:(g==("__debug__" : Ah))=Ae) (dp:(par==("__debug__" : Ah))=Ae) (dq:(par==("__classdict__" : Ah))=Ae)
  (s1:C3 K (.ref OV) "__getattribute__" = Aa (Aa (.builtin "type.__getattribute__"))) (s2:FC K OV (.type "type")=Ab) (s3:FB K (.ref OV) (.type "type") "__init__" = Aa (.val (.builtin "ValueError.__init__")))
  (hl:(apos.endLine==cpos.line)=Ab) (hz:ui par j) (hf:At K (.ref C) f=Aa Af) (hs:At K (.ref C) "__setattr__" = Aa (Aa (.builtin "object.__setattr__"))):lu K mg C f
section
variable{P:AK}{w:AI}{K:Fg}{mg:Ah->Ao Al}{base:AJ}{CL:ClA}{C fI OV:Ak}{x qual g par f:Ah}{j:Aq}{st:AL}{fd:Bi}{np apos p1 cpos p6 p7 p8 p9 p10:AF}
variable{nm q:Ah}{N:Ak}{bs bm:Ac Al}{sn:Ac Ah}{sub:Ac Al}{ab:An}{col:Ao An}{dd:Ao Ak}{k0 k1 k2 k3 k5:Ao Al}
theorem kO(um:∀ h:AJ,K.In h->h.get? C=Aa (Cu nm q C N bs bm Ab sn sub ab col dd k0 k1 k2 k3 k5 "ValueError.__new__")/\D2 h td bm)(fn:qi K x qual st fI fd)(S:zW ["self",par] ["self",par] (AH st))(l1:(AH st).names.lookup ("self" : Ah)=Aa .local)(l2:(AH st).names.lookup par=Aa .local)(bd:CW K fd ["self",par] [])(body:Di st=RZ g par f j np apos p1 cpos p6 p7 p8 p9 p10)(gl:(AH st).names.lookup g=Aa .globalImplicit)(mo:mg g=Aa (.ref OV))(dg:(g==("__debug__" : Ah))=Ae)(dp:(par==("__debug__" : Ah))=Ae)(dq:(par==("__classdict__" : Ah))=Ae)(s1:C3 K (.ref OV) "__getattribute__" = Aa (Aa (.builtin "type.__getattribute__")))(s2:FC K OV (.type "type")=Ab)(s3:FB K (.ref OV) (.type "type") "__init__" = Aa (.val (.builtin "ValueError.__init__")))(hl:(apos.endLine==cpos.line)=Ab)(hz:ui par j)(hf:At K (.ref C) f=Aa Af)(hs:At K (.ref C) "__setattr__" = Aa (Aa (.builtin "object.__setattr__"))){A:A4}{s:Ar}{E:XK}{e t:Ak}{v:V}{u:Al}{d:D}{n:Ag}(hh:A.handled=Af)(hdp:A.depth<Hh)(hun:A.units+70<Bx)(hgd:A.guards=Aa [])(e0:yi P w K mg base A outer s H)(he:H e=Aa (.ext (wq e C Af t)))(rp:Z7 K CL H B v d)(hx:wy n d=Ab)(hn:n<=2)(r:Bt v u):EF (model P w) A (.call (.ref fI) ⟨[.ref e,u],[]⟩) (CR JN outer P w H s (λy H'=>y=.O/\∃ t' dx,H dx=Af/\dx≠e/\H'=upd (upd H e (.ext (wq e C (Aa dx) t'))) dx (.xd [(f,v)])) E) s:=by
 obtain⟨oc,od,kV,doc,pm,an,cdv,ct,osl,rfl,lk,zu⟩:=fn.ex;have KX:K.In s.heap:=e0.mod.kin.keeps λb o e=>(e0.bs b o e).1
 have lim:s.heap.NoLimit:=e0.mod.nolimit.keeps λb o e=>(e0.bs b o e).1
 have wl:∀ y∈(["self",par]:Ac Ah).zip [Bm e,u],(AH st).names.lookup y.1=Aa .local\/((AH st).names.lookup y.1=Aa .cell/\((CO (s.heap.objs.size+1) (AH st).names []).lookup y.1).isSome=Ab):=λy hy=>by
  refine .inl ?_;rcases A6.mp hy with rfl|hy
  .exact l1
  .rw[BX.mp hy];exact l2
 have rv:A1 [.ref e,v] [.ref e,u]:=.cons rfl (.cons r .nil);refine GI hdp (KX _ _ lk) rfl S.co S.gen rfl (HA KX zu) (bd s [.ref e,u] KX rfl _ _ _ _ ?_);refine Fh S.kind wl λenv hen Ú x=>?_
 subst hen;refine⟨lim.keeps x.toInCall.keep,Kd ?_⟩;have I:Z8 (B2 JN P w K mg base ["self",par] qual (AH st) fI cdv A outer s H E) [] (start ["self",par] [.ref e,v]) H Ú:=PN S hh e0 rfl rv x;generalize hX:B2 JN P w K mg base ["self",par] qual (AH st) fI cdv A outer s H E=X at I;have U9:∀ p,PE X (.Name "self" p) (Ci 0):=λp=>by rw[<-hX];exact Dx rfl (.inl l1)
 have cj:∀ p,PE X (.Name par p) (Ci 1):=λp=>by rw[<-hX];exact Dx rfl (.inl l2) dp dq
 have st1:=dM (X:=X) (CL:=CL) (C:=C) (g:=g) (np:=np) (apos:=apos) (cpos:=cpos) (i:=0) (j:=1) (OV:=OV) (by rw[<-hX];exact um) (by rw[<-hX];exact gl) (by rw[<-hX];exact mo) dg (by rw[<-hX];exact s1) (by rw[<-hX];exact s2) (by rw[<-hX];exact s3) hl (U9 p1)
  (hz.pe X CL 1 (by rw[<-hX];show A.units+3+64<Bx;omega) (by rw[<-hX];exact hgd) cj) rfl (hz.st _)
 have st2:=iQ (X:=X) (p8:=p8) (p10:=p10) (by rw[<-hX];exact um) (by rw[<-hX];rfl) (by rw[<-hX];exact hf) (by rw[<-hX];exact hs) (U9 p7) (cj p9) rfl
 have all:=Ca (Kg (pos:=p6) st1 rfl) (DT st2);have hk:=all [] Ú _ H {nx:=λ_ H'=>∃ t' dx,H dx=Af/\dx≠e/\H'=upd (upd H e (.ext (wq e C (Aa dx) t'))) dx (.xd [(f,v)]),rt:=λ_ _=>AM} I ⟨e,Af,t,v,d,B,n,rfl,he,rfl,by rw[<-hX];exact rp,hx,hn,λt'=>⟨e,t',v,rfl,BO,rfl,λdx h1 h2=>⟨t',dx,by rw[AQ h2]at h1;exact h1,h2,by rw[Ul]⟩⟩⟩
 rw[body];refine Bj (by rw[<-hX]at hk;exact hk) (λfl s' Å=>?_) λev s' hev=>hev
 cases fl with
 |next=>
  obtain⟨Y',H',J,w'⟩:=Å;exact⟨.O,H',J.os,J.bare,J.base,J.hok,rfl,rfl,w'⟩
 |ret y=>obtain⟨_,_,_,_,_,w'⟩:=Å;exact w'.elim
 |brk=>obtain⟨_,_,_,w'⟩:=Å;exact w'.elim
 |cont=>obtain⟨_,_,_,w'⟩:=Å;exact w'.elim
end
theorem V8:∀(n m:Ag)(d:D),wy n d=Ab->n+1<=m->xl m d=Ab
 |0,m+1,.int i,_,_=>rfl
 |n+1,m+1,.H ds,h,hm=>by
  have h':(CF ds.length 8&&ds.all (wy n))=Ab:=h;rw[Am]at h';show ds.all (xl m)=Ab;rw[Bh]at h' ⊢;exact λx hx=>V8 n m x (h'.2 x hx) (by omega)
 |0,_,.H _,h,_=>nomatch h
 |n+1,_,.int _,h,_=>nomatch h
section
variable{X:Cx}{CL:ClA}{W:XW}
def Nl(xn:Ag->Ac D->R Ex)(c:Ag)(f:Ah)(ds:Ac D):Prop:=∃ d n,ds=[d]/\wy n d=Ab/\n<=2/\xn c ds=.ok ⟨c,[(f,d)]⟩
theorem bW{c k:Ag}{g:Ah}{np cpos pos:AF}{e:Aq}{es:Ac Aq}{fs:Rho->R (Ac D)}(uw:X.calm=Ab)(hx:X.ex=[])(hr:U4 k X.A)(rz:NE X CL W)(hg:Gl X g)(hm:X.mg g=Aa (.ref C))(zw:(g==("__debug__" : Ah))=Ae)(xz:CL c=Aa C)(ha:SA X CL W (e::es) fs)(qb:∀ ds,xn c ds=.bad\/(xn c ds=.ok ⟨c,[]⟩/\DF X.K C Af=Ab)\/∃ f,lu X.K X.mg C f/\Nl xn c f ds)(he:Aw (e::es) X.env=(Ae,eval e X.env)::Aw es X.env)(zv:∀ pos,(Bs pos (Aw es X.env)).any (·.1)=Ae)(hz:∀ U ds,fs U=.ok ds->ds.length<=100000):SS X CL W (.Raise (Aa (.Call (.Name g np) (e::es) [] cpos)) Af pos) (λU=>O.of U (zn (fs U)) λxs=>O.of U (xn c xs) λx=>.exn x U):=λFz B pI s Y H D I ⟨U,x,p⟩=>by
 have hpl':(Bs cpos (Aw (e::es) X.env)).any (·.1)=Ae:=by rw[he];show (Ae||(Bs cpos (Aw es X.env)).any (·.1))=Ae;rw[zv];rfl
 cases e1:fs U with
 |bad=>dsimp only at p;rw[e1]at p;exact p.elim
 |exn y=>dsimp only at p;rw[e1]at p;exact p.elim
 |ok ds=>
  rcases qb ds with e2|⟨e2,xc⟩|⟨f,xi,d,n,rfl,xf,hn,e2⟩
  .dsimp only at p;rw[e1]at p;have p2:B5 X.K CL Fz B W (O.of U (xn c ds) λx=>.exn x U) D:=p
   rw[e2]at p2;exact p2.elim
  .refine eJ (fs:=fs) (xn:=λ_ uu=>match xn c uu with | .ok ⟨_,[]⟩=>.ok ⟨c,[]⟩|_=>.bad) uw rz hg hm zw xc xz ha (λuu=>by
    split
    .exact .inr rfl
    .exact .inl rfl) he zv hz Fz B pI s Y H D I ⟨U,x,?_⟩
   dsimp only at p ⊢;rw[e1]at p ⊢;have p2:B5 X.K CL Fz B W (O.of U (xn c ds) λx=>.exn x U) D:=p
   rw[e2]at p2;show B5 X.K CL Fz B W (O.of U (match xn c ds with | .ok ⟨_,[]⟩=>(.ok ⟨c,[]⟩:R Ex)|_=>.bad) λx=>.exn x U) D
   rw[e2];exact p2
  .dsimp only at p;rw[e1]at p;have p2:B5 X.K CL Fz B W (O.of U (xn c [d]) λx=>.exn x U) D:=p
   rw[e2]at p2;have p3:∀ H,(∀ b o,Fz b o->H b=Aa o)->W ⟨c,[(f,d)]⟩ H:=p2;cases xi with
   |mk xc dc fn ty S l1 l2 bd body gl mo dg dp dq w1 w2 w3 hl hz0 hf hs=>
    rename_i fI OV x0 qual g0 par j0 st fd np0 apos q1 cpos0 q6 q7 q8 q9 q10;obtain⟨bm,N,nm,qn,bs,hd,sn,sub,ab,col,dd,k0,k1,k2,k3,k5,mN,um,re,U7⟩:=P5 I.kIn xc;have om:hd=Ab:=by
     unfold G7 at dc;split at dc
     .rename_i c0 d0 cd sl lk;have g1:=I.kIn _ _ lk;rw[(um _ I.kIn).1]at g1;unfold Cu at g1;cases g1;exact dc
     .cases dc
    subst om;have ay:∀ h:AJ,X.K.In h->h.get? C=Aa (Cu nm qn C N bs bm Ab sn sub ab col dd k0 k1 k2 k3 k5 "ValueError.__new__")/\D2 h td bm:=λh z=>⟨(um h z).1,(um h z).2.2⟩
    refine cH (bmB:=td) (nm:=nm) (q:=qn) (C:=C) (N:=N) (fI:=fI) (bs:=bs) (bm:=bm) (hdct:=Ab) (sn:=sn) (sub:=sub) (ab:=ab) (col:=col) (dd:=dd) (k0:=k0) (k1:=k1) (k2:=k2) (k3:=k3) (k5:=k5) (mN:=mN) Fb U7 (I.ok.hd uw) hpl' re ?_;refine Jy I hg hm ⟨rfl,?_⟩ zw;have q1:=ha (BN B U Y) cpos pI s Y H (λvs H1=>Az H H1/\Z9 X.K CL H1 (BN B U Y) vs [d]) I ⟨x.aok,U,x.good,by rw[e1];exact λvs H1 s1 r1=>⟨s1,r1⟩⟩
    rw[he]at q1 ⊢;refine EU (Bj q1 (λus s2 ⟨vs,H2,I2,r2,zb,vd⟩=>⟨rfl,?_⟩) λ_ _ z=>z)
    cases vs with
    |nil=>exact vd.elim
    |cons v vs=>
     cases vs with
     |cons=>exact vd.2.elim
     |nil=>
      obtain⟨u,rfl,ru⟩:=KP r2;obtain⟨o1,o2,o3⟩:=um _ I2.kIn;obtain⟨oc,od,kV,doc,pm,an,cdv,ct,osl,efd,lk,zu⟩:=fn.ex;have coc:oc=.type "function" := by
       have ty':(X.K.lookup fI).map _=_:=ty;rw[lk]at ty';exact BD ty'
      refine⟨by rw[Bz];show 1<=_;omega,o1,o2,o3,⟨_,I2.kIn _ _ lk,coc⟩,λh' e0 made=>?_⟩
      obtain⟨t,ge,_⟩:=made.there;have I3:Z8 X pI Y H2 {s2 with heap:=h'}:=I2.kept (t':=s2.toks) made.keeps
      have ap:HS X pI e0:=MO I2 hx made.new;have n0:H2 e0=Af:=L5 I2.hok made.new;have I4:=U_3 (o:=.ext (wq e0 C Af t)) I3 ap n0 ⟨ge,⟨_,ge⟩,QE⟩;have wc:Az H2 (upd H2 e0 (.ext (wq e0 C Af t))):=λb o z=>by rw[AQ λy=>by rw[y,n0]at z;cases z];exact z
      have ru0:=hr.mono (Dt k);have run:=kO (P:=X.prog) (w:=X.w) (mg:=X.mg) (base:=X.base) (CL:=CL) (E:=λ_ _ _=>AM) (B:=BN B U Y) (H:=upd H2 e0 (.ext (wq e0 C Af t))) (t:=t) ay fn S l1 l2 bd body gl mo dg dp dq w1 w2 w3 hl hz0 hf hs (A:=X.A.under (.builtin "type.__call__" ⟨.ref C::[u],[]⟩)) (outer:=X.stack) hr.hd (by rw[SV];have:=ru0.dp;omega) (by rw[SU];have:=ru0.un;omega) hr.gd (I4.env0.make C [u] []) BO (Z7.same wc vd.1) xf hn ru
      refine F0 (EG run λr s' hq=>?_)
      cases r with
      |error _=>exact A7 hq
      |ok fl=>
       cases fl with
       |next=>exact A7 hq
       |brk=>exact A7 hq
       |cont=>exact A7 hq
       |ret u'=>
        obtain⟨v',H5,I5,rr,ev,t',dx,ix,dne,eH⟩:=I4.after hq;subst ev;cases rr;have nd2:H2 dx=Af:=by rw[AQ dne]at ix;exact ix
        rw[Ul]at eH;have H5e:H5 e0=Aa (.ext (wq e0 C (Aa dx) t')):=by rw[eH,AQ (CG dne),BO]
        have ge5:wq e0 C (Aa dx) t' s'.heap:=(I5.hok e0 _ H5e).1;have I6:=fK I5 H5e ap.2.2.2 λ_=>trivial
        have H6d:(if dx=e0 then Af else H5 dx)=Aa (.xd [(f,v)]):=by rw[Ay dne,eH,BO]
        have kz:Az H2 (λb=>if b=e0 then Af else H5 b):=λb o z=>by
         have nb:b≠e0:=λy=>by rw[y,n0]at z;cases z
         have nb2:b≠dx:=λy=>by rw[y,nd2]at z;cases z
         show (if b=e0 then Af else H5 b)=Aa o
         rw[Ay nb,eH,AQ nb2,AQ nb];exact z
        refine⟨rfl,t',Aa dx,(ay _ I6.kIn).1,ge5,rz pI Y _ s' e0 C (Aa dx) t' ⟨c,[(f,d)]⟩ I6 (λhx=>La I2 hx made.new) (Au rfl) ge5 (λA hA=>⟨C,xz,rfl,.inr ⟨dx,[(f,v)],rfl,λz=>?_,H6d,⟨rfl,?_⟩,trivial⟩⟩) (p3 _ λb o z=>kz _ _ (zb _ _ (x.same b o z)))⟩
        .obtain⟨ys,q,w⟩:=hA dx z;have q':(if dx=e0 then Af else H5 dx)=Aa ys:=q
         rw[H6d]at q';cases q';exact w
        .exact Rx hA 5 d (V8 n 5 d xf (by omega)) (Z7.sub (λ_ z=>z.elim) _ (Z7.same kz vd.1))
end
section
variable{prog:AK}{w:AI}{A:A4}{E:Vq}{h:AJ}{g:Bl Eo}{d:IE}{t:Ag}{os:BU}{K:Fg}{e C dx:Ak}{f:Ah}{mA:Ah->Ao Al}{v:Al}
theorem QF(p:JM e C (Aa dx) h):tm e C h:=let ⟨o,a,b,_⟩:=p;⟨o,a,b⟩
theorem bB{Q:Fin->Ar->Prop}(X:K.In h)(hf:At K (.ref C) f=Aa Af)(hd:G7 K C=Ab)(p:JM e C (Aa dx) h)(hn:h.Ns1 dx mA)(hv:mA f=Aa v)(hq:Q (.done (.ret v)) ⟨h,g,d,t,os⟩):AA (model prog w) A (Builtin.«object.__getattribute__» ⟨[.ref e,.str f tk],[]⟩) Q E ⟨h,g,d,t,os⟩:=by
 have L0:=KH (M:=model prog w) (QF p);have L1:=Cq (M:=model prog w) X hf;obtain⟨o,ge,oc,od,us,dt⟩:=p;unfold G7 at hd;split at hd
 .rename_i c' d' cd' uq lk;have gC:=X _ _ lk;unfold Builtin.«object.__getattribute__»
  repeat (any_goals (first|assumption|with_reducible refine L0.at ?_|with_reducible refine L1.at ?_|wp_step))
  rw[dt];unfold instanceDict
  repeat (first|(with_reducible refine Ce ge ?_;rw[oc])|with_reducible refine Ce gC ?_|wp_step)
  rw[od]
  repeat (first|(with_reducible refine wpAny_nsGet hn.ns ?_;rw[hv])|wp_step)
  exact hq
 .cases hd
theorem oJ{Q:Vq}(X:K.In h)(x:zq K C)(hf:At K (.ref C) f=Aa Af)(hd:G7 K C=Ab)(p:JM e C (Aa dx) h)(hn:h.Ns1 dx mA)(hv:mA f=Aa v)(hh:handedOut v=pure v)(hq:Q v ⟨h,g,d,t,os⟩):AA (model prog w) A (getAttrBy (.ref e) (.str f tk) fill expr) Q E ⟨h,g,d,t,os⟩:=by
 have L0:=KH (M:=model prog w) (QF p);have L1:=Cq (M:=model prog w) X x.ga;have L2:=Cq (M:=model prog w) X x.gt;have f3:=F6.ga.bind (.ref e);have hx0:(expr&&Kf (Dm "BaseException.__getattribute__"))=Ae:=by cases expr<;>rfl
 have hx2:(Dm "BaseException.__getattribute__" == Dm "object.__getattribute__")=Ae:=by decide+kernel
 have hx1:(Kf (Bm C)&&Dm "BaseException.__getattribute__" == Dm "object.__getattribute__")=Ae:=by rw[hx2];rfl
 repeat (any_goals (first|assumption|with_reducible refine L0.at ?_|with_reducible refine L1.at ?_|with_reducible refine L2.at ?_|wp_step))
 refine DZ F6.ga.plain Y_6 (SL X x (QF p) (bB X hf hd p hn hv ?_))
 repeat (any_goals (first|assumption|wp_step))
 all_goals trace_state
theorem cJ{b:An}{Q:Vq}(X:K.In h)(x:zq K C)(hf:At K (.ref C) f=Aa Af)(hd:G7 K C=Ab)(p:JM e C (Aa dx) h)(hn:h.Ns1 dx mA)(hv:mA f=Aa v)(hh:handedOut v=pure v)(hq:Q v ⟨h,g,d,t+1,os⟩):AA (model prog w) A (K2 (.ref e) f b) Q E ⟨h,g,d,t,os⟩:=by
 unfold K2
 repeat (any_goals (first|assumption|with_reducible apply oJ X x hf hd p hn hv hh|wp_step))
end
section
variable{X:Cx}{CL:ClA}{W:XW}{K:Fg}{H:Hp}{A:Ak->Prop}
theorem P7{f:Ah}{d:D}:∀{vs:Ac (Ah×V)}{fs:Ac (Ah×D)},z9 K CL H A vs fs->fs.lookup f=Aa d->∃ v,vs.lookup f=Aa v/\Z7 K CL H A v d
 |[],[],_,q=>nomatch q
 |(n,v)::vs,(m,d')::fs,⟨⟨e,r⟩,rs⟩,q=>by
  have e':n=m:=e;subst e';by_cases z:(f==n)=Ab
  .simp only[B0,z]at q ⊢;cases q;exact⟨v,rfl,r⟩
  .simp only[B0,z]at q ⊢;exact P7 rs q
theorem UQ{a:Aq}{fa:Rho->R D}{f:Ah}(mz:∀ c C,CL c=Aa C->zq X.K C)(hnf:∀ c C,CL c=Aa C->G7 X.K C=Ab/\At X.K (.ref C) f=Aa Af)(ha:ST X CL W a fa)(hb:BH a f X.env (eval a X.env)=eval a X.env):SE X CL W (.Attribute a f pos) (λU=>(fa U).bind λx=>R4 x f):=λA=>by
 intro pI s Y H Q I ⟨hA,U,gd,q⟩;refine Qy hb (U0 (ha A pI s Y H _ I ⟨hA,U,gd,AW.bind q (Q':=λv H1=>∃ d,Cv X.K CL H1 A v d/\AW (λH2=>Z7 X.K CL H2 A) W H1 (R4 d f) Q) λd v H1 _ s1 r1 p1=>⟨d,r1,p1⟩⟩) λu s1 ⟨v,H1,I1,rv,d,rp,p1⟩=>?_)
 cases d with
 |exc c fs=>
  have p2:AW (λH2=>Z7 X.K CL H2 A) W H1 (match fs.lookup f with|some d=>.ok d|none=>.bad) Q:=p1
  cases el:fs.lookup f with
  |none=>rw[el]at p2;exact p2.elim
  |some d=>
   rw[el]at p2;rcases rp with ⟨e,C,φ,rfl,_,hc,hH,hφ,jy⟩|⟨a,xs,ds,_,z,_⟩
   .rcases jy with z|⟨dx,vs,nd,hd,rf,hφ2⟩
    .rw[z]at el;cases el
    .obtain⟨y,l,ry⟩:=P7 rf el;cases rv;have ph:=(I1.hok e _ hH).1;obtain⟨o,ge,oc⟩:=hφ _ ph;obtain⟨o',uv,od,us,odt⟩:=hφ2 _ ph;rw[ge]at uv;cases uv;obtain⟨mA,hn,rel⟩:=I1.hok dx _ hd;obtain⟨u',hu,ru⟩:=IB.some_of (v:=y) (o:=mA f) (by rw[<-l];exact rel f)
     obtain⟨k1,k2⟩:=hnf c C hc;obtain⟨hp,g2,d2,á,os2⟩:=s1;exact cJ I1.kIn (mz c C hc) k2 k1 ⟨o,ge,oc,od,us,odt⟩ hn hu (PySem.W.handedOut_of (Td ru)) ⟨y,H1,I1.tok _,ru,p2 y H1 (Az.refl H1) ry⟩
   .cases z
 |_=>exact p1.elim
end
section
variable{X:Cx}{CL:ClA}{W:XW}
end
theorem eI:∀{ss:Ac Ah}{its:Ac Al},A1 (ss.map V.str) its->∃ l:Ac (Ah×Cf),its=strValues l/\l.map (·.1)=ss:=by
 intro ss
 induction ss with
 |nil=>intro its v;cases v;exact⟨[],rfl,rfl⟩
 |cons x ss ih=>
  intro its v;cases v with
  |cons v1 v2=>
   obtain⟨t,rfl⟩:=v1;obtain⟨l,e1,e2⟩:=ih v2;exact⟨(x,t)::l,by rw[e1];rfl,by rw[BP,e2]⟩
section
variable{X:Cx}{CL:ClA}{W:XW}
def uW(K:Fg):V->Ac V->Hp->VK->Prop:=λx xs H Q=>∃ sep q ss,x=.str sep/\xs=[.ref q]/\Id K H q (ss.map V.str)/\J8 sep ss=Ab/\Q (.str (Ep sep ss)) H
theorem kC:pj X "str.join" (uW X.K):=by
 intro pI s Y H x vs v us Q I rx rv h;obtain⟨sep,l,ss,rfl,rfl,sq,hok,q⟩:=h;obtain⟨t,rfl⟩:=rx;obtain⟨u,rfl,ru⟩:=rv.one;cases ru;obtain⟨its,r,pl,hz⟩:=I.list sq;obtain⟨ls,rfl,rfl⟩:=eI r;unfold J8 at hok;rw[Bf]at hok;refine EV Zb (FY _ _ _) PySem.F.entry_str_join (PySem.F.args_str_join_2 _ _) (meets_str_join_list sep t l ls hok) ⟨pl.isList,post_join ls ⟨joinFit_length hok,λt' k=>?_⟩⟩
 exact⟨.str _,H,I.kept (t':=k) λ_ _ e=>e,⟨_,rfl⟩,q⟩
theorem aQ:∀{es:Ac D}{ss:Ac Ah}{ys:Ac V},Mj es=Aa ss->Z9 K CL H A ys es->ys=ss.map V.str:=by
 intro es
 induction es with
 |nil=>
  intro ss ys h r;cases h;cases ys with
  |nil=>rfl
  |cons=>exact r.elim
 |cons e es ih=>
  intro ss ys h r;cases ys with
  |nil=>exact r.elim
  |cons y ys=>
   cases e with
   |str x=>
    have h':(Mj es).map (x :: ·)=Aa ss:=h;cases e2:Mj es with
    |none=>rw[e2]at h';cases h'
    |some js=>
     rw[e2]at h';cases h';have e1:y=.str x:=r.1;rw[ih e2 r.2,e1];rfl
   |_=>cases h
theorem jO{y:Aq}{s:Ah}{p apos cpos:AF}(hy:SE X CL W y fy)(U7:BH (.Constant (.str s) k p) "join" X.env (eval (.Constant (.str s) k p) X.env)=eval (.Constant (.str s) k p) X.env)(yn:((Bs cpos (Aw [y] X.env)).all (λx=>!x.1)&&(D9 cpos (Dh [] X.env)).all (λx=>x.1.isSome)&&decide ([y].length+([]:Ac CB).length+(if ([]:Ac CB).isEmpty then 0 else 1)<30))=Ab)(U5:(apos.endLine==cpos.line)=Ab)(hs:Aw [y] X.env=[(Ae,eval y X.env)]):
  SE X CL W (.Call (.Attribute (.Constant (.str s) k p) "join" apos) [y] [] cpos) (λU=>(fy U).bind λx=>zY .sjoin [.str s,x]):=λA=>
 PE.weak (IS Y_8 Zb PySem.F.type_str_join kC (M9 (X:=X) (CL:=CL) (W:=W) A) (Bv (hy A) Cb hs) U7 yn U5 hs rfl) λY H Q ⟨hA,U,g,p⟩=>⟨hA,U,g,λv H1 s1 r1=>by
  dsimp only at p;have ev:v=.str s:=r1;subst ev;refine⟨rfl,hA.same s1,U,g.same s1,?_⟩;cases e:fy U with
  |bad=>rw[e]at p;exact p.elim
  |exn x=>rw[e]at p;exact λH2 s2=>p H2 (s1.trans s2)
  |ok d=>
   rw[e]at p;intro v' H2 s2 r2;have p1:AW (λH=>Z7 X.K CL H A) W H (zY .sjoin [.str s,d]) Q:=p
   cases d with
   |L ds=>
    obtain⟨a,xs,rfl,_,sq,rs⟩:=r2;have p2:AW (λH=>Z7 X.K CL H A) W H (QQ s ds) Q:=p1
    unfold QQ at p2;cases e3:Mj ds with
    |none=>rw[e3]at p2;exact p2.elim
    |some ss=>
     rw[e3]at p2;dsimp only at p2;split at p2
     .rename_i hok;have ex:=aQ e3 rs;subst ex;exact⟨s,a,ss,rfl,rfl,sq,hok,p2 _ H2 (s1.trans s2) rfl⟩
     .exact p2.elim
   | _=>exact p1.elim⟩
end
theorem Tq:∀(l:Ac Ah)(k:Ag),A1 (l.map V.str) (strsFrom k l)
 |[],_=>.nil
 |_::r,k=>.cons ⟨_,rfl⟩ (Tq r (k+1))
section
variable{X:Cx}{CL:ClA}{W:XW}
def qD:V->Ac V->Hp->VK->Prop:=λx xs H Q=>∃ z y,x=.str z/\xs=[.str y]/\(y.length==0)=Ae/\Jd z y=Ab/\∀ p,H p=Af->Q (.ref p) (upd H p (.L ((DH z y).map V.str)))
theorem dD:pj X "str.split" qD:=by
 intro pI s Y H x vs v us Q I rx rv h;obtain⟨z,y,rfl,rfl,hy,hok,q⟩:=h;obtain⟨t,rfl⟩:=rx;obtain⟨u0,rfl,ru⟩:=rv.one;obtain⟨u,rfl⟩:=ru;unfold Jd at hok;rw[Am]at hok;have z1:z.length<=sizeLine:=by have:=AR hok.1;rw[Bz];omega
 have z2:(YA z (DB z y 0 z.length (z.length+1)) y.length).length<=sizeLine:=by have:=AR hok.2;rw[Bz];omega
 have one:∀(l:Ac Ah)(its:Ac Al)(tk:Ag),DH z y=l->l.length<=sizeLine->A1 (l.map V.str) its->EP X pI Y Q (.ref s.heap.objs.size) { s with heap:=s.heap.push { cls:=.type "list",data:=.seq its.toArray },toks:=tk }:=λl its tk e hl hv=>
  ⟨.ref s.heap.objs.size,_,I.laid (t':=tk) (o:=.L (l.map V.str)) (λb ob q=>AB _ q) (AU _) ⟨by rw[Bc];exact hl,its,0,hv,Bp _ rfl⟩,rfl,by rw[<-e];exact q _ (I.hok.fresh (AU _))⟩
 have nq:1<=sizeLine:=by decide
 cases h1:(decide (z.length<y.length)||decide (DD z<DD y))
 .cases hf:(DB z y 0 z.length (z.length+1)).isEmpty
  .exact EV En (FY _ _ _) F4 (FJ _ _) (meets_str_split_sep z y t u h1 hy hf z1 z2) (one _ _ _ ((Ay (Hd h1)).trans (Ay (Hd hf))) z2 (Tq _ _))
  .exact EV En (FY _ _ _) F4 (FJ _ _) (meets_str_split_not_found z y t u h1 hy hf) (one [z] [.str z t] s.toks ((Ay (Hd h1)).trans (Au hf)) nq (.cons ⟨_,rfl⟩ .nil))
 .exact EV En (FY _ _ _) F4 (FJ _ _) (meets_str_split_cannot_occur z y t u h1) (one [z] [.str z t] s.toks (Au h1) nq (.cons ⟨_,rfl⟩ .nil))
theorem Tu{K:Fg}{H:Hp}{A:Ak->Prop}:∀ l:Ac Ah,Z9 K CL H A (l.map V.str) (l.map D.str)
 |[]=>trivial
 |_::r=>⟨rfl,Tu r⟩
theorem eM{o:Aq}{y:Ah}{p apos cpos:AF}(ho:ST X CL W o fo)(U7:BH o "split" X.env (eval o X.env)=eval o X.env)(U5:(apos.endLine==cpos.line)=Ab):SC X CL W Ab (.Call (.Attribute o "split" apos) [.Constant (.str y) k p] [] cpos) (λU=>(fo U).bind λx=>zY .ssplit [x,.str y]):=λA=>
 PE.weak (IS Y_8 En PySem.F.type_str_split dD (ho A) (Bv (M9 (X:=X) (CL:=CL) (W:=W) A) Cb rfl) U7 rfl U5 rfl rfl) λY H Q ⟨hA,U,g,q⟩=>⟨hA,U,g,AW.bind q λd v H1 _ s1 r1 p1=>by
  cases d with
  |str z=>
   have e:=r1.str_of;subst e;refine⟨rfl,hA.same s1,U,g.same s1,λv' H2 s2 r2=>?_⟩
   have e2:v'=.str y:=r2;subst e2;have p2:AW (Cw X.K CL Ab H A) W H1 (if (!(y.length==0)&&Jd z y)=Ab then .ok (.L ((DH z y).map D.str)) else .bad) Q:=p1
   split at p2
   .rename_i hk;rw[Am,Bf]at hk;exact⟨z,y,rfl,rfl,hk.1,hk.2,λa ha=>p2 _ _ (s2.trans (EZ ha _)) (K7 (s1.trans s2) ((hA.same s1).same s2) ha (Tu _))⟩
   .exact p2.elim
  | _=>exact p1.elim⟩
theorem qZ:Lm X CL W (.type "str") (zY .str):=by
  intro A pI s Y H xs us Q I r ⟨hA,ds,rs,p⟩
  match ds,rs,p with
  |[.int i],rs,p=>
    obtain⟨v,rfl,rv⟩:=rs.one;have e:=rv.int_of;subst e;have p2:AW (λH=>Z7 X.K CL H A) W H (if Lx i=Ab then .ok (.str (Aj (toString i))) else .bad) Q:=p
    split at p2
    · rename_i hk;have vy:i.natAbs<1000:=AN hk;exact Sw pI s Y H _ us Q I r ⟨i,rfl,FG (Gp _) (Nat.lt_trans vy (by decide)),p2 _ H (Az.refl H) rfl⟩
    · exact p2.elim
  |[.bl _],_,p=>exact p.elim
  |[],_,p=>exact p.elim
  |[.O],_,p=>exact p.elim
  |[.str _],_,p=>exact p.elim
  |[.H _],_,p=>exact p.elim
  |[.L _],_,p=>exact p.elim
  |[.obj _ _],_,p=>exact p.elim
  |[.exc _ _],_,p=>exact p.elim
  |[.dic _],rs,p=>first|exact p.elim|(obtain⟨v,rfl,rv⟩:=rs.one;exact rv.plain.elim)
  |x::_::_,_,p=>cases x<;>exact p.elim
end
structure n6 (K:Fg) (C:Ak):Prop where
 cl:we K C
 np:FP K C "p"
 nt:FP K C "triple"
 ha:At K (.ref C) "__class__" = Aa (Aa (.builtin "object.__class__"))
 hn:C3 K (.builtin "object.__class__") "__get__" = Aa (Aa (.builtin "getset_descriptor.__get__"))
 htk:IH K (.builtin "object.__class__")=Aa Ab
 hm:Ck K C (.type "object")=Aa Ab
theorem Tv{K:Fg}{CL:ClA}{H:Hp}{A:Ak->Prop}{f:Ah}:∀{vs:Ac (Ah×V)}{fs:Ac (Ah×D)},z9 K CL H A vs fs->fs.lookup f=Af->vs.lookup f=Af
 |[],[],_,_=>rfl
 |v::vs,(n,d)::fs,h,q=>by
  obtain⟨⟨e,_⟩,h2⟩:=h;obtain⟨m,y⟩:=v;have e':m=n:=e;subst e';by_cases z:(f==m)=Ab
  .simp only[B0,z]at q;cases q
  .have z':(f==m)=Ae:=by simpa using z
   simp only[B0,z']at q ⊢;exact Tv h2 q
 |[],_::_,h,_=>h.elim
 |_::_,[],h,_=>h.elim
section
variable{CL:ClA}{K:Fg}{H:Hp}{A:Ak->Prop}{x C dx:Ak}{vs:Ac (Ah×V)}{o:HO}
mutual
theorem VR(hx:H x=Aa (.ins C dx vs)):∀(n:Ag)(d:D){v:V},xl n d=Ab->Z7 K CL H A v d->Z7 K CL (upd H x o) A v d
 |_,.O,_,_,h=>h
 |_,.bl _,_,_,h=>h
 |_,.int _,_,_,h=>h
 |_,.str _,_,_,h=>h
 |0,.H _,_,hn,_=>by cases hn
 |n+1,.H ds,_,hn,h=>by
  obtain⟨a,xs,e,na,s,r⟩:=h;refine⟨a,xs,e,na,?_,va hx n ds hn r⟩;rcases s with s|s
  .rcases s with s|⟨ob,s⟩
   .exact .inl (.inl (by rw[AQ λz=>by rw[z,hx]at s;cases s];exact s))
   .exact .inl (.inr ⟨ob,by rw[AQ λz=>by rw[z,hx]at s;cases s];exact s⟩)
  .exact .inr s
 |n,.L _,_,hn,_=>by cases n<;>cases hn
 |n,.obj _ _,_,hn,_=>by cases n<;>cases hn
 |n,.exc _ _,_,hn,_=>by cases n<;>cases hn
 |n,.dic _,_,hn,_=>by cases n<;>cases hn
theorem va(hx:H x=Aa (.ins C dx vs)):∀(n:Ag)(ds:Ac D){us:Ac V},ds.all (xl n)=Ab->Z9 K CL H A us ds->Z9 K CL (upd H x o) A us ds
 |_,[],[],_,h=>h
 |n,d::ds,_::_,hn,h=>by
  simp only[E9,Am]at hn;exact⟨VR hx n d hn.1 h.1,va hx n ds hn.2 h.2⟩
 |_,[],_::_,_,h=>h.elim
 |_,_::_,[],_,h=>h.elim
end
theorem Qm{v:V}{c:Ag}{fs:Ac (Ah×D)}(r:Cv K CL H A v (.obj c fs)):∃ a C dx vs,v=.ref a/\¬ A a/\OC K c=Aa C/\H a=Aa (.ins C dx vs)/\z9 K CL H A vs fs:=by
 rcases r with r|⟨a,xs,ds,_,z,_⟩
 .exact r
 .cases z
end
section
variable{X:Cx}{CL:ClA}{W:XW}{a:Aq}{fa:Rho->R D}
theorem nX{f:Ah}(ho:∀ c C,OC X.K c=Aa C->we X.K C/\FP X.K C f)(ha:ST X CL W a fa)(hb:BH a f X.env (eval a X.env)=eval a X.env):SE X CL W (.Attribute a f pos) (λU=>(fa U).bind λx=>b7 x f):=λA=>by
 intro pI s Y H Q I ⟨hA,U,gd,q⟩;refine Qy hb (U0 (ha A pI s Y H _ I ⟨hA,U,gd,AW.bind q (Q':=λv H1=>∃ d,Cv X.K CL H1 A v d/\AW (λH2=>Z7 X.K CL H2 A) W H1 (b7 d f) Q) λd v H1 _ s1 r1 p1=>⟨d,r1,p1⟩⟩) λu s1 ⟨v,H1,I1,rv,d,rp,p1⟩=>?_)
 cases d with
 |obj c fs=>
  have p2:AW (λH2=>Z7 X.K CL H2 A) W H1 (match fs.lookup f with|some d=>.ok d|none=>.bad) Q:=p1
  cases el:fs.lookup f with
  |none=>rw[el]at p2;exact p2.elim
  |some d=>
   rw[el]at p2;obtain⟨e,C,dx,vs,rfl,_,hc,hH,rf⟩:=Qm rp;obtain⟨y,l,ry⟩:=P7 rf el;cases rv;obtain⟨k1,k2⟩:=ho c C hc;exact S4 I1 hH k1 k2 l λu s' I2 ru=>⟨y,H1,I2,ru,p2 y H1 (Az.refl H1) ry⟩
 |_=>exact p1.elim
theorem oB{p p2 pos:AF}(ij:∀ c C,OC X.K c=Aa C->n6 X.K C)(hg:Gl X "isinstance")(hm:X.mg "isinstance" = Af)(wz:Gl X x)(ra:X.mg x=Aa (.ref C'))(qz:∀ c C,OC X.K c=Aa C->B8 X.K (.ref C) (.ref C')=Aa ((oup c).contains k))(zw:(x==("__debug__" : Ah))=Ae)(ha:ST X CL W a fa)(he:Aw [a,.Name x p2] X.env=(Ae,eval a X.env)::Aw [.Name x p2] X.env):SE X CL W (.Call (.Name "isinstance" p) [a,.Name x p2] [] pos) (λU=>(fa U).bind λx=>R7 k x):=λA=>
 PE.weak (Kl (r:=λxs H Q=>∃ a C dx vs c,xs=[.ref a,.ref C']/\OC X.K c=Aa C/\H a=Aa (.ins C dx vs)/\Q (.bl ((oup c).contains k)) H) (λpI s Y H xs us Q I r ⟨b,C,dx,vs,c,e,hc,hH,q⟩=>by
   subst e;obtain⟨u,w',rfl,r1,r2⟩:=Li r;cases r2;have o:=ij c C hc;exact cS I r1 (.ins hH o.cl o.ha o.hn o.htk o.hm) (qz c C hc) λtk=>⟨.bl _,H,I.tok tk,rfl,q⟩)
  hg hm Fx (Bv (ha A) (Bv (M0 (v:=.ref C') wz ra rfl zw) Cb rfl) he) (by decide) (by decide) he rfl) λY H Q ⟨hA,U,g,q⟩=>⟨hA,U,g,AW.bind q λd v H1 _ s1 r1 p1=>by
   cases d with
   |obj c fs=>
    obtain⟨b,C,dx,vs,rfl,_,hc,hH,_⟩:=Qm r1;exact⟨b,C,dx,vs,c,rfl,hc,hH,p1 _ H1 (Az.refl H1) rfl⟩
   | _=>exact p1.elim⟩
theorem jM{m:Ah}{ms:Ac (Ag×Ag)}{F:Ag->Ac D->R D}(hr:U4 k X.A)(hx:∀ A,HM (CXR X.prog X.w) X (EKW X.K CL A W))(ha:ST X CL W a fa)(hms:∀ c id C,ms.lookup c=Aa id->OC X.K c=Aa C->∃ f fd ps fr,we X.K C/\ze X.K C m f/\CW X.K fd ps []/\Y4 X.prog X.w X.K X.mg X.base (CXR X.prog X.w) k f fd ps (spD X.K CL 1 fr (F id)))(U7:BH a m X.env (eval a X.env)=eval a X.env)(U5:(apos.endLine==pos.line)=Ab):SE X CL W (.Call (.Attribute a m apos) [] [] pos) (λU=>(fa U).bind λx=>Nd F m ms x):=λA=>by
 intro pI s Y H Q I ⟨hA,U,gd,q⟩;rw[Gm,U7];refine As (U0 (ha A pI s Y H (λv H1=>Az H H1/\∃ d,Cv X.K CL H1 A v d/\AW (λH2=>Z7 X.K CL H2 A) W H1 (Nd F m ms d) Q) I ⟨hA,U,gd,AW.bind q λd v H1 _ s1 r1 p1=>⟨s1,d,r1,p1⟩⟩) λu s1 ⟨v,H1,I1,rv,Ú,d,rp,p1⟩=>?_)
 refine As (CU ?_);have xq:FX (([]:Ac Aq).length+([]:Ac CB).length) (Bs pos (Aw [] X.env)) (D9 pos (Dh [] X.env))=Ab:=rfl;have vk:Do Ab a X.env apos pos=pure pos:=by
  unfold Do;simp[U5]
 unfold HY;rw[xq];cases d with
 |obj c fs=>
  have p2:AW (λH2=>Z7 X.K CL H2 A) W H1 (match ms.lookup c with|some id=>if (fs.lookup m).isNone=Ab then F id [.obj c fs] else .bad|none=>.bad) Q:=p1
  cases el:ms.lookup c with
  |none=>rw[el]at p2;exact p2.elim
  |some id=>
   rw[el]at p2;dsimp only at p2;split at p2
   .rename_i hn;obtain⟨e,C,dx,vs,rfl,na,hc,hH,rf⟩:=Qm rp;obtain⟨f,fd,ps,fr,cl,me,hb,G⟩:=hms c id C el hc;cases rv;refine As (Cm (NS I1 hH cl me (Tv rf (DX.mp hn)) ?_));refine As (Gj vk ?_);refine ZK (first:=[.ref e]) I1.kIn me.kp (Oe (us:=[.ref e]) (vs:=[.ref e]) G hr hb .nil (hx A) I1 (.cons rfl .nil) ?_)
    refine⟨[.obj c fs],A,rfl,hA.same Ú,⟨⟨e,C,dx,vs,rfl,na,hc,hH,rf⟩,trivial⟩,?_⟩;cases e2:F id [.obj c fs] with
    |ok d=>rw[e2]at p2;exact λv H2 s2 r2=>p2 v H2 s2 r2.1
    |exn y=>rw[e2]at p2;exact λcls dx H2 s2 xr=>⟨y,xr,p2 H2 s2⟩
    |bad=>rw[e2]at p2;exact p2.elim
   .exact p2.elim
 |_=>exact p1.elim
def spI(K:Fg)(CL:ClA)(G:Ac D->R D):Sp:=λvs H Q _=>∃(x C dx:Ak)(us:Ac V)(ds:Ac D)(A:Ak->Prop)(H0:Hp),vs=.ref x::us/\us.length=2/\we K C/\FP K C "p"/\FP K C "triple"/\H x=Aa (.ins C dx [])/\H0 x=Af/\Az H0 H/\My H0 A/\Z9 K CL H0 A us ds/\(match G ds with
  |.ok d=>∀ d1 d2,d=.H [d1,d2]->∀ v1 v2 H',Az H0 H'->H' x=Aa (.ins C dx [("p",v1),("triple",v2)])->Z7 K CL H' A v1 d1->Z7 K CL H' A v2 d2->Q .O H'
  | _=>AM)
theorem kD{c:Ag}{d:D}{Q:VK}(p:AW Rp W H (EJ c d) Q):∃ d1 d2,d=.H [d1,d2]/\EJ c d=.ok (.obj c [("p",d1),("triple",d2)]):=by
  cases d with
  |H ds=>
    match ds,p with
    |[],p=>exact p.elim
    |[_],p=>exact p.elim
    |_::_::_::_,p=>exact p.elim
    |[a,b],p=>
      refine⟨a,b,rfl,?_⟩;have p2:AW Rp W H (if xl 5 b=Ab then .ok (.obj c [("p",a),("triple",b)]) else .bad) Q:=p
      show (if xl 5 b=Ab then R.ok (D.obj c [("p",a),("triple",b)]) else .bad)=_
      split at p2
      · rename_i z;rw[Au z]
      · exact p2.elim
  |_=>exact p.elim
theorem jN{c k:Ag}{C f:Ak}{g:Ah}{np pos:AF}{e:Aq}{es:Ac Aq}{fs:Rho->R (Ac D)}{G:Ac D->R D}(M:Mk X.K C f)(ij:OC X.K c=Aa C)(o:n6 X.K C)(FI:Y4 X.prog X.w X.K X.mg X.base (CXR X.prog X.w) k f fd ["self", "p", "numbers"] (spI X.K CL G))(hr:U4 (k+1) X.A)(hb:CW X.K fd ["self", "p", "numbers"] [])(hx:∀ A,HM (CXR X.prog X.w) X (EKW X.K CL A W))(hF:∀ ds,ds.length=2->F ds=.bad\/F ds=(G ds).bind (EJ c))(hG:∀ ds y,G ds≠.exn y)(hg:Gl X g)(hm:X.mg g=Aa (.ref C))(zw:(g==("__debug__" : Ah))=Ae)(ha:SA X CL W (e::es) fs)(hn:∀ U ds,fs U=.ok ds->ds.length=2)(he:Aw (e::es) X.env=(Ae,eval e X.env)::Aw es X.env)(zv:(Bs pos (Aw es X.env)).any (·.1)=Ae):SE X CL W (.Call (.Name g np) (e::es) [] pos) (λU=>(zn (fs U)).bind λds=>F ds):=λA=>by
 intro pI s Y H Q I ⟨hA,U,gd,p⟩;dsimp only at p;refine DJ (Jy I hg hm ?_ zw);have q1:=ha A pos pI s Y H (λvs H1=>∃ ds,Az H H1/\ds.length=2/\Z9 X.K CL H1 A vs ds/\AW (λH=>Z7 X.K CL H A) W H (F ds) Q) I ⟨hA,U,gd,by
  cases e1:fs U with
  |bad=>rw[e1]at p;exact p
  |exn y=>rw[e1]at p;exact p.elim
  | ok ds=>rw[e1]at p;exact λvs H1 s1 r1=>⟨ds,s1,hn U ds e1,r1,p⟩⟩
 refine DI (h₀:=X.base) I.ok.mod.kin M.kp (U0 q1 λus s1 ⟨vs,H1,I1,r,ds,sm,hl,vd,q⟩=>⟨I1.kIn,?_⟩) he zv
 rcases hF ds hl with z|z
 .rw[z]at q;exact q.elim
 .rw[z]at q;cases e2:G ds with
  |bad=>rw[e2]at q;exact q.elim
  |exn y=>exact absurd e2 (hG ds y)
  |ok d=>
   rw[e2]at q;have q':AW (λH=>Z7 X.K CL H A) W H (EJ c d) Q:=q
   obtain⟨d1,d2,rfl,em⟩:=kD q';rw[em]at q';refine T5 (Q:=Q) (E:=EKW X.K CL A W) M FI hr hb .nil (hx A) I1 r λx dx nx ix ne=>?_
   refine⟨x,C,dx,vs,ds,A,H1,by rw[BA],by rw[vd.length];exact hl,o.cl,o.np,o.nt,BO,nx,λb ob h=>?_,hA.same sm,vd,?_⟩
   .have n1:b≠x:=λz=>by rw[z,nx]at h;cases h
    have n2:b≠dx:=λz=>by rw[z,ix]at h;cases h
    rw[AQ n1,AQ n2];exact h
   .rw[e2];exact λe1 e3 ee v1 v2 H' zb hx' r1 r2=>by
     cases ee;exact⟨rfl,q' _ H' (sm.trans zb) ⟨x,C,dx,_,rfl,(hA.same sm).new nx,ij,hx',⟨⟨rfl,r1⟩,⟨rfl,r2⟩,trivial⟩⟩⟩
theorem cW{p0:AF}{t0:Cx}{H0:Hp}{x dx:Ak}{v1 v2:V}{Q:VK}(U9:∀ p,PE X (.Name "self" p) (Ci 0))(pp:∀ p,PE X (.Name "p" p) (Ci 1))(hv:SE X CL W ev (λU=>evE Z U (.call id (.cons (.v 1) (.cons (.v 2) .nil)))))(hs:Dr ev (Aa (.Attribute (.Name "self" p3) "triple" p4)) p5.line X.env=pure Ae):
    ∃ t,yj X [.Assign [.Attribute (.Name "self" p0) "p" p1] (.Name "p" p2) p6,.Assign [.Attribute (.Name "self" p3) "triple" p4] ev p5] t /\
      (Y=[Aa (.ref x),Aa v1,Aa v2]->we X.K C->FP X.K C "p"->FP X.K C "triple"->H x=Aa (.ins C dx [])->H0 x=Af->Az H0 H->My H0 A->Z7 X.K CL H0 A v1 d1->Z7 X.K CL H0 A v2 d2 ->
        (∃ t,Z.F id [d1,d2]=.ok t/\xl 5 t=Ab/\∀ w1 w2 H',Az H0 H'->H' x=Aa (.ins C dx [("p",w1),("triple",w2)])->Z7 X.K CL H' A w1 d1->Z7 X.K CL H' A w2 t->Q .O H')->t {nx:=λ_ H'=>Q .O H',rt:=Q} Y H):=by
  have all:=Ca (IR (X:=X) (f := "p") (pos:=p6) (pos':=p1) (U9 p0) (pp p2) rfl) (DT (IR (X:=X) (f := "triple") (pos:=p5) (pos':=p4) (U9 p3) (hv A) hs));refine⟨_,all,?_⟩;rintro rfl cl np nt hx h0 sm hA r1 r2 ⟨t,ef,hnl,q⟩;have nx:∀ b o,H0 b=Aa o->b≠x:=λb o e z=>by rw[z,h0]at e;cases e
  have zb:Az H0 (upd H x (.ins C dx (Ft "p" v1 []))):=λb o e=>by rw[AQ (nx b o e)];exact sm b o e
  refine⟨v1,rfl,.ref x,rfl,x,C,dx,[],rfl,hx,cl,np,by decide,hA.same zb,[Af,Aa (d1,Ae),Aa (d2,Ae)],⟨λi d h=>?_,λi d h=>?_,rfl⟩,?_⟩
  · match i,h with
    |0,h=>cases h
    |1,h=>cases h;exact⟨v1,rfl,Z7.same zb r1⟩
    |2,h=>cases h;exact⟨v2,rfl,Z7.same zb r2⟩
    |n+3,h=>cases h
  · match i,h with
    |0,h=>cases h
    |1,h=>cases h
    |2,h=>cases h
    |n+3,h=>cases h
  · have ee:evE Z [Af,Aa (d1,Ae),Aa (d2,Ae)] (.call id (.cons (.v 1) (.cons (.v 2) .nil)))=.ok t:=by
      show ((Z.F id [d1,d2]).bind λd=>.ok d)=_
      rw[ef];rfl
    dsimp only;rw[ee];intro w2 H3 s3 r3;have hx3:H3 x=Aa (.ins C dx [("p",v1)]):=s3 _ _ BO;refine⟨.ref x,rfl,x,C,dx,[("p",v1)],rfl,hx3,cl,nt,show 1<1000 by decide,?_⟩
    have wc:Az H0 (upd H3 x (.ins C dx (Ft "triple" w2 [("p",v1)]))):=λb o e=>by rw[AQ (nx b o e)];exact s3 _ _ (zb b o e)
    exact q v1 w2 _ wc BO (Z7.same wc r1) (VR hx3 5 t hnl r3)
end
theorem IQ{i:Ag}{d d':D}(hi:U[i]?=Aa (Aa (d,Ab)))(j:Ag)(e:D):(U.set i (Aa (d',Ab)))[j]?=Aa (Aa (e,Ab))↔(i=j/\e=d')\/(i≠j/\U[j]?=Aa (Aa (e,Ab))):=by
 have hil:=(A5.mp hi).1;by_cases hj:i=j
 .subst hj;rw[By hil];simp;exact⟨λz=>z.symm,λz=>z.symm⟩
 .rw[Bu hj];simp[hj]
theorem Jz{i:Ag}{d d':D}(hi:U[i]?=Aa (Aa (d,Ab)))(b:Ak):BN B (U.set i (Aa (d',Ab))) Y b↔BN B U Y b:=by
 constructor
 .rintro (h|⟨j,e,h1,h2⟩)
  .exact .inl h
  .rcases (IQ hi j e).mp h1 with ⟨rfl,_⟩|⟨_,h1⟩
   .exact .inr ⟨i,d,hi,h2⟩
   .exact .inr ⟨j,e,h1,h2⟩
 .rintro (h|⟨j,e,h1,h2⟩)
  .exact .inl h
  .by_cases hj:i=j
   .subst hj;exact .inr ⟨i,d',(IQ hi i _).mpr (.inl ⟨rfl,rfl⟩),h2⟩
   .exact .inr ⟨j,e,(IQ hi j e).mpr (.inr ⟨hj,h1⟩),h2⟩
section
variable{K:Fg}{CL:ClA}{Fz Fy:Fr}{B:Ak->Prop}{U:Rho}{Y:L2.St}{H:Hp}{W:XW}
theorem Sx.dis2(x:Sx K CL Fz B U Y H){i:Ag}{d d':D}(hi:U[i]?=Aa (Aa (d,Ab)))(j k:Ag)(e f:D)(b:Ak)(g1:(U.set i (Aa (d',Ab)))[j]?=Aa (Aa (e,Ab)))(g2:(U.set i (Aa (d',Ab)))[k]?=Aa (Aa (f,Ab)))(g3:Y[j]?=Aa (Aa (.ref b)))(g4:Y[k]?=Aa (Aa (.ref b))):j=k:=by
 rcases (IQ hi j e).mp g1 with ⟨rfl,_⟩|⟨hj,h'⟩
 .rcases (IQ hi k f).mp g2 with ⟨rfl,_⟩|⟨hk,xh⟩
  .rfl
  .exact x.dis i k d f b hi xh g3 g4
 .rcases (IQ hi k f).mp g2 with ⟨rfl,_⟩|⟨hk,xh⟩
  .exact x.dis j i e d b h' hi g3 g4
  .exact x.dis j k e f b h' xh g3 g4
theorem Sx.new2(x:Sx K CL Fz B U Y H){i:Ag}{d d':D}(hi:U[i]?=Aa (Aa (d,Ab)))(j:Ag)(e:D)(b:Ak)(g1:(U.set i (Aa (d',Ab)))[j]?=Aa (Aa (e,Ab)))(g2:Y[j]?=Aa (Aa (.ref b))):((∀ o,¬ Fz b o)/\¬ B b)/\∃(j:Ag)(d:D),U[j]?=Aa (Aa (d,Ab))/\Y[j]?=Aa (Aa (.ref b)):=by
 rcases (IQ hi j e).mp g1 with ⟨rfl,_⟩|⟨_,h'⟩
 .exact⟨x.new i d b hi g2,i,d,hi,g2⟩
 .exact⟨x.new j e b h' g2,j,e,h',g2⟩
theorem Sx.sh2(x:Sx K CL Fz B U Y H){i:Ag}{d d':D}(hi:U[i]?=Aa (Aa (d,Ab)))(j:Ag)(e:D)(h:(U.set i (Aa (d',Ab)))[j]?=Aa (Aa (e,Ae))):∃ v,Y[j]?=Aa (Aa v)/\Z7 K CL H (BN B (U.set i (Aa (d',Ab))) Y) v e:=by
 have hj:i≠j:=by
  rintro rfl;have:=Ee h;cases this
 rw[Bu hj]at h;obtain⟨v,q,r⟩:=x.good.sh j e h;exact⟨v,q,Z7.sub (λb hb=>(Jz hi b).mp hb) _ r⟩
theorem Sx.pinned(x:Sx K CL Fz B U Y H){i:Ag}{ds:Ac D}{a:Ak}{xs:Ac V}(hi:U[i]?=Aa (Aa (.L ds,Ab)))(ha:Y[i]?=Aa (Aa (.ref a)))(hh:H a=Aa (.L xs)):Sx K CL ⟨λb o=>H b=Aa o/\¬ ∃(j:Ag)(d:D),U[j]?=Aa (Aa (d,Ab))/\Y[j]?=Aa (Aa (.ref b)),λj b ys=>(j=i/\b=a/\ys=.L xs)\/(j≠i/\Fz.pin j b ys)⟩ B (U.set i (Aa (.O,Ab))) Y H:=by
 refine⟨⟨x.sh2 hi,λj e h hn=>?_,by rw[AT];exact x.len⟩,λb h=>x.aok b ((Jz hi b).mp h),λj e b g1 g2=>⟨λo z=>z.2 (x.new2 hi j e b g1 g2).2,(x.new2 hi j e b g1 g2).1.2⟩,x.dis2 hi,λb o z=>z.1,by rw[AT];exact x.len,λj h=>?_⟩
 .rcases (IQ hi j e).mp h with ⟨_,rfl⟩|⟨hj,h'⟩
  .exact absurd rfl hn
  .obtain⟨b,ys,es,q,z,hb,h2,rr⟩:=x.good.ow j e h' hn;exact⟨b,ys,es,q,z,(Jz hi b).mpr hb,h2,Z9.sub (λb hb=>(Jz hi b).mp hb) _ rr⟩
 .by_cases hj:i=j
  .exact⟨a,_,.inl ⟨hj.symm,rfl,rfl⟩,hj ▸ ha,hh⟩
  .rw[Bu hj]at h;obtain⟨b,ys,p1,p2⟩:=x.pin j h;exact⟨b,ys,.inr ⟨CG hj,p1⟩,p2⟩
theorem Sx.unpinned(x:Sx K CL Fy B U Y H){i:Ag}{ds:Ac D}{a:Ak}{xs:Ac V}(hi:U[i]?=Aa (Aa (.O,Ab)))(hf:∀ b o,Fz b o->Fy b o)(hpn:∀ j b ys,Fy.pin j b ys->(j=i/\b=a/\ys=.L xs)\/(j≠i/\Fz.pin j b ys))(r:Z9 K CL H (BN B U Y) xs ds):Sx K CL Fz B (U.set i (Aa (.L ds,Ab))) Y H:=by
 refine⟨⟨x.sh2 hi,λj e h hn=>?_,by rw[AT];exact x.len⟩,λb h=>x.aok b ((Jz hi b).mp h),λj e b g1 g2=>⟨λo z=>(x.new2 hi j e b g1 g2).1.1 o (hf b o z),(x.new2 hi j e b g1 g2).1.2⟩,x.dis2 hi,λb o z=>x.same b o (hf b o z),by rw[AT];exact x.len,λj h=>?_⟩
 .rcases (IQ hi j e).mp h with ⟨rfl,rfl⟩|⟨hj,h'⟩
  .obtain⟨b,ys,p1,p2,p3⟩:=x.pin i hi;rcases hpn i b ys p1 with ⟨_,rfl,rfl⟩|⟨z,_⟩
   .exact⟨b,xs,ds,p2,rfl,(Jz hi b).mpr (.inr ⟨i,.O,hi,p2⟩),p3,Z9.sub (λb hb=>(Jz hi b).mp hb) _ r⟩
   .exact absurd rfl z
  .obtain⟨b,ys,es,q,z,hb,h2,rr⟩:=x.good.ow j e h' hn;exact⟨b,ys,es,q,z,(Jz hi b).mpr hb,h2,Z9.sub (λb hb=>(Jz hi b).mp hb) _ rr⟩
 .rcases (IQ hi j _).mp h with ⟨_,z⟩|⟨hj,h'⟩
  .cases z
  .obtain⟨b,ys,p1,p2⟩:=x.pin j h';rcases hpn j b ys p1 with ⟨z,_⟩|⟨_,z⟩
   .exact absurd z.symm hj
   .exact⟨b,ys,z,p2⟩
end
section
variable{X:Cx}{CL:ClA}{W:XW}
end
section
variable{X:Cx}{CL:ClA}{W:XW}
def qE(K:Fg)(CL:ClA):V->Ac V->Hp->VK->Prop:=λx vs H Q=>∃ l xs ds v d j,x=.ref l/\vs=[v]/\Id K H l xs/\Z9 K CL H A0 xs ds/\Z7 K CL H A0 v d/\Y8 5 d=Ab/\ds.all (Y8 5)=Ab/\(ds.findIdx? λy=>Tm y d)=Aa j/\Q (.int (j:Ag)) H
theorem dE(hu:X.A.units+64<Bx):pj X "list.index" (qE X.K CL):=by
 intro pI s Y H x vs v us Q I rx rv h;obtain⟨l,xs,ds,y,d,j,rfl,rfl,sq,rs,ry,h1,h2,hj,q⟩:=h;cases rx;obtain⟨u,rfl,ru⟩:=rv.one;obtain⟨its,r,pl,hz⟩:=I.list sq;obtain⟨⟨c,dct,dt,sl⟩,n,e,hc,hd,om⟩:=pl;obtain⟨f,hf,hn⟩:=Vy I (n:=5) X.A.in1 h1 h2 rs r ry ru (by show X.A.units+1+5<Bx;omega)
 replace hc:c=.type "list" := hc;replace om:dt=.seq its.toArray n:=om;subst hc om;have hl:its.length=ds.length:=by rw[<-r.length,rs.length]
 obtain⟨g1,g2,g3⟩:=List.findIdx?_eq_some_iff_getElem.mp hj;have gd:∀ m (h:m<ds.length),ds.getD m .O=ds[m]:=λm h=>by rw[Dl,Cz h];rfl
 have hzl:its.length<=sizeLine:=by rw[hl,<-rs.length];exact hz
 have zl:sizeLine<2 ^ 62:=by decide
 refine EV Y_9 ⟨_,e,rfl⟩ PySem.F.entry_list_index (PySem.F.args_list_index_2 _ _) (SeqAt.list_indexAt l its.toArray n dct sl u f j (by rw[AX];omega) (by omega) ?_ ?_) ⟨e,hf,?_⟩
 .have:=hn j (by omega)
  rw[gd j g1]at this;simpa [g2] using this
 .intro m hm hmj;have hm':m<its.length:=by rw[AX]at hm;exact hm
  have:=hn m hm';rw[gd m (by omega)]at this
  have h3:Tm ds[m] d=Ae:=by
   have:=g3 m hmj;simpa using this
  rw[h3]at this;simpa using this
 .exact⟨.int _,H,I.tok _,⟨_,rfl⟩,q⟩
theorem eO{o y:Aq}(hu:X.A.units+64<Bx)(ho:ST X CL W o fo)(hy:ST X CL W y fy)(hny:∀ U e,fy U≠.exn e)(U7:BH o "index" X.env (eval o X.env)=eval o X.env)(yn:((Bs cpos (Aw [y] X.env)).all (λx=>!x.1)&&(D9 cpos (Dh [] X.env)).all (λx=>x.1.isSome)&&decide ([y].length+([]:Ac CB).length+(if ([]:Ac CB).isEmpty then 0 else 1)<30))=Ab)(U5:(apos.endLine==cpos.line)=Ab)(hs:Aw [y] X.env=[(Ae,eval y X.env)]):
  SE X CL W (.Call (.Attribute o "index" apos) [y] [] cpos) (λU=>(fo U).bind λx=>(fy U).bind λd=>match x with | .L xs=>OP xs d|_=>.bad):=λA=>
 PE.weak (IS BJ Y_9 PySem.F.type_list_index (dE (CL:=CL) hu) (ho A) (Bv (hy A) Cb hs) U7 yn U5 hs rfl) λY H Q ⟨hA,U,g,p⟩=>⟨hA,U,g,AW.bind p λd v H1 _ s1 r1 p1=>by
  have nb:∀{f:D->R D},(∀ d,f d=.bad)->AW (λH=>Z7 X.K CL H A) W H1 ((fy U).bind f) Q->AM:=λ{f} hf z=>by
   cases e:fy U with
   |ok d2=>rw[e]at z;have z':AW (λH=>Z7 X.K CL H A) W H1 (f d2) Q:=z;rw[hf]at z';exact z'
   |exn e'=>exact hny U e' e
   |bad=>rw[e]at z;exact z
  cases d with
  |L ds=>
   obtain⟨a,xs,rfl,sq,rs⟩:=r1.lst_of;refine⟨.inl ⟨rfl,xs,sq⟩,hA.same s1,U,g.same s1,AW.bind p1 λd2 v' H2 _ s2 r2 p2=>?_⟩
   have r3:Z7 X.K CL H2 A0 (.ref a) (.L ds):=(Cv.same s2 r1).plain;obtain⟨a',lr,e',_,k9,ww⟩:=r3;cases e';replace p2:AW (λH=>Z7 X.K CL H A) W H2 (OP ds d2) Q:=p2
   unfold OP at p2;split at p2
   .rename_i h;simp only[Am]at h;cases e3:ds.findIdx? λy=>Tm y d2 with
    |none=>rw[e3]at p2;exact p2.elim
    |some j=>
     rw[e3]at p2;exact⟨a,lr,ds,v',d2,j,rfl,rfl,k9,ww,r2.plain,h.1,h.2,e3,p2 _ H2 (Az.refl H2) rfl⟩
   .exact p2.elim
  | _=>exact(nb (λ_=>rfl) p1).elim⟩
end
section
variable{X:Cx}{CL:ClA}{W:XW}
theorem bZ{o y:Aq}{j:An}(hu:X.A.units+64<Bx)(ho:ST X CL W o fo)(hy:SE X CL W y (λ_=>.ok (.bl j)))(U7:BH o "count" X.env (eval o X.env)=eval o X.env)(yn:((Bs cpos (Aw [y] X.env)).all (λx=>!x.1)&&(D9 cpos (Dh [] X.env)).all (λx=>x.1.isSome)&&decide ([y].length+([]:Ac CB).length+(if ([]:Ac CB).isEmpty then 0 else 1)<30))=Ab)(U5:(apos.endLine==cpos.line)=Ab)(hs:Aw [y] X.env=[(Ae,eval y X.env)]):
  SE X CL W (.Call (.Attribute o "count" apos) [y] [] cpos) (λU=>(fo U).bind λx=>zY .count [x,.bl j]):=λA=>
 PE.weak (IS BJ Ed F5 (Qb (CL:=CL) hu) (ho A) (Bv (hy A) Cb hs) U7 yn U5 hs rfl) λY H Q ⟨hA,U,g,p⟩=>⟨hA,U,g,AW.bind p λd v H1 _ s1 r1 p1=>by
  cases d with
  |L ds=>
   obtain⟨a,xs,rfl,sq,rs⟩:=r1.lst_of;refine⟨.inl ⟨rfl,xs,sq⟩,hA.same s1,U,g.same s1,λv' H2 s2 r2=>?_⟩
   have r3:Z7 X.K CL H2 A0 (.ref a) (.L ds):=(Cv.same s2 r1).plain;obtain⟨a',lr,e',_,k9,ww⟩:=r3;cases e';replace p1:AW (λH=>Z7 X.K CL H A) W H1 (if (Y8 5 (.bl j)&&ds.all (Y8 5))=Ab then .ok (.int ((ds.filter λy=>Tm y (.bl j)).length:Ag)) else .bad) Q:=p1
   split at p1
   .rename_i h;simp only[Am]at h;have e2:v'=.bl j:=r2;subst e2;exact⟨a,lr,ds,.bl j,.bl j,rfl,rfl,k9,ww,rfl,h.1,h.2,p1 _ H2 s2 rfl⟩
   .exact p1.elim
  | _=>exact p1.elim⟩
end
noncomputable def gy:Aq->Ao (Ah×Ai)
 |.Compare (.Call (.Attribute (.Name y _) m ap) [.Constant (.bool Ab) _ _] [] cp) [.NotEq] [.Constant (.int k) _ _] _=>if (m==("count" : Ah)&&ap.endLine==cp.line)=Ab then Aa (y,k) else Af
 |_=>Af
theorem sD{e:Aq}{q:Ah×Ai}(h:gy e=Aa q):∃ p1 p2 k1 p3 p4 k2 p5 p6,e=.Compare (.Call (.Attribute (.Name q.1 p1) "count" p2) [.Constant (.bool Ab) k1 p3] [] p4) [.NotEq] [.Constant (.int q.2) k2 p5] p6/\(p2.endLine==p4.line)=Ab:=by
 unfold gy at h;split at h
 .split at h
  .rename_i z;simp only[Am,AD]at z;cases h;rw[z.1];exact⟨_,_,_,_,_,_,_,_,rfl,by rw[z.2];exact BE _⟩
  .cases h
 .cases h
noncomputable def ao:Aq->Ao (Ah×Ah)
 |.Subscript (.Name z _) (.Call (.Attribute (.Name y _) m ap) [.Constant (.bool Ab) _ _] [] cp) _=>if (m==("index" : Ah)&&ap.endLine==cp.line)=Ab then Aa (z,y) else Af
 |_=>Af
theorem rY{e:Aq}{q:Ah×Ah}(h:ao e=Aa q):∃ p0 p1 p2 k1 p3 p4 p5,e=.Subscript (.Name q.1 p0) (.Call (.Attribute (.Name q.2 p1) "index" p2) [.Constant (.bool Ab) k1 p3] [] p4) p5/\(p2.endLine==p4.line)=Ab:=by
 unfold ao at h;split at h
 .split at h
  .rename_i z;simp only[Am,AD]at z;cases h;rw[z.1];exact⟨_,_,_,_,_,_,_,rfl,by rw[z.2];exact BE _⟩
  .cases h
 .cases h
noncomputable def Ã:E->Ao (Ag×Ai)
 |.cmp .NotEq (.bi .count (.cons (.v i) (.cons (.bl Ab) .nil))) (.int k)=>Aa (i,k)
 |_=>Af
theorem sE{e:E}{q:Ag×Ai}(h:Ã e=Aa q):e=.cmp .NotEq (.bi .count (.cons (.v q.1) (.cons (.bl Ab) .nil))) (.int q.2):=by
 unfold Ã at h;split at h
 .cases h;rfl
 .cases h
noncomputable def am:E->Ao (Ag×Ag)
 |.x (.v j) (.bi .index (.cons (.v i) (.cons (.bl Ab) .nil)))=>Aa (j,i)
 |_=>Af
theorem rZ{e:E}{q:Ag×Ag}(h:am e=Aa q):e=.x (.v q.1) (.bi .index (.cons (.v q.2) (.cons (.bl Ab) .nil))):=by
 unfold am at h;split at h
 .cases h;rfl
 .cases h
theorem Ty{P:Prop}(h:Ae=Ab):P:=nomatch h
structure Tc where
 sc:Cc
 N:Ac Ah
 fns:Ac (Ah×Ag×Ag)
 bl:Ac Ah
 rzs:Ac (Ah×Ag)
 exs:Ac (Ah×Ag)
 gls:Ac (Ah×Ag)
 tp:An
noncomputable def RU(T:Tc)(x:Ah):An:=match T.sc.names.lookup x with
  |some .local=>Ab
  |some .cell=>Ab
  |some .free=>Ab
  |_=>Ae
noncomputable def Lz(T:Tc)(x:Ah):An:=match T.sc.names.lookup x with
  |some .local=>Ab
  |some .cell=>Ab
  |_=>Ae
noncomputable def zi(T:Tc)(x:Ah):An:=T.sc.names.lookup x==Aa .globalImplicit
noncomputable def FV(x:Ah):An:=(!(x==("__debug__" : Ah)) && !(x==("__classdict__" : Ah)) && !(x==("__name__" : Ah)))&&(Gd.lookup x).isNone
noncomputable def w4(T:Tc)(x:Ah)(i:Ag):An:=T.N[i]? == Aa x&&RU T x&&FV x
noncomputable def ya(T:Tc)(x:Ah):An:=T.bl.contains x&&zi T x&&FV x
theorem Bk{a b:An}(h:(a&&b)=Ab):a=Ab/\b=Ab:=(Am a b).mp h
theorem vo{a b:An}(h:(a||b)=Ab):a=Ab\/b=Ab:=(BY a b).mp h
noncomputable def Er(e:Aq)(F:Ah->An):An:=if c:e.ctorIdx=23 then YW (motive_1:=λ_=>An) e c λx _=>F x else Ae
theorem EY{e:Aq}{F:Ah->An}(h:Er e F=Ab):∃ x p,e=YV x p/\F x=Ab:=by
 by_cases c:e.ctorIdx=23
 .exact YW (motive_1:=λe=>Er e F=Ab->∃ x p,e=YV x p/\F x=Ab) e c (λx p h=>⟨x,p,rfl,h⟩) h
 .exact Ty ((Cd c).symm.trans h)
noncomputable def HQ(e:Aq)(F:Const->An):An:=if c:e.ctorIdx=19 then YQ (motive_1:=λ_=>An) e c λc _ _=>F c else Ae
theorem Km{e:Aq}{F:Const->An}(h:HQ e F=Ab):∃ c u p,e=YO c u p/\F c=Ab:=by
 by_cases c:e.ctorIdx=19
 .exact YQ (motive_1:=λe=>HQ e F=Ab->∃ c u p,e=YO c u p/\F c=Ab) e c (λc u p h=>⟨c,u,p,rfl,h⟩) h
 .exact Ty ((Cd c).symm.trans h)
noncomputable def OB(e:Aq)(F:Aq->Gr->Aq->An):An:=if c:e.ctorIdx=2 then YH (motive_1:=λ_=>An) e c λx o y _=>F x o y else Ae
theorem TH{e:Aq}{F:Aq->Gr->Aq->An}(h:OB e F=Ab):∃ x o y p,e=YG x o y p/\F x o y=Ab:=by
 by_cases c:e.ctorIdx=2
 .exact YH (motive_1:=λe=>OB e F=Ab->∃ x o y p,e=YG x o y p/\F x o y=Ab) e c (λx o y p h=>⟨x,o,y,p,rfl,h⟩) h
 .exact Ty ((Cd c).symm.trans h)
noncomputable def IY(e:Aq)(F:K1->Aq->An):An:=if c:e.ctorIdx=3 then Y_4 (motive_1:=λ_=>An) e c λo x _=>F o x else Ae
theorem M1{e:Aq}{F:K1->Aq->An}(h:IY e F=Ab):∃ o x p,e=Y_3 o x p/\F o x=Ab:=by
 by_cases c:e.ctorIdx=3
 .exact Y_4 (motive_1:=λe=>IY e F=Ab->∃ o x p,e=Y_3 o x p/\F o x=Ab) e c (λo x p h=>⟨o,x,p,rfl,h⟩) h
 .exact Ty ((Cd c).symm.trans h)
noncomputable def IU(e:Aq)(F:BoolOp->Ac Aq->AF->An):An:=if c:e.ctorIdx=0 then YJ (motive_1:=λ_=>An) e c λo xs p=>F o xs p else Ae
theorem L3{e:Aq}{F:BoolOp->Ac Aq->AF->An}(h:IU e F=Ab):∃ o xs p,e=YI o xs p/\F o xs p=Ab:=by
 by_cases c:e.ctorIdx=0
 .exact YJ (motive_1:=λe=>IU e F=Ab->∃ o xs p,e=YI o xs p/\F o xs p=Ab) e c (λo xs p h=>⟨o,xs,p,rfl,h⟩) h
 .exact Ty ((Cd c).symm.trans h)
noncomputable def Nc(e:Aq)(F:Aq->Ac DC->Ac Aq->An):An:=if c:e.ctorIdx=15 then YN (motive_1:=λ_=>An) e c λx os ys _=>F x os ys else Ae
theorem TF{e:Aq}{F:Aq->Ac DC->Ac Aq->An}(h:Nc e F=Ab):∃ x os ys p,e=YM x os ys p/\F x os ys=Ab:=by
 by_cases c:e.ctorIdx=15
 .exact YN (motive_1:=λe=>Nc e F=Ab->∃ x os ys p,e=YM x os ys p/\F x os ys=Ab) e c (λx os ys p h=>⟨x,os,ys,p,rfl,h⟩) h
 .exact Ty ((Cd c).symm.trans h)
noncomputable def JH(e:Aq)(F:Aq->Ac Aq->Ac CB->AF->An):An:=if c:e.ctorIdx=16 then YL (motive_1:=λ_=>An) e c λf as ks p=>F f as ks p else Ae
theorem MS{e:Aq}{F:Aq->Ac Aq->Ac CB->AF->An}(h:JH e F=Ab):∃ f as ks p,e=YK f as ks p/\F f as ks p=Ab:=by
 by_cases c:e.ctorIdx=16
 .exact YL (motive_1:=λe=>JH e F=Ab->∃ f as ks p,e=YK f as ks p/\F f as ks p=Ab) e c (λf as ks p h=>⟨f,as,ks,p,rfl,h⟩) h
 .exact Ty ((Cd c).symm.trans h)
noncomputable def Iv(e:Aq)(F:Aq->Ah->AF->An):An:=if c:e.ctorIdx=20 then YF (motive_1:=λ_=>An) e c λo m p=>F o m p else Ae
theorem K9{e:Aq}{F:Aq->Ah->AF->An}(h:Iv e F=Ab):∃ o m p,e=YE o m p/\F o m p=Ab:=by
 by_cases c:e.ctorIdx=20
 .exact YF (motive_1:=λe=>Iv e F=Ab->∃ o m p,e=YE o m p/\F o m p=Ab) e c (λo m p h=>⟨o,m,p,rfl,h⟩) h
 .exact Ty ((Cd c).symm.trans h)
noncomputable def Op(e:Aq)(F:Aq->Aq->An):An:=if c:e.ctorIdx=21 then Y_0 (motive_1:=λ_=>An) e c λx y _=>F x y else Ae
theorem T9{e:Aq}{F:Aq->Aq->An}(h:Op e F=Ab):∃ x y p,e=YZ x y p/\F x y=Ab:=by
 by_cases c:e.ctorIdx=21
 .exact Y_0 (motive_1:=λe=>Op e F=Ab->∃ x y p,e=YZ x y p/\F x y=Ab) e c (λx y p h=>⟨x,y,p,rfl,h⟩) h
 .exact Ty ((Cd c).symm.trans h)
noncomputable def Rr(e:Aq)(F:Ao Aq->Ao Aq->Ao Aq->An):An:=if c:e.ctorIdx=26 then YY (motive_1:=λ_=>An) e c λl u s _=>F l u s else Ae
theorem dQ{e:Aq}{F:Ao Aq->Ao Aq->Ao Aq->An}(h:Rr e F=Ab):∃ l u s p,e=YX l u s p/\F l u s=Ab:=by
 by_cases c:e.ctorIdx=26
 .exact YY (motive_1:=λe=>Rr e F=Ab->∃ l u s p,e=YX l u s p/\F l u s=Ab) e c (λl u s p h=>⟨l,u,s,p,rfl,h⟩) h
 .exact Ty ((Cd c).symm.trans h)
noncomputable def Lq(e:Aq)(F:Ac Aq->An):An:=if c:e.ctorIdx=25 then Y_2 (motive_1:=λ_=>An) e c λxs _ _=>F xs else Ae
theorem MR{e:Aq}{F:Ac Aq->An}(h:Lq e F=Ab):∃ xs c p,e=Y_1 xs c p/\F xs=Ab:=by
 by_cases c:e.ctorIdx=25
 .exact Y_2 (motive_1:=λe=>Lq e F=Ab->∃ xs c p,e=Y_1 xs c p/\F xs=Ab) e c (λxs c p h=>⟨xs,c,p,rfl,h⟩) h
 .exact Ty ((Cd c).symm.trans h)
noncomputable def Ot(e:Aq)(F:Ac Aq->An):An:=if c:e.ctorIdx=24 then YS (motive_1:=λ_=>An) e c λxs _=>F xs else Ae
theorem P9{e:Aq}{F:Ac Aq->An}(h:Ot e F=Ab):∃ xs p,e=YR xs p/\F xs=Ab:=by
 by_cases c:e.ctorIdx=24
 .exact YS (motive_1:=λe=>Ot e F=Ab->∃ xs p,e=YR xs p/\F xs=Ab) e c (λxs p h=>⟨xs,p,rfl,h⟩) h
 .exact Ty ((Cd c).symm.trans h)
noncomputable def Rs(e:Aq)(F:Aq->Ac JX->Cc->An):An:=if c:e.ctorIdx=8 then YU (motive_1:=λ_=>An) e c λx gs sc _=>F x gs sc else Ae
theorem dU{e:Aq}{F:Aq->Ac JX->Cc->An}(h:Rs e F=Ab):∃ x gs sc p,e=YT x gs sc p/\F x gs sc=Ab:=by
 by_cases c:e.ctorIdx=8
 .exact YU (motive_1:=λe=>Rs e F=Ab->∃ x gs sc p,e=YT x gs sc p/\F x gs sc=Ab) e c (λx gs sc p h=>⟨x,gs,sc,p,rfl,h⟩) h
 .exact Ty ((Cd c).symm.trans h)
noncomputable def Rt(e:AL)(F:Ac Aq->Aq->An):An:=if c:e.ctorIdx=5 then Zs (motive_2:=λ_=>An) e c λts v _=>F ts v else Ae
theorem dZ{e:AL}{F:Ac Aq->Aq->An}(h:Rt e F=Ab):∃ ts v p,e=Zr ts v p/\F ts v=Ab:=by
 by_cases c:e.ctorIdx=5
 .exact Zs (motive_2:=λe=>Rt e F=Ab->∃ ts v p,e=Zr ts v p/\F ts v=Ab) e c (λts v p h=>⟨ts,v,p,rfl,h⟩) h
 .exact Ty ((Cd c).symm.trans h)
noncomputable def Ow(e:AL)(F:Aq->An):An:=if c:e.ctorIdx=24 then Zu (motive_2:=λ_=>An) e c λv _=>F v else Ae
theorem TD{e:AL}{F:Aq->An}(h:Ow e F=Ab):∃ v p,e=Zt v p/\F v=Ab:=by
 by_cases c:e.ctorIdx=24
 .exact Zu (motive_2:=λe=>Ow e F=Ab->∃ v p,e=Zt v p/\F v=Ab) e c (λv p h=>⟨v,p,rfl,h⟩) h
 .exact Ty ((Cd c).symm.trans h)
noncomputable def Oq(e:AL)(F:Ao Aq->An):An:=if c:e.ctorIdx=3 then ZA (motive_2:=λ_=>An) e c λo _=>F o else Ae
theorem Ua{e:AL}{F:Ao Aq->An}(h:Oq e F=Ab):∃ o p,e=Zz o p/\F o=Ab:=by
 by_cases c:e.ctorIdx=3
 .exact ZA (motive_2:=λe=>Oq e F=Ab->∃ o p,e=Zz o p/\F o=Ab) e c (λo p h=>⟨o,p,rfl,h⟩) h
 .exact Ty ((Cd c).symm.trans h)
noncomputable def O4(e:AL)(F:Aq->Ac AL->Ac AL->An):An:=if c:e.ctorIdx=12 then Zw (motive_2:=λ_=>An) e c λt xs ys _=>F t xs ys else Ae
theorem UI{e:AL}{F:Aq->Ac AL->Ac AL->An}(h:O4 e F=Ab):∃ t xs ys p,e=Stmt.If t xs ys p/\F t xs ys=Ab:=by
 by_cases c:e.ctorIdx=12
 .exact Zw (motive_2:=λe=>O4 e F=Ab->∃ t xs ys p,e=Stmt.If t xs ys p/\F t xs ys=Ab) e c (λt xs ys p h=>⟨t,xs,ys,p,rfl,h⟩) h
 .exact Ty ((Cd c).symm.trans h)
noncomputable def Ou(e:AL)(F:Aq->Aq->Ac AL->Ac AL->An):An:=if c:e.ctorIdx=9 then Zv (motive_2:=λ_=>An) e c λt it xs ys _=>F t it xs ys else Ae
theorem Ub{e:AL}{F:Aq->Aq->Ac AL->Ac AL->An}(h:Ou e F=Ab):∃ t it xs ys p,e=Stmt.For t it xs ys p/\F t it xs ys=Ab:=by
 by_cases c:e.ctorIdx=9
 .exact Zv (motive_2:=λe=>Ou e F=Ab->∃ t it xs ys p,e=Stmt.For t it xs ys p/\F t it xs ys=Ab) e c (λt it xs ys p h=>⟨t,it,xs,ys,p,rfl,h⟩) h
 .exact Ty ((Cd c).symm.trans h)
noncomputable def Os(e:AL)(F:Ao Aq->Ao Aq->An):An:=if c:e.ctorIdx=16 then Zy (motive_2:=λ_=>An) e c λa b _=>F a b else Ae
theorem dR{e:AL}{F:Ao Aq->Ao Aq->An}(h:Os e F=Ab):∃ a b p,e=Zx a b p/\F a b=Ab:=by
 by_cases c:e.ctorIdx=16
 .exact Zy (motive_2:=λe=>Os e F=Ab->∃ a b p,e=Zx a b p/\F a b=Ab) e c (λa b p h=>⟨a,b,p,rfl,h⟩) h
 .exact Ty ((Cd c).symm.trans h)
noncomputable def JB{α:Type}:Ac α->(α->Ac α->An)->An
 |[],_=>Ae
 |x::xs,F=>F x xs
theorem Kk{l:Ac α}{F:α->Ac α->An}(h:JB l F=Ab):∃ x xs,l=x::xs/\F x xs=Ab:=by
 cases l with
 |nil=>exact Ty h
 |cons x xs=>exact⟨x,xs,rfl,h⟩
theorem G3{l:Ac α}(h:l.isEmpty=Ab):l=[]:=List.isEmpty_iff.mp h
noncomputable def EI{α:Type}(l:Ac α)(F:α->An):An:=JB l λx r=>r.isEmpty&&F x
theorem Gv{l:Ac α}{F:α->An}(h:EI l F=Ab):∃ x,l=[x]/\F x=Ab:=by
 obtain⟨x,r,rfl,h⟩:=Kk h;obtain⟨h1,h2⟩:=Bk h;exact⟨x,by rw[G3 h1],h2⟩
noncomputable def IT{α:Type}(l:Ac α)(F:α->α->An):An:=JB l λx r=>EI r λy=>F x y
theorem K8{l:Ac α}{F:α->α->An}(h:IT l F=Ab):∃ x y,l=[x,y]/\F x y=Ab:=by
 obtain⟨x,r,rfl,h⟩:=Kk h;obtain⟨y,rfl,h⟩:=Gv h;exact⟨x,y,rfl,h⟩
noncomputable def JI(e:Aq)(F:Ah->Ac Aq->An):An:=JH e λf as ks _=>Er f λg=>ks.isEmpty&&F g as
theorem Kn{e:Aq}{F:Ah->Ac Aq->An}(h:JI e F=Ab):∃ g p as q,e=.Call (.Name g p) as [] q/\F g as=Ab:=by
 obtain⟨f,as,ks,q,rfl,h⟩:=MS h;obtain⟨g,p,rfl,h⟩:=EY h;obtain⟨h1,h2⟩:=Bk h;exact⟨g,p,as,q,by rw[G3 h1],h2⟩
noncomputable def L9(e:Aq)(F:Ah->Aq->Ac Aq->An):An:=JI e λg l=>JB l λx xs=>F g x xs
theorem NP{e:Aq}{F:Ah->Aq->Ac Aq->An}(h:L9 e F=Ab):∃ g p x xs q,e=.Call (.Name g p) (x::xs) [] q/\F g x xs=Ab:=by
 obtain⟨g,p,as,q,rfl,h⟩:=Kn h;obtain⟨x,xs,rfl,h⟩:=Kk h;exact⟨g,p,x,xs,q,rfl,h⟩
noncomputable def Wn(st:AL)(F:Ah->Ah->Ac Aq->An):An:=Ow st λe=>JH e λf as ks cp=>Iv f λo m ap=>Er o λx=>ks.isEmpty&&(ap.endLine==cp.line&&F x m as)
theorem dS{st:AL}{F:Ah->Ah->Ac Aq->An}(h:Wn st F=Ab):∃ x p m ap as cp q,st=.Expr (.Call (.Attribute (.Name x p) m ap) as [] cp) q/\ap.endLine=cp.line/\F x m as=Ab:=by
 obtain⟨e,q,rfl,h⟩:=TD h;obtain⟨f,as,ks,cp,rfl,h⟩:=MS h;obtain⟨o,m,ap,rfl,h⟩:=K9 h;obtain⟨x,p,rfl,h⟩:=EY h;obtain⟨h1,h⟩:=Bk h;obtain⟨h2,h3⟩:=Bk h;exact⟨x,p,m,ap,as,cp,q,by rw[G3 h1],eq_of_beq h2,h3⟩
noncomputable def Rv(st:AL)(F:Aq->Aq->An):An:=Rt st λts v=>EI ts λt=>F t v
theorem TK{st:AL}{F:Aq->Aq->An}(h:Rv st F=Ab):∃ t v q,st=.Assign [t] v q/\F t v=Ab:=by
 obtain⟨ts,v,q,rfl,h⟩:=dZ h;obtain⟨t,rfl,h⟩:=Gv h;exact⟨t,v,q,rfl,h⟩
noncomputable def Ru(st:AL)(F:Ah->Aq->An):An:=Rv st λt v=>Er t λx=>F x v
theorem TJ{st:AL}{F:Ah->Aq->An}(h:Ru st F=Ab):∃ x p v q,st=.Assign [.Name x p] v q/\F x v=Ab:=by
 obtain⟨t,v,q,rfl,h⟩:=TK h;obtain⟨x,p,rfl,h⟩:=EY h;exact⟨x,p,v,q,rfl,h⟩
noncomputable def Xm(e:Aq)(F:Aq->Aq->Aq->Ac Aq->Cc->An):An:=Rs e λx gs sc=>EI gs λg=>decide (g.is_async=0)&&F x g.target g.iter g.ifs sc
theorem lJ{e:Aq}{F:Aq->Aq->Aq->Ac Aq->Cc->An}(h:Xm e F=Ab):∃ x t it ifs sc p,e=.ListComp x [⟨t,it,ifs,0⟩] sc p/\F x t it ifs sc=Ab:=by
 obtain⟨x,gs,sc,p,rfl,h⟩:=dU h;obtain⟨g,rfl,h⟩:=Gv h;obtain⟨t,it,ifs,a⟩:=g;obtain⟨h1,h2⟩:=Bk h;have h1:a=0:=AN h1;subst h1;exact⟨x,t,it,ifs,sc,p,rfl,h2⟩
noncomputable def LB(e:E)(F:E->An):An:=if c:e.ctorIdx=8 then E.no.elim (motive_1:=λ_=>An) e c F else Ae
theorem UH{e:E}{F:E->An}(h:LB e F=Ab):∃ a,e=E.no a/\F a=Ab:=by
 by_cases c:e.ctorIdx=8
 .exact E.no.elim (motive_1:=λe=>LB e F=Ab->∃ a,e=E.no a/\F a=Ab) e c (λa h=>⟨a,rfl,h⟩) h
 .exact Ty ((Cd c).symm.trans h)
noncomputable def Mn(e:E)(F:Es->An):An:=if c:e.ctorIdx=9 then E.and.elim (motive_1:=λ_=>An) e c F else Ae
theorem TL{e:E}{F:Es->An}(h:Mn e F=Ab):∃ es,e=E.and es/\F es=Ab:=by
 by_cases c:e.ctorIdx=9
 .exact E.and.elim (motive_1:=λe=>Mn e F=Ab->∃ es,e=E.and es/\F es=Ab) e c (λes h=>⟨es,rfl,h⟩) h
 .exact Ty ((Cd c).symm.trans h)
noncomputable def Mo(e:E)(F:Es->An):An:=if c:e.ctorIdx=10 then E.or.elim (motive_1:=λ_=>An) e c F else Ae
theorem UG{e:E}{F:Es->An}(h:Mo e F=Ab):∃ es,e=E.or es/\F es=Ab:=by
 by_cases c:e.ctorIdx=10
 .exact E.or.elim (motive_1:=λe=>Mo e F=Ab->∃ es,e=E.or es/\F es=Ab) e c (λes h=>⟨es,rfl,h⟩) h
 .exact Ty ((Cd c).symm.trans h)
noncomputable def Ox(e:E)(F:DC->E->E->An):An:=if c:e.ctorIdx=11 then E.cmp.elim (motive_1:=λ_=>An) e c F else Ae
theorem dW{e:E}{F:DC->E->E->An}(h:Ox e F=Ab):∃ o a b,e=E.cmp o a b/\F o a b=Ab:=by
 by_cases c:e.ctorIdx=11
 .exact E.cmp.elim (motive_1:=λe=>Ox e F=Ab->∃ o a b,e=E.cmp o a b/\F o a b=Ab) e c (λo a b h=>⟨o,a,b,rfl,h⟩) h
 .exact Ty ((Cd c).symm.trans h)
noncomputable def Oy(e:E)(F:DC->DC->E->E->E->An):An:=if c:e.ctorIdx=12 then E.cmp2.elim (motive_1:=λ_=>An) e c F else Ae
theorem dX{e:E}{F:DC->DC->E->E->E->An}(h:Oy e F=Ab):∃ o q a b c,e=E.cmp2 o q a b c/\F o q a b c=Ab:=by
 by_cases c:e.ctorIdx=12
 .exact E.cmp2.elim (motive_1:=λe=>Oy e F=Ab->∃ o q a b c,e=E.cmp2 o q a b c/\F o q a b c=Ab) e c (λo q a b c h=>⟨o,q,a,b,c,rfl,h⟩) h
 .exact Ty ((Cd c).symm.trans h)
noncomputable def Oz(e:E)(F:BI->Es->An):An:=if c:e.ctorIdx=15 then E.bi.elim (motive_1:=λ_=>An) e c F else Ae
theorem dY{e:E}{F:BI->Es->An}(h:Oz e F=Ab):∃ b as,e=E.bi b as/\F b as=Ab:=by
 by_cases c:e.ctorIdx=15
 .exact E.bi.elim (motive_1:=λe=>Oz e F=Ab->∃ b as,e=E.bi b as/\F b as=Ab) e c (λb as h=>⟨b,as,rfl,h⟩) h
 .exact Ty ((Cd c).symm.trans h)
noncomputable def R6(e:E)(F:An->An):An:=if c:e.ctorIdx=1 then E.bl.elim (motive_1:=λ_=>An) e c F else Ae
theorem lL{e:E}{F:An->An}(h:R6 e F=Ab):∃ b,e=E.bl b/\F b=Ab:=by
 by_cases c:e.ctorIdx=1
 .exact E.bl.elim (motive_1:=λe=>R6 e F=Ab->∃ b,e=E.bl b/\F b=Ab) e c (λb h=>⟨b,rfl,h⟩) h
 .exact Ty ((Cd c).symm.trans h)
noncomputable def KQ(e:E)(F:Ag->An):An:=if c:e.ctorIdx=4 then E.v.elim (motive_1:=λ_=>An) e c F else Ae
theorem MQ{e:E}{F:Ag->An}(h:KQ e F=Ab):∃ i,e=E.v i/\F i=Ab:=by
 by_cases c:e.ctorIdx=4
 .exact E.v.elim (motive_1:=λe=>KQ e F=Ab->∃ i,e=E.v i/\F i=Ab) e c (λi h=>⟨i,rfl,h⟩) h
 .exact Ty ((Cd c).symm.trans h)
noncomputable def OM(e:E):An:=decide (e.ctorIdx=0)
theorem dL{e:E}(h:OM e=Ab):e=.O:=E.O.elim (motive_1:=λe=>e=.O) e (AN h) rfl
noncomputable def D0:Aq->An
 |.Starred _ _=>Ae
 |_=>Ab
noncomputable def Ut:Aq->An
 |.Slice _ _ _ _=>Ae
 |_=>Ab
noncomputable def OD:Aq->An
 |.Set _ _ _=>Ae
 |_=>Ab
noncomputable def F9:Aq->An
 |.ListComp _ _ _ _=>Ae
 |.SetComp _ _ _ _=>Ae
 |.DictComp _ _ _ _ _=>Ae
 |_=>Ab
noncomputable def WS(tu:An):Aq->An
 |.Tuple ..=>tu
 |.Name ..=>!tu
 |_=>Ae
noncomputable def wC:Aq->An
 |.Tuple _ _ _=>Ab
 |_=>Ae
noncomputable def Wf:Aq->An
 |.Tuple _ _ _=>Ae
 |_=>Ab
noncomputable def R5:Es->Ao E
  | .cons a r=>(match r with
    |.nil=>Aa a
    | _=>Af)
  |.nil=>Af
theorem lI{a:E}(q:R5 as=Aa a):as=.cons a .nil:=by
 cases as with
 |nil=>cases q
 |cons b r=>
  cases r with
  |nil=>cases q;rfl
  |cons=>cases q
noncomputable def Nq(b:BI)(e:E):Ao E:=match e with
  |.bi b' as=>if b'=b then R5 as else Af
  |_=>Af
noncomputable def isZ:E->An
 |.int i=>i==0
 |_=>Ae
noncomputable def OE(c:E):Ao E:=match c with
  |.cmp op x y=>if (decide (op=.NotEq)&&isZ y)=Ab then (Nq .len x).bind (Nq .list) else Af
  |_=>Af
theorem Ug{b:BI}{e a:E}(h:Nq b e=Aa a):e=.bi b (.cons a .nil):=by
 cases e with
 |bi b' as=>
  replace h:(if b'=b then R5 as else Af)=Aa a:=h
  by_cases z:b'=b
  .rw[Au z]at h;rw[z,lI h]
  .rw[Ay z]at h;cases h
 |_=>exact nomatch (show Af=Aa a from h)
theorem eA{c a:E}(h:OE c=Aa a):c=.cmp .NotEq (.bi .len (.cons (.bi .list (.cons a .nil)) .nil)) (.int 0):=by
 cases c with
 |cmp op x y=>
  replace h:(if (decide (op=.NotEq)&&isZ y)=Ab then (Nq .len x).bind (Nq .list) else Af)=Aa a:=h
  by_cases z:(decide (op=.NotEq)&&isZ y)=Ab
  .rw[Au z]at h;obtain⟨z1,z2⟩:=Bool.and_eq_true_iff.mp z;obtain rfl:=AN z1;obtain⟨x1,e1,e2⟩:=AC.mp h;rw[Ug e1,Ug e2];cases y with
   |int i=>rw[eq_of_beq (show (i==0)=Ab from z2)]
   |_=>cases z2
  .rw[Ay z]at h;cases h
 |_=>exact nomatch (show Af=Aa a from h)
noncomputable def Io:Aq->An
 |.UnaryOp _ _ _=>Ae
 |.BoolOp _ _ _=>Ae
 |.IfExp _ _ _ _=>Ae
 |.Compare _ _ _ _=>Ae
 |_=>Ab
noncomputable def Ry:Ki->Ao Ah
 |.int=>Aa "int"
 |.bool=>Aa "bool"
 |.str=>Aa "str"
 |.list=>Aa "list"
 |.tuple=>Aa "tuple"
 |_=>Af
noncomputable def Rl:BI->Ao Ah
 |.len=>Aa "len"
 |.abs=>Af
 |.max=>Af
 |.min=>Aa "min"
 |.int=>Af
 |.list=>Aa "list"
 |.tuple=>Aa "tuple"
 |.all=>Aa "all"
 |.any=>Af
 |.sum=>Af
 |.sorted=>Af
 |.str=>Aa "str"
 |.tmin=>Af
 |.tmax=>Af
 |_=>Af
noncomputable def Rh(o scope:Cc):Cc:={scope with names:=scope.names.map λ(n,k)=>if (k==.free&&o.kind==.function&&o.names.lookup n==Aa .cell) then (n,.cell) else (n,k)}
noncomputable def Nr:Ac Ag->Ac Ah->Ac Ah->Ac Ah
 |t::ts,x::xs,N=>Nr ts xs ((N.map λy=>if y==x then N.getD t x else y).set t x)
 |_,_,N=>N
noncomputable def JC:Ac Ah->An
 |[]=>Ab
 |x::xs=>!xs.contains x&&JC xs
noncomputable def Pc(T:Tc)(scope:Cc)(ts:Ac Ag)(N':Ac Ah):An:=
  scope.kind==.function&&scope.names.all (λy=>scope.names.lookup y.1==Aa y.2) &&
  scope.names.all (λy=>y.2 != .free||T.sc.names.lookup y.1==Aa .cell||T.sc.names.lookup y.1==Aa .free) &&
  N'.length==T.N.length&&JC N' &&
  (BR N'.length).all λi=>ts.contains i||(match N'[i]? with
    |some x=>(scope.names.lookup x != Aa .local&&scope.names.lookup x != Aa .cell)&&(scope.names.lookup x != Aa .free||T.N[i]? == Aa x)
    | none=>Ab)
noncomputable def G0:Ac Aq->Ao (Ac Ah)
 |[]=>Aa []
 |.Name x _::r=>(G0 r).map (x :: ·)
 |_=>Af
noncomputable def nu(ys:Ac Aq):Ac Ah:=(G0 ys).getD []
noncomputable def tgO(T:Tc)(scope:Cc)(t:Ag)(x:Ah):An:=T.N[t]? == Aa x&&(T.sc.names.lookup x==Aa .local||(T.sc.names.lookup x==Aa .cell&&scope.names.lookup x==Aa .cell))
noncomputable def qf(T:Tc):Ac Ag->Ac Ah->An
 |[],[]=>Ab
 |t::ts,x::xs=>T.N[t]? == Aa x&&Lz T x&&qf T ts xs
 |_,_=>Ae
noncomputable def Tc.blk(T:Tc)(scope:Cc)(ts:Ac Ag)(xs:Ac Ah):Tc:={T with sc:=Rh T.sc scope,N:=Nr ts xs T.N,tp:=Ae}
noncomputable def yQ(f:Ah):An:=(f==("triple" : Ah)||(f==("points" : Ah)||f==("row" : Ah)))
noncomputable def Md:Aq->An
 |.Call _ [] _ _=>Ae
 |_=>Ab
theorem Oc{o:Aq}{f:Ah}{w:Fo Al}(h:Md o=Ab):BH o f env w=w:=by
 cases o with
 |Call g as ks p=>
  cases as with
  |nil=>cases h
  |cons=>cases g<;>rfl
 |_=>rfl
noncomputable def t5(l:Ac (Ah×Ag))(g:Ah)(c:Ag):An:=l.any λp=>p.1==g&&p.2==c
noncomputable def Ð(T:Tc)(t:Ah)(k:Ag):An:=t==O5 k&&decide (k<3)&&zi T t&&FV t
noncomputable def yJ(T:Tc)(t:Ah):Ki->An
 |.verr=>t==("ValueError" : Ah)&&ya T t
 |.cls c=>t5 T.exs t c&&zi T t&&FV t
 |_=>Ae
noncomputable def WU:Aq->Ao (Aq×Aq×AF)
  | .Compare x ops ys p=>(match ops with
    | [.Lt]=>(match ys with
      |[y]=>Aa (x,y,p)
      | _=>Af)
    | _=>Af)
  |_=>Af
noncomputable def RI(_:Es):Ao (E×E):=Af
noncomputable def RM(_:Tc)(_:Tc->Aq->E->An)(_:Aq)(_:Ac DC)(_:Ac Aq)(_:BI)(_:Es):An:=Ae
noncomputable def Sd(T:Tc)(e:Aq)(b:BI)(as:Es):An:=match e with
  |.Call (.Attribute (.Name x _) m ap) [.Constant (.int j) _ _] [] cp=>decide (b=.count)&&m==("count" : Ah)&&ap.endLine==cp.line&&(match as with | .cons (.v i) (.cons (.int j') .nil)=>w4 T x i&&decide (j=j')|_=>Ae)
  |.Call (.Attribute (.Name x _) m ap) [.Constant (.str j) _ _] [] cp=>decide (b=.count)&&m==("count" : Ah)&&ap.endLine==cp.line&&(match as with | .cons (.v i) (.cons (.str j') .nil)=>w4 T x i&&decide (j=j')|_=>Ae)
  |_=>Ae
noncomputable def Vz:Aq->Ao (Ah×AF)
 |.Name x p=>Aa (x,p)
 |_=>Af
noncomputable def VA:Aq->Ao (Aq×Ac Aq×Ac CB×AF)
 |.Call f as ks p=>Aa (f,as,ks,p)
 |_=>Af
noncomputable def xV:Aq->Ao (Ac Aq×Ag×AF)
 |.Tuple es k p=>Aa (es,k,p)
 |_=>Af
noncomputable def one{α:Type}:Ac α->Ao α
 |[a]=>Aa a
 |_=>Af
noncomputable def Xb(e:Aq):Ao (Ah×Ah×Ac Aq):=(VA e).bind λc=>(Vz c.1).bind λg=>(one c.2.1).bind λa=>(VA a).bind λd=>(Vz d.1).bind λh=>if (c.2.2.1.isEmpty&&d.2.2.1.isEmpty)=Ab then Aa (g.1,h.1,d.2.1) else Af
noncomputable def Xx(e:Aq):Ao (Ah×Ah×Aq×Aq):=match Xb e with
  | some (g,h,bs)=>(match bs with
    |[x,y]=>Aa (g,h,x,y)
    | _=>Af)
  |none=>Af
noncomputable def RB(_:Es):Ao (E×E):=Af
noncomputable def Xv(e:Aq):Ao (Ah×Ah×Aq):=match Xb e with
  | some (g,h,bs)=>(match bs with
    |[x]=>Aa (g,h,x)
    | _=>Af)
  |none=>Af
noncomputable def Pe:Es->Ao (Ah×E)
  | .cons a r=>(match a with
    | .str s=>(match r with
      | .cons b r'=>(match r' with
        | .nil=>(match b with
          |.v _=>Af
          | b=>Aa (s,b))
        | _=>Af)
      | _=>Af)
    | _=>Af)
  |.nil=>Af
theorem lR{s:Ah}{a:E}(q:Pe as=Aa (s,a)):as=.cons (.str s) (.cons a .nil)/\∀ U r,top U a r=r:=by
 cases as with
 |nil=>cases q
 |cons a r=>
  cases a with
  |str s=>
   cases r with
   |nil=>cases q
   |cons b r'=>
    cases r' with
    |nil=>cases b<;>first|(cases q;exact⟨rfl,λ_ _=>rfl⟩)|cases q
    |cons=>cases q
  |_=>cases q
noncomputable def Pd:Es->Ao (E×Ah)
  | .cons a r=>(match r with
    | .cons b r'=>(match b with
      | .str y=>(match r' with
        |.nil=>Aa (a,y)
        | _=>Af)
      | _=>Af)
    | _=>Af)
  |.nil=>Af
theorem lQ{s:Ah}{a:E}(q:Pd as=Aa (a,s)):as=.cons a (.cons (.str s) .nil):=by
 cases as with
 |nil=>cases q
 |cons a r=>
  cases r with
  |nil=>cases q
  |cons b r'=>
   cases b with
   |str s=>
    cases r' with
    |nil=>cases q;rfl
    |cons=>cases q
   |_=>cases q
noncomputable def RA(_:Es):Ao E:=Af
noncomputable def two(e:Aq):Ao (Aq×Aq):=(xV e).bind λt=>match t.1 with
  |[a,b]=>Aa (a,b)
  |_=>Af
noncomputable def Sh(_:Es):Ao E:=Af
noncomputable def WH(_:Aq):Ao Aq:=Af
noncomputable def WD:Aq->Ao (Aq×Ai)
  | .Subscript v s _=>(match s with
    | .Slice lo hi st _=>(match lo with
      | some (.Constant (.int k) _ _)=>(match hi with
        | none=>(match st with
          |some (.Constant (.int j) _ _)=>if j=2 then Aa (v,k) else Af
          | _=>Af)
        | some _=>Af)
      | _=>Af)
    | _=>Af)
  |_=>Af
noncomputable def Rz(_:Es):Ao (E×Ai):=Af
mutual
noncomputable def Be:Ag->Tc->Aq->E->An
  |0,_,_,_=>Ae
  |n+1,T,e,c=>match c with
    |.O=>HQ e λc=>decide (c=.none)
    |.bl b=>HQ e λc=>decide (c=.bool b)
    |.int i=>HQ e λc=>decide (c=.int i)
    |.str x=>HQ e λc=>decide (c=.str x)
    |.v i=>Er e λx=>w4 T x i
    |.glob g=>Er e λx=>t5 T.gls x g&&zi T x&&FV x
    |.B op a b=>OB e λx op' y=>decide (op'=op)&&Be n T x a&&Be n T y b
    |.un op a=>IY e λo x=>decide (o=.USub)&&(decide (op=.USub)&&Be n T x a)
    |.no a=>IY e λo x=>decide (o=.Not)&&Be n T x a
    |.and es=>IU e λo xs _=>decide (o=.And)&&(Cl n T xs es && !xs.isEmpty)
    |.or es=>IU e λo xs _=>decide (o=.Or)&&(Cl n T xs es && !xs.isEmpty)
    |.cmp op a b=>Nc e λx os ys=>EI os λop'=>EI ys λy=>decide (op'=op) && !behindInMarks op y&&Be n T x a&&Be n T y b
    |.cmp2 m9 ub a b c=>Ae
    |.ite c a b=>Ae
    |.call f as=>L9 e λg x xs=>(T.fns.any λp=>p.1==g&&p.2.1==f&&p.2.2==xs.length+1)&&decide (xs.length<900)&&zi T g&&FV g&&Cl n T (x::xs) as
    |.bi b as=>(L9 e λg x xs=>Rl b==Aa g&&ya T g&&Cl n T (x::xs) as)||Sd T e b as||(match RB as with|some (a,c)=>(match Xx e with|some (g,h,x,y)=>decide (b=.list)&&g==("list" : Ah)&&h==("range" : Ah)&&ya T g&&ya T h&&D0 x&&D0 y&&Be n T x a&&Be n T y c|none=>Ae)|none=>Ae)||(match Rz as with|some (a,k)=>(match WD e with|some (x,j)=>decide (b=.stp)&&decide (j=k)&&decide (0<=k)&&Be n T x a|none=>Ae)|none=>Ae)||(match RA as with|some a=>(match Xv e with|some (g,h,x)=>decide (b=.lset)&&g==("len" : Ah)&&h==("set" : Ah)&&ya T g&&ya T h&&D0 x&&Be n T x a|none=>Ae)|none=>Ae)||(match RI as with|some (a,c)=>(match WU e with|some (x,y,_)=>decide (b=.tlt) && !behindInMarks .Lt y&&Be n T x a&&Be n T y c|none=>Ae)|none=>Ae)||(match Pe as with|some (s,a)=>JH e λf l ks cp=>ks.isEmpty&&(Iv f λo m ap=>m==("join" : Ah)&&ap.endLine==cp.line&&(HQ o λc=>decide (c=.str s)&&decide (b=.sjoin)&&(EI l λy=>D0 y&&Be n T y a)))|none=>Ae)||(match Pd as with|some (a,s)=>JH e λf l ks cp=>ks.isEmpty&&(Iv f λo m ap=>m==("split" : Ah)&&ap.endLine==cp.line&&Md o&&Be n T o a&&(EI l λy=>HQ y λc=>decide (c=.str s)&&decide (b=.ssplit)))|none=>Ae)||(match Sh as with|some a=>(match WH e with|some x=>decide (b=.rvs)&&Be n T x a|none=>Ae)|none=>Ae)
    |.isi a ks=>(EI ks λk=>JI e λg l=>IT l λx t=>Er t λt=>g==("isinstance" : Ah)&&ya T g&&Ry k==Aa t&&ya T t&&D0 x&&Be n T x a)||(EI ks λk=>JI e λg l=>IT l λx t=>Er t λt=>g==("isinstance" : Ah)&&ya T g&&D0 x&&Be n T x a&&yJ T t k)
    |.x a i=>Op e λx y=>Ut y&&Be n T x a&&Be n T y i
    |.sl a lo hi=>Op e λx s=>Rr s λl h st=>st.isNone&&(Be n T x a&&n8 n T l lo&&n8 n T h hi)
    |.H es=>Lq e λxs=>Cl n T xs es&&decide (xs.length<=1000)
    |.L es=>Ot e λxs=>Cl n T xs es&&decide (xs.length<=1000)
    |.comp elt t it c=>Xm e λx tg iter ifs scope=>Er tg λy=>qp n T Ae iter it&&OD iter&&Pc T scope [t] (Nr [t] [y] T.N)&&tgO (T.blk scope [t] [y]) scope t y&&jp n (T.blk scope [t] [y]) ifs c&&Be n (T.blk scope [t] [y]) x elt
    |.compT elt ts it c=>Ae
    |.tupI _=>Ae
    |.dnew=>Ae
    |.fld o f=>Iv e λw g _=>g==f&&yQ f&&Md w&&Be n T w o
    |.ofl o f=>Iv e λw g _=>g==f&&f==("triple" : Ah)&&Md w&&Be n T w o
    |.iso a k=>JI e λg l=>IT l λx t=>Er t λt=>g==("isinstance" : Ah)&&ya T g&&D0 x&&Be n T x a&&Ð T t k
    |.meth m ms o=>JH e λf l ks cp=>ks.isEmpty&&(l.isEmpty&&(Iv f λw g ap=>g==m&&(m==("told" : Ah)||m==("shown" : Ah))&&ap.endLine==cp.line&&Md w&&Be n T w o&&ms.all λq=>T.fns.any λp=>(Gd.lookup p.1==Aa (q.1,m))&&p.2.1==q.2&&p.2.2==1))
    |.mkob _ _=>Ae
    |.mkn c as=>L9 e λg x xs=>Ð T g c&&xs.length==1&&Cl n T (x::xs) as
    |.mkx _ _=>Ae
noncomputable def Eb:Ag->Tc->Aq->E->An
 |0,_,_,_=>Ae
 |n+1,T,e,c=>(IY e λo x=>decide (o=.Not)&&(LB c λa=>Eb n T x a)) ||
  (IU e λo xs _=>(decide (o=.And)&&(Mn c λes=>yg n T xs es && !xs.isEmpty))||(decide (o=.Or)&&(Mo c λes=>yg n T xs es && !xs.isEmpty))) ||
  (Nc e λx os ys=>(Ox c λop a b=>EI os λop'=>EI ys λy=>decide (op'=op) && !behindInMarks op y&&Be n T x a&&Be n T y b) ||
   (Oy c λm9 ub a b c=>IT os λo1 o2=>IT ys λy z=>decide (o1=m9)&&decide (o2=ub) && !lastMarks [m9,ub] [y,z]&&Be n T x a&&Be n T y b&&Be n T z c) ||
   (Oz c λb as=>RM T (Be n) x os ys b as)) ||
  Io e&&((match OE c with|some a=>Be n T e a|none=>Ae)||Be n T e c)
noncomputable def yg:Ag->Tc->Ac Aq->Es->An
  |0,_,_,_=>Ae
  |n+1,T,xs,es=>match xs,es with
    |[],.nil=>Ab
    |x::xs,.cons e es=>Eb n T x e&&yg n T xs es
    |_,_=>Ae
noncomputable def Cl:Ag->Tc->Ac Aq->Es->An
  |0,_,_,_=>Ae
  |n+1,T,xs,es=>match xs,es with
    |[],.nil=>Ab
    |x::xs,.cons e es=>D0 x&&Be n T x e&&Cl n T xs es
    |_,_=>Ae
noncomputable def n8:Ag->Tc->Ao Aq->E->An
  |0,_,_,_=>Ae
  |n+1,T,x,e=>match x with
    |none=>OM e
    |some x=>!(OM e)&&Be n T x e
noncomputable def jp:Ag->Tc->Ac Aq->E->An
  |0,_,_,_=>Ae
  |n+1,T,xs,e=>match xs with
    |[]=>R6 e λb=>b
    |x::r=>r.isEmpty&&Eb n T x e
noncomputable def qp:Ag->Tc->An->Aq->I->An
  |0,_,_,_,_=>Ae
  |n+1,T,tu,e,i=>match i with
    |.e a=>Be n T e a
    |.rng a=>JI e λg l=>EI l λx=>g==("range" : Ah)&&ya T g&&D0 x&&Be n T x a
    |.enm a=>Ae
    |.zip a b=>Ae
    |.rng2 a b=>JI e λg l=>IT l λx y=>g==("range" : Ah)&&ya T g&&D0 x&&D0 y&&Be n T x a&&Be n T y b
    |.zip3 a b c=>Ae
end
noncomputable def Jc:Aq->Ao (Ah×AF)
 |.Name x p=>Aa (x,p)
 |_=>Af
theorem Jx{e:Aq}{t:Ah×AF}(h:Jc e=Aa t):e=.Name t.1 t.2:=by
 cases e with
 |Name x p=>cases h;rfl
 |_=>exact nomatch (show Af=Aa t from h)
noncomputable def WN:Aq->Ao (Aq×Ac Aq×AF)
  | .Call f as ks p=>(match ks with
    |[]=>Aa (f,as,p)
    | _=>Af)
  |_=>Af
theorem gW{e:Aq}{t:Aq×Ac Aq×AF}(h:WN e=Aa t):e=.Call t.1 t.2.1 [] t.2.2:=by
 cases e with
 |Call f as ks p=>
  cases ks with
  |nil=>cases h;rfl
  |cons=>exact nomatch (show Af=Aa t from h)
 |_=>exact nomatch (show Af=Aa t from h)
noncomputable def Np{α:Type}:Ac α->Ao (α×α)
 |[a,b]=>Aa (a,b)
 |_=>Af
theorem N3{l:Ac α}{t:α×α}(h:Np l=Aa t):l=[t.1,t.2]:=by
 cases l with
 |nil=>exact nomatch (show Af=Aa t from h)
 |cons a l=>
  cases l with
  |nil=>exact nomatch (show Af=Aa t from h)
  |cons b l=>
   cases l with
   |nil=>cases h;rfl
   |cons=>exact nomatch (show Af=Aa t from h)
noncomputable def Xn(e:Aq)(F:Ah->Ah->Aq->An):An:=JI e λg l=>IT l λa t=>Er a λv=>F g v t
theorem lK{e:Aq}{F:Ah->Ah->Aq->An}(h:Xn e F=Ab):∃ g p v q t r,e=.Call (.Name g p) [.Name v q,t] [] r/\F g v t=Ab:=by
 obtain⟨g,p,l,r,rfl,h⟩:=Kn h;obtain⟨a,t,rfl,h⟩:=K8 h;obtain⟨v,q,rfl,h⟩:=EY h;exact⟨g,p,v,q,t,r,rfl,h⟩
noncomputable def RG(T:Tc):Ac Aq->Ac Ki->An
  |[],ks=>ks.isEmpty
  | e::r,ks=>JB ks λk ks=>Er e λt=>(match k with
    |.cls c=>t5 T.exs t c&&zi T t&&FV t
    | _=>Ae)&&RG T r ks
noncomputable def W5(T:Tc)(g:Ah)(f:Ag):An:=(T.fns.any λp=>p.1==g&&p.2.1==f&&p.2.2==1001)&&zi T g&&FV g
noncomputable def Nj(f:Aq->E->An):Ac Aq->Es->An
 |[],.nil=>Ab
 |x::xs,.cons e es=>D0 x&&f x e&&Nj f xs es
 |_,_=>Ae
noncomputable def xQ(T:Tc)(t:Aq)(ks:Ac Ki):An:=JB ks λk r=>match k with
  |.verr=>r.isEmpty&&(Er t λt=>t==("ValueError" : Ah)&&ya T t)
  | .cls c=>(match r with
    |[]=>Er t λt=>t5 T.exs t c&&zi T t&&FV t
    | k2::r=>Lq t λts=>RG T ts (.cls c::k2::r)&&decide (ts.length<=1000))
  |_=>Ae
noncomputable def E3:Ag->Tc->Ag->Aq->E->An
  |0,_,_,_,_=>Ae
  |n+1,T,x,e,c=>match c with
    |.bl b=>HQ e λk=>decide (k=.bool b)
    |.no a=>IY e λo y=>decide (o=.Not)&&E3 n T x y a
    | .and es=>(match es with
      |.nil=>Ae
      | .cons a r=>(match r with
        |.nil=>IU e λo l _=>decide (o=.And)&&(EI l λy=>E3 n T x y a)
        | .cons a' as=>IU e λo l p=>decide (o=.And)&&(JB l λy l=>JB l λz zs=>E3 n T x y a&&E3 n T x (.BoolOp .And (z::zs) p) (.and (.cons a' as)))))
    |.isi a ks=>KQ a λi=>Xn e λg v t=>i==x&&g==("isinstance" : Ah)&&ya T g&&w4 T v x&&xQ T t ks
    | .call f as=>(match as with
      |.nil=>Ae
      | .cons a r=>(match r with
        |.nil=>KQ a λi=>JI e λg l=>EI l λw=>Er w λv=>W5 T g f&&w4 T v i
        | .cons _ _=>Ae))
    |.str s=>HQ e λk=>decide (k=.str s)
    |.L es=>Ot e λxs=>Nj (E3 n T x) xs es&&decide (xs.length<=1000)
    |.H es=>Lq e λxs=>Nj (E3 n T x) xs es&&decide (xs.length<=1000)
    |.B op a b=>decide (op=.Add)&&(KQ a λi=>OB e λl o y=>decide (o=.Add)&&(Er l λv=>w4 T v i&&E3 n T x y b))
    |.x a b=>(match am (.x a b),ao e with|some (j,i),Aa (z,y)=>w4 T z j&&w4 T y i|_,_=>Ae)
    |.fld o f=>KQ o λi=>Iv e λw g _=>Er w λv=>i==x&&g==f&&(f==("triple" : Ah)||(f==("points" : Ah)||f==("row" : Ah)))&&w4 T v x
    |_=>Ae
noncomputable def hc1(T:Tc)(y:Aq)(e:E):An:=(match Ã e,gy y with|some (i,k),Aa (z,k')=>w4 T z i&&decide (k=k')|_,_=>Ae)
noncomputable def Mg(n:Ag)(T:Tc)(x:Ag)(y:Aq)(e:E):An:=hc1 T y e||(IY y λo z=>decide (o=.Not)&&(LB e λa=>Io z&&E3 n T x z a))||(Io y&&E3 n T x y e)
noncomputable def JD(n:Ag)(T:Tc)(x:Ag):Ac Aq->Es->An
 |[],.nil=>Ab
 |y::ys,.cons e es=>Mg n T x y e&&JD n T x ys es
 |_,_=>Ae
noncomputable def Wr(n:Ag)(T:Tc)(x:Ag)(e:Aq)(c:E):An:=(IU e λo ys _=>(decide (o=.Or)&&(Mo c λes=>JD n T x ys es && !ys.isEmpty))||(decide (o=.And)&&(Mn c λes=>JD n T x ys es && !ys.isEmpty)))||Mg n T x e c
noncomputable def W1:E->An
 |.isi _ _=>Ab
 |.bl _=>Ab
 |.str _=>Ab
 |.x _ _=>Ab
 |_=>Ae
noncomputable def yK:E->An
 |.L _=>Ab
 |_=>Ae
noncomputable def xP(n:Ag)(T:Tc)(x:Ag)(v:Aq)(e:E):An:=(KQ e λi=>Er v λy=>w4 T y i)||(W1 e&&E3 n T x v e)
noncomputable def Lu:Ag->Tc->Ag->Ac AL->Ss->An
  |0,_,_,_,_=>Ae
  |n+1,T,x,vw,ss=>match ss with
    |.nil=>vw.isEmpty
    | .cons s ss=>JB vw λst r=>(match s with
      |.asg i b e=>Ru st λy v=>T.N[i]? == Aa y&&Lz T y&&F9 v&&E3 n T x v e&&(!b||yK e)
      | .ife c a b=>(match b with
        |.nil=>O4 st λt xs ys=>ys.isEmpty&&(Wr n T x t c&&Lu n T x xs a)
        | .cons _ _=>Ae)
      | .ret e=>Oq st λo=>(match o with
        |some v=>xP n T x v e
        | none=>Ae)
      |.app _ _=>Ae
      | _=>Ae)&&Lu n T x r ss
noncomputable def yU:E->An
  | .bi b as=>(match b,as with
    |.len,.nil=>Ab
    | _,_=>Ae)
  |_=>Ae
noncomputable def yT:S->An
 |.expr e=>yU e
 |_=>Ae
noncomputable def Pb:Ss->An
 |.cons s _=>yT s
 |.nil=>Ae
noncomputable def ah(T:Tc)(g:Ah)(c:Ag):An:=t5 T.exs g c&&t5 T.rzs g c&&zi T g&&FV g
mutual
noncomputable def Ja:Ag->Tc->AL->S->An
  |0,_,_,_=>Ae
  |n+1,T,st,s=>match s with
    |.pass=>Ae
    |.brk=>Ae
    |.cont=>Ae
    |.asg i _ e=>Ru st λx v=>T.N[i]? == Aa x&&Lz T x&&Be n T v e
    |.asgT ts e=>Rv st λt v=>Lq t λys=>(G0 ys).isSome&&qf T ts (nu ys)&&(Wf v||CF 4 ys.length)&&Be n T v e
    |.expr e=>Ow st λv=>F9 v&&Be n T v e
    |.ret e=>Oq st λo=>match o with|some v=>Be n T v e|none=>Ae
    |.retN=>Ae
    |.ife c a b=>O4 st λt xs ys=>Eb n T t c&&zU n T xs a&&zU n T ys b
    |.fors t it body=>Ou st λtg iter xs ys=>ys.isEmpty&&(Er tg λx=>qf T [t] [x]&&OD iter&&qp n T Ae iter it&&zU n T xs body)
    |.forT ts it body=>Ou st λtg iter xs zs=>zs.isEmpty&&(Lq tg λys=>(G0 ys).isSome&&qf T ts (nu ys)&&OD iter&&qp n T Ab iter it&&zU n T xs body)
    |.forO _ _ _=>Ae
    |.whl c body=>Ae
    |.rais c as=>!(T.rzs.any λp=>p.2==c)||(Os st λa b=>b.isNone&&(match a with|some e=>L9 e λg x xs=>t5 T.rzs g c&&zi T g&&FV g&&decide (xs.length<=1000)&&Cl n T (x::xs) as|none=>Ae))
    |.tryx _ _ _ _=>Ae
    |.try2 _ _ _ _ _ _ _=>Ae
    |.app i e=>Wn st λx m l=>EI l λv=>m==("append" : Ah)&&w4 T x i&&D0 v&&Be n T v e
    |.ext i e=>Ae
    |.rev i=>Ae
    |.clr i=>Ae
    |.put i k e=>Ae
    |.swp _ _ _=>Ae
    |.apop _ _ _=>Ae
    |.ins i k e=>Ae
    |.dput _ _ _=>Ae
    |.dsd _ _ _=>Ae
    |.rel _=>Ae
noncomputable def zU:Ag->Tc->Ac AL->Ss->An
  |0,_,_,_=>Ae
  | n+1,T,vw,ss=>(match ss with
    |.nil=>vw.isEmpty
    |.cons (.rel i) ss=>zU n T vw ss
    | .cons s ss=>(match vw with
      |st::r=>Ja n T st s&&zU n T r ss
      | []=>Ae))||Pb ss
end
noncomputable def GC(fuel:Ag)(hot:An)(fns:Ac (Ah×Ag×Ag))(bl:Ac Ah)(rzs exs gls:Ac (Ah×Ag))(ps N:Ac Ah)(st:AL)(df:Df):An:=
  let sc:=AH st
  sc.kind==.function && !sc.isCoroutine && !sc.isGenerator&&JC N&&N.take ps.length==ps&&ps.all (λx=>sc.names.lookup x==Aa .local||sc.names.lookup x==Aa .cell)&&sc.names.all (λy=>y.2 != .free)&&N.length==df.n &&
  (match hot with
  |true=>Lu fuel ⟨sc,N,fns,bl,rzs,exs,gls,Ab⟩ 0 (Di st) df.body
  | false=>zU fuel ⟨sc,N,fns,bl,rzs,exs,gls,Ab⟩ (Di st) df.body)
structure XT (up:Ag->Ac Ag) (xn:Ag->Ac D->R Ex) (CL:ClA) (rzs exs:Ac (Ah×Ag)) (K:Fg) (mg:Ah->Ao Al):Prop where
 xc:∀ c C,CL c=Aa C->zq K C
 rz:∀ p∈rzs,∃ C,CL p.2=Aa C/\mg p.1=Aa (.ref C)
 ex:∀ p∈exs,∃ C,mg p.1=Aa (.ref C)/\M8 K CL up p.2 C/\∀ c D,CL c=Aa D->BQ K (.ref D) (.ref C)=Aa ((up c).contains p.2)
 made:∀ c C ds,CL c=Aa C->xn c ds=.bad\/(xn c ds=.ok ⟨c,[]⟩/\DF K C Af=Ab)\/∃ f,lu K mg C f/\Nl xn c f ds
 nf:∀ c C,CL c=Aa C->∀ f:Ah,(f==("triple" : Ah)||(f==("points" : Ah)||f==("row" : Ah)))=Ab->G7 K C=Ab/\At K (.ref C) f=Aa Af
 xb:∀ c,(∀ p∈rzs,p.2≠c)->∀ ds,xn c ds=.bad
def JQ(K:Fg)(mg:Ah->Ao Al)(CL:ClA)(x:Ah)(d:D):Prop:=∃ u v,mg x=Aa u/\Bt v u/\∀ H A,Z7 K CL H A v d
structure OS (K:Fg) (mg:Ah->Ao Al):Prop where
 oc:∀ c C,OC K c=Aa C->n6 K C
 kit:∀ c C c' C',OC K c=Aa C->OC K c'=Aa C'->B8 K (.ref C) (.ref C')=Aa ((oup c).contains c')
 at_:∀ c,c<3->∃ C,OC K c=Aa C/\mg (O5 c)=Aa (.ref C)
 mf:∀ c C m f,OC K c=Aa C->(m==("told" : Ah)||m==("shown" : Ah))=Ab->At K (.ref C) m=Aa (Aa (.ref f))->Co K (.ref f)=Ab
def fx(P:AK)(w:AI)(K:Fg)(mg:Ah->Ao Al)(base:AJ)(CL:ClA)(F:Ag->Ac D->R D)(k c:Ag):Prop:=(∀ ds,F (900+c) ds=.bad)\/∃ C f fd G k',OC K c=Aa C/\Mk K C f/\CW K fd ["self", "p", "numbers"] []/\k'+1=k/\Y4 P w K mg base (CXR P w) k' f fd ["self", "p", "numbers"] (spI K CL G)/\(∀ ds,ds.length=2->F (900+c) ds=.bad\/F (900+c) ds=(G ds).bind (EJ c))/\∀ ds y,G ds≠.exn y
structure VX (Z:Z4) (CL:ClA) (k:Ag) (W:XW) (T:Tc) (X:Cx):Prop where
 sc:X.env.scope=T.sc
 kd:T.sc.kind=.function
 N:X.N=T.N
 nd:T.N.Nodup
 calm:X.calm=Ab
 room:U4 k X.A
 bl:∀ x,x∈T.bl->X.mg x=Af
 os:OS X.K X.mg
 mkr:∀ c,c<3->fx X.prog X.w X.K X.mg X.base CL Z.F k c
 fn:∀ p∈T.fns,∃ f fd ps,IV X.K X.mg p.1=Aa (.ref f)/\Ba X.K (.ref f)=Ab/\CW X.K fd ps []/\ps.length=p.2.2%1000/\(p.2.2<1000->Y4 X.prog X.w X.K X.mg X.base (CXR X.prog X.w) k f fd ps (spD X.K CL (p.2.2%1000) (Z.fr p.2.1) (Z.F p.2.1)))/\(1000<=p.2.2->xa X.prog X.w X.K X.mg X.base k f fd ps (spH X.K CL (p.2.2%1000) (Z.fr p.2.1) (Z.F p.2.1)))
 own:FM (model X.prog X.w) X.A X.env X.xe
 px:∀ A,HM (CXR X.prog X.w) X (EKW X.K CL A W)
 rz:NE X CL W
 xt:XT Z.up Z.xn CL T.rzs T.exs X.K X.mg
 gl:∀ p∈T.gls,JQ X.K X.mg CL p.1 (Z.G p.2)
 ex:T.tp=Ab->X.ex=[]
theorem QL:∀ A,HM (CXR X.prog X.w) X (EKW X.K CL A W0):=λA pI Y H s ev s' I h=>by
 obtain⟨e,T,cls,dx,H',_,_,_,_,_,_,_,_,_,_,x,_,w⟩:=h;exact w.elim
theorem RJ:NE X CL W0:=λ_ _ _ _ _ _ _ _ _ _ _ _ _ _ z=>z.elim
def Rf{α:Type}(g f:Rho->R α):Prop:=∀ U,g U=.bad\/g U=f U
section
variable{X:Cx}{CL:ClA}{W:XW}{a:Aq}{f g:Rho->R D}
theorem SE.ref(h:SE X CL W a f)(r:Rf g f):SE X CL W a g:=λA=>PE.weak (h A) λY H Q ⟨hA,U,q,p⟩=>⟨hA,U,q,by
 rcases r U with e|e
 .rw[e]at p;exact p.elim
 .rw[e]at p;exact p⟩
theorem SB.ref{f g:Rho->R An}(h:SB X CL W a f)(r:Rf g f):SB X CL W a g:=λA=>PT.weak (h A) λY H Q ⟨hA,U,q,p⟩=>⟨hA,U,q,by
 rcases r U with e|e
 .rw[e]at p;exact p.elim
 .rw[e]at p;exact p⟩
theorem SW.ref{f g:Rho->R An}(h:SW X CL W a f)(r:Rf g f):SW X CL W a g:=λA=>PW.weak (h A) λY H Q ⟨hA,U,q,p⟩=>⟨hA,U,q,by
 rcases r U with e|e
 .rw[e]at p;exact p.elim
 .rw[e]at p;exact p⟩
theorem SC.ref{fr:An}(h:SC X CL W fr a f)(r:Rf g f):SC X CL W fr a g:=λA=>PE.weak (h A) λY H Q ⟨hA,U,q,p⟩=>⟨hA,U,q,by
 rcases r U with e|e
 .rw[e]at p;exact p.elim
 .rw[e]at p;exact p⟩
theorem SS.ref{st:AL}{f g:Rho->O}(h:SS X CL W st f)(r:∀ U,g U=.bad\/g U=f U):SS X CL W st g:=λFz B=>PS.weak (h Fz B) λD Y H ⟨U,x,p⟩=>⟨U,x,by
 rcases r U with e|e
 .rw[e]at p;exact p.elim
 .rw[e]at p;exact p⟩
end
theorem IK:∀{l:Ac Ah},JC l=Ab->l.Nodup
 |[],_=>Yh
 |x::xs,h=>by
  unfold JC at h;simp only[Am,Bf,XY,decide_eq_false_iff_not]at h;exact List.nodup_cons.mpr ⟨h.1,IK h.2⟩
section
variable{T:Tc}{X:Cx}{Z:Z4}{CL:ClA}{k:Ag}{W:XW}
theorem Uj(h:RU T x=Ab):í T.sc x:=by
 unfold RU at h;split at h
 .exact .inl (by assumption)
 .exact .inr (.inl (by assumption))
 .exact .inr (.inr (by assumption))
 .cases h
theorem M3(h:Lz T x=Ab):pi T.sc x:=by
 unfold Lz at h;split at h
 .exact .inl (by assumption)
 .exact .inr (by assumption)
 .cases h
theorem Uv(h:FV x=Ab):Gd.lookup x=Af:=by
 unfold FV at h;exact DX.mp (Bk h).2
theorem Hi(h:FV x=Ab):(x==("__debug__" : Ah))=Ae/\(x==("__classdict__" : Ah))=Ae/\x≠"__name__" := by
 unfold FV at h;replace h:=(Bk h).1;simp only[Am,Bf]at h;exact⟨h.1.1,h.1.2,λe=>by subst e;exact absurd h.2 (by simp)⟩
theorem Mb{i:Ag}(v:VX Z CL k W T X)(h:w4 T x i=Ab):PE X (.Name x pos) (Ci i):=by
 unfold w4 at h;simp only[Am,AD]at h;obtain⟨h2,h3,_⟩:=Hi h.2;exact Dx (by rw[v.N];exact h.1.1) (by rw[v.sc];exact Uj h.1.2) h2 h3
theorem Hn(v:VX Z CL k W T X)(h:ya T x=Ab):Gl X x/\X.mg x=Af/\x≠"__name__"/\(x==("__debug__" : Ah))=Ae:=by
 unfold ya zi at h;simp only[Am,AD,XY,AG]at h;obtain⟨h2,h3,h4⟩:=Hi h.2;exact⟨by show X.env.scope.names.lookup x=_;rw[v.sc];exact h.1.2,v.bl x h.1.1,h4,h2⟩
theorem DS{x:Aq}(h:D0 x=Ab):Aw (x::xs) env=(Ae,eval x env)::Aw xs env:=by
 cases x<;>first|rfl|cases h
theorem eN{y:Aq}(h:Ut y=Ab):N9 y:=by
 intro o i;cases y<;>first|rfl|cases h
theorem QR{e:Aq}(h:OD e=Ab):∀ x,Da e env x=pure x:=by
 intro x;cases e<;>first|rfl|cases h
theorem HN{e:Aq}{t:Ao Aq}{l:Ag}(h:F9 e=Ab):Dr e t l env=pure Ae:=by
 cases e<;>first|rfl|cases h
theorem Qi{e:Aq}(h:Io e=Ab):∀ whole,Jk e env whole=(do let v <-whole;standAt e.pos;holding [v] (truthy v)):=by
 intro whole;cases e<;>first|rfl|cases h
theorem bK(v:VX Z CL k W T X)(scope:Cc):relabel scope X.env=Rh T.sc scope:=by
 unfold relabel Rh;have:∀ n,X.env.kindOf n=T.sc.names.lookup n:=λn=>by show X.env.scope.names.lookup n=_;rw[v.sc]
 simp only[this,v.sc]
theorem Vx{N':Ac Ah}(v:VX Z CL k W T X)(h:Pc T scope ts N'=Ab):zt X scope N' ts/\N'.Nodup/\scope.kind=.function:=by
 unfold Pc at h;simp only[Am,AD,Bh,BY,E8,JU]at h;obtain⟨⟨⟨⟨⟨h1,h2⟩,h4⟩,h5⟩,h6⟩,h7⟩:=h;have at7:∀ i x,N'[i]?=Aa x->i∈ts\/((scope.names.lookup x≠Aa .local/\scope.names.lookup x≠Aa .cell)/\(scope.names.lookup x≠Aa .free\/T.N[i]?=Aa x)):=λi x e=>by
  have hi:=(A5.mp e).1;have:=h7 i (CV.mpr hi);rcases this with z|z
  .exact .inl (by simpa using z)
  .rw[e]at z;simp only[Am,E8,JU,BY,AD]at z;exact .inr z
 refine⟨⟨h1,h2,λy hy hl=>by rw[h2 y hy,hl],λy hy hf=>?_,by rw[v.N];exact h5,λi x e hf hn=>?_,λi x e hl=>?_⟩,IK h6,h1⟩
 .rw[v.sc];rcases h4 y hy with (z|z)|z
  .exact absurd hf z
  .exact .inl z
  .exact .inr z
 .rw[v.N];rcases at7 i x e with z|⟨_,z⟩
  .exact absurd z hn
  .exact z.resolve_left λq=>q hf
 .rcases at7 i x e with z|⟨z,_⟩
  .exact z
  .exact hl.elim (λq=>absurd q z.1) (λq=>absurd q z.2)
theorem VX.blk{xs:Ac Ah}{cl:Ac (Ah×Ak)}{s:Ar}{fp:Ac Ak}(v:VX Z CL k W T X)(h:Pc T scope ts (Nr ts xs T.N)=Ab):VX Z CL k W0 (T.blk scope ts xs) (yy X scope cl C (Nr ts xs T.N) s H fp):=by
 obtain⟨_,h2,h3⟩:=Vx v h;exact⟨bK v scope,h3,rfl,h2,v.calm,v.room,v.bl,v.os,v.mkr,v.fn,PassesOwn.never,QL,RJ,v.xt,v.gl,λz=>nomatch z⟩
theorem iU{t:Ag}(v:VX Z CL k W T X)(al:scope.names.lookup x=Aa .cell->X.fn x=Ab)(h:tgO T scope t x=Ab):PG X (.Name x pos) (G6 t):=by
 unfold tgO at h;simp only[Am,BY,AD]at h;rcases h with ⟨h1,h2|h2⟩
 .exact MZ (by rw[v.N];exact v.nd) (by rw[v.N];exact h1) (by rw[v.sc];exact .inl h2) (.inr (by rw[v.sc];exact h2))
 .exact MZ (by rw[v.N];exact v.nd) (by rw[v.N];exact h1) (by rw[v.sc];exact .inr h2.1) (.inl (al h2.2))
theorem Sv{y:Aq}{r:Ac Aq}{zs:Ac Ah}(h:G0 (y::r)=Aa zs):∃ x p ws,y=.Name x p/\G0 r=Aa ws/\zs=x::ws:=by
 cases y with
 |Name x p=>
  have h':(G0 r).map (x :: ·)=Aa zs:=h;cases e:G0 r with
  |none=>rw[e]at h';cases h'
  |some ws=>rw[e]at h';cases h';exact⟨x,p,ws,rfl,rfl,rfl⟩
 |_=>cases h
theorem Tg(x:Ah)(p:AF)(r:Ac Aq)(env:B7):Cy (.Name x p::r) env=(Ae,assign (.Name x p) env)::Cy r env:=rfl
theorem Su:∀(ys:Ac Aq)(zs:Ac Ah),G0 ys=Aa zs->(Cy ys env).length=ys.length/\(Cy ys env).findIdx? (·.1)=Af/\(Cy ys env).map (·.2)=ys.map λy=>assign y env:=by
 intro ys
 induction ys with
 |nil=>intro _ _;exact⟨rfl,rfl,rfl⟩
 |cons y r ih=>
  intro zs h;obtain⟨x,p,ws,rfl,e,rfl⟩:=Sv h;obtain⟨h1,h2,h3⟩:=ih ws e;rw[Tg];refine⟨?_,?_,?_⟩
  .rw[A8,A8,h1]
  .rw[List.findIdx?_cons,h2];simp
  .rw[BP,BP,h3]
end
noncomputable def Es.len:Es->Ag
 |.nil=>0
 |.cons _ es=>es.len+1
theorem KG(Z:Z4)(U:Rho):∀(es:Es)(ds:Ac D),ye Z U es=.ok ds->ds.length=es.len
 |.nil,ds,h=>by cases h;rfl
 |.cons e es,ds,h=>by
  obtain⟨x,h1,h2⟩:=K6 (MU Z U e es ▸ h);obtain⟨xs,h3,h4⟩:=K6 h2;cases h4;exact congrArg (· + 1) (KG Z U es xs h3)
theorem Qx(Z:Z4)(U:Rho):∀(es:Es)(ds:Ac D),xx Z U es=.ok ds->ds.length=es.len
 |.nil,ds,h=>by cases h;rfl
 |.cons e es,ds,h=>by
  obtain⟨x,h1,h2⟩:=K6 (L6 Z U e es ▸ h);obtain⟨xs,h3,h4⟩:=K6 h2;cases h4;exact congrArg (· + 1) (Qx Z U es xs h3)
theorem Vj(Z:Z4)(U:Rho)(e:E)(h:vt U e=Ab):top U e (evE Z U e)=evE Z U e:=by
 cases e with
 |v i=>
  show CT U i=Gc U i;have h':nr U i=Ab:=h;unfold nr at h';unfold CT Gc;cases q:U[i]? with
  |none=>rfl
  |some x=>
   cases x with
   |none=>rfl
   |some y=>
    obtain⟨d,o⟩:=y;cases o with
    |true=>rw[q]at h';cases h'
    |false=>rfl
 |_=>rfl
theorem QX(Z:Z4)(U:Rho):∀(es:Es),JJ U es=Ab->xx Z U es=ye Z U es
 |.nil,_=>rfl
 |.cons e es,h=>by
  simp only[bX,Am]at h;rw[MU,L6,Vj Z U e h.1,QX Z U es h.2]
theorem QB(Z:Z4)(c:E):Rf (λU=>evE Z U c) (λU=>top U c (evE Z U c)):=λU=>by
 by_cases h:vt U c=Ab
 .exact .inr (Vj Z U c h).symm
 .cases c with
  |v i=>
   refine .inl ?_;show Gc U i=.bad;have h':¬ nr U i=Ab:=h;unfold nr at h';unfold Gc;cases q:U[i]? with
   |none=>rfl
   |some x=>
    cases x with
    |none=>rfl
    |some y=>
     obtain⟨d,o⟩:=y;cases o with
     |true=>rfl
     |false=>rw[q]at h';exact absurd rfl h'
  |_=>exact absurd rfl h
def ϱ(X:Cx)(CL:ClA)(W:XW)(e:Aq)(f:Rho->R D):Prop:=∃ tg iter elt ifs scope pos N' ts fi fc fe as g,e=.ListComp elt [⟨tg,iter,ifs,0⟩] scope pos/\zt X scope N' ts/\SI X CL W tg iter fi/\GG X.K CL ts as g /\
 (∀ cl C s H fp,PG (yy X scope cl C N' s H fp) tg g)/\(∀ cl C s H fp,jh (yy X scope cl C N' s H fp) CL ifs fc)/\(∀ cl C s H fp,SE (yy X scope cl C N' s H fp) CL W0 elt fe)/\(∀ x,Da iter X.env x=pure x) /\
 ∀ U,f U=(fi U).bind λxs=>(zn (Cr (λx=>(as x U).bind fc) (λx=>(as x U).bind fe) xs)).bind λys=>.ok (.L ys)
theorem ϱ.sc{e:Aq}{f:Rho->R D}(hc:X.calm=Ab)(h:ϱ X CL W e f):SC X CL W Ab e f:=by
 obtain⟨tg,iter,elt,ifs,scope,pos,N',ts,fi,fc,fe,as,g,rfl,B,hi,tz,hg,ht,he,hs,ef⟩:=h;exact SC.congr (jP hc B hi tz hg ht he hs) ef
structure vh (Z:Z4) (CL:ClA) (W:XW) (X:Cx) (e:Aq) (c:E):Prop where
 se:SE X CL W e (λU=>evE Z U c)
 st:ST X CL W e (λU=>top U c (evE Z U c))
 nw:Fv Z c=Ab->SC X CL W Ab e (λU=>evE Z U c)
 cp:F9 e=Ae->ϱ X CL W e (λU=>evE Z U c)
section
variable{Z:Z4}{CL:ClA}{W:XW}{X:Cx}{e:Aq}{c:E}
theorem Ds(h:SE X CL W e (λU=>evE Z U c))(ht:∀ U r,top U c r=r)(hn:Fv Z c=Ae)(hc:F9 e=Ab):vh Z CL W X e c:=
 ⟨h,by simp only[ht];exact h.st,λz=>absurd z (by rw[hn];decide),λz=>absurd z (by rw[hc];decide)⟩
theorem QG(h:SC X CL W Ab e (λU=>evE Z U c))(ht:∀ U r,top U c r=r)(hc:F9 e=Ab):vh Z CL W X e c:=
 ⟨h.se,by simp only[ht];exact h.se.st,λ_=>h,λz=>absurd z (by rw[hc];decide)⟩
theorem wV(hc:X.calm=Ab)(h:ϱ X CL W e (λU=>evE Z U c))(ht:∀ U r,top U c r=r):vh Z CL W X e c:=
 ⟨(h.sc hc).se,by simp only[ht];exact(h.sc hc).se.st,λ_=>h.sc hc,λ_=>h⟩
end
theorem xS{k:Ki}(h:Ry k=Aa x):∃ T,sy k=Aa T/\Dg x=Aa (.type T):=by
 cases k<;>simp only[Ry]at h<;>cases h
 .exact⟨_,rfl,PyProof.Rows.boot_int⟩
 .exact⟨_,rfl,PyProof.Rows.boot_bool⟩
 .exact⟨_,rfl,GD⟩
 .exact⟨_,rfl,Yt⟩
 .exact⟨_,rfl,Yu⟩
structure wf (Z:Z4) (CL:ClA) (k:Ag) (n:Ag):Prop where
 e:∀(W:XW)(T:Tc)(X:Cx)(x:Aq)(c:E),VX Z CL k W T X->Be n T x c=Ab->vh Z CL W X x c
 b:∀(W:XW)(T:Tc)(X:Cx)(x:Aq)(c:E),VX Z CL k W T X->Eb n T x c=Ab->SB X CL W x (λU=>(top U c (evE Z U c)).bind Bq)
 bs:∀(W:XW)(T:Tc)(X:Cx)(xs:Ac Aq)(es:Es)(pos:AF),VX Z CL k W T X->yg n T xs es=Ab->xs≠[]->SW X CL W (.BoolOp .And xs pos) (λU=>(evN Z U es).bind Bq)/\SW X CL W (.BoolOp .Or xs pos) (λU=>(evO Z U es).bind Bq)
 es:∀(W:XW)(T:Tc)(X:Cx)(xs:Ac Aq)(es:Es),VX Z CL k W T X->Cl n T xs es=Ab->SA X CL W xs (λU=>ye Z U es)/\uk X CL W xs (λU=>xx Z U es)/\xs.length=es.len/\(∀ pos,xs≠[]->SE X CL W (.BoolOp .And xs pos) (λU=>evN Z U es)/\SE X CL W (.BoolOp .Or xs pos) (λU=>evO Z U es))/\(∀ pos,(Bs pos (Aw xs X.env)).any (·.1)=Ae)
 o:∀(W:XW)(T:Tc)(X:Cx)(x:Ao Aq)(c:E),VX Z CL k W T X->n8 n T x c=Ab->SO X CL W x (λU=>(top U c (evE Z U c)).bind (slE c))
 t:∀(T:Tc)(X:Cx)(xs:Ac Aq)(c:E),VX Z CL k W0 T X->jp n T xs c=Ab->jh X CL xs (λU=>(top U c (evE Z U c)).bind Bq)
 i:∀(W:XW)(T:Tc)(X:Cx)(tu:An)(tg x:Aq)(i:I),VX Z CL k W T X->WS tu tg=Ab->qp n T tu x i=Ab->SI X CL W tg x (λU=>wt Z U i)
section
variable{Z:Z4}{CL:ClA}{W:XW}{k n:Ag}{T:Tc}{X:Cx}
theorem eL:wf Z CL k 0:=⟨λ_ _ _ _ _ _ h=>Ty h,λ_ _ _ _ _ _ h=>Ty h,λ_ _ _ _ _ _ _ h=>Ty h,λ_ _ _ _ _ _ h=>Ty h,λ_ _ _ _ _ _ h=>Ty h,λ_ _ _ _ _ h=>Ty h,λ_ _ _ _ _ _ _ _ _ h=>Ty h⟩
theorem Sz{x:Aq}(h:D0 x=Ab)(hx:(Bs pos (Aw xs env)).any (·.1)=Ae):(Bs pos (Aw (x::xs) env)).any (·.1)=Ae:=by
 rw[DS h];show (Ae||(Bs pos (Aw xs env)).any (·.1))=Ae;rw[hx];rfl
theorem nM(S:wf Z CL k n)(W:XW)(T:Tc)(X:Cx)(xs:Ac Aq)(es:Es)(v:VX Z CL k W T X)(h:Cl (n+1) T xs es=Ab):SA X CL W xs (λU=>ye Z U es)/\uk X CL W xs (λU=>xx Z U es)/\xs.length=es.len/\(∀ pos,xs≠[]->SE X CL W (.BoolOp .And xs pos) (λU=>evN Z U es)/\SE X CL W (.BoolOp .Or xs pos) (λU=>evO Z U es))/\(∀ pos,(Bs pos (Aw xs X.env)).any (·.1)=Ae):=by
 cases xs with
 |nil=>
  cases es with
  |nil=>exact⟨QI,Uz,rfl,λ_ z=>absurd rfl z,λ_=>rfl⟩
  |cons=>exact Ty h
 |cons x xs=>
  cases es with
  |nil=>exact Ty h
  |cons e es=>
   replace h:(D0 x&&Be n T x e&&Cl n T xs es)=Ab:=h;simp only[Am]at h;obtain⟨⟨h0,h1⟩,h2⟩:=h;have he:=S.e W T X x e v h1;obtain⟨a1,a2,a3,a4,a5⟩:=S.es W T X xs es v h2;refine⟨Qk he.se a1 (DS h0),T4 he.st a2 (DS h0),congrArg (· + 1) a3,λpos _=>?_,λpos=>Sz h0 (a5 pos)⟩
   cases xs with
   |nil=>
    cases es with
    |nil=>exact⟨QS he.se,QS he.se⟩
    |cons=>cases a3
   |cons y ys=>
    cases es with
    |nil=>cases a3
    |cons e' zf=>
     obtain⟨b1,b2⟩:=a4 pos (by simp)
     exact⟨Vh he.se b1,sW he.se b2⟩
theorem tJ(S:wf Z CL k n)(W:XW)(T:Tc)(X:Cx)(x:Ao Aq)(c:E)(v:VX Z CL k W T X)(h:n8 (n+1) T x c=Ab):SO X CL W x (λU=>(top U c (evE Z U c)).bind (slE c)):=by
 cases x with
 |none=>
  obtain rfl:=dL h;exact jH
 |some x=>
  replace h:(!(OM c)&&Be n T x c)=Ab:=h;rw[Am]at h;have q:=jG (S.e W T X x c v h.2).st;have e:slE c=λd=>(FQ d).bind λi=>.ok (Aa i):=by
   funext d
   cases c<;>first|rfl|exact absurd (show Ae=Ab from h.1) Ax
  rw[e];exact q
theorem tH(S:wf Z CL k n)(T:Tc)(X:Cx)(xs:Ac Aq)(c:E)(v:VX Z CL k W0 T X)(h:jp (n+1) T xs c=Ab):jh X CL xs (λU=>(top U c (evE Z U c)).bind Bq):=by
 cases xs with
 |nil=>
  replace h:=lL h;obtain⟨b,rfl,h⟩:=h;subst h;exact iZ
 |cons x xs=>
  replace h:(xs.isEmpty&&Eb n T x c)=Ab:=h;rw[Am]at h;obtain rfl:=G3 h.1;exact iY (S.b W0 T X x c v h.2)
theorem tK(S:wf Z CL k n)(W:XW)(T:Tc)(X:Cx)(tu:An)(tg x:Aq)(i:I)(v:VX Z CL k W T X)(ht':WS tu tg=Ab)(h:qp (n+1) T tu x i=Ab):SI X CL W tg x (λU=>wt Z U i):=by
 have ht:tu=Ab->wC tg=Ab:=λz=>by
  subst z;cases tg<;>first|rfl|cases ht'
 cases i with
 |e a=>
  exact zN (S.e W T X x a v h).se
 |rng a=>
  replace h:=Kn h;obtain⟨g,pp,l,qq,rfl,h⟩:=h;replace h:=Gv h;obtain⟨y,rfl,h⟩:=h;simp only[Am,AD]at h;obtain⟨⟨⟨rfl,h1⟩,h2⟩,h3⟩:=h;obtain⟨g1,g2,_,_⟩:=Hn v h1;exact nW (S.e W T X _ a v h3).st g1 g2 (DS h2)
 |rng2 a b=>
  replace h:=Kn h;obtain⟨g,pp,l,qq,rfl,h⟩:=h;replace h:=K8 h;obtain⟨y,z,rfl,h⟩:=h;simp only[Am,AD]at h;obtain⟨⟨⟨⟨⟨rfl,h1⟩,h2⟩,h3⟩,h4⟩,h5⟩:=h;obtain⟨g1,g2,_,_⟩:=Hn v h1;exact jK (S.e W T X _ a v h4).st (S.e W T X _ b v h5).st g1 g2 (by rw[DS h2,DS h3];rfl) (by rw[DS h3];rfl)
 |zip a b=>exact absurd (show Ae=Ab from h) Ax
 |zip3 a b c=>exact absurd (show Ae=Ab from h) Ax
 |enm a=>exact absurd (show Ae=Ab from h) Ax
theorem L4{c:Prop}[ID c]{b:An}:(if c then R.ok (D.bl b) else .bad)=.bad\/∃ b',(if c then R.ok (D.bl b) else .bad)=.ok (.bl b'):=by
 by_cases h:c
 .rw[Au h];exact .inr ⟨_,rfl⟩
 .rw[Ay h];exact .inl rfl
theorem fC(op:DC)(d d':D):BS op d d'=.bad\/∃ b,BS op d d'=.ok (.bl b):=by
 cases op with
 |Eq=>exact L4
 |NotEq=>exact L4
 |In=>
  cases d' with
  |L ys=>exact L4
  |H ys=>exact L4
  |dic kvs=>
   show (match Mp d with|some k=>R.ok (D.bl (kvs.any λp=>p.1==k))|none=>.bad)=.bad\/∃ b,(match Mp d with|some k=>R.ok (D.bl (kvs.any λp=>p.1==k))|none=>.bad)=.ok (.bl b)
   cases Mp d with
   |some k=>exact .inr ⟨_,rfl⟩
   |none=>exact .inl rfl
  |_=>exact .inl rfl
 |NotIn=>
  cases d' with
  |L ys=>exact L4
  |H ys=>exact L4
  |_=>exact .inl rfl
 |Is=>
  cases d' with
  |O=>cases d<;>first|exact .inr ⟨_,rfl⟩|exact .inl rfl
  |_=>cases d<;>first|exact .inl rfl|exact .inr ⟨_,rfl⟩
 |IsNot=>
  cases d' with
  |O=>cases d<;>first|exact .inr ⟨_,rfl⟩|exact .inl rfl
  |_=>cases d<;>first|exact .inl rfl|exact .inr ⟨_,rfl⟩
 |_=>
  cases d with
  |int i=>cases d'<;>first|exact .inr ⟨_,rfl⟩|exact .inl rfl
  |_=>exact .inl rfl
theorem UX(op:DC)(d d':D):(BS op d d').bind Bq=.bad\/(BS op d d').bind Bq=(BS op d d').bind Dj:=by
 rcases fC op d d' with h|⟨b,h⟩
 .rw[h];exact .inl rfl
 .rw[h];exact .inr rfl
theorem Vw(e e':E)(es:Es):Rf (λU=>(evN Z U (.cons e (.cons e' es))).bind Bq) (λU=>((top U e (evE Z U e)).bind Bq).bind λc=>if c=Ab then (evN Z U (.cons e' es)).bind Bq else .ok Ae):=λU=>by
 have e0:evN Z U (.cons e (.cons e' es))=(evE Z U e).bind λx=>(Dj x).bind λc=>if c=Ab then evN Z U (.cons e' es) else .ok (.bl Ae):=rfl
 dsimp only;rw[e0];rcases QB Z e U with z|z<;>dsimp only at z
 .rw[z];exact .inl rfl
 .rw[<-z];cases evE Z U e with
  |bad=>exact .inl rfl
  |exn x=>exact .inr rfl
  |ok d=>
   cases d with
   |bl b=>cases b<;>exact .inr rfl
   |_=>exact .inl rfl
theorem Vv(e e':E)(es:Es):Rf (λU=>(evO Z U (.cons e (.cons e' es))).bind Bq) (λU=>((top U e (evE Z U e)).bind Bq).bind λc=>if c=Ab then .ok Ab else (evO Z U (.cons e' es)).bind Bq):=λU=>by
 have e0:evO Z U (.cons e (.cons e' es))=(evE Z U e).bind λx=>(Dj x).bind λc=>if c=Ab then .ok (.bl Ab) else evO Z U (.cons e' es):=rfl
 dsimp only;rw[e0];rcases QB Z e U with z|z<;>dsimp only at z
 .rw[z];exact .inl rfl
 .rw[<-z];cases evE Z U e with
  |bad=>exact .inl rfl
  |exn x=>exact .inr rfl
  |ok d=>
   cases d with
   |bl b=>cases b<;>exact .inr rfl
   |_=>exact .inl rfl
theorem Rf.tru(e:E):Rf (λU=>(evE Z U e).bind Bq) (λU=>(top U e (evE Z U e)).bind Bq):=λU=>by
 rcases QB Z e U with z|z<;>dsimp only at z ⊢
 .rw[z];exact .inl rfl
 .rw[<-z];exact .inr rfl
theorem nN(S:wf Z CL k n)(W:XW)(T:Tc)(X:Cx)(xs:Ac Aq)(es:Es)(pos:AF)(v:VX Z CL k W T X)(h:yg (n+1) T xs es=Ab)(wu:xs≠[]):SW X CL W (.BoolOp .And xs pos) (λU=>(evN Z U es).bind Bq)/\SW X CL W (.BoolOp .Or xs pos) (λU=>(evO Z U es).bind Bq):=by
 cases xs with
 |nil=>exact absurd rfl wu
 |cons x xs=>
  cases es with
  |nil=>exact Ty h
  |cons e es=>
   replace h:(Eb n T x e&&yg n T xs es)=Ab:=h;simp only[Am]at h;obtain⟨h1,h2⟩:=h;have he:=S.b W T X x e v h1;cases xs with
   |nil=>
    cases es with
    |nil=>exact⟨SW.ref (Ue he) (Rf.tru e),SW.ref (Vp he) (Rf.tru e)⟩
    |cons=>
     cases n with
     |zero=>exact absurd (show Ae=Ab from h2) Ax
     |succ n=>exact absurd (show Ae=Ab from h2) Ax
   |cons y ys=>
    cases es with
    |nil=>
     cases n with
     |zero=>exact absurd (show Ae=Ab from h2) Ax
     |succ n=>exact absurd (show Ae=Ab from h2) Ax
    |cons e' zf=>
     obtain⟨b1,b2⟩:=S.bs W T X (y::ys) (.cons e' zf) pos v h2 (by simp)
     exact⟨SW.ref (Vr he b1) (Vw e e' zf),SW.ref (Wc he b2) (Vv e e' zf)⟩
theorem gH(S:wf Z CL k n){x:Aq}{ops:Ac DC}{b:BI}(v:VX Z CL k W T X)(h:RM T (Be n) x ops ys b as=Ab):SB X CL W (.Compare x ops ys pos) (λU=>(top U (.bi b as) (evE Z U (.bi b as))).bind Bq):=by
 exact absurd (show Ae=Ab from h) Ax
theorem tM(S:wf Z CL k n)(W:XW)(T:Tc)(X:Cx)(x:Aq)(c:E)(v:VX Z CL k W T X)(h:Eb (n+1) T x c=Ab):SB X CL W x (λU=>(top U c (evE Z U c)).bind Bq):=by
 have plain:∀ e,Io e=Ab->Be n T e c=Ab->SB X CL W e (λU=>(top U c (evE Z U c)).bind Bq):=λe h1 h2=>QW (S.e W T X e c v h2).st (Qi h1)
 replace h:((IY x λo x=>decide (o=.Not)&&(LB c λa=>Eb n T x a))||(IU x λo xs _=>(decide (o=.And)&&(Mn c λes=>yg n T xs es && !xs.isEmpty))||(decide (o=.Or)&&(Mo c λes=>yg n T xs es && !xs.isEmpty)))||(Nc x λx os ys=>(Ox c λop a b=>EI os λop'=>EI ys λy=>decide (op'=op) && !behindInMarks op y&&Be n T x a&&Be n T y b)||(Oy c λm9 ub a b c=>IT os λo1 o2=>IT ys λy z=>decide (o1=m9)&&decide (o2=ub) && !lastMarks [m9,ub] [y,z]&&Be n T x a&&Be n T y b&&Be n T z c)||(Oz c λb as=>RM T (Be n) x os ys b as))||Io x&&((match OE c with|some a=>Be n T x a|none=>Ae)||Be n T x c))=Ab:=h
 replace h:=(vo h).imp_left λz=>(vo z).imp_left vo
 rcases h with ((h|h)|h)|h
 .replace h:=M1 h;obtain⟨o,y,p,rfl,h⟩:=h;replace h:=Bk h;obtain⟨h0,h⟩:=h;obtain rfl:=AN h0;replace h:=UH h;obtain⟨a,rfl,h⟩:=h
  .skip
   refine SB.ref (VH (S.b W T X _ a v h)) λU=>?_
   show ((top U a (evE Z U a)).bind λx=>(Dj x).bind λb=>.ok (.bl (!b))).bind Bq=.bad\/((top U a (evE Z U a)).bind λx=>(Dj x).bind λb=>.ok (.bl (!b))).bind Bq=_
   cases top U a (evE Z U a) with
   |bad=>exact .inl rfl
   |exn x=>exact .inr rfl
   |ok d=>cases d<;>first|exact .inr rfl|exact .inl rfl
 .replace h:=L3 h;obtain⟨o,ys,p,rfl,h⟩:=h;replace h:=vo h;rcases h with h|h
  .replace h:=Bk h;obtain⟨h0,h⟩:=h;obtain rfl:=AN h0;replace h:=TL h;obtain⟨es,rfl,h⟩:=h;simp only[Am,Bf,CN]at h;exact(S.bs W T X _ _ _ v h.1 h.2).1.sb
  .replace h:=Bk h;obtain⟨h0,h⟩:=h;obtain rfl:=AN h0;replace h:=UG h;obtain⟨es,rfl,h⟩:=h;simp only[Am,Bf,CN]at h;exact(S.bs W T X _ _ _ v h.1 h.2).2.sb
 .replace h:=TF h;obtain⟨w,os,ys,p,rfl,h⟩:=h;replace h:=(vo h).imp_left vo;rcases h with (h|h)|h
  .replace h:=dW h;obtain⟨op,a,b,rfl,h⟩:=h;replace h:=Gv h;obtain⟨op',rfl,h⟩:=h;replace h:=Gv h;obtain⟨y,rfl,h⟩:=h
   .simp only[Am,Bf,AG]at h;obtain⟨⟨⟨rfl,h1⟩,h2⟩,h3⟩:=h;refine SB.ref (VI (IM v.room.units _) (S.e W T X _ a v h2).st (S.e W T X _ b v h3).st h1) λU=>?_
    show ((top U a (evE Z U a)).bind λx=>(top U b (evE Z U b)).bind λy=>BS op' x y).bind Bq=.bad\/((top U a (evE Z U a)).bind λx=>(top U b (evE Z U b)).bind λy=>BS op' x y).bind Bq=_
    cases top U a (evE Z U a) with
    |bad=>exact .inl rfl
    |exn x=>exact .inr rfl
    |ok d=>
     cases top U b (evE Z U b) with
     |bad=>exact .inl rfl
     |exn x=>exact .inr rfl
     |ok d'=>
      dsimp only[R.bind];exact UX _ d d'
  .replace h:=dX h;obtain⟨m9,ub,a,b,c,rfl,h⟩:=h;replace h:=K8 h;obtain⟨o1,o2,rfl,h⟩:=h;replace h:=K8 h;obtain⟨y,z,rfl,h⟩:=h
   .simp only[Am,Bf,AG]at h;obtain⟨⟨⟨⟨⟨rfl,rfl⟩,h1⟩,h2⟩,h3⟩,h4⟩:=h;refine SB.ref (eS v.room.units (S.e W T X _ a v h2).st (S.e W T X _ b v h3).st (S.e W T X _ c v h4).st h1) λU=>?_
    show ((top U a (evE Z U a)).bind λx=>(top U b (evE Z U b)).bind λy=>(BS o1 x y).bind λz=>(Dj z).bind λk=>if k=Ab then (top U c (evE Z U c)).bind λu=>BS o2 y u else .ok (.bl Ae)).bind Bq=.bad\/((top U a (evE Z U a)).bind λx=>(top U b (evE Z U b)).bind λy=>(BS o1 x y).bind λz=>(Dj z).bind λk=>if k=Ab then (top U c (evE Z U c)).bind λu=>BS o2 y u else .ok (.bl Ae)).bind Bq=_
    cases top U a (evE Z U a) with
    |bad=>exact .inl rfl
    |exn x=>exact .inr rfl
    |ok d=>
     cases top U b (evE Z U b) with
     |bad=>exact .inl rfl
     |exn x=>exact .inr rfl
     |ok d'=>
      dsimp only[R.bind];cases BS o1 d d' with
      |bad=>exact .inl rfl
      |exn x=>exact .inr rfl
      |ok d3=>
       cases d3 with
       |bl k=>
        cases k with
        |false=>exact .inr rfl
        |true=>
         dsimp only[R.bind,Dj];rw[Au rfl,Au rfl];cases top U c (evE Z U c) with
         |bad=>exact .inl rfl
         |exn x=>exact .inr rfl
         |ok d4=>exact UX _ d' d4
       |_=>exact .inl rfl
  .replace h:=dY h;obtain⟨b,as,rfl,h⟩:=h;exact gH S v h
 .obtain⟨h1,h2⟩:=Bk h;rcases vo h2 with h2|h2
  .cases e1:OE c with
   |none=>rw[e1]at h2;cases h2
   |some a=>
    rw[e1]at h2;rw[eA e1];refine SB.ref (QW (S.e W T X x a v h2).st (Qi h1)) λU=>?_
    have e2:top U (.cmp .NotEq (.bi .len (.cons (.bi .list (.cons a .nil)) .nil)) (.int 0)) (evE Z U (.cmp .NotEq (.bi .len (.cons (.bi .list (.cons a .nil)) .nil)) (.int 0)))=(top U a (evE Z U a)).bind λx=>(zY .list [x]).bind λy=>(zY .len [y]).bind λz=>BS .NotEq z (.int 0):=by
     show evE Z U (.cmp .NotEq (.bi .len (.cons (.bi .list (.cons a .nil)) .nil)) (.int 0))=_;simp only[KD,Ob,KM,xx,R.bind_assoc,R.bind_ok,Qh,Qw]
    rw[e2];cases top U a (evE Z U a) with
    |bad=>exact .inl rfl
    |exn x=>exact .inr rfl
    |ok d=>
     have key:∀ xs:Ac D,(BS .NotEq (.int (xs.length:Ai)) (.int 0)).bind Bq=.ok (!xs.isEmpty):=λxs=>by
      cases xs<;>rfl
     cases d with
     |L xs=>exact .inr (key xs)
     |H xs=>exact .inr (key xs)
     |_=>exact .inl rfl
  .exact plain _ h1 h2
end
section
variable{Z:Z4}{CL:ClA}{W:XW}{k n:Ag}{T:Tc}{X:Cx}
theorem xU{b:BI}{g:Ah}{p pos:AF}{x:Aq}(v:VX Z CL k W T X)(hb:Rl b=Aa g)(hg:ya T g=Ab)(hs:uk X CL W (x::xs) (λU=>xx Z U as))(h0:D0 x=Ab)(zv:∀ pos,(Bs pos (Aw xs X.env)).any (·.1)=Ae):vh Z CL W X (.Call (.Name g p) (x::xs) [] pos) (.bi b as):=by
 obtain⟨g1,g2,g3,g4⟩:=Hn v hg;cases b<;>simp only[Rl]at hb<;>cases hb
 .exact Ds (QV rB g1 g2 Jj hs g3 g4 (DS h0) zv) (λ_ _=>rfl) rfl rfl
 .exact Ds (QV (rA v.calm) g1 g2 PyProof.Rows.boot_min hs g3 g4 (DS h0) zv) (λ_ _=>rfl) rfl rfl
 .exact QG (nR mE g1 g2 Yt hs g3 g4 (DS h0) zv) (λ_ _=>rfl) rfl
 .exact Ds (Vg fH g1 g2 Yu hs g3 g4 (DS h0) zv) (λ_ _=>rfl) rfl rfl
 .exact Ds (QV (rC v.calm) g1 g2 PyProof.Rows.boot_all hs g3 g4 (DS h0) zv) (λ_ _=>rfl) rfl rfl
 .exact Ds (Vg qZ g1 g2 GD hs g3 g4 (DS h0) zv) (λ_ _=>rfl) rfl rfl
theorem aS{β:Type}[BEq α][LawfulBEq α]{a:α}{b:β}:∀{l:Ac (α×β)},l.lookup a=Aa b->(a,b)∈l:=by
 intro l
 induction l with
 |nil=>intro h;cases h
 |cons p r ih=>
  intro h;obtain⟨x,y⟩:=p;by_cases z:(a==x)=Ab
  .simp only[B0,z]at h;cases h;rw[eq_of_beq z];exact AY
  .have z':(a==x)=Ae:=by simpa using z
   simp only[B0,z']at h;exact AE _ (ih h)
theorem Lf{l:Ac (Ah×Ag)}{g:Ah}{c:Ag}(h:t5 l g c=Ab):(g,c)∈l:=by
 unfold t5 at h;simp only[ER,Am,AD]at h;obtain⟨p,hp,rfl,rfl⟩:=h;exact hp
theorem ML{x:Aq}{es:Es}(h:Cl n T (x::xs) es=Ab):D0 x=Ab/\∃ e zf,es=.cons e zf/\∃ m,n=m+1/\Cl m T xs zf=Ab:=by
 cases n with
 |zero=>exact Ty h
 |succ m=>
  cases es with
  |nil=>exact Ty h
  |cons e es=>
   replace h:(D0 x&&Be m T x e&&Cl m T xs es)=Ab:=h;simp only[Am]at h;exact⟨h.1.1,e,es,rfl,m,rfl,h.2⟩
theorem NU:∀(m:Ag)(xs:Ac Aq)(es:Es),Cl m T xs es=Ab->∀ pos,(Bs pos (Aw xs X.env)).any (·.1)=Ae:=by
 intro m
 induction m with
 |zero=>intro xs es h;exact Ty h
 |succ m ih=>
  intro xs es h pos;cases xs with
  |nil=>rfl
  |cons x xs=>
   obtain⟨h0,e,zf,rfl,m',e1,h1⟩:=ML h;cases e1;exact Sz h0 (ih xs zf h1 pos)
theorem bY{o y:Aq}{j:Ah}(hu:X.A.units+64<Bx)(ho:ST X CL W o fo)(hy:SE X CL W y (λ_=>.ok (.str j)))(U7:BH o "count" X.env (eval o X.env)=eval o X.env)(yn:((Bs cpos (Aw [y] X.env)).all (λx=>!x.1)&&(D9 cpos (Dh [] X.env)).all (λx=>x.1.isSome)&&decide ([y].length+([]:Ac CB).length+(if ([]:Ac CB).isEmpty then 0 else 1)<30))=Ab)(U5:(apos.endLine==cpos.line)=Ab)(hs:Aw [y] X.env=[(Ae,eval y X.env)]):
  SE X CL W (.Call (.Attribute o "count" apos) [y] [] cpos) (λU=>(fo U).bind λx=>zY .count [x,.str j]):=λA=>
 PE.weak (IS BJ Ed F5 (Qb (CL:=CL) hu) (ho A) (Bv (hy A) Cb hs) U7 yn U5 hs rfl) λY H Q ⟨hA,U,g,p⟩=>⟨hA,U,g,AW.bind p λd v H1 _ s1 r1 p1=>by
  cases d with
  |L ds=>
   obtain⟨a,xs,rfl,sq,rs⟩:=r1.lst_of;refine⟨.inl ⟨rfl,xs,sq⟩,hA.same s1,U,g.same s1,λv' H2 s2 r2=>?_⟩
   have r3:Z7 X.K CL H2 A0 (.ref a) (.L ds):=(Cv.same s2 r1).plain;obtain⟨a',lr,e',_,k9,ww⟩:=r3;cases e';replace p1:AW (λH=>Z7 X.K CL H A) W H1 (if (Y8 5 (.str j)&&ds.all (Y8 5))=Ab then .ok (.int ((ds.filter λy=>Tm y (.str j)).length:Ag)) else .bad) Q:=p1
   split at p1
   .rename_i h;simp only[Am]at h;have e2:v'=.str j:=r2;subst e2;exact⟨a,lr,ds,.str j,.str j,rfl,rfl,k9,ww,rfl,h.1,h.2,p1 _ H2 s2 rfl⟩
   .exact p1.elim
  | _=>exact p1.elim⟩
theorem kH(S:wf Z CL k n){x:Aq}{b:BI}(v:VX Z CL k W T X)(h:(match Pe as with|some (s,a)=>JH x λf l ks cp=>ks.isEmpty&&(Iv f λo m ap=>m==("join" : Ah)&&ap.endLine==cp.line&&(HQ o λc=>decide (c=.str s)&&decide (b=.sjoin)&&(EI l λy=>D0 y&&Be n T y a)))|none=>Ae)=Ab):vh Z CL W X x (.bi b as):=by
 cases q1:Pe as with
 |none=>rw[q1]at h;cases h
 |some t=>
  obtain⟨s,a⟩:=t;rw[q1]at h;obtain⟨e,te⟩:=lR q1;subst e;replace h:=MS h;obtain⟨f,l,ks,cp,rfl,h⟩:=h;replace h:=Bk h;obtain⟨h0,h⟩:=h;obtain rfl:=G3 h0;replace h:=K9 h;obtain⟨o,m,ap,rfl,h⟩:=h;replace h:=Bk h;obtain⟨h1,h⟩:=h;replace h1:=Bk h1;obtain⟨h1,h2⟩:=h1;obtain rfl:=eq_of_beq h1;replace h:=Km h;obtain⟨c,u,p,rfl,h⟩:=h;replace h:=Bk h;obtain⟨h3,h⟩:=h;replace h3:=Bk h3;obtain⟨h3,h4⟩:=h3;obtain rfl:=AN h3;obtain rfl:=AN h4;replace h:=Gv h;obtain⟨y,rfl,h⟩:=h;replace h:=Bk h;obtain⟨h5,h6⟩:=h;refine Ds (SE.congr (jO (S.e W T X _ a v h6).se rfl (by rw[DS h5];rfl) h2 (by rw[DS h5];rfl)) λU=>?_) (λ_ _=>rfl) rfl rfl
  simp only[KM,xx,R.bind_assoc,R.bind_ok,Qg,Qv,te]
theorem eK(S:wf Z CL k n){x:Aq}{b:BI}(v:VX Z CL k W T X)(h:(match Pd as with|some (a,s)=>JH x λf l ks cp=>ks.isEmpty&&(Iv f λo m ap=>m==("split" : Ah)&&ap.endLine==cp.line&&Md o&&Be n T o a&&(EI l λy=>HQ y λc=>decide (c=.str s)&&decide (b=.ssplit)))|none=>Ae)=Ab):vh Z CL W X x (.bi b as):=by
 cases q1:Pd as with
 |none=>rw[q1]at h;cases h
 |some t=>
  obtain⟨a,s⟩:=t;rw[q1]at h;have e:=lQ q1;subst e;replace h:=MS h;obtain⟨f,l,ks,cp,rfl,h⟩:=h;replace h:=Bk h;obtain⟨h0,h⟩:=h;obtain rfl:=G3 h0;replace h:=K9 h;obtain⟨o,m,ap,rfl,h⟩:=h;replace h:=Bk h;obtain⟨h1,h⟩:=h;replace h1:=Bk h1;obtain⟨h1,h6⟩:=h1;replace h1:=Bk h1;obtain⟨h1,h3⟩:=h1;replace h1:=Bk h1;obtain⟨h1,h2⟩:=h1;obtain rfl:=eq_of_beq h1;replace h:=Gv h;obtain⟨y,rfl,h⟩:=h;replace h:=Km h;obtain⟨c,u,p,rfl,h⟩:=h;replace h:=Bk h;obtain⟨h4,h5⟩:=h;obtain rfl:=AN h4;obtain rfl:=AN h5;refine Ds (SE.congr (eM (S.e W T X _ a v h6).st (Oc h3) h2).se λU=>?_) (λ_ _=>rfl) rfl rfl
  simp only[KM,xx,R.bind_assoc,R.bind_ok,Qg,Qv]
theorem mZ(S:wf Z CL k n){x:Aq}{b:BI}(v:VX Z CL k W T X)(h:(match Sh as with|some a=>(match WH x with|some y=>decide (b=.rvs)&&Be n T y a|none=>Ae)|none=>Ae)=Ab):vh Z CL W X x (.bi b as):=by
 simp[Sh]at h
theorem oS(S:wf Z CL k n){x:Aq}{b:BI}(v:VX Z CL k W T X)(h:(match RI as with|some (a,c)=>(match WU x with|some (y,z,_)=>decide (b=.tlt) && !behindInMarks .Lt z&&Be n T y a&&Be n T z c|none=>Ae)|none=>Ae)=Ab):vh Z CL W X x (.bi b as):=by
 simp[RI]at h
theorem rL{x:Aq}{b:BI}(v:VX Z CL k W T X)(h:Sd T x b as=Ab):vh Z CL W X x (.bi b as):=by
 unfold Sd at h;split at h
 .simp only[Am,AD,AG]at h;obtain⟨⟨⟨rfl,rfl⟩,h2⟩,h3⟩:=h;split at h3
  .simp only[Am,AG]at h3;obtain⟨h3,rfl⟩:=h3;refine Ds (SE.congr (eP v.room.units (HJ (Mb v h3)) (j:=_) QT rfl rfl (by rw[h2];exact BE _) rfl) λU=>?_) (λ_ _=>rfl) rfl rfl
   simp only[KM,xx,R.bind_assoc,R.bind_ok,Qh,Qw];rfl
  .cases h3
 .simp only[Am,AD,AG]at h;obtain⟨⟨⟨rfl,rfl⟩,h2⟩,h3⟩:=h;split at h3
  .simp only[Am,AG]at h3;obtain⟨h3,rfl⟩:=h3;refine Ds (SE.congr (bY v.room.units (HJ (Mb v h3)) (j:=_) M9 rfl rfl (by rw[h2];exact BE _) rfl) λU=>?_) (λ_ _=>rfl) rfl rfl
   simp only[KM,xx,R.bind_assoc,R.bind_ok,Qg,Qv];rfl
  .cases h3
 .cases h
theorem oZ(S:wf Z CL k n){x:Aq}{b:BI}(v:VX Z CL k W T X)(h:(match Rz as with|some (a,k)=>(match WD x with|some (y,j)=>decide (b=.stp)&&decide (j=k)&&decide (0<=k)&&Be n T y a|none=>Ae)|none=>Ae)=Ab):vh Z CL W X x (.bi b as):=by
 simp[Rz]at h
theorem pS(S:wf Z CL k n){x:Aq}{b:BI}(v:VX Z CL k W T X)(h:(match RB as with|some (a,c)=>(match Xx x with|some (g,h,y,z)=>decide (b=.list)&&g==("list" : Ah)&&h==("range" : Ah)&&ya T g&&ya T h&&D0 y&&D0 z&&Be n T y a&&Be n T z c|none=>Ae)|none=>Ae)=Ab):vh Z CL W X x (.bi b as):=by
 simp[RB]at h
theorem kE(S:wf Z CL k n){x:Aq}{b:BI}(v:VX Z CL k W T X)(h:(match RA as with|some a=>(match Xv x with|some (g,h,y)=>decide (b=.lset)&&g==("len" : Ah)&&h==("set" : Ah)&&ya T g&&ya T h&&D0 y&&Be n T y a|none=>Ae)|none=>Ae)=Ab):vh Z CL W X x (.bi b as):=by
 simp[RA]at h
theorem tL(S:wf Z CL k n)(W:XW)(T:Tc)(X:Cx)(x:Aq)(c:E)(v:VX Z CL k W T X)(h:Be (n+1) T x c=Ab):vh Z CL W X x c:=by
 cases c with
 |O=>
  replace h:=Km h;obtain⟨c,u,p,rfl,h⟩:=h;obtain rfl:=AN h;exact Ds nY (λ_ _=>rfl) rfl rfl
 |bl b=>
  replace h:=Km h;obtain⟨c,u,p,rfl,h⟩:=h;obtain rfl:=AN h;exact Ds OH (λ_ _=>rfl) rfl rfl
 |int i=>
  replace h:=Km h;obtain⟨c,u,p,rfl,h⟩:=h;obtain rfl:=AN h;exact Ds QT (λ_ _=>rfl) rfl rfl
 |str i=>
  replace h:=Km h;obtain⟨c,u,p,rfl,h⟩:=h;obtain rfl:=AN h;exact Ds M9 (λ_ _=>rfl) rfl rfl
 |v i=>
  replace h:=EY h;obtain⟨y,p,rfl,h⟩:=h;exact⟨Va (Mb v h),HJ (Mb v h),λz=>(nomatch z),λz=>(nomatch z)⟩
 |glob g=>
  replace h:=EY h;obtain⟨y,p,rfl,h⟩:=h;simp only[Am]at h;obtain⟨⟨h1,h2⟩,h3⟩:=h;obtain⟨u,w',m1,m2,m3⟩:=v.gl _ (Lf h1);obtain⟨n2,_,_⟩:=Hi h3;refine Ds (λA=>PE.weak (M0 (by unfold zi at h2;show X.env.scope.names.lookup _=_;rw[v.sc];exact eq_of_beq h2) m1 m2 n2) λY H Q ⟨hA,U,gd,p⟩=>?_) (λ_ _=>rfl) rfl rfl
  exact p w' H (Az.refl H) (m3 H A)
 |B op a b=>
  replace h:=TH h;obtain⟨y,op',z,p,rfl,h⟩:=h;simp only[Am,AG]at h;obtain⟨⟨rfl,h1⟩,h2⟩:=h;have ha:=(S.e W T X _ a v h1).st;have hb:=(S.e W T X _ b v h2).st;refine⟨QU (Qp _) ha hb,(QU (Qp _) ha hb).st,λz=>?_,λz=>nomatch z⟩
  cases op'<;>first|exact nS ha hb|cases z
 |un op a=>
  replace h:=M1 h;obtain⟨o,y,p,rfl,h⟩:=h;replace h:=Bk h;obtain⟨h0,h⟩:=h;obtain rfl:=AN h0;simp only[Am,AG]at h;obtain⟨rfl,h1⟩:=h;exact Ds (nZ (S.e W T X _ a v h1).st) (λ_ _=>rfl) rfl rfl
 |no a=>
  replace h:=M1 h;obtain⟨o,y,p,rfl,h⟩:=h;replace h:=Bk h;obtain⟨h0,h⟩:=h;obtain rfl:=AN h0;exact Ds (Vc (S.e W T X _ a v h).st) (λ_ _=>rfl) rfl rfl
 |and es=>
  replace h:=L3 h;obtain⟨o,ys,p,rfl,h⟩:=h;replace h:=Bk h;obtain⟨h0,h⟩:=h;obtain rfl:=AN h0;simp only[Am,Bf,CN]at h;exact Ds ((S.es W T X _ es v h.1).2.2.2.1 _ h.2).1 (λ_ _=>rfl) rfl rfl
 |or es=>
  replace h:=L3 h;obtain⟨o,ys,p,rfl,h⟩:=h;replace h:=Bk h;obtain⟨h0,h⟩:=h;obtain rfl:=AN h0;simp only[Am,Bf,CN]at h;exact Ds ((S.es W T X _ es v h.1).2.2.2.1 _ h.2).2 (λ_ _=>rfl) rfl rfl
 |cmp op a b=>
  replace h:=TF h;obtain⟨y,os,ys,p,rfl,h⟩:=h;replace h:=Gv h;obtain⟨op',rfl,h⟩:=h;replace h:=Gv h;obtain⟨z,rfl,h⟩:=h;simp only[Am,Bf,AG]at h;obtain⟨⟨⟨rfl,h1⟩,h2⟩,h3⟩:=h;exact Ds (oE (IM v.room.units _) (S.e W T X _ a v h2).st (S.e W T X _ b v h3).st h1) (λ_ _=>rfl) rfl rfl
 |cmp2 m9 ub a b c=>exact absurd (show Ae=Ab from h) Ax
 |ite c a b=>exact absurd (show Ae=Ab from h) Ax
 |call f as=>
  replace h:=NP h;obtain⟨g,pp,y,ys,qq,rfl,h⟩:=h;simp only[Am,ER,AD,AG]at h;obtain⟨⟨⟨⟨⟨p,hp,⟨rfl,rfl⟩,hl⟩,h900⟩,h1⟩,h2⟩,h3⟩:=h;obtain⟨fa,fd,ps,m1,m2,m3,m4,m5,_⟩:=v.fn p hp;have yh:p.2.2<1000:=by omega
  rw[Yn yh]at m4 m5;have m5:=m5 yh;obtain⟨n2,n3,n4⟩:=Hi h2;replace m1:=Qd m1 (Uv h2);obtain⟨a1,a2,a3,a4,a5⟩:=S.es W T X _ as v h3;obtain⟨s0,e,zf,rfl,m,rfl,s1⟩:=ML h3;have q:SC X CL W (Z.fr p.2.1) (.Call (.Name p.1 pp) (y::ys) [] qq) (λU=>evE Z U (.call p.2.1 (.cons e zf))):=jQ (sh:=λU=>JJ U (.cons e zf)) m5 v.room (by unfold zi at h1;show X.env.scope.names.lookup p.1=_;rw[v.sc];exact eq_of_beq h1) m1 m2 m3 v.px a1 a2 (λU z=>QX Z U _ z) (λU ds z=>by rw[Qx Z U _ _ z,<-a3,hl];rfl) n2 (DS s0) (NU m ys zf s1)
  exact⟨q.se,q.se.st,λz=>by
   have z':Z.fr p.2.1=Ab:=z;rw[z']at q;exact q,λz=>nomatch z⟩
 |bi b as=>
  unfold Be at h;dsimp only at h;simp only[BY]at h;rcases h with (((((((h|h)|h)|h)|h)|h)|h)|h)|h
  .replace h:=NP h;obtain⟨g,pp,y,ys,qq,rfl,h⟩:=h;simp only[Am,AD]at h;obtain⟨⟨h1,h2⟩,h3⟩:=h;obtain⟨s0,e,zf,rfl,m,rfl,s1⟩:=ML h3;exact xU v h1 h2 (S.es W T X _ _ v h3).2.1 s0 (NU m _ zf s1)
  .exact rL v h
  .exact pS S v h
  .exact oZ S v h
  .exact kE S v h
  .exact oS S v h
  .exact kH S v h
  .exact eK S v h
  .exact mZ S v h
 |isi a ks=>
  replace h:=vo h;rcases h with h|h
  .skip
   replace h:=Gv h;obtain⟨k',rfl,h⟩:=h;replace h:=Kn h;obtain⟨g,pp,l,qq,rfl,h⟩:=h;replace h:=K8 h;obtain⟨y,t,rfl,h⟩:=h;replace h:=EY h;obtain⟨t,pt,rfl,h⟩:=h;simp only[Am,AD]at h;obtain⟨⟨⟨⟨⟨rfl,h1⟩,h2⟩,h3⟩,h4⟩,h5⟩:=h;obtain⟨g1,g2,_,_⟩:=Hn v h1;obtain⟨b1,b2,b3,b4⟩:=Hn v h3;obtain⟨ty,t1,t2⟩:=xS h2;exact Ds (oC t1 g1 g2 b1 b2 t2 b3 b4 (S.e W T X _ a v h5).st (DS h4)) (λ_ _=>rfl) rfl rfl
  .replace h:=Gv h;obtain⟨k',rfl,h⟩:=h;replace h:=Kn h;obtain⟨g,pp,l,qq,rfl,h⟩:=h;replace h:=K8 h;obtain⟨y,t,rfl,h⟩:=h;replace h:=EY h;obtain⟨t,pt,rfl,h⟩:=h;simp only[Am,AD]at h;obtain⟨⟨⟨⟨rfl,h1⟩,h4⟩,h5⟩,h6⟩:=h;obtain⟨g1,g2,_,_⟩:=Hn v h1;cases k' with
   |verr=>
    replace h6:=Bk (a:=t==("ValueError" : Ah)) h6;obtain⟨h6,h7⟩:=h6;obtain rfl:=eq_of_beq h6;obtain⟨b1,b2,_,_⟩:=Hn v h7;exact Ds (Vd v.xt.xc g1 g2 b1 b2 (S.e W T X _ a v h5).st (DS h4)) (λ_ _=>rfl) rfl rfl
   |cls c=>
    replace h6:=Bk (a:=t5 T.exs t c&&zi T t) h6;obtain⟨h6,h8⟩:=h6;replace h6:=Bk h6;obtain⟨h6,h7⟩:=h6;obtain⟨C,m1,m3,_⟩:=v.xt.ex _ (Lf h6);obtain⟨n2,_,_⟩:=Hi h8;exact Ds (Ve v.xt.xc g1 g2 (by unfold zi at h7;show X.env.scope.names.lookup _=_;rw[v.sc];exact eq_of_beq h7) m1 m3 n2 (S.e W T X _ a v h5).st (DS h4)) (λ_ _=>rfl) rfl rfl
   |_=>exact Ty h6
 |x a i=>
  replace h:=T9 h;obtain⟨y,z,p,rfl,h⟩:=h;simp only[Am]at h;obtain⟨⟨h1,h2⟩,h3⟩:=h;exact Ds (Vf (eN h1) (S.e W T X _ a v h2).st (S.e W T X _ i v h3).st) (λ_ _=>rfl) rfl rfl
 |sl a lo hi=>
  replace h:=T9 h;obtain⟨y,s,p,rfl,h⟩:=h;replace h:=dQ h;obtain⟨l,u,st,p',rfl,h⟩:=h;replace h:=Bk h;obtain⟨h0,h⟩:=h;obtain rfl:=DX.mp h0;simp only[Am]at h;obtain⟨⟨h1,h2⟩,h3⟩:=h;refine QG (SC.congr (tP (S.e W T X _ a v h1).st (S.o W T X _ lo v h2) (S.o W T X _ hi v h3)) λU=>?_) (λ_ _=>rfl) rfl
  show ((top U a (evE Z U a)).bind λx=>(top U lo (evE Z U lo)).bind λl=>(slE lo l).bind λl'=>(top U hi (evE Z U hi)).bind λh=>(slE hi h).bind λh'=>i9 x l' h')=_
  simp only[R.bind_assoc]
 |H es=>
  replace h:=MR h;obtain⟨ys,cc,p,rfl,h⟩:=h;simp only[Am,AG]at h;have q:=S.es W T X _ es v h.1;exact Ds (Vb q.1 λU ds z=>by rw[KG Z U _ _ z,<-q.2.2.1];omega) (λ_ _=>rfl) rfl rfl
 |L es=>
  replace h:=P9 h;obtain⟨ys,p,rfl,h⟩:=h;simp only[Am,AG]at h;have q:=S.es W T X _ es v h.1;exact QG (QP q.1 λU ds z=>by rw[KG Z U _ _ z,<-q.2.2.1];omega) (λ_ _=>rfl) rfl
 |comp elt t it c=>
  replace h:=lJ (e:=x) (F:=_) (by unfold Be at h;exact h)
  obtain⟨y,tg,it',ifs,scope,p,rfl,h⟩:=h;replace h:=EY h;obtain⟨w,pw,rfl,h⟩:=h;simp only[Am]at h;obtain⟨⟨⟨⟨⟨h1,h2⟩,h3⟩,h4⟩,h5⟩,h6⟩:=h;refine wV v.calm ⟨_,_,_,_,_,_,_,_,_,_,_,_,_,rfl,(Vx v h3).1,S.i W T X Ae _ _ it v rfl h1,kU t,λcl C s H fp=>iU (v.blk h3) (λz=>AD.mpr z) h4,λcl C s H fp=>S.t _ _ _ c (v.blk h3) h5,λcl C s H fp=>(S.e W0 _ _ _ elt (v.blk h3) h6).se,QR h2,λU=>rfl⟩ (λ_ _=>rfl)
 |compT elt ts it c=>exact absurd (show Ae=Ab from h) Ax
 |tupI it=>exact absurd (show Ae=Ab from h) Ax
 |dnew=>exact Ty h
 |fld o f=>
  replace h:=K9 h;obtain⟨w,g,p,rfl,h⟩:=h;simp only[Am,AD]at h;obtain⟨⟨⟨rfl,h2⟩,h3⟩,h4⟩:=h;exact Ds (UQ v.xt.xc (λc C z=>v.xt.nf c C z _ h2) (S.e W T X _ o v h4).st (Oc h3)) (λ_ _=>rfl) rfl rfl
 |ofl o f=>
  replace h:=K9 h;obtain⟨w,g,p,rfl,h⟩:=h;simp only[Am,AD]at h;obtain⟨⟨⟨rfl,h2⟩,h3⟩,h4⟩:=h;refine Ds (nX (λc C z=>?_) (S.e W T X _ o v h4).st (Oc h3)) (λ_ _=>rfl) rfl rfl
  rw[h2];exact⟨(v.os.oc c C z).cl,(v.os.oc c C z).nt⟩
 |iso a k'=>
  replace h:=Kn h;obtain⟨g,pp,l,qq,rfl,h⟩:=h;replace h:=K8 h;obtain⟨y,t,rfl,h⟩:=h;replace h:=EY h;obtain⟨t,pt,rfl,h⟩:=h;unfold Ð at h;simp only[Am,AD,AG]at h;obtain⟨⟨⟨⟨rfl,h1⟩,h4⟩,h5⟩,⟨⟨⟨e6,h7⟩,h8⟩,h9⟩⟩:=h;obtain⟨g1,g2,_,_⟩:=Hn v h1;obtain⟨n2,_,_⟩:=Hi h9;obtain⟨C',o1,o2⟩:=v.os.at_ k' h7;exact Ds (oB v.os.oc g1 g2 (by unfold zi at h8;show X.env.scope.names.lookup _=_;rw[v.sc];exact eq_of_beq h8) (by rw[e6];exact o2) (λc C z=>v.os.kit c C k' C' z o1) n2 (S.e W T X _ a v h5).st (DS h4)) (λ_ _=>rfl) rfl rfl
 |meth m ms o=>
  replace h:=MS h;obtain⟨f,l,ks,cp,rfl,h⟩:=h;replace h:=Bk h;obtain⟨h0,h⟩:=h;obtain rfl:=G3 h0;replace h:=Bk h;obtain⟨mj,h⟩:=h;obtain rfl:=G3 mj;replace h:=K9 h;obtain⟨w,g,ap,rfl,h⟩:=h;replace h:=Bk h;obtain⟨h,h5⟩:=h;replace h:=Bk h;obtain⟨h,h4⟩:=h;replace h:=Bk h;obtain⟨h,h3⟩:=h;replace h:=Bk h;obtain⟨h,h2⟩:=h;replace h:=Bk h;obtain⟨h,h1⟩:=h;obtain rfl:=eq_of_beq h;refine Ds (jM v.room v.px (S.e W T X _ o v h4).st (λc id C hl hC=>?_) (Oc h3) h2) (λ_ _=>rfl) rfl rfl
  have hm:=Bh.mp h5 _ (aS hl);simp only[ER,Am,AD]at hm;obtain⟨p,hp,⟨e1,e2⟩,e3⟩:=hm;obtain⟨fa,fd,ps,m1,m2,m3,m4,m5,_⟩:=v.fn p hp;have m5:=m5 (by omega)
  rw[e3,e2]at m5;have jk:=dG m1 e1 hC;exact⟨fa,fd,ps,_,(v.os.oc c C hC).cl,⟨jk,v.os.mf c C _ fa hC h1 jk,m2⟩,m3,m5⟩
 |mkob c e=>exact Ty h
 |mkn c as=>
  replace h:=NP h;obtain⟨g,np,x,xs,cpos,rfl,h⟩:=h;unfold Ð at h;simp only[Am,AD,AG]at h;obtain⟨⟨⟨⟨⟨e6,h7⟩,h8⟩,h9⟩,hl⟩,h5⟩:=h;obtain⟨n2,_,_⟩:=Hi h9;obtain⟨s0,e,zf,rfl,m,rfl,s1⟩:=ML h5;have q:=S.es W T X _ _ v h5;rcases v.mkr c h7 with hb|⟨C,f,fd,G,k',o1,M,hb,hk,FI,hF,hG⟩
  .refine Ds (λA pI s Y H Q I ⟨hA,U,gd,p⟩=>?_) (λ_ _=>rfl) rfl rfl
   have p':AW (λH=>Z7 X.K CL H A) W H ((zn (ye Z U (.cons e zf))).bind λxs=>Z.F (900+c) xs) Q:=p
   cases e1:ye Z U (.cons e zf) with
   |bad=>rw[e1]at p';exact p'.elim
   |exn y=>rw[e1]at p';exact p'.elim
   |ok ds=>rw[e1]at p';have p2:AW (λH=>Z7 X.K CL H A) W H (Z.F (900+c) ds) Q:=p';rw[hb ds]at p2;exact p2.elim
  .obtain⟨C',o2,o3⟩:=v.os.at_ c h7;have:C'=C:=by rw[o1]at o2;exact(BD o2).symm
   subst this;subst hk;exact Ds (jN M o1 (v.os.oc c _ o1) FI v.room hb v.px hF hG (by unfold zi at h8;show X.env.scope.names.lookup g=_;rw[v.sc];exact eq_of_beq h8) (by rw[e6];exact o3) n2 q.1 (λU ds z=>by rw[KG Z U _ _ z,<-q.2.2.1,A8,hl]) (DS s0) (NU m xs zf s1 _)) (λ_ _=>rfl) rfl rfl
 |mkx c as=>exact absurd (show Ae=Ab from h) Ax
theorem zk:∀ n,wf Z CL k n
 |0=>eL
 |n+1=>⟨tL (zk n),tM (zk n),nN (zk n),nM (zk n),tJ (zk n),tH (zk n),tK (zk n)⟩
end
section
variable{Z:Z4}{CL:ClA}{W:XW}{k n:Ag}{T:Tc}{X:Cx}
theorem iW{t:Ag}(v:VX Z CL k W T X)(hf:∀ x,X.fn x=Ab)(h:qf T [t] [x]=Ab):PG X (.Name x pos) (G6 t):=by
 unfold qf at h;simp only[Am,AD]at h;exact MZ (by rw[v.N];exact v.nd) (by rw[v.N];exact h.1.1) (by rw[v.sc];exact M3 h.1.2) (.inl (hf x))
theorem Uc(v:VX Z CL k W T X)(hf:∀ x,X.fn x=Ab):∀(ys:Ac Aq)(ts:Ac Ag)(zs:Ac Ah),G0 ys=Aa zs->qf T ts zs=Ab->fz X ys (ts.foldr (λt u=>Lr (G6 t) u) Ly)/\ts.length=ys.length:=by
 intro ys
 induction ys with
 |nil=>
  intro ts zs e h;cases e;cases ts with
  |nil=>exact⟨gZ,rfl⟩
  |cons t ts=>cases h
 |cons y r ih=>
  intro ts zs e h;obtain⟨x,p,ws,rfl,e2,rfl⟩:=Sv e;cases ts with
  |nil=>cases h
  |cons t ts=>
   have h':(T.N[t]? == Aa x&&Lz T x&&qf T ts ws)=Ab:=h;simp only[Am,AD]at h';obtain⟨h1,h2⟩:=ih ts ws e2 h'.2;exact⟨fA (MZ (by rw[v.N];exact v.nd) (by rw[v.N];exact h'.1.1) (by rw[v.sc];exact M3 h'.1.2) (.inl (hf x))) h1 (by rw[Tg];rfl),congrArg (· + 1) h2⟩
theorem iV(v:VX Z CL k W T X)(hf:∀ x,X.fn x=Ab)(hn:(G0 ys).isSome=Ab)(h:qf T ts (nu ys)=Ab):PG X (.Tuple ys kk pos) (O7 X.K ts.length (ts.foldr (λt u=>Lr (G6 t) u) Ly)):=by
 cases e:G0 ys with
 |none=>rw[e]at hn;cases hn
 |some zs=>
  have e2:nu ys=zs:=by unfold nu;rw[e];rfl
  rw[e2]at h;obtain⟨h1,h2⟩:=Uc v hf ys ts zs e h;obtain⟨h3,h4,_⟩:=Su (env:=X.env) ys zs e;exact VN v.calm h1 (by rw[h3,h2]) h4
theorem oU(v:VX Z CL k W T X)(hf:∀ x,X.fn x=Ab)(hn:(G0 ys).isSome=Ab)(h:qf T ts (nu ys)=Ab):PG X (.Tuple ys kk pos) (gSq X.K ts.length (ts.foldr (λt u=>Lr (G6 t) u) Ly)):=by
 cases e:G0 ys with
 |none=>rw[e]at hn;cases hn
 |some zs=>
  have e2:nu ys=zs:=by unfold nu;rw[e];rfl
  rw[e2]at h;obtain⟨h1,h2⟩:=Uc v hf ys ts zs e h;obtain⟨h3,h4,_⟩:=Su (env:=X.env) ys zs e;exact tV v.calm h1 (by rw[h3,h2]) h4
theorem oQ{e:Aq}(h:(Wf e||CF 4 ys.length)=Ab):HG [.Tuple ys kk pos] e env=pure Af:=by
 cases e with
 |Tuple vs a b=>
  have h4:=AR (show CF 4 ys.length=Ab from h)
  have e2:(ys.length==2)=Ae:=by rw[Bg];omega
  have e3:(ys.length==3)=Ae:=by rw[Bg];omega
  unfold HG;dsimp only;rw[e2,e3];rfl
 |_=>rfl
theorem SH(ts:Ac Ag):∀ d U x,HK ts d U≠.exn x:=λd U x h=>by
 unfold HK at h;cases d with
 |H xs=>
  dsimp only at h;cases e:Hk ts xs U with
  |some r=>rw[e]at h;cases h
  |none=>rw[e]at h;cases h
 |_=>cases h
theorem cP(ts:Ac Ag):∀ d U x,Mh ts d U≠.exn x:=λd U x h=>by
 unfold Mh at h;split at h
 .split at h<;>cases h
 .exact SH ts _ U x h
theorem eE{elt:Aq}{gs:Ac JX}{pos':AF}{l:Ag}:∃ b,Dr (.ListComp elt gs scope pos) (Aa (.Name x pos')) l env=pure b/\(b=Ab->env.scope.names.lookup x=Aa .local):=by
 refine⟨_,rfl,λh=>?_⟩
 simp only[Am,AD]at h;exact h.1.1.2
theorem QH{p pos:AF}{v0:Aq}{i:Ag}{e:E}{fr:An}(v:VX Z CL k W T X)(hf:∀ x,X.fn x=Ab)(hi:T.N[i]?=Aa x)(hl:Lz T x=Ab)(o:vh Z CL W X v0 e)(xj:fr=Ab->Fv Z e=Ab):gc X CL W fr i (.Assign [.Name x p] v0 pos) (λU=>evE Z U e):=by
 have hN:X.N.Nodup:=by rw[v.N];exact v.nd
 have hi':X.N[i]?=Aa x:=by rw[v.N];exact hi
 have hx:pi X.env.scope x:=by rw[v.sc];exact M3 hl
 have sc:SC X CL W fr v0 (λU=>evE Z U e):=by
  cases fr with
  |false=>exact o.se.sc
  |true=>exact o.nw (xj rfl)
 cases hc:F9 v0 with
 |true=>exact SC.sas hN hi' hx sc (HN hc) (.inl (hf x))
 |false=>
  obtain⟨tg,iter,elt,ifs,scope,pos2,N',ts,fi,fc,fe,as,g,rfl,B,h2,tz,hg,ht,he,hs,ef⟩:=o.cp hc;obtain⟨b,hb,af⟩:=eE (elt:=elt) (gs:=[⟨tg,iter,ifs,0⟩]) (scope:=scope) (pos:=pos2) (pos':=p) (x:=x) (l:=pos.line) (env:=X.env);cases b with
  |false=>exact SC.sas hN hi' hx sc hb (.inl (hf x))
  |true=>
   have q:=eV (pos2:=pos) v.calm B h2 tz hg ht he hs hN hi' (af rfl) hb;have q':gc X CL W Ab i (.Assign [.Name x p] (.ListComp elt [⟨tg,iter,ifs,0⟩] scope pos2) pos) (λU=>evE Z U e):=by
    have:(λU=>evE Z U e)=_:=funext ef
    rw[this];exact q
   cases fr with
   |true=>exact q'
   | false=>exact λA=>PS.weak (q' A) λD Y H ⟨hA,U,gd,z⟩=>⟨hA,U,gd,by
     dsimp only at z ⊢;cases e0:evE Z U e with
     |ok d=>
      rw[e0]at z;exact λv' H' s' r'=>z v' H' s' ⟨r'.1,λ_=>r'.2 rfl⟩
     |exn y=>rw[e0]at z;exact z
     | bad=>rw[e0]at z;exact z⟩
theorem jF{e t:Aq}{l:Ag}(h:∀ x p,t≠.Name x p):J3 [t] e l env=pure Ae:=by
 show Dr e (Aa t) l env=pure Ae;cases e<;>first|rfl|(cases t<;>first|rfl|exact absurd rfl (h _ _))
theorem Te(U:Rho)(e:E)(h:∀ i,e≠.v i):yz Z U (.ret e)=O.of U (evE Z U e) λd=>.ret d (Fv Z e):=by
 have k:∀ b:An,b=Ae->top U e (evE Z U e)=evE Z U e->(O.of U (top U e (evE Z U e)) λd=>.ret d (Fv Z e||b))=O.of U (evE Z U e) λd=>.ret d (Fv Z e):=λb hb ht=>by
  rw[hb,ht];simp only[DQ]
 rw[U_7];cases e with
 |v i=>exact absurd rfl (h i)
 |_=>exact k _ rfl rfl
structure qh (X:Cx):Prop where
 fn:∀ x,X.fn x=Ab
 ex:X.ex=[]
 st:X.stack=X.env::X.outer
 fm:X.env.frame=Aa X.env.locals
structure ji (Z:Z4) (CL:ClA) (k:Ag) (n:Ag):Prop where
 s:∀(W:XW)(T:Tc)(X:Cx)(x:AL)(c:S),VX Z CL k W T X->qh X->Ja n T x c=Ab->SS X CL W x (λU=>yz Z U c)
 ss:∀(W:XW)(T:Tc)(X:Cx)(x:Ac AL)(c:Ss),VX Z CL k W T X->qh X->zU n T x c=Ab->vx X CL W x (λU=>U6 Z U c)
theorem VX.pw(v:VX Z CL k W T X)(own:FM (model X.prog X.w) X.A X.env Xw):VX Z CL k W0 T (Cx.pw X pI Xw):=⟨v.sc,v.kd,v.N,v.nd,v.calm,v.room,v.bl,v.os,v.mkr,v.fn,own,QL,RJ,v.xt,v.gl,v.ex⟩
theorem STB.congr{st:Ac AL}{f g:Rho->O}(h:STB X CL st f)(e:∀ U,g U=f U):STB X CL st g:=by
 have:g=f:=funext e;rw[this];exact h
theorem IP{i:Ag}{e:Ak}(v:VX Z CL k W T X)(h:w4 T x i=Ab):PE (Cx.hot X e) (.Name x pos) (Ci i):=by
 unfold w4 at h;simp only[Am,AD]at h;obtain⟨h2,h3,_⟩:=Hi h.2;exact Dx (by show X.N[i]?=_;rw[v.N];exact h.1.1) (by show í X.env.scope x;rw[v.sc];exact Uj h.1.2) h2 h3
theorem Q3{x:Ag}{t:Aq}{c:E}:∀{n:Ag},E3 n T x t c=Ab->∀ U r,top U c r=r:=λ{n} h=>by
 cases n with
 |zero=>exact Ty h
 |succ n=>
  cases c with
  |v i=>exact Ty h
  |_=>exact λ_ _=>rfl
theorem fF(v:VX Z CL k W T X)(e:Ak):∀(ts:Ac Aq)(ks:Ac Ki),RG T ts ks=Ab->∃ cs:Ac (Ag×Ak),ks=cs.map (λq=>Ki.cls q.1)/\cs.length=ts.length/\PA (Cx.hot X e) ts (WT (cs.map λq:Ag×Ak=>q.2))/\∀ q∈cs,M8 X.K CL Z.up q.1 q.2:=by
 intro ts
 induction ts with
 |nil=>
  intro ks h;obtain rfl:=G3 h;exact⟨[],rfl,rfl,Cb,λq hq=>nomatch hq⟩
 |cons t ts ih=>
  intro ks h;replace h:=Kk h;obtain⟨kk,ks,rfl,h⟩:=h;replace h:=EY h;obtain⟨t,p,rfl,h⟩:=h;replace h:=Bk h;obtain⟨h,h4⟩:=h;cases kk with
  |cls c=>
   replace h:(t5 T.exs t c&&zi T t&&FV t)=Ab:=h;simp only[Am]at h;obtain⟨⟨h1,h2⟩,h3⟩:=h;obtain⟨cs,e1,e2,e3,e4⟩:=ih ks h4;obtain⟨C,m1,m3,_⟩:=v.xt.ex _ (Lf h1);obtain⟨n2,_,_⟩:=Hi h3;refine⟨(c,C)::cs,by rw[e1];rfl,by rw[A8,A8,e2],?_,λq hq=>?_⟩
   .exact Bv (M0 (X:=Cx.hot X e) (v:=.ref C) (by unfold zi at h2;show X.env.scope.names.lookup t=_;rw[v.sc];exact eq_of_beq h2) m1 rfl n2) e3 rfl
   .rcases A6.mp hq with rfl|hq
    .exact m3
    .exact e4 q hq
  |_=>exact Ty h
theorem OR{e:Ak}{f:Aq->E->An}(ih:∀ t c,f t c=Ab->SE (Cx.hot X e) CL W0 t (λU=>evE Z U c)):∀(xs:Ac Aq)(es:Es),Nj f xs es=Ab->SA (Cx.hot X e) CL W0 xs (λU=>ye Z U es)/\xs.length=es.len
 |[],.nil,_=>⟨QI,rfl⟩
 |[],.cons _ _,h=>nomatch (show Ae=Ab from h)
 |_::_,.nil,h=>nomatch (show Ae=Ab from h)
 |x::xs,.cons c es,h=>by
  have h:(D0 x&&f x c&&Nj f xs es)=Ab:=h;simp only[Am]at h;obtain⟨⟨h1,h2⟩,h3⟩:=h;obtain⟨q,l⟩:=OR ih xs es h3;exact⟨Qk (ih x c h2) q (DS h1),by rw[A8,l];rfl⟩
theorem OT(v:VX Z CL k W T X)(e:Ak)(x:Ag):∀(n:Ag)(t:Aq)(c:E),E3 n T x t c=Ab->SE (Cx.hot X e) CL W0 t (λU=>evE Z U c):=by
 intro n
 induction n with
 |zero=>intro t c h;exact Ty h
 |succ n ih=>
  intro t c h;cases c with
  |bl b=>
   replace h:=Km h;obtain⟨k,u,p,rfl,h⟩:=h;obtain rfl:=AN h;exact OH
  |no a=>
   replace h:=M1 h;obtain⟨o,y,p,rfl,h⟩:=h;replace h:=Bk h;obtain⟨h0,h⟩:=h;obtain rfl:=AN h0;have q:=(ih _ _ h).st;refine SE.congr (Vc q) λU=>?_
   show ((top U a (evE Z U a)).bind λx=>(Dj x).bind λb=>R.ok (D.bl (!b)))=_
   rw[Q3 h]
  |and es=>
   cases es with
   |nil=>exact Ty h
   |cons a as=>
    cases as with
    |nil=>
     replace h:=L3 h;obtain⟨o,l,p,rfl,h⟩:=h;replace h:=Bk h;obtain⟨h0,h⟩:=h;obtain rfl:=AN h0;replace h:=Gv h;obtain⟨y,rfl,h⟩:=h;exact SE.congr (QS (ih _ _ h)) λU=>rfl
    |cons a' as=>
     replace h:=L3 h;obtain⟨o,l,p,rfl,h⟩:=h;replace h:=Bk h;obtain⟨h0,h⟩:=h;obtain rfl:=AN h0;replace h:=Kk h;obtain⟨y,l,rfl,h⟩:=h;replace h:=Kk h;obtain⟨z,zs,rfl,h⟩:=h;exact SE.congr (Vh (ih _ _ (Bk h).1) (ih _ _ (Bk h).2)) λU=>rfl
  |isi a ks=>
   replace h:=MQ h;obtain⟨i,rfl,h⟩:=h;replace h:=lK h;obtain⟨g,pp,w,pq,u,pr,rfl,h⟩:=h;simp only[Am,AD]at h;obtain⟨⟨⟨⟨rfl,rfl⟩,h3⟩,h4⟩,h⟩:=h;obtain⟨g1,g2,_,_⟩:=Hn v h3;replace h:=Kk h;obtain⟨kk,ks,rfl,h⟩:=h;cases kk with
   |verr=>
    replace h:=Bk h;obtain⟨h0,h⟩:=h;obtain rfl:=G3 h0;replace h:=EY h;obtain⟨t,pt,rfl,h⟩:=h;simp only[Am,AD]at h;obtain⟨h5,h6⟩:=h;obtain⟨b1,b2,_,_⟩:=Hn v h6;rw[h5]at b1 b2 ⊢;exact Vd (X:=Cx.hot X e) v.xt.xc g1 g2 b1 b2 (HJ (IP v h4)) rfl
   |cls c=>
    cases ks with
    |nil=>
     replace h:=EY h;obtain⟨t,pt,rfl,h⟩:=h;simp only[Am]at h;obtain⟨⟨h5,h6⟩,h7⟩:=h;obtain⟨C,m1,m3,_⟩:=v.xt.ex _ (Lf h5);obtain⟨n2,_,_⟩:=Hi h7;exact Ve (X:=Cx.hot X e) v.xt.xc g1 g2 (by unfold zi at h6;show X.env.scope.names.lookup _=_;rw[v.sc];exact eq_of_beq h6) m1 m3 n2 (HJ (IP v h4)) rfl
    |cons k2 ks=>
     replace h:=MR h;obtain⟨ts,z1,z2,rfl,h⟩:=h;replace h:=Bk h;obtain⟨h5,h6⟩:=h;obtain⟨cs,e1,e2,e3,e4⟩:=fF v e _ _ h5;have wu:cs≠[]:=by rintro rfl;cases e1
     rw[e1];exact oA (X:=Cx.hot X e) (W:=W0) (up:=Z.up) v.xt.xc g1 g2 e3 wu (by rw[e2];exact AN h6) e4 (HJ (IP v h4)) rfl
   |_=>exact Ty h
  |x a b=>
   replace h:(match am (.x a b),ao t with|some (j,i),Aa (z,y)=>w4 T z j&&w4 T y i|_,_=>Ae)=Ab:=h
   cases h1:am (.x a b) with
   |none=>rw[h1]at h;exact Ty h
   |some q1=>
    cases h2:ao t with
    |none=>rw[h1,h2]at h;exact Ty h
    |some q2=>
     rw[h1,h2]at h;obtain⟨h3,h4⟩:=Bk h;obtain⟨p0,p1,p2,k1,p3,p4,p5,e1,hl⟩:=rY h2;rw[e1,rZ h1];refine SE.congr (Vf (X:=Cx.hot X e) (λ_ _=>rfl) (HJ (IP v h3)) (eO (X:=Cx.hot X e) v.room.units (HJ (IP v h4)) OH.st (λU e z=>nomatch z) rfl rfl hl rfl).st) λU=>?_
     simp only[N2,KM,xx,R.bind_assoc,R.bind_ok,Vk,V0,Ob,Ir]
     congr 1;funext x;congr 1;funext y
     cases y<;>rfl
  |call f as=>
   cases as with
   |nil=>exact Ty h
   |cons a as=>
    cases as with
    |cons=>exact Ty h
    |nil=>
    replace h:=MQ h;obtain⟨i,rfl,h⟩:=h;replace h:=Kn h;obtain⟨g,p0,l,p2,rfl,h⟩:=h;replace h:=Gv h;obtain⟨w,rfl,h⟩:=h;replace h:=EY h;obtain⟨w0,p1,rfl,h⟩:=h;replace h:=Bk h;obtain⟨h1,h4⟩:=h;unfold W5 at h1;simp only[Am,ER,AD]at h1;obtain⟨⟨⟨p,hp,⟨rfl,rfl⟩,hl⟩,g1⟩,g2⟩:=h1;obtain⟨fa,fd,ps,m1,m2,m3,m4,_,m5⟩:=v.fn p hp;have m5:=m5 (by omega)
    obtain⟨n2,_,_⟩:=Hi g2;replace m1:=Qd m1 (Uv g2);have hv:=IP (e:=e) (pos:=p1) v h4;have a1:SA (Cx.hot X e) CL W0 [.Name w0 p1] (λU=>ye Z U (.cons (.v i) .nil)):=Qk (Va hv) QI rfl
    have a2:uk (Cx.hot X e) CL W0 [.Name w0 p1] (λU=>xx Z U (.cons (.v i) .nil)):=T4 (HJ hv) Uz rfl
    exact(eQ (X:=X) (ev:=e) (sh:=λU=>JJ U (.cons (.v i) .nil)) m5 v.room (by unfold zi at g1;show X.env.scope.names.lookup p.1=_;rw[v.sc];exact eq_of_beq g1) m1 m2 m3 a1 a2 (λU z=>QX Z U _ z) (λU ds z=>by rw[Qx Z U _ _ z,hl];rfl) n2 rfl (λ_=>rfl)).se
  |str s=>
   replace h:=Km h;obtain⟨k,u,p,rfl,h⟩:=h;obtain rfl:=AN h;exact M9
  |L es=>
   replace h:=P9 h;obtain⟨xs,p,rfl,h⟩:=h;simp only[Am,AG]at h;obtain⟨q,ql⟩:=OR (ih) _ _ h.1;exact(QP q λU ds z=>by rw[KG Z U _ _ z,<-ql];omega).se
  |H es=>
   replace h:=MR h;obtain⟨xs,cc,p,rfl,h⟩:=h;simp only[Am,AG]at h;obtain⟨q,ql⟩:=OR (ih) _ _ h.1;exact Vb q λU ds z=>by rw[KG Z U _ _ z,<-ql];omega
  |B op a b=>
   replace h:=Bk h;obtain⟨h0,h⟩:=h;obtain rfl:=AN h0;replace h:=MQ h;obtain⟨i,rfl,h⟩:=h;replace h:=TH h;obtain⟨l,o,y,p,rfl,h⟩:=h;replace h:=Bk h;obtain⟨h0,h⟩:=h;obtain rfl:=AN h0;replace h:=EY h;obtain⟨w,pw,rfl,h⟩:=h;replace h:=Bk h;obtain⟨h1,h2⟩:=h;refine SE.congr (QU (Qp .Add) (HJ (IP v h1)) (ih _ _ h2).st) λU=>?_
   show ((CT U i).bind λx=>(top U b (evE Z U b)).bind λy=>Dc .Add x y)=_
   rw[Q3 h2]
  |fld o f=>
   replace h:=MQ h;obtain⟨i,rfl,h⟩:=h;replace h:=K9 h;obtain⟨w,g,p,rfl,h⟩:=h;replace h:=EY h;obtain⟨w,pw,rfl,h⟩:=h;simp only[Am,AD]at h;obtain⟨⟨⟨rfl,rfl⟩,h3⟩,h4⟩:=h;exact UQ (X:=Cx.hot X e) v.xt.xc (λc C z=>v.xt.nf c C z _ h3) (HJ (IP v h4)) rfl
  |_=>exact Ty h
theorem Rn(v:VX Z CL k W T X)(e:Ak)(x n:Ag)(y:Aq)(c:E)(h:Mg n T x y c=Ab):SB (Cx.hot X e) CL W0 y (λU=>(top U c (evE Z U c)).bind Bq):=by
 have one:∀{y:Aq}{c:E},(Io y&&E3 n T x y c)=Ab->SB (Cx.hot X e) CL W0 y (λU=>(top U c (evE Z U c)).bind Bq):=λ{y c} h=>by
  rw[Am]at h;exact SB.congr (QW ((OT v e x n y c h.2).st) (Qi h.1)) λU=>by rw[Q3 h.2]
 replace h:(hc1 T y c||(IY y λo z=>decide (o=.Not)&&(LB c λa=>Io z&&E3 n T x z a))||(Io y&&E3 n T x y c))=Ab:=h
 rw[Bool.or_assoc]at h;replace h:=vo h;rcases h with h|h
 .unfold hc1 at h;cases h1:Ã c with
  |none=>rw[h1]at h;exact Ty h
  |some q1=>
   cases h2:gy y with
   |none=>rw[h1,h2]at h;exact Ty h
   |some q2=>
    rw[h1,h2]at h;obtain⟨h3,h4⟩:=Bk h;have h4:q1.2=q2.2:=AN h4;obtain⟨p1,p2,k1,p3,p4,k2,p5,p6,e1,hl⟩:=sD h2;rw[e1,sE h1,h4];refine SB.congr (VI (X:=Cx.hot X e) (IM (show (Cx.hot X e).A.units+64<Bx from v.room.units) .NotEq) (bZ (X:=Cx.hot X e) v.room.units (HJ (IP v h3)) OH rfl rfl hl rfl).st QT.st rfl) λU=>?_
    simp only[KD,KM,xx,R.bind_assoc,R.bind_ok,Vk,V0,Ob,Qh,Qw,Ir,N4]
    congr 1;funext x;congr 1;funext y
    have:∀ u v:D,(BS .NotEq u v).bind Bq=(BS .NotEq u v).bind Dj:=λu v=>by
     show (if (Y8 5 u&&Y8 5 v)=Ab then R.ok (D.bl (!Tm u v)) else .bad).bind Bq=(if (Y8 5 u&&Y8 5 v)=Ab then R.ok (D.bl (!Tm u v)) else .bad).bind Dj
     split<;>rfl
    exact this _ _
 replace h:((IY y λo z=>decide (o=.Not)&&(LB c λa=>Io z&&E3 n T x z a))||(Io y&&E3 n T x y c))=Ab:=h
 replace h:=vo h;rcases h with h|h
 .replace h:=M1 h;obtain⟨o,z,p,rfl,h⟩:=h;replace h:=Bk h;obtain⟨h0,h⟩:=h;obtain rfl:=AN h0;replace h:=UH h;obtain⟨a,rfl,h⟩:=h
  .skip
   refine SB.ref (VH (one h)) λU=>?_
   show (((top U a (evE Z U a)).bind λx=>(Dj x).bind λb=>R.ok (D.bl (!b))).bind Bq)=.bad\/(((top U a (evE Z U a)).bind λx=>(Dj x).bind λb=>R.ok (D.bl (!b))).bind Bq)=((top U a (evE Z U a)).bind Bq).bind λb=>.ok (!b)
   cases top U a (evE Z U a) with
   |ok d=>cases d<;>first|exact .inl rfl|exact .inr rfl
   |exn y=>exact .inr rfl
   |bad=>exact .inl rfl
 .exact one h
theorem sF(v:VX Z CL k W T X)(e:Ak)(x n:Ag)(pos:AF):∀(ys:Ac Aq)(es:Es),JD n T x ys es=Ab->ys≠[]->SW (Cx.hot X e) CL W0 (.BoolOp .Or ys pos) (λU=>(evO Z U es).bind Bq):=by
 intro ys
 induction ys with
 |nil=>intro es _ h;exact absurd rfl h
 |cons y ys ih=>
  intro es h _;cases es with
  |nil=>exact Ty h
  |cons c es=>
   replace h:(Mg n T x y c&&JD n T x ys es)=Ab:=h;simp only[Am]at h;obtain⟨h1,h3⟩:=h;have he:=Rn v e x n y c h1;cases ys with
   |nil=>
    cases es with
    |nil=>exact SW.ref (Vp he) (Rf.tru c)
    |cons=>exact absurd (show Ae=Ab from h3) Ax
   |cons z zs=>
    cases es with
    |nil=>exact absurd (show Ae=Ab from h3) Ax
    |cons c' zf=>exact SW.ref (Wc he (ih (.cons c' zf) h3 (by simp))) (Vv c c' zf)
theorem sG(v:VX Z CL k W T X)(e:Ak)(x n:Ag)(pos:AF):∀(ys:Ac Aq)(es:Es),JD n T x ys es=Ab->ys≠[]->SW (Cx.hot X e) CL W0 (.BoolOp .And ys pos) (λU=>(evN Z U es).bind Bq):=by
 intro ys
 induction ys with
 |nil=>intro es _ h;exact absurd rfl h
 |cons y ys ih=>
  intro es h _;cases es with
  |nil=>exact Ty h
  |cons c es=>
   replace h:(Mg n T x y c&&JD n T x ys es)=Ab:=h;simp only[Am]at h;obtain⟨h1,h3⟩:=h;have he:=Rn v e x n y c h1;cases ys with
   |nil=>
    cases es with
    |nil=>exact SW.ref (Ue he) (Rf.tru c)
    |cons=>exact absurd (show Ae=Ab from h3) Ax
   |cons z zs=>
    cases es with
    |nil=>exact absurd (show Ae=Ab from h3) Ax
    |cons c' zf=>exact SW.ref (Vr he (ih (.cons c' zf) h3 (by simp))) (Vw c c' zf)
theorem wK(v:VX Z CL k W T X)(e:Ak)(x n:Ag)(t:Aq)(c:E)(h:Wr n T x t c=Ab):SB (Cx.hot X e) CL W0 t (λU=>(top U c (evE Z U c)).bind Bq):=by
 replace h:((IU t λo ys _=>(decide (o=.Or)&&(Mo c λes=>JD n T x ys es && !ys.isEmpty))||(decide (o=.And)&&(Mn c λes=>JD n T x ys es && !ys.isEmpty)))||Mg n T x t c)=Ab:=h
 replace h:=vo h;rcases h with h|h
 .replace h:=L3 h;obtain⟨o,ys,p,rfl,h⟩:=h;replace h:=vo h;rcases h with h|h
  .replace h:=Bk h;obtain⟨h0,h⟩:=h;obtain rfl:=AN h0;replace h:=UG h;obtain⟨es,rfl,h⟩:=h;simp only[Am,Bf,CN]at h;exact(sF v e x n _ _ _ h.1 h.2).sb
  .replace h:=Bk h;obtain⟨h0,h⟩:=h;obtain rfl:=AN h0;replace h:=TL h;obtain⟨es,rfl,h⟩:=h;simp only[Am,Bf,CN]at h;exact(sG v e x n _ _ _ h.1 h.2).sb
 .exact Rn v e x n _ c h
theorem OQ(v:VX Z CL k W T X)(hf:qh X)(e:Ak)(x:Ag):∀(n:Ag)(vw:Ac AL)(ss:Ss),Lu n T x vw ss=Ab->vx (Cx.hot X e) CL W0 vw (λU=>U6 Z U ss):=by
 intro n
 induction n with
 |zero=>intro t c h;exact Ty h
 |succ n ih=>
  intro vw ja h;cases ja with
  |nil=>
   obtain rfl:=G3 h;exact Qj
  |cons s ja=>
   replace h:=Kk h;obtain⟨st,r,rfl,h⟩:=h;replace h:=Bk h;obtain⟨h,h5⟩:=h;cases s with
   |asg i b e0=>
    replace h:=TJ h;obtain⟨y,py,v0,pos,rfl,h⟩:=h;simp only[Am,AD]at h;obtain⟨⟨⟨⟨h1,h2⟩,h3⟩,h4⟩,h6⟩:=h;cases b with
    |true=>
     cases e0 with
     |L es=>
      have sc:SC (Cx.hot X e) CL W0 Ab v0 (λU=>evE Z U (.L es)):=by
       cases n with
       |zero=>exact absurd (show Ae=Ab from h4) Ax
       |succ n=>
        replace h4:=P9 h4;obtain⟨l,pl,rfl,h4⟩:=h4;obtain⟨q,ql⟩:=OR (OT v e x n) _ _ (Bk h4).1;have hle:=AN (Bk h4).2;exact QP q λU ds z=>by rw[KG Z U _ _ z,<-ql];omega
      have q:=LZ (UL (SC.sas (X:=Cx.hot X e) (pos:=pos) (pos':=py) (by show X.N.Nodup;rw[v.N];exact v.nd) (by show X.N[i]?=_;rw[v.N];exact h1) (by show pi X.env.scope _;rw[v.sc];exact M3 h2) sc (HN h3) (.inl (hf.fn _)))) (ih _ _ h5)
      have ef:(λU=>U6 Z U (.cons (.asg i Ab (.L es)) ja))=λU=>(O.of U (evE Z U (.L es)) λd=>setF U i d).seq λU=>U6 Z U ja:=by
       funext U
       show (yz Z U (.asg i Ab (.L es))).seq _=_;rw[dB];rfl
      rw[ef];exact q
     |_=>exact absurd (show Ae=Ab from h6) Ax
    |false=>
    exact LZ (nO (X:=Cx.hot X e) (by show X.N.Nodup;rw[v.N];exact v.nd) (by show X.N[_]?=_;rw[v.N];exact h1) (by show pi X.env.scope _;rw[v.sc];exact M3 h2) (OT v e x n _ _ h4) (HN h3) (.inl (hf.fn _))) (ih _ _ h5)
   |ife c a b=>
    cases b with
    |cons=>exact Ty h
    |nil=>
    replace h:=UI h;obtain⟨t,xs,ys,pos,rfl,h⟩:=h;replace h:=Bk h;obtain⟨h0,h⟩:=h;obtain rfl:=G3 h0;replace h:=Bk h;obtain⟨h1,h2⟩:=h;exact LZ (V5 (X:=Cx.hot X e) (wK v e x n _ _ h1) (ih _ _ h2) Qj) (ih _ _ h5)
   |ret e0=>
    replace h:=Ua h;obtain⟨o,pos,rfl,h⟩:=h;cases o with
    |none=>exact Ty h
    |some v0=>
    replace h:((KQ e0 λi=>Er v0 λy=>w4 T y i)||(W1 e0&&E3 n T x v0 e0))=Ab:=h
    replace h:=vo h;rcases h with h|h
    .replace h:=MQ h;obtain⟨i,rfl,h⟩:=h;replace h:=EY h;obtain⟨y,py,rfl,h⟩:=h;exact LZ (UJ (X:=Cx.hot X e) (pos:=pos) (IP v h)) (ih _ _ h5)
    replace h:=Bk h;obtain⟨h0,h1⟩:=h;have q:=LZ (UK (X:=Cx.hot X e) (pos:=pos) (OT v e x n _ _ h1)) (ih _ _ h5);have ef:(λU=>U6 Z U (.cons (.ret e0) ja))=λU=>(O.of U (evE Z U e0) λd=>O.ret d Ae).seq λU=>U6 Z U ja:=by
     funext U
     cases e0<;>first|rfl|(cases h0;done)
    rw[ef];exact q
   |app i e0=>exact absurd (show Ae=Ab from h) Ax
   |_=>exact Ty h
theorem Q4{g:Ah}{c:Ag}(v:VX Z CL k W T X)(h:ah T g c=Ab):Ph X CL Z.up g c:=by
 unfold ah at h;simp only[Am]at h;obtain⟨⟨⟨i1,i0⟩,i2⟩,i3⟩:=h;obtain⟨C,m1,m3,m4⟩:=v.xt.ex _ (Lf i1);obtain⟨C0,r1,r2⟩:=v.xt.rz _ (Lf i0);obtain⟨n2,_,_⟩:=Hi i3;refine⟨C,by unfold zi at i2;show X.env.scope.names.lookup g=_;rw[v.sc];exact eq_of_beq i2,m1,n2,?_,λc' D hD=>m4 c' D hD⟩
 have e0:=m1.symm.trans r2;cases e0;exact v.xt.xc _ _ r1
theorem tI(Z_:ji Z CL k n)(W:XW)(T:Tc)(X:Cx)(st:AL)(c:S)(v:VX Z CL k W T X)(hf:qh X)(h:Ja (n+1) T st c=Ab):SS X CL W st (λU=>yz Z U c):=by
  have E:=zk (Z:=Z) (CL:=CL) (k:=k) n;cases c with
  |pass=>exact absurd (show Ae=Ab from h) Ax
  |brk=>exact absurd (show Ae=Ab from h) Ax
  |cont=>exact absurd (show Ae=Ab from h) Ax
  |asg i fresh e=>
    replace h:=TJ h;obtain⟨x,px,v0,pos,rfl,h⟩:=h;simp only[Am,AD]at h;obtain⟨⟨h1,h2⟩,h3⟩:=h;have o:=E.e W T X _ e v h3;cases fresh with
    |false=>exact U_9 (QH (fr:=Ae) v hf.fn h1 h2 o (λz=>nomatch z))
    |true=>
      cases hn:Fv Z e with
      |true=>
        refine SS.ref (UL (QH (fr:=Ab) v hf.fn h1 h2 o (λ_=>hn))) λU=>.inr ?_
        show O.of U (evE Z U e) (λd=>if Ab=Ab then (if Fv Z e=Ab then (match d with
          |.L xs=>.next (U.set i (Aa (.L xs,Ab)))
          |.dic xs=>.next (U.set i (Aa (.dic xs,Ab)))
          | _=>.bad) else .bad) else .next (U.set i (Aa (d,Ae))))=_
        rw[hn];rfl
      |false=>
        refine SS.ref (U_9 (QH (fr:=Ae) v hf.fn h1 h2 o (λz=>nomatch z))) λU=>?_
        have e0:yz Z U (.asg i Ab e)=O.of U (evE Z U e) (λd=>if Ab=Ab then (if Fv Z e=Ab then (match d with
          |.L xs=>.next (U.set i (Aa (.L xs,Ab)))
          |.dic xs=>.next (U.set i (Aa (.dic xs,Ab)))
          | _=>.bad) else .bad) else .next (U.set i (Aa (d,Ae)))):=rfl
        rw[e0,hn];cases evE Z U e with
        |ok d=>exact .inl rfl
        |exn y=>exact .inr rfl
        |bad=>exact .inl rfl
  |asgT ts e=>
    replace h:=TK h;obtain⟨t,v0,pos,rfl,h⟩:=h;replace h:=MR h;obtain⟨ys,cc,pw,rfl,h⟩:=h;simp only[Am]at h;obtain⟨⟨⟨h1,h2⟩,h3⟩,h5⟩:=h;exact jD (wL ts) (oU v hf.fn h1 h2) (E.e W T X _ e v h5).se (jF (λ_ _ z=>by cases z)) (oQ h3) rfl (cP ts)
  |expr e=>
    replace h:=TD h;obtain⟨v0,pos,rfl,h⟩:=h;simp only[Am]at h;exact jC (E.e W T X _ e v h.2).se (HN h.1)
  |ret e=>
    replace h:=Ua h;obtain⟨o,pos,rfl,h⟩:=h;cases o with
    |none=>exact Ty h
    |some v0=>
    replace h:Be n T v0 e=Ab:=h;have o:=E.e W T X _ e v h;cases hv:Fv Z e with
    |true=>
      refine SS.ref (jB (o.nw hv)) λU=>.inr ?_
      rw[Te U e (λi z=>by subst z;cases hv),hv]
    |false=>
      cases e with
      |v i=>
        cases n with
        |zero=>exact Ty h
        |succ n=>
          replace h:=EY h;obtain⟨y,py,rfl,h⟩:=h;exact UJ (Mb v h)
      |_=>
        refine SS.ref (UK o.se) λU=>.inr ?_
        rw[Te U _ (by intro i z;cases z),hv]
  |retN=>exact absurd (show Ae=Ab from h) Ax
  |ife c a b=>
    replace h:=UI h;obtain⟨t,xs,ys,pos,rfl,h⟩:=h;simp only[Am]at h;exact V5 (E.b W T X _ c v h.1.1) (Z_.ss W T X _ a v hf h.1.2) (Z_.ss W T X _ b v hf h.2)
  |fors t it body=>
    replace h:=Ub h;obtain⟨tg,it',xs,ys,pos,rfl,h⟩:=h;replace h:=Bk h;obtain⟨hn,h⟩:=h;obtain rfl:=G3 hn;replace h:=EY h;obtain⟨y,py,rfl,h⟩:=h;simp only[Am]at h;obtain⟨⟨⟨h1,h2⟩,h3⟩,h4⟩:=h;exact U_8 v.own v.calm (kT t) (iW v hf.fn h1) (E.i W T X Ae _ _ it v rfl h3) (Z_.ss W T X _ body v hf h4) (QR h2) (λ_ _ _ z=>nomatch z)
  |forT ts it body=>
    replace h:=Ub h;obtain⟨tg,it',xs,zs,pos,rfl,h⟩:=h;replace h:=Bk h;obtain⟨hn,h⟩:=h;obtain rfl:=G3 hn;replace h:=MR h;obtain⟨ys,cc,py,rfl,h⟩:=h;simp only[Am]at h;obtain⟨⟨⟨⟨h0,h1⟩,h2⟩,h3⟩,h4⟩:=h;exact U_8 v.own v.calm (VW ts) (iV v hf.fn h0 h1) (E.i W T X Ab _ _ it v rfl h3) (Z_.ss W T X _ body v hf h4) (QR h2) (SH ts)
  |forO i ts body=>exact absurd (show Ae=Ab from h) Ax
  |whl c body=>exact absurd (show Ae=Ab from h) Ax
  |rais c as=>
    replace h:(!(T.rzs.any λp=>p.2==c)||(Os st λa b=>b.isNone&&(match a with|some e=>L9 e λg x xs=>t5 T.rzs g c&&zi T g&&FV g&&decide (xs.length<=1000)&&Cl n T (x::xs) as|none=>Ae)))=Ab:=h
    cases hc:T.rzs.any (λp=>p.2==c) with
    |false=>
      have hb:∀ ds,Z.xn c ds=.bad:=v.xt.xb c λp hp z=>by
        have:T.rzs.any (λp=>p.2==c)=Ab:=List.any_eq_true.mpr ⟨p,hp,AD.mpr z⟩
        rw[hc]at this;cases this
      intro Fz B pI s Y H D I ⟨U,x,p⟩;have p':B5 X.K CL Fz B W (O.of U (zn (ye Z U as)) λxs=>O.of U (Z.xn c xs) λx=>.exn x U) D:=p
      cases e1:ye Z U as with
      |bad=>rw[e1]at p';exact p'.elim
      |exn y=>rw[e1]at p';exact p'.elim
      |ok ds=>
        rw[e1]at p';have p2:B5 X.K CL Fz B W (O.of U (Z.xn c ds) λx=>.exn x U) D:=p'
        rw[hb ds]at p2;exact p2.elim
    |true=>
      rw[hc,Bool.not_true,Bool.false_or]at h;replace h:=dR h;obtain⟨ea,eb,pos,rfl,h⟩:=h;replace h:=Bk h;obtain⟨h0,h⟩:=h;obtain rfl:=DX.mp h0;cases ea with
      |none=>exact Ty h
      |some e0=>
        replace h:=NP h;obtain⟨g,np,x,xs,cpos,rfl,h⟩:=h;simp only[Am,AG]at h;obtain⟨⟨⟨⟨h1,h2⟩,h3⟩,h4⟩,h5⟩:=h;obtain⟨C,m1,m2⟩:=v.xt.rz _ (Lf h1);obtain⟨n2,_,_⟩:=Hi h3;obtain⟨s0,e,zf,rfl,m,rfl,s1⟩:=ML h5;have q:=E.es W T X _ _ v h5;exact bW v.calm hf.ex v.room v.rz (by unfold zi at h2;show X.env.scope.names.lookup g=_;rw[v.sc];exact eq_of_beq h2) m2 n2 m1 q.1 (λds=>v.xt.made c C ds m1) (DS s0) (NU m xs zf s1) (λU ds z=>by rw[KG Z U _ _ z,<-q.2.2.1,A8];omega)
  |app i e=>
    replace h:=dS h;obtain⟨x,px,m,ap,l,cp,pos,rfl,h2,h⟩:=h;replace h:=Gv h;obtain⟨v0,rfl,h⟩:=h;simp only[Am,AD]at h;obtain⟨⟨⟨rfl,h1⟩,h3⟩,h4⟩:=h;exact nP (Mb v h1) (E.e W T X _ e v h4).se rfl (by rw[DS h3];rfl) (by rw[h2];exact BE _) (DS h3) rfl
  |ext i e=>exact absurd (show Ae=Ab from h) Ax
  |rev i=>exact absurd (show Ae=Ab from h) Ax
  |clr i=>exact absurd (show Ae=Ab from h) Ax
  |put i k e=>exact absurd (show Ae=Ab from h) Ax
  |tryx body c x hh=>exact absurd (show Ae=Ab from h) Ax
  |try2 body c x hd c' mv els=>exact absurd (show Ae=Ab from h) Ax
  |swp i k l=>exact absurd (show Ae=Ab from h) Ax
  |apop j i e=>exact absurd (show Ae=Ab from h) Ax
  |ins i k e=>exact absurd (show Ae=Ab from h) Ax
  |dput=>exact Ty h
  |dsd=>exact Ty h
  |rel=>exact Ty h
theorem fJ{c:Ss}(h:Pb c=Ab)(U:Rho):U6 Z U c=.bad:=by
 cases c with
 |nil=>cases h
 |cons s ss=>
  cases s with
  |expr e=>
   cases e with
   |bi b as=>
    cases as with
    |nil=>
     cases b with
     |len=>rfl
     |_=>exact Ty h
    |cons=>cases b<;>exact Ty h
   |_=>exact Ty h
  |_=>exact Ty h
theorem nL(Z_:ji Z CL k n)(W:XW)(T:Tc)(X:Cx)(xs:Ac AL)(c:Ss)(v:VX Z CL k W T X)(hf:qh X)(h:zU (n+1) T xs c=Ab):vx X CL W xs (λU=>U6 Z U c):=by
 by_cases hb:Pb c=Ab
 .exact λFz B pI s Y H D I ⟨U,x,p⟩=>by
   dsimp only at p;rw[fJ hb]at p;exact p.elim
 have hb:Pb c=Ae:=by simpa using hb
 cases c with
 |nil=>
  simp only[zU,hb,DQ,List.isEmpty_iff]at h;subst h;exact Qj
 |cons s ss=>
  by_cases hr:∃ i,s=.rel i
  .obtain⟨i,rfl⟩:=hr;simp only[zU,hb,DQ]at h;exact jA i (Z_.ss W T X xs ss v hf h)
  .cases xs with
   |nil=>cases s<;>first|(simp[zU,hb]at h;done)|exact absurd ⟨_,rfl⟩ hr
   |cons st r=>
    have h':Ja n T st s=Ab/\zU n T r ss=Ab:=by
     cases s<;>first|(simp only[zU,hb,DQ,Am]at h;exact h)|exact absurd ⟨_,rfl⟩ hr
    exact LZ (Z_.s W T X st s v hf h'.1) (Z_.ss W T X r ss v hf h'.2)
theorem Je:∀ n,ji Z CL k n
 |0=>⟨λ_ _ _ _ _ _ _ h=>Ty h,λ_ _ _ _ _ _ _ h=>Ty h⟩
 |n+1=>⟨tI (Je n),nL (Je n)⟩
end
theorem LV{n:Ag}{ds:Ac D}{i:Ag}{d:D}{o:An}(h:(Bw n ds)[i]?=Aa (Aa (d,o))):o=Ae/\ds[i]?=Aa d:=by
 unfold Bw at h;by_cases hi:i<ds.length
 .rw[Fw (by simpa using hi),Ez]at h
  cases e:ds[i]? with
  |none=>rw[e]at h;cases h
  |some x=>rw[e]at h;cases h;exact⟨rfl,rfl⟩
 .rw[X3 (by simpa using Nat.le_of_not_lt hi),X4]at h
  split at h<;>cases h
theorem bV{N:Ac Ah}{vs:Ac V}{i:Ag}{v:V}(h:vs[i]?=Aa v):(L2.start N vs)[i]?=Aa (Aa v):=by
 unfold L2.start;have hi:=(A5.mp h).1;rw[Fw (by simpa using hi),Ez,h]
 rfl
theorem TZ{N:Ac Ah}{n:Ag}{vs:Ac V}{ds:Ac D}(hn:N.length=n)(hA:My H A)(r:Z9 K CL H A vs ds):Sx K CL ⟨λb o=>H b=Aa o,λ_ _ _=>AM⟩ A (Bw n ds) (L2.start N vs) H:=by
 have own:∀ a,BN A (Bw n ds) (L2.start N vs) a->A a:=λa h=>by
  rcases h with h|⟨j,d,h,_⟩
  .exact h
  .exact absurd (LV h).1 (by decide)
 have U8:(Bw n ds).length=(L2.start N vs).length:=by
  unfold Bw L2.start;simp only[BW,Bc,Yb,r.length,hn]
 refine⟨⟨λi d h=>?_,λi d h _=>absurd (LV h).1 (by decide),U8⟩,λa h=>hA a (own a h),λj d a h _=>absurd (LV h).1 (by decide),λi j d e a h _ _ _=>absurd (LV h).1 (by decide),λb o h=>h,U8,λj h=>absurd (LV h).1 (by decide)⟩
 obtain⟨v,h1,h2⟩:=r.get (LV h).2;exact⟨v,bV h1,Z7.sub own _ h2⟩
structure zc (K:Fg) (x qual:Ah) (st:AL) (f:Ak) (fd:Bi):Prop where
 ex:∃(oc:Al)(od:Ao Ak)(dV kV doc pm:Al)(an:Ao Ak)(cdv ct:Al)(osl:Bl (Ao Al)),
  fd=B4 x qual (Hj st) (Di st) (AH st) dV kV doc pm an cdv ct/\K.lookup f=Aa ⟨oc,od,.func fd,osl⟩/\DE K cdv qual=Ab
 kp:Ba K (.ref f)=Ab
theorem Hq{st:AL}{f:Ak}(F:qi K x qual st f fd):zc K x qual st f fd:=by
 obtain⟨oc,od,kV,doc,pm,an,cdv,ct,osl,e,lk,zu⟩:=F.ex;exact⟨⟨oc,od,.none,kV,doc,pm,an,cdv,ct,osl,e,lk,zu⟩,F.kp⟩
def KU(K:Fg)(mg:Ah->Ao Al)(fns:Ac (Ah×Ag×Ag))(bl:Ac Ah)(rzs exs gls:Ac (Ah×Ag))(Pg:Prg)(fuel:Ag)(p:Ah×Ag×Ag):Prop:=∃ f fd ps qual st N,IV K mg p.1=Aa (.ref f)/\(∃ x,zc K x qual st f fd)/\CW K fd ps []/\ps.length=p.2.2%1000/\GC fuel (CF 1000 p.2.2) fns bl rzs exs gls ps N st (Pg.defs p.2.1)=Ab
noncomputable def Q7:AL->Ao (Aq×Aq×AF)
  | .Assign ts v p=>(match ts with
    |[t]=>Aa (t,v,p)
    | _=>Af)
  |_=>Af
theorem TV{e:AL}{t:Aq×Aq×AF}(h:Q7 e=Aa t):e=.Assign [t.1] t.2.1 t.2.2:=by
 cases e with
 |Assign ts v p=>
  cases ts with
  |nil=>exact nomatch (show Af=Aa t from h)
  |cons a ts=>
   cases ts with
   |nil=>cases h;rfl
   |cons=>exact nomatch (show Af=Aa t from h)
 |_=>exact nomatch (show Af=Aa t from h)
noncomputable def Q9:Aq->Ao (Aq×Ah×AF)
 |.Attribute e x p=>Aa (e,x,p)
 |_=>Af
theorem TU{e:Aq}{t:Aq×Ah×AF}(h:Q9 e=Aa t):e=.Attribute t.1 t.2.1 t.2.2:=by
 cases e with
 |Attribute e x p=>cases h;rfl
 |_=>exact nomatch (show Af=Aa t from h)
noncomputable def Xo(n:Ag)(T:Tc)(b:Ac AL):Ao Ea:=(Np b).bind λs=>(Q7 s.1).bind λt1=>(Q9 t1.1).bind λa1=>(Jc a1.1).bind λs1=>(Jc t1.2.1).bind λq1=>(Q7 s.2).bind λt2=>(Q9 t2.1).bind λa2=>(Jc a2.1).bind λs2=>
 if (s1.1==("self" : Ah)&&(a1.2.1==("p" : Ah)&&(q1.1==("p" : Ah)&&(s2.1==("self" : Ah)&&(a2.2.1==("triple" : Ah)&&(F9 t2.2.1&&Be n T t2.2.1 (.call 17 (.cons (.v 1) (.cons (.v 2) .nil)))))))))=Ab then Aa () else Af
theorem lN{n:Ag}{T:Tc}{b:Ac AL}{u:Ea}(h:Xo n T b=Aa u):∃ p0 p1 p2 p3 p4 p5 p6 ev,b=[.Assign [.Attribute (.Name "self" p0) "p" p1] (.Name "p" p2) p6,.Assign [.Attribute (.Name "self" p3) "triple" p4] ev p5]/\F9 ev=Ab/\Be n T ev (.call 17 (.cons (.v 1) (.cons (.v 2) .nil)))=Ab:=by
 obtain⟨s,e1,h⟩:=AC.mp h;obtain⟨t1,e2,h⟩:=AC.mp h;obtain⟨a1,e3,h⟩:=AC.mp h;obtain⟨s1,e4,h⟩:=AC.mp h;obtain⟨q1,e5,h⟩:=AC.mp h;obtain⟨t2,e6,h⟩:=AC.mp h;obtain⟨a2,e7,h⟩:=AC.mp h;obtain⟨s2,e8,h⟩:=AC.mp h;split at h
 .rename_i hc;simp only[Am,AD]at hc;obtain⟨c1,c2,c3,c4,c5,c6,c7⟩:=hc;rw[N3 e1,TV e2,TU e3,Jx e4,Jx e5,TV e6,TU e7,Jx e8,c1,c2,c3,c4,c5];exact⟨_,_,_,_,_,_,_,_,rfl,c6,c7⟩
 .cases h
noncomputable def Nu(fuel:Ag)(fns:Ac (Ah×Ag×Ag))(bl:Ac Ah)(rzs exs gls:Ac (Ah×Ag))(st:AL):An:=
 (AH st).kind==.function&&((AH st).isCoroutine==Ae&&((AH st).isGenerator==Ae&&((AH st).names.lookup ("self" : Ah)==Aa .local&&((AH st).names.lookup ("p" : Ah)==Aa .local&&((AH st).names.lookup ("numbers" : Ah)==Aa .local&&(((AH st).names.all λy=>y.2 != .free) &&
  (Xo fuel ⟨AH st,["self", "p", "numbers"],fns,bl,rzs,exs,gls,Ab⟩ (Di st)).isSome))))))
noncomputable def HR(s:AL)(j:Ag):AL:=match s with
  |.ClassDef _ _ _ b _ _ _ _ _ _ _=>b.getD j s
  |s=>s
def InR(K:Fg)(fns:Ac (Ah×Ag×Ag))(bl:Ac Ah)(rzs exs gls:Ac (Ah×Ag))(Pg:Prg)(fuel:Ag):Prop:=(∀ c,c<3->Pg.defs (900+c)=ua c)/\Pg.defs 910=km/\∃ f fd x qual st,zc K x qual st f fd/\CW K fd ["self", "p", "numbers"] []/\Nu fuel fns bl rzs exs gls st=Ab/\∀ c,c<3->∃ C,OC K c=Aa C/\Mk K C f
structure wp (K:Fg) (mg:Ah->Ao Al) (CL:ClA) (fns:Ac (Ah×Ag×Ag)) (bl:Ac Ah) (rzs exs gls:Ac (Ah×Ag)) (Pg:Prg) (fuel:Ag):Prop where
 os:OS K mg
 ini:InR K fns bl rzs exs gls Pg fuel
 xt:XT Pg.up Pg.xn CL rzs exs K mg
 bln:∀ x,x∈bl->mg x=Af
 gl:∀ p∈gls,JQ K mg CL p.1 (Pg.G p.2)
 fn:∀ p∈fns,KU K mg fns bl rzs exs gls Pg fuel p
theorem Oj(Pg:Prg)(n i:Ag):(Z6 Pg n).fr i=(Pg.defs i).fr:=by cases n<;>rfl
theorem KJ(Pg:Prg)(n:Ag):(Z6 Pg n).up=Pg.up:=by cases n<;>rfl
theorem KN(Pg:Prg)(n:Ag):(Z6 Pg n).G=Pg.G:=by cases n<;>rfl
theorem Lg(Pg:Prg)(n:Ag):(Z6 Pg n).xn=Pg.xn:=by cases n<;>rfl
section
variable{P:AK}{w:AI}{K:Fg}{mg:Ah->Ao Al}{base:AJ}{CL:ClA}{fns:Ac (Ah×Ag×Ag)}{bl:Ac Ah}{rzs exs gls:Ac (Ah×Ag)}{Pg:Prg}{fuel:Ag}
def je(P:AK)(w:AI)(K:Fg)(mg:Ah->Ao Al)(base:AJ)(CL:ClA)(Pg:Prg)(n:Ag)(p:Ah×Ag×Ag):Prop:=∃ f fd ps,IV K mg p.1=Aa (.ref f)/\Ba K (.ref f)=Ab/\CW K fd ps []/\ps.length=p.2.2%1000/\(p.2.2<1000->Y4 P w K mg base (CXR P w) n f fd ps (spD K CL (p.2.2%1000) ((Z6 Pg n).fr p.2.1) ((Z6 Pg n).F p.2.1)))/\(1000<=p.2.2->xa P w K mg base n f fd ps (spH K CL (p.2.2%1000) ((Z6 Pg n).fr p.2.1) ((Z6 Pg n).F p.2.1)))
theorem rF(t:wp K mg CL fns bl rzs exs gls Pg fuel){n:Ag}(kf:∀ q∈fns,je P w K mg base CL Pg n q)(av:∀ c,c<3->fx P w K mg base CL (Z6 Pg n).F n c){st:AL}{f:Ak}{ps N:Ac Ah}{m id:Ag}(h2:zc K x qual st f fd)(h4:ps.length=m)(h5:GC fuel Ae fns bl rzs exs gls ps N st (Pg.defs id)=Ab):Y4 P w K mg base (CXR P w) (n+1) f fd ps (spD K CL m ((Z6 Pg (n+1)).fr id) ((Z6 Pg (n+1)).F id)):=by
  unfold GC at h5;simp only[Am,AD,Bf,Bh,BY,E8,JU]at h5;obtain⟨⟨⟨⟨⟨⟨⟨⟨c1,c2⟩,c3⟩,c4⟩,c5⟩,c6⟩,c7⟩,c8⟩,c9⟩:=h5;obtain⟨oc,od,dV,kV,doc,pm,an,cdv,ct,osl,rfl,lk,zu⟩:=h2.ex;refine Hr (N:=N) lk zu ⟨c1,c2,c3,IK c4,c5,c6,c7⟩ (λvs H Q E ⟨ds,A,z,_⟩=>z.trans h4.symm) λA outer s H vs Q E hr ⟨ds,B,hl,hA,wm,Z0⟩=>?_
  have xt:XT (Z6 Pg n).up (Z6 Pg n).xn CL rzs exs K mg:=by rw[KJ,Lg];exact t.xt
  have gl:∀ p∈gls,JQ K mg CL p.1 ((Z6 Pg n).G p.2):=by rw[KN];exact t.gl
  have key:∀ W:XW,(∀ x cls dx H',W x H'->Dz K CL H' cls dx x->E cls dx H')->B5 K CL ⟨λb o=>H b=Aa o,λ_ _ _=>AM⟩ B W (U6 (Z6 Pg n) (Bw (Pg.defs id).n ds) (Pg.defs id).body) {nx:=λ_ H'=>Q .O H',rt:=Q} ->
      ∃ t,yj (B2 (CXR P w) P w K mg base N qual (AH st) f cdv A outer s H E) (Di st) t/\t {nx:=λ_ H'=>Q .O H',rt:=Q} (start N vs) H:=λW hW hp=>by
    have v:VX (Z6 Pg n) CL n W ⟨AH st,N,fns,bl,rzs,exs,gls,Ab⟩ (B2 (CXR P w) P w K mg base N qual (AH st) f cdv A outer s H E):=⟨rfl,c1,rfl,IK c4,rfl,hr,t.bln,t.os,av,kf,rl,Oo hW,Ù hW,xt,gl,λ_=>rfl⟩
    exact⟨_,(Je fuel).ss W _ _ _ (Pg.defs id).body v ⟨λ_=>rfl,rfl,rfl,rfl⟩ c9 ⟨λb o=>H b=Aa o,λ_ _ _=>AM⟩ B,_,TZ c8 hA wm,hp⟩
  have no:∀ x cls dx H',W0 x H'->Dz K CL H' cls dx x->E cls dx H':=λ_ _ _ _ z=>z.elim
  have e:(Z6 Pg (n+1)).F id ds=Ew Pg.xs ((U6 (Z6 Pg n) (Bw (Pg.defs id).n ds) (Pg.defs id).body).ans (Pg.defs id).fr):=rfl;rw[e,Oj]at Z0;have yx:∀ r:R D,(∀ x,r≠.exn x)->Ew Pg.xs r=r:=λr hr=>by
    cases Pg.xs<;>cases r<;>first|rfl|exact absurd rfl (hr _)
  cases eo:U6 (Z6 Pg n) (Bw (Pg.defs id).n ds) (Pg.defs id).body with
  |next U'=>
    refine key W0 no ?_;rw[eo]at Z0 ⊢;cases ef:(Pg.defs id).fr with
    |true=>rw[ef]at Z0;rw[yx _ (by intro x z;cases z)]at Z0;exact Z0.elim
    |false=>
      rw[ef]at Z0;rw[yx _ (by intro x z;cases z)]at Z0
      exact λY' H' x'=>Z0 .O H' (λb o z=>x'.same b o z) ⟨rfl,λz=>nomatch z⟩
  |ret d b=>
    refine key W0 no ?_;rw[eo]at Z0 ⊢;intro v H' sm rp fr;have zZ:(match Ew Pg.xs (if ((Pg.defs id).fr&&(!b&&kn d))=Ab then R.bad else R.ok d) with
      |.ok d=>∀ v H',Az H H'->Cw K CL (Pg.defs id).fr H B H' v d->Q v H'
      |.exn x=>∀ cls dx H',Az H H'->Dz K CL H' cls dx x->E cls dx H'
      | .bad=>AM):=Z0
    cases ec:((Pg.defs id).fr&&(!b&&kn d)) with
    |true=>rw[ec,Au rfl,yx _ (by intro x z;cases z)]at zZ;exact zZ.elim
    |false=>
      rw[ec,Ay (by decide),yx _ (by intro x z;cases z)]at zZ
      refine zZ v H' sm ⟨rp,λefr es hd=>?_⟩
      subst hd;have eb:b=Ab:=by
        cases b with
        |true=>rfl
        |false=>rw[efr]at ec;cases ec
      obtain⟨a,xs,h1,h2,h3,h4⟩:=fr eb es rfl;refine⟨a,xs,h1,?_,h3,h4⟩;cases ha:H a with
      |none=>rfl
      |some o=>exact absurd ha (h2 o)
  |brk U'=>rw[eo]at Z0;have zZ:(match Ew Pg.xs (R.bad:R D) with | .ok _=>_ | .exn _=>_ | .bad=>AM):=Z0;rw[yx _ (by intro x z;cases z)]at zZ;exact zZ.elim
  |cont U'=>rw[eo]at Z0;have zZ:(match Ew Pg.xs (R.bad:R D) with | .ok _=>_ | .exn _=>_ | .bad=>AM):=Z0;rw[yx _ (by intro x z;cases z)]at zZ;exact zZ.elim
  |bad=>rw[eo]at Z0;have zZ:(match Ew Pg.xs (R.bad:R D) with | .ok _=>_ | .exn _=>_ | .bad=>AM):=Z0;rw[yx _ (by intro x z;cases z)]at zZ;exact zZ.elim
  |exn x U'=>
    rw[eo]at Z0;have zZ:(match Ew Pg.xs (R.exn x:R D) with
      |.ok d=>∀ v H',Az H H'->Cw K CL (Pg.defs id).fr H B H' v d->Q v H'
      |.exn x=>∀ cls dx H',Az H H'->Dz K CL H' cls dx x->E cls dx H'
      | .bad=>AM):=Z0
    cases ex:Pg.xs with
    |false=>rw[ex]at zZ;exact zZ.elim
    |true=>
      rw[ex]at zZ;have hp3:∀ cls dx H',Az H H'->Dz K CL H' cls dx x->E cls dx H':=zZ;refine key (λy H'=>y=x/\Az H H') (λy cls dx H' ⟨e1,sm⟩ xr=>?_) ?_
      · subst e1;exact hp3 cls dx H' sm xr
      · rw[eo];exact λH' sm=>⟨rfl,sm⟩
theorem pH(t:wp K mg CL fns bl rzs exs gls Pg fuel){n:Ag}(kf:∀ q∈fns,je P w K mg base CL Pg n q)(av:∀ c,c<3->fx P w K mg base CL (Z6 Pg n).F n c){st:AL}{f:Ak}{ps N:Ac Ah}{m id:Ag}(h2:zc K x qual st f fd)(h4:ps.length=m)(h5:GC fuel Ab fns bl rzs exs gls ps N st (Pg.defs id)=Ab):xa P w K mg base (n+1) f fd ps (spH K CL m ((Z6 Pg (n+1)).fr id) ((Z6 Pg (n+1)).F id)):=by
  unfold GC at h5;simp only[Am,AD,Bf,Bh,BY,E8,JU]at h5;obtain⟨⟨⟨⟨⟨⟨⟨⟨c1,c2⟩,c3⟩,c4⟩,c5⟩,c6⟩,c7⟩,c8⟩,c9⟩:=h5;obtain⟨oc,od,dV,kV,doc,pm,an,cdv,ct,osl,rfl,lk,zu⟩:=h2.ex;refine rX (N:=N) lk zu ⟨c1,c2,c3,IK c4,c5,c6,c7⟩ (λvs H Q E ⟨ds,A,z,_⟩=>z.trans h4.symm) λA ev outer s H vs Q E hr ⟨ds,B,hl,hA,wm,Z0⟩=>?_
  have xt:XT (Z6 Pg n).up (Z6 Pg n).xn CL rzs exs K mg:=by rw[KJ,Lg];exact t.xt
  have gl:∀ p∈gls,JQ K mg CL p.1 ((Z6 Pg n).G p.2):=by rw[KN];exact t.gl
  have key:B5 K CL ⟨λb o=>H b=Aa o,λ_ _ _=>AM⟩ B W0 (U6 (Z6 Pg n) (Bw (Pg.defs id).n ds) (Pg.defs id).body) {nx:=λ_ H'=>Q .O H',rt:=Q} ->
      ∃ t,yj (Cx.hot (B2 JN P w K mg base N qual (AH st) f cdv A outer s H E) ev) (Di st) t/\t {nx:=λ_ H'=>Q .O H',rt:=Q} (start N vs) H:=λhp=>by
    have v:VX (Z6 Pg n) CL n W0 ⟨AH st,N,fns,bl,rzs,exs,gls,Ab⟩ (B2 JN P w K mg base N qual (AH st) f cdv A outer s H E):=⟨rfl,c1,rfl,IK c4,rfl,hr,t.bln,t.os,av,kf,Zm,QL,RJ,xt,gl,λ_=>rfl⟩
    exact⟨_,OQ v ⟨λ_=>rfl,rfl,rfl,rfl⟩ ev 0 fuel _ (Pg.defs id).body c9 ⟨λb o=>H b=Aa o,λ_ _ _=>AM⟩ B,_,TZ c8 hA wm,hp⟩
  have e:(Z6 Pg (n+1)).F id ds=Ew Pg.xs ((U6 (Z6 Pg n) (Bw (Pg.defs id).n ds) (Pg.defs id).body).ans (Pg.defs id).fr):=rfl;rw[e,Oj]at Z0;have yx:∀ r:R D,(∀ x,r≠.exn x)->Ew Pg.xs r=r:=λr hr=>by
    cases Pg.xs<;>cases r<;>first|rfl|exact absurd rfl (hr _)
  refine key ?_;cases eo:U6 (Z6 Pg n) (Bw (Pg.defs id).n ds) (Pg.defs id).body with
  |next U'=>
    rw[eo]at Z0;cases ef:(Pg.defs id).fr with
    |true=>rw[ef]at Z0;rw[yx _ (by intro x z;cases z)]at Z0;exact Z0.elim
    |false=>
      rw[ef]at Z0;rw[yx _ (by intro x z;cases z)]at Z0
      exact λY' H' x'=>Z0 .O H' (λb o z=>x'.same b o z) ⟨rfl,λz=>nomatch z⟩
  |ret d b=>
    rw[eo]at Z0;intro v H' sm rp fr;have zZ:(match Ew Pg.xs (if ((Pg.defs id).fr&&(!b&&kn d))=Ab then R.bad else R.ok d) with
      |.ok d=>∀ v H',Az H H'->Cw K CL (Pg.defs id).fr H B H' v d->Q v H'
      |.exn x=>AM
      | .bad=>AM):=Z0
    cases ec:((Pg.defs id).fr&&(!b&&kn d)) with
    |true=>rw[ec,Au rfl,yx _ (by intro x z;cases z)]at zZ;exact zZ.elim
    |false=>
      rw[ec,Ay (by decide),yx _ (by intro x z;cases z)]at zZ
      refine zZ v H' sm ⟨rp,λefr es hd=>?_⟩
      subst hd;have eb:b=Ab:=by
        cases b with
        |true=>rfl
        |false=>rw[efr]at ec;cases ec
      obtain⟨a,xs,h1,h2,h3,h4⟩:=fr eb es rfl;refine⟨a,xs,h1,?_,h3,h4⟩;cases ha:H a with
      |none=>rfl
      |some o=>exact absurd ha (h2 o)
  |brk U'=>rw[eo]at Z0;have zZ:(match Ew Pg.xs (R.bad:R D) with | .ok _=>_ | .exn _=>_ | .bad=>AM):=Z0;rw[yx _ (by intro x z;cases z)]at zZ;exact zZ.elim
  |cont U'=>rw[eo]at Z0;have zZ:(match Ew Pg.xs (R.bad:R D) with | .ok _=>_ | .exn _=>_ | .bad=>AM):=Z0;rw[yx _ (by intro x z;cases z)]at zZ;exact zZ.elim
  |bad=>rw[eo]at Z0;have zZ:(match Ew Pg.xs (R.bad:R D) with | .ok _=>_ | .exn _=>_ | .bad=>AM):=Z0;rw[yx _ (by intro x z;cases z)]at zZ;exact zZ.elim
  |exn x U'=>
    rw[eo]at Z0;have zZ:(match Ew Pg.xs (R.exn x:R D) with
      |.ok d=>∀ v H',Az H H'->Cw K CL (Pg.defs id).fr H B H' v d->Q v H'
      |.exn x=>AM
      | .bad=>AM):=Z0
    exfalso
    cases ex:Pg.xs with
    |false=>rw[ex]at zZ;exact zZ
    |true=>
      rwa [ex]at zZ
noncomputable def Gn(Pg:Prg)(n:Ag):Ac D->R D
  | [d1,d2]=>(match (Z6 Pg n).F 17 [d1,d2] with
    |.ok t=>if xl 5 t=Ab then .ok (.H [d1,t]) else .bad
    | _=>.bad)
  |_=>.bad
theorem sV(Pg:Prg)(n:Ag)(ds:Ac D)(y:Ex):Gn Pg n ds≠.exn y:=by
  match ds with
  |[]=>exact λz=>nomatch z
  |[_]=>exact λz=>nomatch z
  |_::_::_::_=>exact λz=>nomatch z
  |[d1,d2]=>
    show (match (Z6 Pg n).F 17 [d1,d2] with
      |.ok t=>if xl 5 t=Ab then .ok (.H [d1,t]) else .bad
      | _=>.bad:R D)≠.exn y
    split
    · split<;>exact λz=>nomatch z
    · exact λz=>nomatch z
theorem kM(t:wp K mg CL fns bl rzs exs gls Pg fuel){n:Ag}(kf:∀ q∈fns,je P w K mg base CL Pg n q)(av:∀ c,c<3->fx P w K mg base CL (Z6 Pg n).F n c){st:AL}{f:Ak}(h2:zc K x qual st f fd)(h5:Nu fuel fns bl rzs exs gls st=Ab):
    Y4 P w K mg base (CXR P w) (n+1) f fd ["self", "p", "numbers"] (spI K CL (Gn Pg n)):=by
  unfold Nu at h5;simp only[Am,AD,Bh,E8,JU]at h5;obtain⟨c1,c2,c3,c4,c5,c6,c7,c8⟩:=h5;obtain⟨u,c8⟩:=CA.mp c8;obtain⟨p0,p1,p2,p3,p4,p5,p6,ev,eb,hnc,hck⟩:=lN c8;obtain⟨oc,od,dV,kV,doc,pm,an,cdv,ct,osl,rfl,lk,zu⟩:=h2.ex;refine Hr (N:=["self", "p", "numbers"]) lk zu ⟨c1,c2,c3,by decide,rfl,λy hy=>?_,c7⟩ (λvs H Q E ⟨x,C,dx,us,ds,A,H0,e,z,_⟩=>by rw[e,A8,z];rfl) λA outer s H vs Q E hr ⟨x,C,dx,us,ds,B,H0,e,hl,cl,np,nt,hx,h0,sm,hA,wm,Z0⟩=>?_
  · rcases A6.mp hy with rfl|hy
    · exact .inl c4
    · rcases A6.mp hy with rfl|hy
      · exact .inl c5
      · rw[BX.mp hy];exact .inl c6
  subst e;have xt:XT (Z6 Pg n).up (Z6 Pg n).xn CL rzs exs K mg:=by rw[KJ,Lg];exact t.xt
  have gl:∀ p∈gls,JQ K mg CL p.1 ((Z6 Pg n).G p.2):=by rw[KN];exact t.gl
  have no:∀ x cls dx H',W0 x H'->Dz K CL H' cls dx x->E cls dx H':=λ_ _ _ _ z=>z.elim
  have v:VX (Z6 Pg n) CL n W0 ⟨AH st,["self", "p", "numbers"],fns,bl,rzs,exs,gls,Ab⟩ (B2 (CXR P w) P w K mg base ["self", "p", "numbers"] qual (AH st) f cdv A outer s H E):=⟨rfl,c1,rfl,(show (["self", "p", "numbers"]:Ac Ah).Nodup by decide),rfl,hr,t.bln,t.os,av,kf,rl,Oo no,Ù no,xt,gl,λ_=>rfl⟩
  match us,hl with
  |[v1,v2],_=>
    match ds,wm with
    |[],r=>exact r.elim
    |[_],r=>exact r.2.elim
    |_::_::_::_,r=>exact r.2.2.elim
    |[d1,d2],r=>
      have sv:=((zk fuel).e W0 _ _ ev _ v hck).se;obtain⟨tt,pss,rd⟩:=cW (H:=H) (H0:=H0) (x:=x) (C:=C) (dx:=dx) (v1:=v1) (v2:=v2) (d1:=d1) (d2:=d2) (A:=B) (Q:=Q) (Y:=L2.start ["self", "p", "numbers"] [.ref x,v1,v2]) (p0:=p0) (p1:=p1) (p2:=p2) (p3:=p3) (p4:=p4) (p5:=p5) (p6:=p6) (t0:=B2 (CXR P w) P w K mg base ["self", "p", "numbers"] qual (AH st) f cdv A outer s H E)
        (λp=>Dx rfl (.inl c4)) (λp=>Dx rfl (.inl c5)) sv (HN hnc)
      refine⟨tt,by rw[eb];exact pss,rd rfl cl np nt hx h0 sm hA r.1 r.2.1 ?_⟩
      have zZ:(match (match (Z6 Pg n).F 17 [d1,d2] with
          |.ok t=>if xl 5 t=Ab then R.ok (D.H [d1,t]) else .bad
          | _=>.bad) with
        |.ok d=>∀ e1 e2,d=.H [e1,e2]->∀ v1 v2 H',Az H0 H'->H' x=Aa (.ins C dx [("p",v1),("triple",v2)])->Z7 K CL H' B v1 e1->Z7 K CL H' B v2 e2->Q .O H'
        | _=>AM):=Z0
      cases e17:(Z6 Pg n).F 17 [d1,d2] with
      |bad=>rw[e17]at zZ;exact zZ.elim
      |exn y=>rw[e17]at zZ;exact zZ.elim
      |ok t0=>
        rw[e17]at zZ;dsimp only at zZ;by_cases hn:xl 5 t0=Ab
        · rw[Au hn]at zZ;exact⟨t0,rfl,hn,λw1 w2 H' a b c d=>zZ _ _ rfl w1 w2 H' a b c d⟩
        · rw[Ay hn]at zZ;exact zZ.elim
theorem mkF{c:Ag}:(ua c).run Z [d1,d2]=(zn (Z.F 910 [d1,d2])).bind (EJ c):=by
 simp only[Df.run,ua,Bw,dA,U_7];show (O.seq (O.of _ ((zn ((Z.F 910 [d1,d2]).bind λd=>.ok d)).bind λx=>EJ c x) λd=>O.ret d _) _).ans Ae=_
 have nx:∀ d y,EJ c d≠.exn y:=λd y z=>by
  unfold EJ at z;split at z
  .split at z<;>cases z
  .cases z
 cases Z.F 910 [d1,d2] with
 |bad=>rfl
 |exn y=>rfl
 |ok d=>
  show (O.seq (O.of _ (EJ c d) λd=>O.ret d _) _).ans Ae=EJ c d
  cases e:EJ c d with
  |ok _=>rfl
  |bad=>rfl
  |exn y=>exact absurd e (nx d y)
theorem inF:zn (km.run Z [d1,d2])=zn ((Z.F 17 [d1,d2]).bind λt=>.ok (.H [d1,t])):=by
 simp[Df.run,km,Bw];cases Z.F 17 [d1,d2]<;>rfl
theorem Wh(t:wp K mg CL fns bl rzs exs gls Pg fuel):∀ n,(∀ m,m<=n->∀ q∈fns,je P w K mg base CL Pg m q)->∀ c,c<3->fx P w K mg base CL (Z6 Pg n).F n c:=by
  intro n
  induction n using Nat.strongRecOn with
  |ind n ih=>
    intro hl c hc;obtain⟨i1,i2,f,fd,x,qual,st,h2,h3,h5,h6⟩:=t.ini
    match n,ih,hl with
    |0,_,_=>exact .inl λds=>rfl
    |1,_,_=>
      refine .inl λds=>?_
      have e:(Z6 Pg 1).F (900+c) ds=Ew Pg.xs ((Pg.defs (900+c)).run (Z6 Pg 0) ds):=rfl;rw[e,i1 c hc];have e2:(ua c).run (Z6 Pg 0) ds=.bad:=by
        match ds with
        |[]=>rfl
        |[_]=>rfl
        |_::_::_=>rfl
      rw[e2];cases Pg.xs<;>rfl
    |m+2,ih,hl=>
      obtain⟨C,o1,M⟩:=h6 c hc;refine .inr ⟨C,f,fd,Gn Pg m,m+1,o1,M,h3,rfl,kM t (λq hq=>hl m (by omega) q hq) (ih m (by omega) λk hk=>hl k (by omega)) h2 h5,λds hd=>?_,sV Pg m⟩
      match ds,hd with
      |[d1,d2],_=>
        have cutN:∀ r:R D,zn (Ew Pg.xs r)=zn r:=λr=>by cases Pg.xs<;>cases r<;>rfl
        have e:(Z6 Pg (m+2)).F (900+c) [d1,d2]=Ew Pg.xs ((Pg.defs (900+c)).run (Z6 Pg (m+1)) [d1,d2]):=rfl;have e0:(Z6 Pg (m+1)).F 910 [d1,d2]=Ew Pg.xs ((Pg.defs 910).run (Z6 Pg m) [d1,d2]):=rfl;rw[e,i1 c hc,mkF,e0,i2,cutN,inF];cases e17:(Z6 Pg m).F 17 [d1,d2] with
        |bad=>refine .inl ?_;cases Pg.xs<;>rfl
        |exn y=>refine .inl ?_;cases Pg.xs<;>rfl
        |ok t0=>
          by_cases hn:xl 5 t0=Ab
          · refine .inr ?_;have g:Gn Pg m [d1,d2]=.ok (.H [d1,t0]):=by
              show (match (Z6 Pg m).F 17 [d1,d2] with
                |.ok t=>if xl 5 t=Ab then .ok (.H [d1,t]) else .bad
                | _=>.bad:R D)=_
              rw[e17];exact Au hn
            rw[g];show Ew Pg.xs (EJ c (.H [d1,t0]))=EJ c (.H [d1,t0]);have:EJ c (.H [d1,t0])=.ok (.obj c [("p",d1),("triple",t0)]):=Au hn;rw[this];cases Pg.xs<;>rfl
          · refine .inl ?_;have:EJ c (.H [d1,t0])=.bad:=Ay hn;show Ew Pg.xs (EJ c (.H [d1,t0]))=.bad;rw[this];cases Pg.xs<;>rfl
theorem Ud(t:wp K mg CL fns bl rzs exs gls Pg fuel):∀ n m,m<=n->∀ p∈fns,je P w K mg base CL Pg m p:=by
 have zero:∀ p∈fns,je P w K mg base CL Pg 0 p:=λp hp=>by
  obtain⟨f,fd,ps,qual,st,N,h1,⟨x0,h2⟩,h3,h4,h5⟩:=t.fn p hp;exact⟨f,fd,ps,h1,h2.kp,h3,h4,λ_=>⟨λvs H Q E ⟨ds,A,_,_,_,z⟩=>z.elim,λA outer s H args us vs Q E _ _ _ _ ⟨ds,A,_,_,_,z⟩=>z.elim⟩,λ_=>⟨λvs H Q E ⟨ds,A,_,_,_,z⟩=>z.elim,λA ev outer s H args us vs Q E _ _ _ _ ⟨ds,A,_,_,_,z⟩=>z.elim⟩⟩
 intro n
 induction n with
 |zero=>intro m hm p hp;obtain rfl:=Nat.le_zero.mp hm;exact zero p hp
 |succ n ih=>
  intro m hm p hp;by_cases hmn:m<=n
  .exact ih m hmn p hp
  .have:m=n+1:=by omega
   subst this;have mk:=Wh (P:=P) (w:=w) (base:=base) t n ih;obtain⟨f,fd,ps,qual,st,N,h1,⟨x0,h2⟩,h3,h4,h5⟩:=t.fn p hp;refine⟨f,fd,ps,h1,h2.kp,h3,h4,λyh=>?_,λhge=>?_⟩
   .have eb:CF 1000 p.2.2=Ae:=by
     cases e:CF 1000 p.2.2 with
     |false=>rfl
     |true=>exact absurd (AR e) (by omega)
    rw[eb]at h5;exact rF t (λq hq=>ih n (AU _) q hq) mk h2 h4 h5
   .rw[Nat.ble_eq_true_of_le hge]at h5;exact pH t (λq hq=>ih n (AU _) q hq) mk h2 h4 h5
theorem Vn(t:wp K mg CL fns bl rzs exs gls Pg fuel)(n:Ag):∀ p∈fns,je P w K mg base CL Pg n p:=Ud t n n (AU _)
theorem Vo(t:wp K mg CL fns bl rzs exs gls Pg fuel)(n:Ag):∀ c,c<3->fx P w K mg base CL (Z6 Pg n).F n c:=Wh t n (Ud t n)
theorem sH{i:Ai}{u:Cf}(h:mg x=Aa (.int i u)):JQ K mg CL x (.int i):=⟨_,.int i,h,⟨_,rfl⟩,λ_ _=>rfl⟩
theorem Qt{a:Ak}{dd:Ao Ak}{its:Ac Al}{n:Ag}{sl:Bl (Ao Al)}{is:Ac Ah}(h:mg x=Aa (.ref a))(l:K.lookup a=Aa ⟨.type "tuple",dd,.seq its.toArray n,sl⟩)(hv:A1 (is.map V.str) its)(hz:its.length<=1000):JQ K mg CL x (.H (is.map D.str)):=by
 have rs:∀(H:Hp)(A:Ak->Prop)(l:Ac Ah),Z9 K CL H A (l.map V.str) (l.map D.str):=λH A l=>by
  induction l with
  |nil=>trivial
  |cons x l ih=>exact⟨rfl,ih⟩
 have kt:KT K a (is.map V.str):=⟨_,_,_,l,rfl,rfl,by rw[AX,Bz];omega,hv⟩
 exact⟨_,.ref a,h,rfl,λH A=>⟨a,is.map V.str,rfl,.inr kt,.inr kt,rs H A is⟩⟩
theorem rG{s s':Ar}{e:Al}(h:CXR P w [] H s (λ_ _ _=>AM) e s'):AM:=by
 obtain⟨_,_,_,_,_,_,_,_,_,_,_,_,_,_,_,z⟩:=h;exact z
noncomputable def WM:AL->Ao (Aq×AF)
 |.Expr e p=>Aa (e,p)
 |_=>Af
theorem gU{e:AL}{t:Aq×AF}(h:WM e=Aa t):e=.Expr t.1 t.2:=by
 cases e with
 |Expr x p=>cases h;rfl
 |_=>exact nomatch (show Af=Aa t from h)
noncomputable def WO:AL->Ao (Aq×Aq×AF)
  | .Assign ts v p=>(match ts with
    |[t]=>Aa (t,v,p)
    | _=>Af)
  |_=>Af
theorem fY{e:AL}{t:Aq×Aq×AF}(h:WO e=Aa t):e=.Assign [t.1] t.2.1 t.2.2:=by
 cases e with
 |Assign ts v p=>
  cases ts with
  |nil=>exact nomatch (show Af=Aa t from h)
  |cons a ts=>
   cases ts with
   |nil=>cases h;rfl
   |cons=>exact nomatch (show Af=Aa t from h)
 |_=>exact nomatch (show Af=Aa t from h)
noncomputable def RT:Aq->Ao (Aq×Ah×AF)
 |.Attribute e x p=>Aa (e,x,p)
 |_=>Af
theorem Uh{e:Aq}{t:Aq×Ah×AF}(h:RT e=Aa t):e=.Attribute t.1 t.2.1 t.2.2:=by
 cases e with
 |Attribute e x p=>cases h;rfl
 |_=>exact nomatch (show Af=Aa t from h)
noncomputable def WL:Aq->Ao (Ac Aq×AF)
 |.JoinedStr l p=>Aa (l,p)
 |_=>Af
theorem gR{e:Aq}{t:Ac Aq×AF}(h:WL e=Aa t):e=.JoinedStr t.1 t.2:=by
 cases e with
 |JoinedStr l p=>cases h;rfl
 |_=>exact nomatch (show Af=Aa t from h)
noncomputable def RS:Aq->Ao (Aq×Ai×AF)
  | .FormattedValue e n f p=>(match f with
    |none=>Aa (e,n,p)
    | _=>Af)
  |_=>Af
theorem Uf{e:Aq}{t:Aq×Ai×AF}(h:RS e=Aa t):e=.FormattedValue t.1 t.2.1 Af t.2.2:=by
 cases e with
 |FormattedValue e n f p=>
  cases f with
  |none=>cases h;rfl
  |some=>exact nomatch (show Af=Aa t from h)
 |_=>exact nomatch (show Af=Aa t from h)
noncomputable def O8:Aq->Ao (Ah×Ag×AF)
  | .Constant c k p=>(match c with
    |.str z=>Aa (z,k,p)
    | _=>Af)
  |_=>Af
theorem Qf{e:Aq}{t:Ah×Ag×AF}(h:O8 e=Aa t):e=.Constant (.str t.1) t.2.1 t.2.2:=by
 cases e with
 |Constant c k p=>
  cases c with
  |str z=>cases h;rfl
  |_=>exact nomatch (show Af=Aa t from h)
 |_=>exact nomatch (show Af=Aa t from h)
noncomputable def WK{α:Type}:Ac α->Ao (α×α×α)
 |[a,b,c]=>Aa (a,b,c)
 |_=>Af
theorem gQ{l:Ac α}{t:α×α×α}(h:WK l=Aa t):l=[t.1,t.2.1,t.2.2]:=by
  match l,h with
  |[a,b,c],h=>cases h;rfl
  |[],h=>cases h
  |[_],h=>cases h
  |[_,_],h=>cases h
  |_::_::_::_::_,h=>cases h
noncomputable def yP(par:Ah)(j:Ac Aq):Ao Ea:=(Np j).bind λfk=>(RS fk.1).bind λfm=>(Jc fm.1).bind λq1=>(O8 fk.2).bind λz=>if (q1.1==par&&(decide (fm.2.1=-1)&&CF z.1.length 1000))=Ab then Aa () else Af
noncomputable def yO(par:Ah)(j:Ac Aq):Ao Ea:=(WK j).bind λfk=>(O8 fk.1).bind λy=>(RS fk.2.1).bind λfm=>(Jc fm.1).bind λq1=>(O8 fk.2.2).bind λz=>if (q1.1==par&&(decide (fm.2.1=-1)&&(CF y.1.length 400&&CF z.1.length 1000)))=Ab then Aa () else Af
noncomputable def fsX(par:Ah)(e:Aq):Ao Ea:=(WL e).bind λj=>if ((yP par j.1).isSome||(yO par j.1).isSome)=Ab then Aa () else Af
theorem sJ{e:Aq}{u:Ea}(h:fsX par e=Aa u):ui par e:=by
 obtain⟨j,e1,h⟩:=AC.mp h;rw[gR e1];split at h
 .rename_i hc;rcases vo hc with hc|hc
  .obtain⟨_,h⟩:=CA.mp hc;obtain⟨fk,e2,h⟩:=AC.mp h;obtain⟨fm,e3,h⟩:=AC.mp h;obtain⟨q1,e4,h⟩:=AC.mp h;obtain⟨z,e5,h⟩:=AC.mp h;split at h
   .rename_i hc;simp only[Am,AD,AG]at hc;obtain⟨c1,c2,c3⟩:=hc;rw[N3 e2,Uf e3,Jx e4,Qf e5,c1,c2];exact sI (AR c3)
   .cases h
  .obtain⟨_,h⟩:=CA.mp hc;obtain⟨fk,e2,h⟩:=AC.mp h;obtain⟨y,e6,h⟩:=AC.mp h;obtain⟨fm,e3,h⟩:=AC.mp h;obtain⟨q1,e4,h⟩:=AC.mp h;obtain⟨z,e5,h⟩:=AC.mp h;split at h
   .rename_i hc;simp only[Am,AD,AG]at hc;obtain⟨c1,c2,c4,c3⟩:=hc;rw[gQ e2,Qf e6,Uf e3,Jx e4,Qf e5,c1,c2];exact fQ (AR c4) (AR c3)
   .cases h
 .cases h
noncomputable def W3(g par f:Ah)(b:Ac AL):Ao Ea:=(Np b).bind λs=>(WM s.1).bind λc=>(WN c.1).bind λcl=>(RT cl.1).bind λjk=>(Jc jk.1).bind λg1=>(Np cl.2.1).bind λab=>(Jc ab.1).bind λs1=>(fsX par ab.2).bind λ_=>(WO s.2).bind λt=>(RT t.1).bind λat2=>(Jc at2.1).bind λs2=>(Jc t.2.1).bind λq2=>
 if (g1.1==g&&(jk.2.1==("__init__" : Ah)&&(s1.1==("self" : Ah)&&(s2.1==("self" : Ah)&&(at2.2.1==f&&(q2.1==par&&jk.2.2.endLine==cl.2.2.line))))))=Ab then Aa () else Af
noncomputable def W4(g par f:Ah)(b:Ac AL):An:=(W3 g par f b).isSome
theorem kP{g par f:Ah}{b:Ac AL}(h:W4 g par f b=Ab):∃ j np apos p1 cpos p6 p7 p8 p9 p10,b=RZ g par f j np apos p1 cpos p6 p7 p8 p9 p10/\(apos.endLine==cpos.line)=Ab/\ui par j:=by
 obtain⟨_,h⟩:=CA.mp (show (W3 g par f b).isSome=Ab from h)
 obtain⟨s,e1,h⟩:=AC.mp h;obtain⟨c,e2,h⟩:=AC.mp h;obtain⟨cl,e3,h⟩:=AC.mp h;obtain⟨jk,e4,h⟩:=AC.mp h;obtain⟨g1,e5,h⟩:=AC.mp h;obtain⟨ab,e6,h⟩:=AC.mp h;obtain⟨s1,e7,h⟩:=AC.mp h;obtain⟨_,e8,h⟩:=AC.mp h;obtain⟨t,f4,h⟩:=AC.mp h;obtain⟨at2,f5,h⟩:=AC.mp h;obtain⟨s2,f6,h⟩:=AC.mp h;obtain⟨q2,f7,h⟩:=AC.mp h;split at h
 .rename_i hc;simp only[Am,AD,AG]at hc;obtain⟨c1,c2,c3,c6,c7,c8,h1⟩:=hc;rw[N3 e1,gU e2,gW e3,Uh e4,Jx e5,N3 e6,Jx e7,fY f4,Uh f5,Jx f6,Jx f7,c1,c2,c3,c6,c7,c8];exact⟨_,_,_,_,_,_,_,_,_,_,rfl,by rw[AD];exact h1,sJ e8⟩
 .cases h
noncomputable def Nt(g par f:Ah)(st:AL):An:=
 (AH st).kind==.function&&((AH st).isCoroutine==Ae&&((AH st).isGenerator==Ae&&(JC ["self",par]&&((AH st).names.lookup ("self" : Ah)==Aa .local&&((AH st).names.lookup par==Aa .local&&(((AH st).names.all λy=>y.2 != .free) &&
  ((AH st).names.lookup g==Aa .globalImplicit&&(g != ("__debug__" : Ah)&&(par != ("__debug__" : Ah)&&(par != ("__classdict__" : Ah)&&W4 g par f (Di st)))))))))))
noncomputable def ON(s:AL):AL:=match s with
  |.ClassDef _ _ _ (b::_) _ _ _ _ _ _ _=>b
  |s=>s
def fq(K:Fg)(f:Ak)(qual:Ah)(st:AL):Prop:=∃ fd,qi K "__init__" qual st f fd
theorem ini_mk{st:AL}{f:Ak}{oc:Al}{kV doc pm cdv ct:Al}(l:K.lookup f=Aa ⟨oc,od,.func (B4 "__init__" qual (Hj st) (Di st) (AH st) .none kV doc pm an cdv ct),osl⟩)(c:DE K cdv qual=Ab)(k:Ba K (.ref f)=Ab):fq K f qual st:=⟨_,Q6 l c k⟩
theorem lP{fI:Ak}{g par f qual:Ah}{st:AL}(a:fq K fI qual st)(hk:Nt g par f st=Ab)(hb:∀(u0 u1 kV doc pm:Al)(an:Ao Ak)(cdv ct:Al),Hg (B4 "__init__" qual (Hj st) (Di st) (AH st) .none kV doc pm an cdv ct) ⟨[u0,u1],[]⟩=pure ((["self",par]:Ac Ah).zip [u0,u1]))(xc:DF K C (Aa (.ref fI))=Ab)(dc:G7 K C=Ab)(ty:Dq K (.ref fI)=Aa (.type "function"))(mo:mg g=Aa (.ref OV))(s1:C3 K (.ref OV) "__getattribute__" = Aa (Aa (.builtin "type.__getattribute__")))(s2:FC K OV (.type "type")=Ab)(s3:FB K (.ref OV) (.type "type") "__init__" = Aa (.val (.builtin "ValueError.__init__")))(hf:At K (.ref C) f=Aa Af)(hs:At K (.ref C) "__setattr__" = Aa (Aa (.builtin "object.__setattr__"))):lu K mg C f:=by
 obtain⟨fd,fn⟩:=a;unfold Nt at hk;simp only[Am,AD,Bh,E8,JU]at hk;obtain⟨c1,c2,c3,c4,c5,c6,c7,c8,c9,c10,c11,c12⟩:=hk;obtain⟨j,np,apos,p1,cpos,p6,p7,p8,p9,p10,eb,hl,hz⟩:=kP c12;exact .mk xc dc fn ty ⟨c1,c2,c3,IK c4,rfl,λx hx=>by
  rcases A6.mp hx with rfl|hx
  .exact .inl c5
  .rw[BX.mp hx];exact .inl c6,c7⟩ c5 c6 (fn.binds λkV doc pm an cdv ct us hu=>match us,hu with | [u0,u1],_=>hb u0 u1 kV doc pm an cdv ct) eb c8 mo (by simpa using c9) (by simpa using c10) (by simpa using c11) s1 s2 s3 hl hz hf hs
theorem xB{c:Ag}(h:∀ ds,xn c ds=.bad\/xn c ds=.ok ⟨c,[]⟩)(e:DF K C Af=Ab)(ds:Ac D):xn c ds=.bad\/(xn c ds=.ok ⟨c,[]⟩/\DF K C Af=Ab)\/∃ f,lu K mg C f/\Nl xn c f ds:=(h ds).imp id λz=>.inl ⟨z,e⟩
theorem xA{c:Ag}{f:Ah}(h:∀ ds,xn c ds=bt c f ds)(x:lu K mg C f)(ds:Ac D):xn c ds=.bad\/(xn c ds=.ok ⟨c,[]⟩/\DF K C Af=Ab)\/∃ f,lu K mg C f/\Nl xn c f ds:=by
  have e:=h ds
  match ds,e with
  |[],e=>exact .inl e
  |_::_::_,e=>exact .inl e
  |[d],e=>
    have e':xn c [d]=if (wy 1 d||wy 2 d)=Ab then .ok ⟨c,[(f,d)]⟩ else .bad:=e
    by_cases z:(wy 1 d||wy 2 d)=Ab
    · rw[Au z]at e';refine .inr (.inr ⟨f,x,d,?_⟩);rw[BY]at z;rcases z with z|z
      · exact⟨1,rfl,z,by decide,e'⟩
      · exact⟨2,rfl,z,by decide,e'⟩
    · rw[Ay z]at e';exact .inl e'
theorem Wg(dc:G7 K C=Ab)(h1:At K (.ref C) "triple" = Aa Af)(h2:At K (.ref C) "points" = Aa Af)(h3:At K (.ref C) "row" = Aa Af)(f:Ah)(h:(f==("triple" : Ah)||(f==("points" : Ah)||f==("row" : Ah)))=Ab):G7 K C=Ab/\At K (.ref C) f=Aa Af:=by
 rw[BY,BY]at h;rcases h with h|h|h
 .rw[eq_of_beq h];exact⟨dc,h1⟩
 .rw[eq_of_beq h];exact⟨dc,h2⟩
 .rw[eq_of_beq h];exact⟨dc,h3⟩
structure XA (K:Fg) (c:Ah) (x:Ak) (i:Ao Al):Prop where
 n:Bb K AO c=Aa (Aa (.ref x))
 y:DF K x i=Ab
 dc:G7 K x=Ab
 ft:At K (.ref x) "triple" = Aa Af
 fp:At K (.ref x) "points" = Aa Af
 fr:At K (.ref x) "row" = Aa Af
 ok:zq K x
theorem xcls_l{x:Ak}(e:JZ K x [.type "ValueError",.type "Exception",.type "BaseException",.type "object"] "ValueError.__new__" = Ab):DF K x Af=Ab:=gM e
theorem xa_mk{c:Ah}{x:Ak}{i:Ao Al}(n:Bb K AO c=Aa (Aa (.ref x)))(e:DF K x i=Ab)(dc:G7 K x=Ab)(ft:At K (.ref x) "triple" = Aa Af)(fp:At K (.ref x) "points" = Aa Af)(fr:At K (.ref x) "row" = Aa Af)(ga:At K (.ref x) "__getattribute__" = Aa (Aa (.builtin "BaseException.__getattribute__")))(gt:At K (.ref x) "__getattr__" = Aa Af)(cl:At K (.ref x) "__class__" = Aa (Aa (.builtin "object.__class__")))(ob:Ck K x (.type "object")=Aa Ab)(be:BQ K (.ref x) (.type "BaseException")=Aa Ab)(sv:BQ K (.ref x) (.type "ValueError")=Aa Ab):XA K c x i:=⟨n,e,dc,ft,fp,fr,tR e ga gt cl ob be sv⟩
structure XB (K:Fg) (c:Ah) (x i:Ak) (q:Ah) (st:AL):Prop where
 fi:At K (.ref x) "__init__" = Aa (Aa (.ref i))
 a:XA K c x (Aa (.ref i))
 ii:fq K i q st
 ti:Dq K (.ref i)=Aa (.type "function")
 sn:At K (.ref x) "__setattr__" = Aa (Aa (.builtin "object.__setattr__"))
structure XE (K:Fg) (c:Ah) (x:Ak):Prop where
 n:Bb K AO c=Aa (Aa (.ref x))
 cs:Ck K x (.type "object")=Aa Ab
 ty:Dq K (.ref x)=Aa (.type "type")
structure XO (K:Fg) (x:Ak):Prop where
 sa:C3 K (.ref x) "__getattribute__" = Aa (Aa (.builtin "type.__getattribute__"))
 sb:FC K x (.type "type")=Ab
 sc:FB K (.ref x) (.type "type") "__init__" = Aa (.val (.builtin "ValueError.__init__"))
def tj(K:Fg)(C:Ak)(l:Ac (Ak×An)):Prop:=∀ q∈l,BQ K (.ref q.1) (.ref C)=Aa q.2
def KC(K:Fg)(C:Ak):Prop:=∀ x i v,DF K x i=Ab->BQ K (.ref x) (.ref C)=Aa v->B8 K (.ref x) (.ref C)=Aa v
theorem XA.kc{c:Ah}{x:Ak}{i:Ao Al}(a:XA K c x i):KC K x:=λ_ _ _ y s=>kG y a.y s
theorem XE.kc{c:Ah}{x:Ak}(a:XE K c x):KC K x:=λ_ _ _ y s=>dJ y a.cs a.ty s
noncomputable def lw:Ac (Ag×Ak)->Ag->Ao Ak
 |[],_=>Af
 |p::r,c=>if Nat.beq c p.1=Ab then Aa p.2 else lw r c
theorem M7{c:Ag}:∀{l:Ac (Ag×Ak)},lw l c=Aa C->(c,C)∈l:=by
 intro l
 induction l with
 |nil=>intro q;cases q
 |cons p r ih=>
  intro q;obtain⟨n,x⟩:=p;by_cases e:Nat.beq c n=Ab
  .cases Nat.eq_of_beq_eq_true e;cases (show Aa x=Aa C from (Au e).symm.trans q)
   exact AY
  .exact AE _ (ih ((Ay e).symm.trans q))
structure XR (K:Fg) (mg:Ah->Ao Al) (xn:Ag->Ac D->R Ex) (p:Ag×Ak):Prop where
 ok:zq K p.2
 nf:∀ f:Ah,(f==("triple" : Ah)||(f==("points" : Ah)||f==("row" : Ah)))=Ab->G7 K p.2=Ab/\At K (.ref p.2) f=Aa Af
 md:∀ ds,xn p.1 ds=.bad\/(xn p.1 ds=.ok ⟨p.1,[]⟩/\DF K p.2 Af=Ab)\/∃ f,lu K mg p.2 f/\Nl xn p.1 f ds
theorem XA.row{c:Ah}{x:Ak}(a:XA K c x Af)(h:∀ ds,xn k ds=.bad\/xn k ds=.ok ⟨k,[]⟩):XR K mg xn (k,x):=⟨a.ok,Wg a.dc a.ft a.fp a.fr,xB h a.y⟩
theorem XB.row{c q:Ah}{x i o:Ak}{st:AL}{g par f:Ah}(X:K.In h)(G:h.Ns AO mg)(b:XB K c x i q st)(w:XO K o)(no:Bb K AO g=Aa (Aa (.ref o)))(hf:f = "triple"\/f = "points")(hk:Nt g par f st=Ab)(hb:∀(u0 u1 kV doc pm:Al)(an:Ao Ak)(cdv ct:Al),Hg (B4 "__init__" q (Hj st) (Di st) (AH st) .none kV doc pm an cdv ct) ⟨[u0,u1],[]⟩=pure ((["self",par]:Ac Ah).zip [u0,u1]))(hx:∀ ds,xn k ds=bt k f ds):XR K mg xn (k,x):=
 ⟨b.a.ok,Wg b.a.dc b.a.ft b.a.fp b.a.fr,xA hx (lP b.ii hk hb b.a.y b.a.dc b.ti (A3 X G no) w.sa w.sb w.sc (by rcases hf with rfl|rfl;exact b.a.ft;exact b.a.fp) b.sn)⟩
theorem tQ{l:Ac (Ag×Ak)}{rzs exs:Ac (Ah×Ag)}(r:∀ p∈l,XR K mg xn p)(rz:∀ p∈rzs,∃ C,lw l p.2=Aa C/\mg p.1=Aa (.ref C))(ex:∀ p∈exs,∃ C,mg p.1=Aa (.ref C)/\KC K C/\tj K C (l.map λq=>(q.2,(up q.1).contains p.2)))(xb:∀ c,(∀ p∈rzs,p.2≠c)->∀ ds,xn c ds=.bad):XT up xn (lw l) rzs exs K mg:=by
 refine⟨λc C q=>(r _ (M7 q)).ok,rz,λp hp=>?_,λc C ds q=>(r _ (M7 q)).md ds,λc C q=>(r _ (M7 q)).nf,xb⟩
 obtain⟨C,e,kc,su⟩:=ex p hp;have s:∀ c D,lw l c=Aa D->BQ K (.ref D) (.ref C)=Aa ((up c).contains p.2):=λc D q=>su _ (List.mem_map_of_mem (f:=λq:Ag×Ak=>(q.2,(up q.1).contains p.2)) (M7 q))
 exact⟨C,e,λc D q=>let ⟨_,y⟩:=(r _ (M7 q)).ok.exc;kc _ _ _ y (s c D q),s⟩
def Nm(K:Fg):Sp:=λvs H Q _=>∃(a:Ak)(ns:Ac Ai),vs=[.ref a]/\ns.length<=63/\Id K H a (ns.map V.int)/\∀ v H',v=V.bl Ab->Q v H'
theorem law_fn{CX:CXT}{f:Ak}{ps:Ac Ah}(G:Y4 P w K mg base CX k f fd ps (spD K CL 1 Ae F))(h:∀ ns:Ac Ai,F [.L (ns.map .int)]=.ok (.bl Ab)):Y4 P w K mg base CX k f fd ps (Nm K):=G.imp λvs H Q E ⟨a,ns,e,hl,hS,q⟩=>by
 subst e;have rs:∀ l:Ac Ai,Z9 K CL H A0 (l.map V.int) (l.map D.int):=λl=>by
  induction l with
  |nil=>trivial
  |cons x l ih=>exact⟨rfl,ih⟩
 refine⟨[.L (ns.map .int)],A0,rfl,λ_ z=>z.elim,⟨⟨a,_,rfl,.inl (λz=>z),hS,rs ns⟩,trivial⟩,?_⟩
 rw[h ns];exact λv H' _ r=>q v H' r.1
theorem aNl{Q:α->Prop}:∀ x∈([]:Ac α),Q x:=λ_ h=>nomatch h
theorem aCn{Q:α->Prop}{a:α}{l:Ac α}(h1:Q a)(h2:∀ x∈l,Q x):∀ x∈a::l,Q x:=List.forall_mem_cons.2 ⟨h1,h2⟩
def yv(K:Fg)(f:Ak)(n:Ah)(st:AL):Prop:=∃ fd,qi K n n st f fd/\Bb K AO n=Aa (Aa (.ref f))
theorem fni{n:Ah}{st:AL}{f:Ak}{oc:Al}{kV doc pm cdv ct:Al}(a:Bb K AO n=Aa (Aa (.ref f)))(l:K.lookup f=Aa ⟨oc,od,.func (B4 n n (Hj st) (Di st) (AH st) .none kV doc pm an cdv ct),osl⟩)(c:DE K cdv n=Ab)(k:Ba K (.ref f)=Ab):yv K f n st:=⟨_,Q6 l c k,a⟩
def Bd(n:Ah)(st:AL)(ps:Ac Ah)(us:Ac Al):Prop:=∀(kV doc pm:Al)(an:Ao Ak)(cdv ct:Al),Hg (B4 n n (Hj st) (Di st) (AH st) .none kV doc pm an cdv ct) ⟨us,[]⟩=pure (ps.zip us)
theorem dH(h:mg x=v)(e:Gd.lookup x=Af):IV K mg x=v:=by
 unfold IV;rw[e];exact h
def n5(K:Fg)(f:Ak)(m q:Ah)(st:AL):Prop:=∃ fd,qi K m q st f fd
theorem mei{m q:Ah}{st:AL}{f:Ak}{oc:Al}{kV doc pm cdv ct:Al}(l:K.lookup f=Aa ⟨oc,od,.func (B4 m q (Hj st) (Di st) (AH st) .none kV doc pm an cdv ct),osl⟩)(c:DE K cdv q=Ab)(k:Ba K (.ref f)=Ab):n5 K f m q st:=⟨_,Q6 l c k⟩
theorem WI{key m q:Ah}{c:Ag}{C f:Ak}{st:AL}{N:Ac Ah}(id:Ag)(hk:Gd.lookup key=Aa (c,m))(hC:OC K c=Aa C)(hf:At K (.ref C) m=Aa (Aa (.ref f)))(A:n5 K f m q st)(hc:GC fuel Ae fns bl rzs exs gls ["self"] N st (Pg.defs id)=Ab)(hb:∀(u0 kV doc pm:Al)(an:Ao Ak)(cdv ct:Al),Hg (B4 m q (Hj st) (Di st) (AH st) .none kV doc pm an cdv ct) ⟨[u0],[]⟩=pure ((["self"]:Ac Ah).zip [u0])):KU K mg fns bl rzs exs gls Pg fuel (key,id,1):=by
 obtain⟨fd,F⟩:=A;refine⟨_,_,["self"],_,_,_,?_,⟨_,Hq F⟩,F.binds λkV doc pm an cdv ct us hu=>match us,hu with | [u0],_=>hb u0 kV doc pm an cdv ct,rfl,hc⟩
 unfold IV;rw[show Gd.lookup (key,id,1).1=Aa (c,m) from hk]
 dsimp only;rw[hC];show (At K (.ref C) m).join=_;rw[hf];rfl
structure OA (K:Fg) (n:Ah) (C t s f:Ak):Prop where
 n:Bb K AO n=Aa (Aa (.ref C))
 o:n6 K C
 ft:At K (.ref C) "told" = Aa (Aa (.ref t))
 fs:At K (.ref C) "shown" = Aa (Aa (.ref s))
 nt:Co K (.ref t)=Ab
 ns:Co K (.ref s)=Ab
 m:Mk K C f
theorem oa_mk{n:Ah}{C t s f:Ak}(n1:Bb K AO n=Aa (Aa (.ref C)))(i:At K (.ref C) "__init__" = Aa (Aa (.ref f)))(ft:At K (.ref C) "told" = Aa (Aa (.ref t)))(fs:At K (.ref C) "shown" = Aa (Aa (.ref s)))(pg:D8 K C Dp=Ab)(hd:EA K C=Ab)(po:F7 K C=Ab)(sa:At K (.ref C) "__setattr__" = Aa (Aa (.builtin "object.__setattr__")))(np:At K (.ref C) "p" = Aa Af)(nt:At K (.ref C) "triple" = Aa Af)(ha:At K (.ref C) "__class__" = Aa (Aa (.builtin "object.__class__")))(hn:C3 K (.builtin "object.__class__") "__get__" = Aa (Aa (.builtin "getset_descriptor.__get__")))(htk:IH K (.builtin "object.__class__")=Aa Ab)(hm:Ck K C (.type "object")=Aa Ab)(t1:Co K (.ref t)=Ab)(s1:Co K (.ref s)=Ab)(mk:GV K C=Ab)(f1:Co K (.ref f)=Ab)(kp:Ba K (.ref C)=Ab):OA K n C t s f:=
 ⟨n1,⟨⟨pg,hd,po,sa⟩,np,nt,ha,hn,htk,hm⟩,ft,fs,t1,s1,⟨mk,i,f1,kp⟩⟩
theorem KR{c:Ag}(h:c<3)(n:Bb K AO (O5 c)=Aa (Aa (.ref C))):OC K c=Aa C:=by
 unfold OC;rw[Au h,n]
def fw(K:Fg)(C:Ak)(l:Ac (Ak×An)):Prop:=∀ q∈l,B8 K (.ref C) (.ref q.1)=Aa q.2
theorem uB{C0 C1 C2 t0 t1 t2 s0 s1 s2 f:Ak}(X:K.In h)(G:h.Ns AO mg)(a0:OA K "Triple" C0 t0 s0 f)(a1:OA K "Point" C1 t1 s1 f)(a2:OA K "Line" C2 t2 s2 f)(k0:fw K C0 [(C0,Ab),(C1,Ae),(C2,Ae)])(k1:fw K C1 [(C0,Ab),(C1,Ab),(C2,Ae)])(k2:fw K C2 [(C0,Ab),(C1,Ae),(C2,Ab)]):OS K mg:=by
  have e0:OC K 0=Aa C0:=KR (by decide) a0.n
  have e1:OC K 1=Aa C1:=KR (by decide) a1.n
  have e2:OC K 2=Aa C2:=KR (by decide) a2.n
  have three:∀ c C,OC K c=Aa C->(c=0/\C=C0)\/(c=1/\C=C1)\/(c=2/\C=C2):=λc C e=>by
    match c,e with
    |0,e=>exact .inl ⟨rfl,(BD (e0.symm.trans e)).symm⟩
    |1,e=>exact .inr (.inl ⟨rfl,(BD (e1.symm.trans e)).symm⟩)
    |2,e=>exact .inr (.inr ⟨rfl,(BD (e2.symm.trans e)).symm⟩)
    |n+3,e=>
      unfold OC at e;rw[Ay (by omega)]at e
      cases e
  have fu:∀{f f':Ak}{r:Ao (Ao Al)},r=Aa (Aa (.ref f))->r=Aa (Aa (.ref f'))->f'=f:=λa b=>by rw[a]at b;cases b;rfl
  refine⟨λc C e=>?_,λc C c' C' e e'=>?_,λc hc=>?_,λc C m f' e hm hf=>?_⟩
  · rcases three c C e with ⟨rfl,rfl⟩|⟨rfl,rfl⟩|⟨rfl,rfl⟩
    · exact a0.o
    · exact a1.o
    · exact a2.o
  · rcases three c C e with ⟨rfl,rfl⟩|⟨rfl,rfl⟩|⟨rfl,rfl⟩<;>rcases three c' C' e' with ⟨rfl,rfl⟩|⟨rfl,rfl⟩|⟨rfl,rfl⟩
    · exact k0 (_,Ab) (by simp)
    · exact k0 (_,Ae) (by simp)
    · exact k0 (_,Ae) (by simp)
    · exact k1 (_,Ab) (by simp)
    · exact k1 (_,Ab) (by simp)
    · exact k1 (_,Ae) (by simp)
    · exact k2 (_,Ab) (by simp)
    · exact k2 (_,Ae) (by simp)
    · exact k2 (_,Ab) (by simp)
  · match c,hc with
    |0,_=>exact⟨_,e0,A3 X G a0.n⟩
    |1,_=>exact⟨_,e1,A3 X G a1.n⟩
    |2,_=>exact⟨_,e2,A3 X G a2.n⟩
    |n+3,h=>omega
  · rcases vo hm with z|z
    · obtain rfl:=eq_of_beq z;rcases three c C e with ⟨rfl,rfl⟩|⟨rfl,rfl⟩|⟨rfl,rfl⟩
      · rw[fu a0.ft hf];exact a0.nt
      · rw[fu a1.ft hf];exact a1.nt
      · rw[fu a2.ft hf];exact a2.nt
    · obtain rfl:=eq_of_beq z;rcases three c C e with ⟨rfl,rfl⟩|⟨rfl,rfl⟩|⟨rfl,rfl⟩
      · rw[fu a0.fs hf];exact a0.ns
      · rw[fu a1.fs hf];exact a1.ns
      · rw[fu a2.fs hf];exact a2.ns
theorem wD{C0 C1 C2 t0 t1 t2 s0 s1 s2 f:Ak}{q:Ah}{st:AL}(a0:OA K "Triple" C0 t0 s0 f)(a1:OA K "Point" C1 t1 s1 f)(a2:OA K "Line" C2 t2 s2 f)(A:fq K f q st)(hc:Nu fuel fns bl rzs exs gls st=Ab)(d0:Pg.defs 900=ua 0)(d1:Pg.defs 901=ua 1)(d2:Pg.defs 902=ua 2)(d3:Pg.defs 910=km)(hb:∀(u0 u1 u2 kV doc pm:Al)(an:Ao Ak)(cdv ct:Al),Hg (B4 "__init__" q (Hj st) (Di st) (AH st) .none kV doc pm an cdv ct) ⟨[u0,u1,u2],[]⟩=pure ((["self", "p", "numbers"]:Ac Ah).zip [u0,u1,u2])):InR K fns bl rzs exs gls Pg fuel:=by
  obtain⟨fd,F⟩:=A;refine⟨λc hc=>?_,d3,f,fd,_,q,st,Hq F,F.binds λkV doc pm an cdv ct us hu=>match us,hu with | [u0,u1,u2],_=>hb u0 u1 u2 kV doc pm an cdv ct,hc,λc hc=>?_⟩
  · match c,hc with
    |0,_=>exact d0
    |1,_=>exact d1
    |2,_=>exact d2
    |n+3,h=>omega
  · match c,hc with
    |0,_=>exact⟨_,KR (by decide) a0.n,a0.m⟩
    |1,_=>exact⟨_,KR (by decide) a1.n,a1.m⟩
    |2,_=>exact⟨_,KR (by decide) a2.n,a2.m⟩
    |n+3,h=>omega
theorem Na{n:Ah}{f:Ak}{st:AL}{ps N:Ac Ah}(m id:Ag)(hm:Gd.lookup n=Af)(X:K.In h)(G:h.Ns AO mg)(A:yv K f n st)(hl:ps.length=m%1000)(hc:GC fuel (CF 1000 m) fns bl rzs exs gls ps N st (Pg.defs id)=Ab)(hb:∀ us:Ac Al,us.length=ps.length->Bd n st ps us):KU K mg fns bl rzs exs gls Pg fuel (n,id,m):=by
 obtain⟨fd,F,a⟩:=A;exact⟨_,_,_,_,_,_,dH (A3 X G a) hm,⟨_,Hq F⟩,F.binds λkV doc pm an cdv ct us hu=>hb us hu kV doc pm an cdv ct,hl,hc⟩
theorem Nv{l:Ac α}(h:l.length=0):l=[]:=Ey h
theorem E7{l:Ac α}{n:Ag}(h:l.length=n+1):∃ a r,l=a::r/\r.length=n:=by
 cases l with
 |nil=>cases h
 |cons a r=>exact⟨a,r,rfl,Nat.succ.inj h⟩
theorem Mt{n:Ah}{f:Ak}{st:AL}{N:Ac Ah}(m id:Ag)(hm:Gd.lookup n=Af)(X:K.In h)(G:h.Ns AO mg)(A:yv K f n st)(hc:GC fuel (CF 1000 m) fns bl rzs exs gls [x0] N st (Pg.defs id)=Ab)(hl:1=m%1000:=by rfl)(hb :∀ u0,Bd n st [x0] [u0]:=by exact λ_ _ _ _ _ _ _=>rfl):KU K mg fns bl rzs exs gls Pg fuel (n,id,m):=
 Na (ps:=[x0]) m id hm X G A hl hc λus hu=>by obtain⟨u0,v0,rfl,h0⟩:=E7 hu;obtain rfl:=Nv h0;exact hb u0
theorem Iy{n:Ah}{f:Ak}{st:AL}{N:Ac Ah}(m id:Ag)(hm:Gd.lookup n=Af)(X:K.In h)(G:h.Ns AO mg)(A:yv K f n st)(hc:GC fuel (CF 1000 m) fns bl rzs exs gls [x0,x1] N st (Pg.defs id)=Ab)(hl:2=m%1000:=by rfl)(hb :∀ u0 u1,Bd n st [x0,x1] [u0,u1]:=by exact λ_ _ _ _ _ _ _ _=>rfl):KU K mg fns bl rzs exs gls Pg fuel (n,id,m):=
 Na (ps:=[x0,x1]) m id hm X G A hl hc λus hu=>by obtain⟨u0,v0,rfl,h0⟩:=E7 hu;obtain⟨u1,v1,rfl,h1⟩:=E7 h0;obtain rfl:=Nv h1;exact hb u0 u1
theorem zP{n:Ah}{f:Ak}{st:AL}{N:Ac Ah}(m id:Ag)(hm:Gd.lookup n=Af)(X:K.In h)(G:h.Ns AO mg)(A:yv K f n st)(hc:GC fuel (CF 1000 m) fns bl rzs exs gls [x0,x1,x2] N st (Pg.defs id)=Ab)(hl:3=m%1000:=by rfl)(hb :∀ u0 u1 u2,Bd n st [x0,x1,x2] [u0,u1,u2]:=by exact λ_ _ _ _ _ _ _ _ _=>rfl):KU K mg fns bl rzs exs gls Pg fuel (n,id,m):=
 Na (ps:=[x0,x1,x2]) m id hm X G A hl hc λus hu=>by obtain⟨u0,v0,rfl,h0⟩:=E7 hu;obtain⟨u1,v1,rfl,h1⟩:=E7 h0;obtain⟨u2,v2,rfl,h2⟩:=E7 h1;obtain rfl:=Nv h2;exact hb u0 u1 u2
theorem WJ{n:Ah}{f:Ak}{st:AL}{N:Ac Ah}{x3:Ah}(m id:Ag)(hm:Gd.lookup n=Af)(X:K.In h)(G:h.Ns AO mg)(A:yv K f n st)(hc:GC fuel (CF 1000 m) fns bl rzs exs gls [x0,x1,x2,x3] N st (Pg.defs id)=Ab)(hl:4=m%1000:=by rfl)(hb :∀ u0 u1 u2 u3,Bd n st [x0,x1,x2,x3] [u0,u1,u2,u3]:=by exact λ_ _ _ _ _ _ _ _ _ _=>rfl):KU K mg fns bl rzs exs gls Pg fuel (n,id,m):=
 Na (ps:=[x0,x1,x2,x3]) m id hm X G A hl hc λus hu=>by obtain⟨u0,v0,rfl,h0⟩:=E7 hu;obtain⟨u1,v1,rfl,h1⟩:=E7 h0;obtain⟨u2,v2,rfl,h2⟩:=E7 h1;obtain⟨u3,v3,rfl,h3⟩:=E7 h2;obtain rfl:=Nv h3;exact hb u0 u1 u2 u3
theorem w5{n:Ah}{f:Ak}{st:AL}{N:Ac Ah}{x3 x4 x5 x6 x7 x8:Ah}(m id:Ag)(hm:Gd.lookup n=Af)(X:K.In h)(G:h.Ns AO mg)(A:yv K f n st)(hc:GC fuel (CF 1000 m) fns bl rzs exs gls [x0,x1,x2,x3,x4,x5,x6,x7,x8] N st (Pg.defs id)=Ab)(hl:9=m%1000:=by rfl)(hb :∀ u0 u1 u2 u3 u4 u5 u6 u7 u8,Bd n st [x0,x1,x2,x3,x4,x5,x6,x7,x8] [u0,u1,u2,u3,u4,u5,u6,u7,u8]:=by exact λ_ _ _ _ _ _ _ _ _ _ _ _ _ _ _=>rfl):KU K mg fns bl rzs exs gls Pg fuel (n,id,m):=
 Na (ps:=[x0,x1,x2,x3,x4,x5,x6,x7,x8]) m id hm X G A hl hc λus hu=>by obtain⟨u0,v0,rfl,h0⟩:=E7 hu;obtain⟨u1,v1,rfl,h1⟩:=E7 h0;obtain⟨u2,v2,rfl,h2⟩:=E7 h1;obtain⟨u3,v3,rfl,h3⟩:=E7 h2;obtain⟨u4,v4,rfl,h4⟩:=E7 h3;obtain⟨u5,v5,rfl,h5⟩:=E7 h4;obtain⟨u6,v6,rfl,h6⟩:=E7 h5;obtain⟨u7,v7,rfl,h7⟩:=E7 h6;obtain⟨u8,v8,rfl,h8⟩:=E7 h7;obtain rfl:=Nv h8;exact hb u0 u1 u2 u3 u4 u5 u6 u7 u8
end
structure Dk where
 p:D
 l:Ac D
 c:D
 ps:Ac D
variable{q:Dk}
inductive RK where
 |ok (d:D) (q:Dk)|exn (x:Ex)|bad
variable{G:Dk->Ac D->RK}
def pk(r:RK)(P:D->Dk->Prop)(Z_:Ex->Prop):Prop:=match r with
  |.ok d q=>P d q
  |.exn x=>Z_ x
  |.bad=>AM
noncomputable def yq(v1 v2 v3:V)(la:Ak):Ac (Ah×V):=[("p",v1),("points",v2),("curve",v3),("past",.ref la)]
section
variable(K:Fg)(CL:ClA)
def DK(H:Hp)(A:Ak->Prop)(C a la:Ak)(q:Dk):Prop:=∃ dx v1 v2 v3 xs,H a=Aa (.ins C dx (yq v1 v2 v3 la))/\H la=Aa (.L xs)/\Z7 K CL H A v1 q.p/\Z7 K CL H A v2 (.L q.l)/\Z7 K CL H A v3 q.c/\Z9 K CL H A xs q.ps
def KB(a la:Ak)(H H':Hp):Prop:=∀ b o,H b=Aa o->b≠a->b≠la->H' b=Aa o
def AV(A:Ak->Prop)(v:V):Ak->Prop:=λb=>A b\/v=.ref b
def vv(C:Ak)(m:Ag)(G:Dk->Ac D->RK):Sp:=λvs H Q E=>∃(a la:Ak)(us:Ac V)(ds:Ac D)(A:Ak->Prop)(q:Dk),vs=.ref a::us/\us.length=m/\My H A/\A a/\A la/\Z9 K CL H A us ds/\DK K CL H A C a la q/\pk (G q ds) (λd q'=>∀ v H',KB a la H H'->Cw K CL Ab H A H' v d->DK K CL H' (AV A v) C a la q'->Q v H') (λx=>∀ cls dx H',Az H H'->Dz K CL H' cls dx x->E cls dx H')
end
section
variable{K:Fg}{CL:ClA}{H H' H2:Hp}{A:Ak->Prop}{C a la:Ak}{q:Dk}
theorem KB.kp(k:KB a la H H')(ha:A a)(hl:A la):Kp A H H':=λb o e n=>k b o e (λz=>n (z ▸ ha)) λz=>n (z ▸ hl)
theorem KB.of(s:Az H H'):KB a la H H':=λb o e _ _=>s b o e
theorem KB.trans(k:KB a la H H')(k':KB a la H' H2):KB a la H H2:=λb o e n m=>k' b o (k b o e n m) n m
theorem DK.same(d:DK K CL H A C a la q)(s:Az H H'):DK K CL H' A C a la q:=by
 obtain⟨dx,v1,v2,v3,xs,h1,h2,r1,r2,r3,r4⟩:=d;exact⟨dx,v1,v2,v3,xs,s _ _ h1,s _ _ h2,r1.same s,r2.same s,r3.same s,r4.same s⟩
theorem DK.sub{A':Ak->Prop}(d:DK K CL H A C a la q)(k:∀ b,A' b->A b):DK K CL H A' C a la q:=by
 obtain⟨dx,v1,v2,v3,xs,h1,h2,r1,r2,r3,r4⟩:=d;exact⟨dx,v1,v2,v3,xs,h1,h2,Z7.sub k _ r1,Z7.sub k _ r2,Z7.sub k _ r3,Z9.sub k _ r4⟩
theorem DK.un{v:V}(d:DK K CL H (AV A v) C a la q):DK K CL H A C a la q:=d.sub λ_ h=>.inl h
theorem DK.O(d:DK K CL H A C a la q):DK K CL H (AV A .O) C a la q:=d.sub λ_ h=>h.elim id λz=>nomatch z
theorem DK.new{t:Ak}(d:DK K CL H A C a la q)(ht:H t=Af):DK K CL H (AV A (.ref t)) C a la q:=by
 obtain⟨dx,v1,v2,v3,xs,h1,h2,r1,r2,r3,r4⟩:=d;have k:∀ b,AV A (.ref t) b->A b\/H b=Af:=λb h=>h.imp id λz=>by cases z;exact ht
 exact⟨dx,v1,v2,v3,xs,h1,h2,Z7.wide k _ r1,Z7.wide k _ r2,Z7.wide k _ r3,Z9.wide k _ r4⟩
theorem DK.aok(d:DK K CL H' A C a la q)(k:KB a la H H')(h:My H A):My H' A:=λb hb=>by
 obtain⟨dx,v1,v2,v3,xs,h1,h2,_⟩:=d;by_cases e1:b=a
 .rw[e1];exact⟨_,h1,trivial⟩
 .by_cases e2:b=la
  .rw[e2];exact⟨_,h2,trivial⟩
  .obtain⟨o,ho,w⟩:=h b hb;exact⟨o,k b o ho e1 e2,w⟩
end
structure uh (K:Fg) (C:Ak):Prop where
 cl:we K C
 n1:FP K C "p"
 n2:FP K C "points"
 n3:FP K C "curve"
 n4:FP K C "past"
section
variable{X:Cx}{C:Ak}(dc:uh X.K C)(ps:∀ p,PE X (.Name "self" p) (Ci 0))
include dc ps
theorem Re{p p':AF}:PE X (.Attribute (.Name "self" p) "p" p') (λY H Q=>∃ a dx v1 v2 v3 la,Y[0]?=Aa (Aa (.ref a))/\H a=Aa (.ins C dx (yq v1 v2 v3 la))/\Q v1 H):=
 PE.weak (Oi (ps p) rfl) λY H Q ⟨a,dx,v1,v2,v3,la,h1,h2,q⟩=>⟨_,h1,a,C,dx,_,v1,rfl,h2,dc.cl,dc.n1,rfl,q⟩
theorem Nh{p p':AF}:PE X (.Attribute (.Name "self" p) "points" p') (λY H Q=>∃ a dx v1 v2 v3 la,Y[0]?=Aa (Aa (.ref a))/\H a=Aa (.ins C dx (yq v1 v2 v3 la))/\Q v2 H):=
 PE.weak (Oi (ps p) rfl) λY H Q ⟨a,dx,v1,v2,v3,la,h1,h2,q⟩=>⟨_,h1,a,C,dx,_,v2,rfl,h2,dc.cl,dc.n2,rfl,q⟩
theorem Wm{p p':AF}:PE X (.Attribute (.Name "self" p) "curve" p') (λY H Q=>∃ a dx v1 v2 v3 la,Y[0]?=Aa (Aa (.ref a))/\H a=Aa (.ins C dx (yq v1 v2 v3 la))/\Q v3 H):=
 PE.weak (Oi (ps p) rfl) λY H Q ⟨a,dx,v1,v2,v3,la,h1,h2,q⟩=>⟨_,h1,a,C,dx,_,v3,rfl,h2,dc.cl,dc.n3,rfl,q⟩
theorem Rg{p p':AF}:PE X (.Attribute (.Name "self" p) "past" p') (λY H Q=>∃ a dx v1 v2 v3 la,Y[0]?=Aa (Aa (.ref a))/\H a=Aa (.ins C dx (yq v1 v2 v3 la))/\Q (.ref la) H):=
 PE.weak (Oi (ps p) rfl) λY H Q ⟨a,dx,v1,v2,v3,la,h1,h2,q⟩=>⟨_,h1,a,C,dx,_,.ref la,rfl,h2,dc.cl,dc.n4,rfl,q⟩
end
noncomputable def sf(ps N:Ac Ah)(st:AL):An:=(AH st).kind==.function&&(!(AH st).isCoroutine&&(!(AH st).isGenerator&&(JC N&&(N.take ps.length==ps&&(N.all (λx=>(AH st).names.lookup x==Aa .local)&&(AH st).names.all (λy=>y.2 != .free))))))
structure ScO (ps N:Ac Ah) (st:AL):Prop where
 fs:zW N ps (AH st)
 loc:∀ x∈N,(AH st).names.lookup x=Aa .local
theorem JG{ps N:Ac Ah}{st:AL}(h:sf ps N st=Ab):ScO ps N st:=by
 unfold sf at h;simp only[Am,AD,Bf,Bh,E8,JU]at h;obtain⟨c1,c2,c3,c4,c5,c6,c7⟩:=h;exact⟨⟨c1,c2,c3,IK c4,c5,λx hx=>.inl (c6 x (by rw[<-c5]at hx;exact List.mem_of_mem_take hx)),c7⟩,c6⟩
noncomputable def WE(K:Fg)(CL:ClA)(E:XK):XW:=λy H'=>∀ cls dx,Dz K CL H' cls dx y->E cls dx H'
section
variable{X:Cx}{C:Ak}
theorem fG{k}(dc:uh X.K C)(ps:∀ p,PE X (.Name "self" p) (Ci 0))(pl:∀ p,PE X (.Name "points" p) (Ci 1))(pc:∀ p,PE X (.Name "curve" p) (Ci 2))(hl:(p3.endLine==p9.line)=Ab):
  yj X [.Expr (.Call (.Attribute (.Attribute (.Name "self" p1) "past" p2) "append" p3) [.Tuple [.Attribute (.Name "self" p4) "points" p5,.Attribute (.Name "self" p6) "curve" p7] k p8] [] p9) p10,.Assign [.Attribute (.Name "self" wv) "points" wa] (.Name "points" uo) uc,.Assign [.Attribute (.Name "self" ud) "curve" ue] (.Name "curve" vb) uf]
   (λD Y H=>∃ a la y2 y3 dx v1 v2 v3 xs,Y[0]?=Aa (Aa (.ref a))/\Y[1]?=Aa (Aa y2)/\Y[2]?=Aa (Aa y3)/\H a=Aa (.ins C dx (yq v1 v2 v3 la))/\H la=Aa (.L xs)/\xs.length<sizeLine/\∀ t,H t=Af->D.nx Y (upd (upd (upd (upd H t (.H [v2,v3])) la (.L (xs++[.ref t]))) a (.ins C dx (yq v1 y2 v3 la))) a (.ins C dx (yq v1 y2 y3 la)))):=by
 refine yj.weak (Ca (Kg (IS BJ D5 D6 NQ (Rg dc ps) (Bv (Of (Bv (Nh dc ps) (Bv (Wm dc ps) Cb rfl) rfl)) Cb rfl) rfl rfl hl rfl rfl) rfl) (Ca (IR (ps wv) (pl uo) rfl) (DT (IR (ps ud) (pc vb) rfl)))) ?_;rintro D Y H ⟨a,la,y2,y3,dx,v1,v2,v3,xs,s0,s1,s2,ha,zg,hz,q⟩;have ne:la≠a:=λz=>by rw[z,ha]at zg;cases zg
 refine⟨a,dx,v1,v2,v3,la,s0,ha,.inl ⟨rfl,xs,Id.of zg⟩,a,dx,v1,v2,v3,la,s0,ha,a,dx,v1,v2,v3,la,s0,ha,by rw[Bz];exact AR rfl,λt ht=>?_⟩
 have nt:t≠la:=λz=>by rw[z,zg]at ht;cases ht
 have Í:t≠a:=λz=>by rw[z,ha]at ht;cases ht
 have h1:(upd (upd H t (.H [v2,v3])) la (.L (xs++[.ref t]))) a=Aa (.ins C dx (yq v1 v2 v3 la)):=by rw[AQ (CG ne),AQ (CG Í)];exact ha
 exact⟨la,xs,.ref t,rfl,rfl,by rw[AQ (CG nt)];exact zg,hz,y2,s1,.ref a,s0,a,C,dx,_,rfl,h1,dc.cl,dc.n2,AR rfl,y3,s2,.ref a,s0,a,C,dx,_,rfl,BO,dc.cl,dc.n3,AR rfl,q t ht⟩
noncomputable def G9(q:Dk)(l:Ac D)(c:D):Dk:=⟨q.p,l,c,q.ps++[.H [.L q.l,q.c]]⟩
noncomputable def OZ(q:Dk):Ac D->RK
 |[.L l,c]=>if q.ps.length<900 then .ok .O (G9 q l c) else .bad
 |_=>.bad
end
section
variable{P:AK}{w:AI}{K:Fg}{mg:Ah->Ao Al}{base:AJ}{CL:ClA}{n:Ag}{C:Ak}
theorem qY{st:AL}{f:Ak}{k}(dc:uh K C)(hf:zc K x qual st f fd)(hs:sf ["self", "points", "curve"] ["self", "points", "curve"] st=Ab)(hl:(p3.endLine==p9.line)=Ab)
    (hb:Di st=[.Expr (.Call (.Attribute (.Attribute (.Name "self" p1) "past" p2) "append" p3) [.Tuple [.Attribute (.Name "self" p4) "points" p5,.Attribute (.Name "self" p6) "curve" p7] k p8] [] p9) p10,.Assign [.Attribute (.Name "self" wv) "points" wa] (.Name "points" uo) uc,.Assign [.Attribute (.Name "self" ud) "curve" ue] (.Name "curve" vb) uf]):
    Y4 P w K mg base (CXR P w) (n+1) f fd ["self", "points", "curve"] (vv K CL C 2 OZ):=by
  obtain⟨oc,od,dV,kV,doc,pm,an,cdv,ct,osl,rfl,lk,zu⟩:=hf.ex;have sc:=JG hs;refine Hr lk zu sc.fs (λvs H Q E ⟨a,la,us,ds,A,q,e,z,_⟩=>by rw[e,A8,z];rfl) λA outer s H vs Q E hr ⟨a,la,us,ds,B,q,e,U8,hA,ha,zg,rs,dk,hp⟩=>?_
  subst e;rw[hb];refine⟨_,fG dc (λp=>Dx rfl (.inl (sc.loc "self" (by simp)))) (λp=>Dx rfl (.inl (sc.loc "points" (by simp)))) (λp=>Dx rfl (.inl (sc.loc "curve" (by simp)))) hl,?_⟩
  match us,ds,U8,rs with
  |[y2,y3],[d2,d3],_,⟨r2,r3,_⟩=>
    cases d2 with
    |L l=>
      have hp:pk (if q.ps.length<900 then RK.ok .O (G9 q l d3) else .bad) _ _:=hp
      by_cases hz:q.ps.length<900
      · rw[Au hz]at hp;obtain⟨dx,v1,v2,v3,xs,h1,h2,r4,r5,r6,r7⟩:=dk;have ne:la≠a:=λz=>by rw[z,h1]at h2;cases h2
        refine⟨a,la,y2,y3,dx,v1,v2,v3,xs,rfl,rfl,rfl,h1,h2,by rw[r7.length,Bz];omega,λt ht=>?_⟩
        have kb:KB a la H (upd (upd (upd (upd H t (.H [v2,v3])) la (.L (xs++[.ref t]))) a (.ins C dx (yq v1 y2 v3 la))) a (.ins C dx (yq v1 y2 y3 la))):=λb o e n1 n2=>by
          rw[AQ n1,AQ n1,AQ n2,AQ (Et e ht)];exact e
        have kp:=kb.kp ha zg;have nt:t≠la:=λz=>by rw[z,h2]at ht;cases ht
        have Í:t≠a:=λz=>by rw[z,h1]at ht;cases ht
        refine hp .O _ kb ⟨rfl,λ_ _ z=>nomatch z⟩ (DK.O ⟨dx,v1,y2,y3,xs++[.ref t],BO,?_,Z7.kp kp _ r4,Z7.kp kp _ r2,Z7.kp kp _ r3,(Z9.kp kp _ r7).append ⟨⟨t,[v2,v3],rfl,.inl (hA.new ht),yt.of ?_,Z7.kp kp _ r5,Z7.kp kp _ r6,trivial⟩,trivial⟩⟩)
        · rw[AQ ne,AQ ne];exact BO
        · rw[AQ Í,AQ Í,AQ nt];exact BO
      · rw[Ay hz]at hp;exact hp.elim
    |_=>exact hp.elim
  |[_,_],[],_,r=>exact r.elim
  |[_,_],[_],_,r=>exact r.2.elim
  |[_,_],_::_::_::_,_,r=>exact r.2.2.elim
end
section
variable{K:Fg}{CL:ClA}{H:Hp}{A:Ak->Prop}{U:Rho}{Y:L2.St}
theorem OF(hA:My H A)(g:Y9 K CL A U Y H)(no:∀(i:Ag)(d:D),U[i]?≠Aa (Aa (d,Ab))):Sx K CL ⟨λb o=>H b=Aa o,λ_ _ _=>AM⟩ A U Y H:=by
 have own:∀ b,BN A U Y b->A b:=λb h=>h.elim id λ⟨j,d,h1,_⟩=>absurd h1 (no j d)
 exact⟨⟨λi d h=>let ⟨v,q,r⟩:=g.sh i d h;⟨v,q,Z7.sub own _ r⟩,λi d h=>absurd h (no i d),g.len⟩,λb h=>hA b (own b h),λj d b h=>absurd h (no j d),λi j d e b h=>absurd h (no i d),λ_ _ z=>z,g.len,λj h=>absurd h (no j _)⟩
def è(K:Fg)(CL:ClA)(A:Ak->Prop)(H:Hp):Rho->L2.St->Prop
 |[],[]=>F8
 |some (d,o)::U,v::Y=>(o=Ae/\∃ u,v=Aa u/\Z7 K CL H A u d)/\è K CL A H U Y
 |none::U,_::Y=>è K CL A H U Y
 |_,_=>AM
theorem HI:∀{U:Rho}{Y:L2.St},è K CL A H U Y->Y9 K CL A U Y H/\∀(i:Ag)(d:D),U[i]?≠Aa (Aa (d,Ab))
 |[],[],_=>⟨⟨λi d h=>by simp at h,λi d h=>by simp at h,rfl⟩,λi d h=>by simp at h⟩
 |some (d,o)::U,v::Y,h=>by
  obtain⟨⟨e,u,rfl,r⟩,h⟩:=h;subst e;obtain⟨g,n⟩:=HI h;have n':∀(i:Ag)(e:D),(Aa (d,Ae)::U)[i]?≠Aa (Aa (e,Ab)):=λi e z=>by
   cases i with
   |zero=>cases z
   |succ i=>exact n i e z
  refine⟨⟨λi e z=>?_,λi e z=>absurd z (n' i e),congrArg (· + 1) g.len⟩,n'⟩
  cases i with
  |zero=>cases z;exact⟨u,rfl,r⟩
  |succ i=>exact g.sh i e z
 |none::U,v::Y,h=>by
  obtain⟨g,n⟩:=HI (show è K CL A H U Y from h)
  have n':∀(i:Ag)(e:D),(Af::U)[i]?≠Aa (Aa (e,Ab)):=λi e z=>by
   cases i with
   |zero=>cases z
   |succ i=>exact n i e z
  refine⟨⟨λi e z=>?_,λi e z=>absurd z (n' i e),congrArg (· + 1) g.len⟩,n'⟩
  cases i with
  |zero=>cases z
  |succ i=>exact g.sh i e z
 |[],_::_,h=>h.elim
 |some (_,_)::_,[],h=>h.elim
 |none::_,[],h=>h.elim
end
section
variable{P:AK}{w:AI}{K:Fg}{mg:Ah->Ao Al}{base:AJ}{CL:ClA}{fns:Ac (Ah×Ag×Ag)}{bl:Ac Ah}{rzs exs gls:Ac (Ah×Ag)}{Pg:Prg}{fuel n:Ag}{C:Ak}
theorem Lv(t:wp K mg CL fns bl rzs exs gls Pg fuel){ps N:Ac Ah}{st:AL}{f:Ak}{A:A4}{s:Ar}{E:XK}(sc:ScO ps N st)(hr:U4 n (A.deeper (D3 qual (AH st) s.heap.objs.size f cdv))):VX (Z6 Pg n) CL n (WE K CL E) ⟨AH st,N,fns,bl,rzs,exs,gls,Ab⟩ (B2 (CXR P w) P w K mg base N qual (AH st) f cdv A outer s H E):=by
 have hW:∀ x cls dx H',WE K CL E x H'->Dz K CL H' cls dx x->E cls dx H':=λx cls dx H' z r=>z cls dx r
 have xt:XT (Z6 Pg n).up (Z6 Pg n).xn CL rzs exs K mg:=by rw[KJ,Lg];exact t.xt
 have gl:∀ p∈gls,JQ K mg CL p.1 ((Z6 Pg n).G p.2):=by rw[KN];exact t.gl
 exact⟨rfl,sc.fs.kind,rfl,sc.fs.nd,rfl,hr,t.bln,t.os,Vo t n,Vn t n,rl,Oo hW,Ù hW,xt,gl,λ_=>rfl⟩
end
section
variable{X:Cx}{C:Ak}(dc:uh X.K C)(ps:∀ p,PE X (.Name "self" p) (Ci 0))(hu:X.A.units+64<Bx)(gn:Gl X "len")(mn:X.mg "len" = Af)
include dc ps hu gn mn
theorem qH{k}:PT X (.Compare (.Call (.Name "len" p1) [.Attribute (.Name "self" p2) "past" p3] [] p4) [.Eq] [.Constant (.int 0) k p5] p6) (λY H Q=>∃ a dx v1 v2 v3 la xs,Y[0]?=Aa (Aa (.ref a))/\H a=Aa (.ins C dx (yq v1 v2 v3 la))/\H la=Aa (.L xs)/\∀ H',Az H H'->Q (decide (xs.length=0)) H'):=by
 refine PT.weak (LY (IM (W:=W0) (CL:=λ_=>Af) hu .Eq A0) (Kl NO gn mn Jj (Bv (Rg dc ps) Cb rfl) (by decide) (by decide) rfl rfl) Oh rfl) ?_
 rintro Y H Q ⟨a,dx,v1,v2,v3,la,xs,s0,ha,zg,q⟩;refine⟨a,dx,v1,v2,v3,la,s0,ha,la,xs,rfl,.inl (Id.of zg),λ_ z=>z.elim,.int xs.length,.int 0,.inl rfl,.inl rfl,?_⟩
 intro v H' sm r;refine⟨_,r,?_⟩;have e:Tm (.int xs.length) (.int 0)=decide (xs.length=0):=by
  show ((xs.length:Ai)==0)=_;rw[DM];simp
 rw[e];exact q H' sm
theorem qN(gs:Gl X "str")(ms:X.mg "str" = Af):PE X (.List [.Call (.Name "str" p1) [.Call (.Name "len" p2) [.Attribute (.Name "self" p3) "points" p4] [] p5] [] p6] p7) (λY H Q=>∃ a dx v1 v2 v3 la xs,Y[0]?=Aa (Aa (.ref a))/\H a=Aa (.ins C dx (yq v1 v2 v3 la))/\Id X.K H (match v2 with | .ref l=>l|_=>0) xs/\(∃ l,v2=.ref l)/\xs.length<1000/\∀ t,H t=Af->Q (.ref t) (upd H t (.L [.str (toString (xs.length:Ai))]))):=by
 refine PE.weak (L8 (Bv (PL Sw gs ms GD (Bv (Kl NO gn mn Jj (Bv (Nh dc ps) Cb rfl) (by decide) (by decide) rfl rfl) Cb rfl) (by decide) (by decide) rfl rfl) Cb rfl)) ?_
 rintro Y H Q ⟨a,dx,v1,v2,v3,la,xs,s0,ha,hl,⟨l,rfl⟩,hz,q⟩;refine⟨a,dx,v1,_,v3,la,s0,ha,l,xs,rfl,.inl hl,xs.length,rfl,?_,by rw[Bz];exact AR rfl,q⟩
 have:=Gp xs.length;rw[Hw];omega
end
noncomputable def Hs(q:Dk):Ac D->RK
  | []=>(match q.ps.getLast? with
    |none=>.exn ⟨17,[]⟩
    |some (.H [.L l,c])=>if l.length<900 then .ok (.L [.str (toString (l.length:Ai))]) ⟨q.p,l,c,q.ps.dropLast⟩ else .bad
    | _=>.bad)
  |_=>.bad
theorem aO(q:Dk):(q.ps=[]/\Hs q []=.exn ⟨17,[]⟩)\/(∃ l c,q.ps.getLast?=Aa (.H [.L l,c])/\l.length<900/\Hs q []=.ok (.L [.str (toString (l.length:Ai))]) ⟨q.p,l,c,q.ps.dropLast⟩)\/Hs q []=.bad:=by
 cases el:q.ps.getLast? with
 |none=>exact .inl ⟨List.getLast?_eq_none_iff.mp el,by unfold Hs;simp only[el]⟩
 |some d=>
  refine .inr ?_;have no:(∀ l c,d≠.H [.L l,c])->Hs q []=.bad:=λh=>by
   unfold Hs;simp only[el];split
   .rename_i z;cases z
   .rename_i l c z;exact absurd (BD z) (h l c)
   .rfl
  by_cases h:∃ l c,d=.H [.L l,c]
  .obtain⟨l,c,rfl⟩:=h;by_cases hz:l.length<900
   .exact .inl ⟨l,c,rfl,hz,by unfold Hs;simp only[el,Au hz]⟩
   .exact .inr (by unfold Hs;simp only[el,Ay hz])
  .exact .inr (no λl c e=>h ⟨l,c,e⟩)
theorem õ{u:Ao V}{y:V}{d:D}(r:Z7 K CL H A y d):Y9 K CL A [Af,Aa (d,Ae)] [u,Aa y] H:=(HI (K:=K) (CL:=CL) (A:=A) (H:=H) (U:=[Af,Aa (d,Ae)]) (Y:=[u,Aa y]) ⟨⟨rfl,y,rfl,r⟩,trivial⟩).1
section
variable{P:AK}{w:AI}{K:Fg}{mg:Ah->Ao Al}{base:AJ}{CL:ClA}{fns:Ac (Ah×Ag×Ag)}{bl:Ac Ah}{rzs exs gls:Ac (Ah×Ag)}{Pg:Prg}{fuel n:Ag}{C:Ak}
theorem oO(t:wp K mg CL fns bl rzs exs gls Pg fuel){st sr:AL}{e0:Aq}{f:Ak}{b9 cb ku:AF}{k}(dc:uh K C)(hf:zc K x qual st f fd)(hs:sf ["self"] ["self", "ahead"] st=Ab)
  (hb:Di st=[.If (.Compare (.Call (.Name "len" p1) [.Attribute (.Name "self" p2) "past" p3] [] p4) [.Eq] [.Constant (.int 0) k p5] p6) [sr] [] p7,.Assign [.Name "ahead" p8] (.Call (.Attribute (.Attribute (.Name "self" p9) "past" p10) "pop" wv) [] [] wa) uo,.Assign [.Attribute (.Name "self" uc) "points" ud] e0 ue,.Assign [.Attribute (.Name "self" vb) "curve" uf] e1 oz,.Return (Aa (.List [.Call (.Name "str" ng) [.Call (.Name "len" ni) [.Attribute (.Name "self" kq) "points" b8] [] iy] [] b9] cb)) ku])
  (hl:(wv.endLine==wa.line)=Ab) (hg:(ya ⟨AH st,["self", "ahead"],fns,bl,rzs,exs,gls,Ab⟩ "len" && ya ⟨AH st,["self", "ahead"],fns,bl,rzs,exs,gls,Ab⟩ "str")=Ab)
  (c0:Be fuel ⟨AH st,["self", "ahead"],fns,bl,rzs,exs,gls,Ab⟩ e0 (.x (.v 1) (.int 0))=Ab) (c1:Be fuel ⟨AH st,["self", "ahead"],fns,bl,rzs,exs,gls,Ab⟩ e1 (.x (.v 1) (.int 1))=Ab) (nc:(F9 e0&&F9 e1)=Ab)
  (cr:Ja fuel ⟨AH st,["self", "ahead"],fns,bl,rzs,exs,gls,Ab⟩ sr (.rais 17 (.cons (.str txt) .nil))=Ab) (qb:Pg.xn 17 [.str txt]=.ok ⟨17,[]⟩):
  Y4 P w K mg base (CXR P w) (n+1) f fd ["self"] (vv K CL C 0 Hs):=by
 obtain⟨oc,od,dV,kV,doc,pm,an,cdv,ct,osl,rfl,lk,zu⟩:=hf.ex;have sc:=JG hs;refine Hr lk zu sc.fs (λvs H Q E ⟨a,la,us,ds,A,q,e,z,_⟩=>by rw[e,A8,z];rfl) λA outer s H vs Q E hr ⟨a,la,us,ds,B,q,e,U8,hA,ha,zg,rs,dk,hp⟩=>?_
 subst e;rw[hb];have v:=Lv (P:=P) (w:=w) (base:=base) (outer:=outer) (H:=H) (E:=E) t sc hr;obtain⟨jz,wz⟩:=Bk hg;obtain⟨bu,nc2⟩:=Bk nc;obtain⟨g1,g2,_,_⟩:=Hn v jz;obtain⟨g3,g4,_,_⟩:=Hn v wz;have U9:∀ p,PE (B2 (CXR P w) P w K mg base ["self", "ahead"] qual (AH st) f cdv A outer s H E) (.Name "self" p) (Ci 0):=λp=>Dx rfl (.inl (sc.loc "self" (by simp)))
 have s0:=((zk fuel).e _ _ _ e0 _ v c0).se B;have s1:=((zk fuel).e _ _ _ e1 _ v c1).se B;have sr':=(Je fuel).s _ _ _ sr _ v ⟨λ_=>rfl,rfl,rfl,rfl⟩ cr ⟨λb o=>H b=Aa o,λ_ _ _=>AM⟩ B
 refine⟨_,Ca (FO (qH dc U9 v.room.units g1 g2) (DT sr') G1) (Ca (EH (i:=1) sc.fs.nd rfl (.inl (sc.loc "ahead" (by simp))) (VQ BJ Za Ze VS (Rg dc U9) rfl hl) rfl (.inl rfl)) (Ca (IR (U9 uc) s0 (HN bu)) (Ca (IR (U9 vb) s1 (HN nc2)) (DT (Hm (qN dc U9 v.room.units g1 g2 g3 g4)))))),?_⟩
 have e0:us=[]:=Ey U8;subst e0;have ed:ds=[]:=by cases ds with|nil=>rfl|cons=>exact rs.elim
 subst ed;obtain⟨dx,v1,v2,v3,xs,h1,h2,r4,r5,r6,r7⟩:=dk;have ne:la≠a:=λz=>by rw[z,h1]at h2;cases h2
 have lx:=r7.length;have ho:=aO q;generalize Hs q []=r at hp ho;refine⟨a,dx,v1,v2,v3,la,xs,rfl,h1,h2,λH1 sm=>?_⟩
 have ju:=hA.same sm;dsimp only;rcases ho with ⟨e1,rfl⟩|⟨l,c,el,hl9,rfl⟩|rfl
 .rw[e1]at lx;rw[Au (by rw[lx];rfl)]
  have g:=HI (K:=K) (CL:=CL) (A:=B) (H:=H1) (U:=[Af,Af]) (Y:=[Aa (.ref a),Af]) trivial;have sx:Sx K CL ⟨λb o=>H b=Aa o,λ_ _ _=>AM⟩ B [Af,Af] (L2.start ["self", "ahead"] [.ref a]) H1:=Sx.mono (Fy:=⟨λb o=>H1 b=Aa o,λ_ _ _=>AM⟩) (λb o z=>sm b o z) (λ_ _ _ z=>z) (OF ju g.1 g.2)
  refine⟨[Af,Af],sx,?_⟩;have e2:ye (Z6 Pg n) [Af,Af] (.cons (.str txt) .nil)=.ok [.str txt]:=rfl;rw[Up,e2];show B5 K CL _ B (WE K CL E) (O.of _ ((Z6 Pg n).xn 17 [.str txt]) λx=>.exn x _) _
  rw[Lg,qb];exact λH2 s2 cls dx xr=>hp cls dx H2 (λb o z=>s2 b o z) xr
 .have e1:q.ps≠[]:=λz=>by rw[z]at el;cases el
  have lp:0<q.ps.length:=List.length_pos_iff.mpr e1;rw[Ay (by rw[AG];omega)]
  rw[X5]at el;obtain⟨y,hy,ry⟩:=r7.get el;rw[<-lx]at hy;refine⟨a,dx,v1,v2,v3,la,rfl,sm _ _ h1,.inl ⟨rfl,xs,Id.of (sm _ _ h2)⟩,la,xs,y,rfl,rfl,sm _ _ h2,hy,?_⟩;have k2:KB a la H (upd H1 la (.L xs.dropLast)):=λb o e n1 n2=>by rw[AQ n2];exact sm _ _ e
  have ac:My (upd H1 la (.L xs.dropLast)) B:=λb hb=>by
   by_cases e:b=la
   .rw[e];exact⟨_,BO,trivial⟩
   .rw[AQ e];exact ju b hb
  have a2:(upd H1 la (.L xs.dropLast)) a=Aa (.ins C dx (yq v1 v2 v3 la)):=by rw[AQ (CG ne)];exact sm _ _ h1
  refine⟨ac,[Af,Aa (.H [.L l,c],Ae)],õ (Z7.kp (k2.kp ha zg) _ ry),?_⟩;have w1:evE (Z6 Pg n) [Af,Aa (.H [.L l,c],Ae)] (.x (.v 1) (.int 0))=.ok (.L l):=rfl;have w2:evE (Z6 Pg n) [Af,Aa (.H [.L l,c],Ae)] (.x (.v 1) (.int 1))=.ok c:=rfl;show AW _ _ _ (evE (Z6 Pg n) [Af,Aa (.H [.L l,c],Ae)] (.x (.v 1) (.int 0))) _;rw[w1];intro y1 H3 s3 ry1;have a3:=s3 _ _ a2;have k4:KB a la H (upd H3 a (.ins C dx (yq v1 y1 v3 la))):=λb o e n1 n2=>by rw[AQ n1];exact s3 _ _ (k2 b o e n1 n2)
  have k34:KB a la H3 (upd H3 a (.ins C dx (yq v1 y1 v3 la))):=λb o e n1 n2=>by rw[AQ n1];exact e
  refine⟨.ref a,rfl,a,C,dx,_,rfl,a3,dc.cl,dc.n2,AR rfl,?_⟩;have hA4:My (upd H3 a (.ins C dx (yq v1 y1 v3 la))) B:=λb hb=>by
   by_cases e:b=a
   .rw[e];exact⟨_,BO,trivial⟩
   .rw[AQ e];exact ac.same s3 b hb
  refine⟨hA4,[Af,Aa (.H [.L l,c],Ae)],õ (Z7.kp (k4.kp ha zg) _ ry),?_⟩;show AW _ _ _ (evE (Z6 Pg n) [Af,Aa (.H [.L l,c],Ae)] (.x (.v 1) (.int 1))) _;rw[w2];intro y2 H5 s5 cu;have k6:KB a la H (upd H5 a (.ins C dx (yq v1 y1 y2 la))):=λb o e n1 n2=>by rw[AQ n1];exact s5 _ _ (k4 b o e n1 n2)
  have k36:KB a la H3 (upd H5 a (.ins C dx (yq v1 y1 y2 la))):=λb o e n1 n2=>by rw[AQ n1];exact s5 _ _ (k34 b o e n1 n2)
  have k56:KB a la H5 (upd H5 a (.ins C dx (yq v1 y1 y2 la))):=λb o e n1 n2=>by rw[AQ n1];exact e
  refine⟨.ref a,rfl,a,C,dx,_,rfl,s5 _ _ BO,dc.cl,dc.n3,AR rfl,?_⟩;have R1:Z7 K CL (upd H5 a (.ins C dx (yq v1 y1 y2 la))) B y1 (.L l):=Z7.kp (k36.kp ha zg) _ ry1;obtain⟨l1,ys,rfl,nl1,sq1,rl1⟩:=R1;have l6:(upd H5 a (.ins C dx (yq v1 (.ref l1) y2 la))) la=Aa (.L xs.dropLast):=by
   rw[AQ ne];refine s5 _ _ ?_;rw[AQ ne];exact s3 _ _ BO
  have hA6:My (upd H5 a (.ins C dx (yq v1 (.ref l1) y2 la))) B:=λb hb=>by
   by_cases e:b=a
   .rw[e];exact⟨_,BO,trivial⟩
   .rw[AQ e];exact hA4.same s5 b hb
  have ly:=rl1.length;refine⟨a,dx,v1,.ref l1,y2,la,ys,rfl,BO,sq1,⟨l1,rfl⟩,by omega,λt ht=>?_⟩
  have ht:(upd H5 a (.ins C dx (yq v1 (.ref l1) y2 la))) t=Af:=ht;have s7:Az (upd H5 a (.ins C dx (yq v1 (.ref l1) y2 la))) (upd (upd H5 a (.ins C dx (yq v1 (.ref l1) y2 la))) t (.L [.str (toString (ys.length:Ai))])):=EZ ht _;have tN:H t=Af:=by
   cases e:H t with
   |none=>rfl
   |some o=>
    by_cases n1:t=a
    .rw[n1,BO]at ht;cases ht
    .by_cases n2:t=la
     .rw[n2,l6]at ht;cases ht
     .rw[k6 t o e n1 n2]at ht;cases ht
  refine hp (.ref t) _ (k6.trans (KB.of s7)) ⟨?_,λ_ es ee=>?_⟩ (DK.same (DK.new ⟨dx,v1,.ref l1,y2,xs.dropLast,BO,l6,Z7.kp (k6.kp ha zg) _ r4,⟨l1,ys,rfl,nl1,sq1,rl1⟩,Z7.kp (k56.kp ha zg) _ cu,?_⟩ ht) s7)
  .rw[<-ly];exact⟨t,_,rfl,.inl (hA6.new ht),Id.of BO,rfl,trivial⟩
  .cases ee;rw[<-ly];exact⟨t,_,rfl,tN,BO,rfl,trivial⟩
  .have:=Z9.take (xs.length-1) (Z9.kp (k6.kp ha zg) _ r7);rw[<-ED]at this
   rwa [lx,<-ED]at this
 .exact hp.elim
end
section
variable{Z:Z4}{CL:ClA}{W:XW}{k:Ag}{T:Tc}{X:Cx}
theorem OJ(v:VX Z CL k W T X){g:Ah}{id m:Ag}{e:Aq}{es:Ac Aq}{ta:TA}{p pos:AF}(hm:(g,id,m)∈T.fns)(h1:m<1000)(hmt:Gd.lookup g=Af)(qu:zi T g=Ab)(ha:PA X (e::es) ta)(zw:(g==("__debug__" : Ah))=Ae:=by decide)(he:Aw (e::es) X.env=(Ae,eval e X.env)::Aw es X.env:=by rfl)(zv:(Bs pos (Aw es X.env)).any (·.1)=Ae:=by rfl):PE X (.Call (.Name g p) (e::es) [] pos) (Wb (spD X.K CL m (Z.fr id) (Z.F id)) [] (EKW X.K CL A0 W) ta):=by
 obtain⟨f,fd,ps,hl,kp,hb,U8,F,_⟩:=v.fn _ hm;have F:=F h1;have em:(g,id,m).2.2%1000=m:=Yn h1;rw[em]at F;refine Kh F v.room ?_ (Qd hl hmt) kp hb .nil (v.px A0) ha zw he zv;show X.env.scope.names.lookup g=_;rw[v.sc];exact AD.mp qu
end
section
variable{K:Fg}{CL:ClA}{H H1 H2:Hp}{A:Ak->Prop}{us:Ac V}{ds:Ac D}{v:V}{d:D}
theorem NW(hl:us.length=1)(r:Z9 K CL H A us ds):∃ u d,us=[u]/\ds=[d]/\Z7 K CL H A u d:=by
  match us,ds,hl,r with
  |[u],[d],_,r=>exact⟨u,d,rfl,rfl,r.1⟩
  |[_],[],_,r=>exact r.elim
  |[_],_::_::_,_,r=>exact r.2.elim
theorem T6(hl:us.length=2)(r:Z9 K CL H A us ds):∃ u d u' d',us=[u,u']/\ds=[d,d']/\Z7 K CL H A u d/\Z7 K CL H A u' d':=by
  match us,ds,hl,r with
  |[u,u'],[d,d'],_,r=>exact⟨u,d,u',d',rfl,rfl,r.1,r.2.1⟩
  |[_,_],[],_,r=>exact r.elim
  |[_,_],[_],_,r=>exact r.2.elim
  |[_,_],_::_::_::_,_,r=>exact r.2.2.elim
theorem P8(sm:Az H H1)(r:Cw K CL Ab H1 A H2 v d):Cw K CL Ab H A H2 v d:=⟨r.1,λ_ es ee=>by
 obtain⟨l,ys,e1,e2,e3,e4⟩:=r.2 rfl es ee;refine⟨l,ys,e1,?_,e3,e4⟩;cases eh:H l with
 |none=>rfl
 | some o=>rw[sm _ _ eh]at e2;cases e2⟩
end
section
variable{X:Cx}{CX:CXT}{k:Ag}{f C:Ak}{fd:Bi}{ps:Ac Ah}{sp:Sp}{E:XK}{m:Ah}{pos apos:AF}{e o:Aq}{es:Ac Aq}{ta:TE}{t:TA}
theorem Ra(he:PE X o ta)(c:we X.K C)(hm:ze X.K C m f)(F:Y4 X.prog X.w X.K X.mg X.base CX k f fd ps sp)(hr:U4 k X.A)(hb:CW X.K fd ps [])(hx:HM CX X E)(ha:PA X (e::es) t)(U5:(apos.endLine==pos.line)=Ab)(xq:FX ((e::es).length+([]:Ac CB).length) (Bs pos (Aw (e::es) X.env)) (D9 pos (Dh [] X.env))=Ab:=by rfl)(U7:BH o m X.env (eval o X.env)=eval o X.env:=by rfl)(yo:Aw (e::es) X.env=(Ae,eval e X.env)::Aw es X.env:=by rfl)(zv:(Bs pos (Aw es X.env)).any (·.1)=Ae:=by rfl):PE X (.Call (.Attribute o m apos) (e::es) [] pos) (Lj C m sp [] E ta t):=by
 intro pI s Y H Q I h;rw[Gm,U7];refine As (U0 (he pI s Y H _ I h) λu s1 ⟨x,H1,I1,rx,a,dx,fs,ex,ea,l,q⟩=>?_)
 subst ex;obtain rfl:u=Bm a:=rx;refine As (CU ?_);have vk:Do Ab o X.env apos pos=pure pos:=by
  unfold Do;simp[U5]
 unfold HY;rw[xq];refine As (Cm (NS I1 ea c hm l ?_));refine As (Gj vk ?_);refine DI (first:=[.ref a]) (h₀:=X.base) I.ok.mod.kin hm.kp (U0 (ha pos pI s1 Y H1 _ I1 q) λus s2 ⟨vs,H2,I2,r,q2⟩=>⟨I2.kIn,?_⟩) yo zv
 exact Oe (us:=.ref a::us) (vs:=.ref a::vs) F hr hb .nil hx I2 (.cons rfl r) q2
theorem qQ(he:PE X o ta)(c:we X.K C)(hm:ze X.K C m f)(F:Y4 X.prog X.w X.K X.mg X.base CX k f fd ps sp)(hr:U4 k X.A)(hb:CW X.K fd ps [])(hx:HM CX X E)(U5:(apos.endLine==pos.line)=Ab)(U7:BH o m X.env (eval o X.env)=eval o X.env:=by rfl):PE X (.Call (.Attribute o m apos) [] [] pos) (Lj C m sp [] E ta Ms):=by
 intro pI s Y H Q I h;rw[Gm,U7];refine As (U0 (he pI s Y H _ I h) λu s1 ⟨x,H1,I1,rx,a,dx,fs,ex,ea,l,q⟩=>?_)
 subst ex;obtain rfl:u=Bm a:=rx;refine As (CU ?_);have xq:FX (([]:Ac Aq).length+([]:Ac CB).length) (Bs pos (Aw [] X.env)) (D9 pos (Dh [] X.env))=Ab:=rfl;have vk:Do Ab o X.env apos pos=pure pos:=by
  unfold Do;simp[U5]
 unfold HY;rw[xq];refine As (Cm (NS I1 ea c hm l ?_));refine As (Gj vk ?_);exact ZK (first:=[.ref a]) I1.kIn hm.kp (Oe (us:=[.ref a]) (vs:=[.ref a]) F hr hb .nil hx I1 (.cons rfl .nil) q)
end
noncomputable def Wi(r:R D)(q:Dk):RK:=match r with
  |.ok (.L es)=>.ok (.L es) q
  |.exn x=>.exn x
  |_=>.bad
noncomputable def O6(Z:Z4)(id:Ag)(q:Dk):Ac D->RK
 |[.str w]=>if w = "points" then Wi (Z.F id [q.p,.L q.l]) q else .bad
 |_=>.bad
section
variable{P:AK}{w:AI}{K:Fg}{mg:Ah->Ao Al}{base:AJ}{CL:ClA}{fns:Ac (Ah×Ag×Ag)}{bl:Ac Ah}{rzs exs gls:Ac (Ah×Ag)}{Pg:Prg}{fuel n:Ag}{C:Ak}
theorem pQ(t:wp K mg CL fns bl rzs exs gls Pg fuel){st s2 s3:AL}{f:Ak}(dc:uh K C)(hf:zc K x qual st f fd)(hs:sf ["self", "word"] ["self", "word"] st=Ab)(hb:Di st=[.If c1 [.Return (Aa (.Call (.Name "point_texts" p1) [.Attribute (.Name "self" p2) "p" p3,.Attribute (.Name "self" p4) "points" p5] [] p6)) p7] [] p8,s2,s3])(hm:((("point_texts" : Ah),id,2):Ah×Ag×Ag)∈fns)(qu:zi ⟨AH st,["self", "word"],fns,bl,rzs,exs,gls,Ab⟩ "point_texts" = Ab)(xj:(Pg.defs id).fr=Ab)(cc:Eb fuel ⟨AH st,["self", "word"],fns,bl,rzs,exs,gls,Ab⟩ c1 (.cmp .Eq (.v 1) (.str "points"))=Ab):
  Y4 P w K mg base (CXR P w) (n+1) f fd ["self", "word"] (vv K CL C 1 (O6 (Z6 Pg n) id)):=by
 obtain⟨oc,od,dV,kV,doc,pm,an,cdv,ct,osl,rfl,lk,zu⟩:=hf.ex;have sc:=JG hs;refine Hr lk zu sc.fs (λvs H Q E ⟨a,la,us,ds,A,q,e,z,_⟩=>by rw[e,A8,z];rfl) λA outer s H vs Q E hr ⟨a,la,us,ds,B,q,e,U8,hA,ha,zg,rs,dk,hp⟩=>?_
 subst e;rw[hb];have v:=Lv (P:=P) (w:=w) (base:=base) (outer:=outer) (H:=H) (E:=E) t sc hr;have U9:∀ p,PE (B2 (CXR P w) P w K mg base ["self", "word"] qual (AH st) f cdv A outer s H E) (.Name "self" p) (Ci 0):=λp=>Dx rfl (.inl (sc.loc "self" (by simp)))
 have c1':=(zk fuel).b _ _ _ c1 _ v cc B;refine⟨_,Ca (FO c1' (DT (Hm (OJ v hm (by decide) rfl qu (Bv (Re dc U9) (Bv (Nh dc U9) Cb rfl) rfl)))) G1) Jw,?_⟩
 obtain⟨dx,v1,v2,v3,xs,h1,h2,r4,r5,r6,r7⟩:=dk;obtain⟨u,d,rfl,rfl,ru⟩:=NW U8 rs;cases d with
 |str z=>
  have hq:pk (if z = "points" then Wi ((Z6 Pg n).F id [q.p,.L q.l]) q else .bad) _ _:=hp
  by_cases hz:z = "points"
  .rw[Au hz]at hq;subst hz;refine⟨hA,[Af,Aa (.str "points",Ae)],õ ru,?_⟩;show CS _ _ (R.ok Ab) _;intro H1 sm;dsimp only;rw[Au rfl];refine⟨a,dx,v1,v2,v3,la,rfl,sm _ _ h1,a,dx,v1,v2,v3,la,rfl,sm _ _ h1,[q.p,.L q.l],B,rfl,hA.same sm,⟨r4.same sm,r5.same sm,trivial⟩,?_⟩;cases e:(Z6 Pg n).F id [q.p,.L q.l] with
   |bad=>rw[e]at hq;exact hq.elim
   |exn y=>rw[e]at hq;exact λcls dx H2 s2 xr=>⟨y,xr,λcls dx xr=>hq cls dx H2 (sm.trans s2) xr⟩
   |ok d=>
    rw[e]at hq;cases d with
    |L es=>
     intro y H2 s2 ry;rw[Oj,xj]at ry;obtain⟨l,ys,e1,e2,_,_⟩:=ry.2 rfl es rfl;subst e1;exact hq _ H2 (KB.of (sm.trans s2)) (P8 sm ry) (DK.same (DK.new (DK.same ⟨dx,v1,v2,v3,xs,h1,h2,r4,r5,r6,r7⟩ sm) e2) s2)
    |_=>exact hq.elim
  .rw[Ay hz]at hq;exact hq.elim
 |_=>exact hp.elim
end
noncomputable def Nw(Z:Z4)(ip it:Ag)(q:Dk):Ac D->RK
  | [.str w,fm]=>(match (if w = "put" then Z.F ip [.L q.l,fm] else if w = "take" then Z.F it [.L q.l,fm] else .bad) with
    |.ok (.L l)=>if q.ps.length<900/\l.length<900 then .ok (.L [.str (toString (l.length:Ai))]) (G9 q l q.c) else .bad
    |.exn x=>.exn x
    | _=>.bad)
  |_=>.bad
theorem sO{i:Ag}{l:Ac D}(h:U[i]?=Aa (Aa (.L l,Ae)))(hz:l.length<900):evE Z U (.L (.cons (.bi .str (.cons (.bi .len (.cons (.v i) .nil)) .nil)) .nil))=.ok (.L [.str (toString (l.length:Ai))]):=by
 have e1:zY .str [.int l.length]=.ok (.str (toString (l.length:Ai))):=Au (by unfold Lx;rw[Hw,AG];omega)
 have e2:CT U i=.ok (.L l):=by unfold CT;rw[h]
 have e3:zY .len [.L l]=.ok (.int l.length):=rfl;simp only[jW,MU,KM,L6,Ir,Ob,e2,R.bind_ok,jX,e3,jY,e1]
theorem iJ{H3 H4:Hp}{C a la:Ak}{v:V}{d:D}(kb:KB a la H H3)(dk:DK K CL H3 A C a la q)(r:Cw K CL Ab H3 A H4 v d):Cw K CL Ab H A H4 v d:=⟨r.1,λ_ es ee=>by
 obtain⟨l,ys,e1,e2,e3,e4⟩:=r.2 rfl es ee;obtain⟨dx,v1,v2,v3,xs,h1,h2,_⟩:=dk;refine⟨l,ys,e1,?_,e3,e4⟩;cases eh:H l with
 |none=>rfl
 |some o=>
  rw[kb l o eh (λz=>by rw[z,h1]at e2;cases e2) λz=>by rw[z,h2]at e2;cases e2]at e2
  cases e2⟩
theorem Á{u u3:Ao V}(r1:Z7 K CL H A y1 d1)(r2:Z7 K CL H A y2 d2):Y9 K CL A [Af,Aa (d1,Ae),Aa (d2,Ae),Af] [u,Aa y1,Aa y2,u3] H:=(HI (K:=K) (CL:=CL) (A:=A) (H:=H) (U:=[Af,Aa (d1,Ae),Aa (d2,Ae),Af]) (Y:=[u,Aa y1,Aa y2,u3]) ⟨⟨rfl,y1,rfl,r1⟩,⟨rfl,y2,rfl,r2⟩,trivial⟩).1
theorem gd4{u u1 u2:Ao V}{y:V}{d:D}(r:Z7 K CL H A y d):Y9 K CL A [Af,Af,Af,Aa (d,Ae)] [u,u1,u2,Aa y] H:=(HI (K:=K) (CL:=CL) (A:=A) (H:=H) (U:=[Af,Af,Af,Aa (d,Ae)]) (Y:=[u,u1,u2,Aa y]) ⟨⟨rfl,y,rfl,r⟩,trivial⟩).1
section
variable{P:AK}{w:AI}{K:Fg}{mg:Ah->Ao Al}{base:AJ}{CL:ClA}{fns:Ac (Ah×Ag×Ag)}{bl:Ac Ah}{rzs exs gls:Ac (Ah×Ag)}{Pg:Prg}{fuel n:Ag}{C:Ak}
theorem pV(t:wp K mg CL fns bl rzs exs gls Pg fuel){st:AL}{c2 er:Aq}{s3:Ac AL}{f g:Ak}{gd:Bi}{ip it:Ag}(dc:uh K C)(hf:zc K x qual st f fd)(hs:sf ["self", "word", "form"] ["self", "word", "form", "points"] st=Ab)(hb:Di st=[.If c1 [.Assign [.Name "points" p1] (.Call (.Name "put_in" p2) [.Attribute (.Name "self" p3) "points" p4,.Name "form" p5] [] p6) p7] [.If c2 [.Assign [.Name "points" p8] (.Call (.Name "taken_out" p9) [.Attribute (.Name "self" p10) "points" wv,.Name "form" wa] [] uo) uc] s3 ud] ue,.Expr (.Call (.Attribute (.Name "self" vb) "changed" uf) [.Name "points" oz,.Attribute (.Name "self" ng) "curve" ni] [] kq) b8,.Return (Aa er) iy])(hm1:((("put_in" : Ah),ip,2):Ah×Ag×Ag)∈fns)(ra:((("taken_out" : Ah),it,2):Ah×Ag×Ag)∈fns)(qu:(zi ⟨AH st,["self", "word", "form", "points"],fns,bl,rzs,exs,gls,Ab⟩ "put_in" && zi ⟨AH st,["self", "word", "form", "points"],fns,bl,rzs,exs,gls,Ab⟩ "taken_out")=Ab)(hl:(uf.endLine==kq.line)=Ab)(xj:(Pg.defs ip).fr=Ab/\(Pg.defs it).fr=Ab)(cc1:Eb fuel ⟨AH st,["self", "word", "form", "points"],fns,bl,rzs,exs,gls,Ab⟩ c1 (.cmp .Eq (.v 1) (.str "put"))=Ab)(cc2:Eb fuel ⟨AH st,["self", "word", "form", "points"],fns,bl,rzs,exs,gls,Ab⟩ c2 (.cmp .Eq (.v 1) (.str "take"))=Ab)(cr:Be fuel ⟨AH st,["self", "word", "form", "points"],fns,bl,rzs,exs,gls,Ab⟩ er (.L (.cons (.bi .str (.cons (.bi .len (.cons (.v 3) .nil)) .nil)) .nil))=Ab)(me:ze K C "changed" g)(hbg:CW K gd ["self", "points", "curve"] [])(G:Y4 P w K mg base (CXR P w) n g gd ["self", "points", "curve"] (vv K CL C 2 OZ)):
    Y4 P w K mg base (CXR P w) (n+1) f fd ["self", "word", "form"] (vv K CL C 2 (Nw (Z6 Pg n) ip it)):=by
  obtain⟨oc,od,dV,kV,doc,pm,an,cdv,ct,osl,rfl,lk,zu⟩:=hf.ex;have sc:=JG hs;refine Hr lk zu sc.fs (λvs H Q E ⟨a,la,us,ds,A,q,e,z,_⟩=>by rw[e,A8,z];rfl) λA outer s H vs Q E hr ⟨a,la,us,ds,B,q,e,U8,hA,ha,zg,rs,dk,hp⟩=>?_
  subst e;rw[hb];have v:=Lv (P:=P) (w:=w) (base:=base) (outer:=outer) (H:=H) (E:=E) t sc hr;obtain⟨jz,wz⟩:=Bk qu;have U9:∀ p,PE (B2 (CXR P w) P w K mg base ["self", "word", "form", "points"] qual (AH st) f cdv A outer s H E) (.Name "self" p) (Ci 0):=λp=>Dx rfl (.inl (sc.loc "self" (by simp)))
  have vc:∀ p,PE (B2 (CXR P w) P w K mg base ["self", "word", "form", "points"] qual (AH st) f cdv A outer s H E) (.Name "form" p) (Ci 2):=λp=>Dx rfl (.inl (sc.loc "form" (by simp)))
  have ppts:∀ p,PE (B2 (CXR P w) P w K mg base ["self", "word", "form", "points"] qual (AH st) f cdv A outer s H E) (.Name "points" p) (Ci 3):=λp=>Dx rfl (.inl (sc.loc "points" (by simp)))
  have c1':=(zk fuel).b _ _ _ c1 _ v cc1 B;have c2':=(zk fuel).b _ _ _ c2 _ v cc2 B;have r':=((zk fuel).e _ _ _ er _ v cr).nw rfl B;refine⟨_,Ca (FO c1' (DT (EH (i:=3) sc.fs.nd rfl (.inl (sc.loc "points" (by simp))) (OJ v hm1 (by decide) rfl jz (Bv (Nh dc U9) (Bv (vc p5) Cb rfl) rfl)) rfl (.inl rfl)))
    (DT (FO c2' (DT (EH (i:=3) sc.fs.nd rfl (.inl (sc.loc "points" (by simp))) (OJ v ra (by decide) rfl wz (Bv (Nh dc U9) (Bv (vc wa) Cb rfl) rfl)) rfl (.inl rfl))) Jw)))
    (Ca (Kg (Ra (U9 vb) dc.cl me G v.room hbg (v.px A0) (Bv (ppts oz) (Bv (Wm dc U9) Cb rfl) rfl) hl) rfl) (DT (Hm r'))),?_⟩
  obtain⟨dx,v1,v2,v3,xs,h1,h2,r4,r5,r6,r7⟩:=dk;obtain⟨u1,d1,u2,d2,rfl,rfl,rq,ug⟩:=T6 U8 rs;cases d1 with
  |str z=>
    have fin:∀(l:Ac D)(y:V)(H2:Hp),Az H H2->Cw K CL Ab H B H2 y (.L l)->q.ps.length<900/\l.length<900->(∀ v H',KB a la H H'->Cw K CL Ab H B H' v (.L [.str (toString (l.length:Ai))])->DK K CL H' (AV B v) C a la (G9 q l q.c)->Q v H')->(RN (Rj (Lj C "changed" (vv K CL C 2 OZ) [] (EKW K CL A0 (WE K CL E)) (Ci 0) (Lk (Ci 3) (Lk (λY H Q=>∃ a dx v1 v2 v3 la,Y[0]?=Aa (Aa (V.ref a))/\H a=Aa (HO.ins C dx (yq v1 v2 v3 la))/\Q v3 H) Ms)))) (RO λY H Q=>My H B/\∃ U,Y9 K CL B U Y H/\AW (Cw K CL Ab H B) (WE K CL E) H (evE (Z6 Pg n) U (.L (.cons (.bi .str (.cons (.bi .len (.cons (.v 3) .nil)) .nil)) .nil))) Q)) {nx:=λ_ H'=>Q .O H',rt:=Q} [Aa (.ref a),Aa u1,Aa u2,Aa y] H2:=λl y H2 sm ry hz hq=>by
      refine⟨.ref a,rfl,a,dx,_,rfl,sm _ _ h1,rfl,y,rfl,a,dx,v1,v2,v3,la,rfl,sm _ _ h1,a,la,[y,v3],[.L l,q.c],B,q,rfl,rfl,hA.same sm,ha,zg,⟨ry.1,r6.same sm,trivial⟩,DK.same ⟨dx,v1,v2,v3,xs,h1,h2,r4,r5,r6,r7⟩ sm,?_⟩;show pk (if q.ps.length<900 then RK.ok .O (G9 q l q.c) else .bad) _ _
      rw[Au hz.1];intro v' H3 kb _ ñ;have ñ:=ñ.un;have hA3:My H3 B:=ñ.aok kb (hA.same sm);refine⟨hA3,[Af,Af,Af,Aa (.L l,Ae)],gd4 (Z7.kp (kb.kp ha zg) _ ry.1),?_⟩;have ev:=sO (Z:=Z6 Pg n) (U:=[Af,Af,Af,Aa (.L l,Ae)]) (i:=3) rfl hz.2;rw[ev];intro v4 H4 s4 r4';obtain⟨l4,ys4,f1,f2,_,_⟩:=r4'.2 rfl _ rfl;subst f1;exact hq _ H4 (((KB.of sm).trans kb).trans (KB.of s4)) (iJ ((KB.of sm).trans kb) ñ r4') ((ñ.new f2).same s4)
    have call:∀(id:Ag)(H1:Hp),Az H H1->(Pg.defs id).fr=Ab->(∀ l,(Z6 Pg n).F id [.L q.l,d2]=.ok (.L l)->q.ps.length<900/\l.length<900/\∀ v H',KB a la H H'->Cw K CL Ab H B H' v (.L [.str (toString (l.length:Ai))])->DK K CL H' (AV B v) C a la (G9 q l q.c)->Q v H')->(∀ y,(Z6 Pg n).F id [.L q.l,d2]=.exn y->∀ cls dx H',Az H H'->Dz K CL H' cls dx y->E cls dx H')->(∀ d,(Z6 Pg n).F id [.L q.l,d2]=.ok d->∃ l,d=.L l)->(Z6 Pg n).F id [.L q.l,d2]≠.bad ->
        spD K CL 2 ((Z6 Pg n).fr id) ((Z6 Pg n).F id) ([v2,u2]++[]) H1 (λy H2=>(RN (Rj (Lj C "changed" (vv K CL C 2 OZ) [] (EKW K CL A0 (WE K CL E)) (Ci 0) (Lk (Ci 3) (Lk (λY H Q=>∃ a dx v1 v2 v3 la,Y[0]?=Aa (Aa (V.ref a))/\H a=Aa (HO.ins C dx (yq v1 v2 v3 la))/\Q v3 H) Ms)))) (RO λY H Q=>My H B/\∃ U,Y9 K CL B U Y H/\AW (Cw K CL Ab H B) (WE K CL E) H (evE (Z6 Pg n) U (.L (.cons (.bi .str (.cons (.bi .len (.cons (.v 3) .nil)) .nil)) .nil))) Q)) {nx:=λ_ H'=>Q .O H',rt:=Q} [Aa (.ref a),Aa u1,Aa u2,Aa y] H2) (EKW K CL A0 (WE K CL E)):=λid H1 sm xj o1 o2 o3 o4=>by
      refine⟨[.L q.l,d2],B,rfl,hA.same sm,⟨r5.same sm,ug.same sm,trivial⟩,?_⟩;cases e:(Z6 Pg n).F id [.L q.l,d2] with
      |bad=>exact absurd e o4
      |exn y=>exact λcls dx H2 s2 xr=>⟨y,xr,λcls dx xr=>o2 y e cls dx H2 (sm.trans s2) xr⟩
      |ok d=>
        obtain⟨l,rfl⟩:=o3 d e;obtain⟨z1,z2,z3⟩:=o1 l e;intro y H2 s2 ry;rw[Oj,xj]at ry;exact fin l y H2 (sm.trans s2) (P8 sm ry) ⟨z1,z2⟩ z3
    have hq:pk (match (if z = "put" then (Z6 Pg n).F ip [.L q.l,d2] else if z = "take" then (Z6 Pg n).F it [.L q.l,d2] else .bad) with
      |.ok (.L l)=>if q.ps.length<900/\l.length<900 then .ok (.L [.str (toString (l.length:Ai))]) (G9 q l q.c) else .bad
      |.exn x=>.exn x
      | _=>.bad) _ _:=hp
    have each:∀ r:R D,pk (match r with
      |.ok (.L l)=>if q.ps.length<900/\l.length<900 then RK.ok (.L [.str (toString (l.length:Ai))]) (G9 q l q.c) else .bad
      |.exn x=>.exn x
      | _=>.bad) (λd q'=>∀ v H',KB a la H H'->Cw K CL Ab H B H' v d->DK K CL H' (AV B v) C a la q'->Q v H') (λx=>∀ cls dx H',Az H H'->Dz K CL H' cls dx x->E cls dx H')->(∀ l,r=.ok (.L l)->q.ps.length<900/\l.length<900/\∀ v H',KB a la H H'->Cw K CL Ab H B H' v (.L [.str (toString (l.length:Ai))])->DK K CL H' (AV B v) C a la (G9 q l q.c)->Q v H')/\(∀ y,r=.exn y->∀ cls dx H',Az H H'->Dz K CL H' cls dx y->E cls dx H')/\(∀ d,r=.ok d->∃ l,d=.L l)/\r≠.bad:=λr h=>by
      cases r with
      |bad=>exact h.elim
      |exn y=>exact⟨λl e=>(nomatch e),λy' e=>(by cases e;exact h),λd e=>(nomatch e),λe=>nomatch e⟩
      |ok d=>
        cases d with
        |L l=>
          have h:pk (if q.ps.length<900/\l.length<900 then RK.ok (.L [.str (toString (l.length:Ai))]) (G9 q l q.c) else .bad) _ _:=h
          by_cases hz:q.ps.length<900/\l.length<900
          · rw[Au hz]at h;exact⟨λl e=>(by cases e;exact⟨hz.1,hz.2,h⟩),λy' e=>(nomatch e),λd e=>(by cases e;exact⟨l,rfl⟩),λe=>nomatch e⟩
          · rw[Ay hz]at h;exact h.elim
        |_=>exact h.elim
    have ã:∀ s:Ah,((top [Af,Aa (D.str z,Ae),Aa (d2,Ae),Af] (.cmp .Eq (.v 1) (.str s)) (evE (Z6 Pg n) [Af,Aa (D.str z,Ae),Aa (d2,Ae),Af] (.cmp .Eq (.v 1) (.str s)))).bind Bq)=.ok (decide (z=s)):=λs=>by
      show R.ok (z==s)=_
      congr 1
    refine⟨hA,[Af,Aa (.str z,Ae),Aa (d2,Ae),Af],Á rq ug,?_⟩;dsimp only;rw[ã "put"];intro H1 sm;by_cases z1:z = "put"
    · rw[Au z1]at hq;obtain⟨o1,o2,o3,o4⟩:=each _ hq;rw[Au (CI z1)];exact⟨a,dx,v1,v2,v3,la,rfl,sm _ _ h1,u2,rfl,call ip H1 sm xj.1 o1 o2 o3 o4⟩
    · rw[Ay z1]at hq;rw[Ay (by rw[BM z1];exact Ax)]
      refine⟨hA.same sm,[Af,Aa (.str z,Ae),Aa (d2,Ae),Af],Á (rq.same sm) (ug.same sm),?_⟩;rw[ã "take"];intro H2 zb;by_cases z2:z = "take"
      · rw[Au z2]at hq;obtain⟨o1,o2,o3,o4⟩:=each _ hq;rw[Au (CI z2)];exact⟨a,dx,v1,v2,v3,la,rfl,zb _ _ (sm _ _ h1),u2,rfl,call it H2 (sm.trans zb) xj.2 o1 o2 o3 o4⟩
      · rw[Ay z2]at hq;exact hq.elim
  |_=>exact hp.elim
end
def Mi(P:AK)(w:AI)(K:Fg)(a:Ak)(cnt:Ac (Ah×Ai)):Prop:=(a==GX)=Ae/\∃(o:CZ)(es:Bl Mz)(ep:Ag)(kvs:Ac (Ah×Al)),K.lookup a=Aa o/\o.ExactDict/\o.data=.dict es ep/\KeysOf (Fe P w) es/\Pairs (Fe P w) es.toList kvs/\(kvs.map (·.1)).Nodup/\∀ z,(FZ kvs z=Af/\cnt.lookup z=Af)\/∃ i t,FZ kvs z=Aa (.int i t)/\cnt.lookup z=Aa i
section
variable{X:Cx}{a:Ak}{cnt:Ac (Ah×Ai)}
theorem UV(c:Mi X.prog X.w X.K a cnt){s:Ar}(I:Z8 X pI Y H s):∃ kvs,s.heap.MapOf (Fe X.prog X.w) a (FZ kvs)/\s.TypeIs (.ref a) "dict"/\∀ z,(FZ kvs z=Af/\cnt.lookup z=Af)\/∃ i t,FZ kvs z=Aa (.int i t)/\cnt.lookup z=Aa i:=by
 obtain⟨_,o,es,ep,kvs,h1,h2,h3,h4,h5,h6,h7⟩:=c;have ho:=I.kIn _ _ h1;exact⟨kvs,Heap.DictOf.mapOf ⟨o,es,ep,ho,h2,h3,h4,h5,h6⟩,⟨o,ho,h2.1⟩,h7⟩
theorem qU(c:Mi X.prog X.w X.K a cnt):za X (CP .NotIn) (λx y H Q=>∃ z,x=.str z/\y=.ref a/\Q (.bl (!(cnt.lookup z).isSome)) H):=by
 intro pI s Y H x y v u Q I rx ry ⟨z,e1,e2,q⟩;subst e1 e2;obtain⟨t,rfl⟩:=rx;cases ry;obtain⟨kvs,m,ty,hz⟩:=UV c I;refine wpAny_notIn_of (knd:=Fe X.prog X.w) (k:=z) (by show (z==z)=Ab;exact BE _) c.1 m ?_
 have e:(FZ kvs z).isSome=(cnt.lookup z).isSome:=by
  rcases hz z with ⟨h1,h2⟩|⟨i,t,h1,h2⟩<;>rw[h1,h2]<;>rfl
 rw[e];exact⟨.bl _,H,I.tok _,rfl,q⟩
theorem pC(c:Mi X.prog X.w X.K a cnt):pf X (λx y H Q=>∃ z i,x=.ref a/\y=.str z/\cnt.lookup z=Aa i/\Q (.int i) H):=by
 intro value slice pI s Y H x y v u Q I rx ry ⟨z,i,e1,e2,e3,q⟩ hs;subst e1 e2;obtain⟨t,rfl⟩:=ry;cases rx;obtain⟨kvs,m,ty,hz⟩:=UV c I;rcases hz z with ⟨h1,h2⟩|⟨j,t',h1,h2⟩
 .rw[e3]at h2;cases h2
 .rw[e3]at h2;cases h2;exact Gf ty slot_dict_getitem.lookup (wpAny_getItem_of (knd:=Fe X.prog X.w) (k:=z) (Q:=λr s'=>r=GH i t'/\EP X pI Y Q r s') (by show (z==z)=Ab;exact BE _) m h1 ⟨rfl,.int i,H,I.tok _,⟨_,rfl⟩,q⟩) hs
end
noncomputable def Lw(Z:Z4)(ir:Ag)(cnt:Ac (Ah×Ai)):Ac D->R D
  | [p,.L (.str w::ws)]=>(match Z.F ir [p,.L ws] with
    |.ok .O=>.exn ⟨12,[]⟩
    | .ok (.L rs)=>(match cnt.lookup w with
      |none=>.exn ⟨12,[]⟩
      | some k=>if (rs.length:Ai)=k then .ok (.L rs) else .exn ⟨12,[]⟩)
    |.exn y=>.exn y
    | _=>.bad)
  |_=>.bad
theorem iI(Z:Z4)(ir:Ag)(cnt:Ac (Ah×Ai))(d1 d2:D):Lw Z ir cnt [d1,d2]=.bad\/∃ w ws,d2=.L (.str w::ws):=by
 cases d2 with
 |L xs=>
  cases xs with
  |nil=>exact .inl rfl
  |cons x ws=>
   cases x with
   |str w=>exact .inr ⟨w,ws,rfl⟩
   |_=>exact .inl rfl
 |_=>exact .inl rfl
theorem gd5{u:Ao V}(r1:Z7 K CL H A y1 d1)(r2:Z7 K CL H A y2 d2):Y9 K CL A [Aa (d1,Ae),Aa (d2,Ae),Af] [Aa y1,Aa y2,u] H:=(HI (K:=K) (CL:=CL) (A:=A) (H:=H) (U:=[Aa (d1,Ae),Aa (d2,Ae),Af]) (Y:=[Aa y1,Aa y2,u]) ⟨⟨rfl,y1,rfl,r1⟩,⟨rfl,y2,rfl,r2⟩,trivial⟩).1
theorem ö{y3:V}{d3:D}(r1:Z7 K CL H A y1 d1)(r2:Z7 K CL H A y2 d2)(r3:Z7 K CL H A y3 d3):Y9 K CL A [Aa (d1,Ae),Aa (d2,Ae),Aa (d3,Ae)] [Aa y1,Aa y2,Aa y3] H:=(HI (K:=K) (CL:=CL) (A:=A) (H:=H) (U:=[Aa (d1,Ae),Aa (d2,Ae),Aa (d3,Ae)]) (Y:=[Aa y1,Aa y2,Aa y3]) ⟨⟨rfl,y1,rfl,r1⟩,⟨rfl,y2,rfl,r2⟩,⟨rfl,y3,rfl,r3⟩,trivial⟩).1
theorem Rk{i:Ag}{x:D}{ws:Ac D}(h:U[i]?=Aa (Aa (.L (x::ws),Ae))):evE Z U (.x (.v i) (.int 0))=.ok x:=by
 have e2:CT U i=.ok (.L (x::ws)):=by unfold CT;rw[h]
 have e3:G8 (.L (x::ws)) (.int 0)=.ok x:=by
  show DU (x::ws) 0=.ok x;unfold DU qd;simp
 rw[N2,Ir,e2];exact e3
theorem yR(x:D)(ws:Ac D):JK (x::ws) (Aa 1) Af=ws:=by
 unfold JK;simp[IX]
section
variable{P:AK}{w:AI}{K:Fg}{mg:Ah->Ao Al}{base:AJ}{CL:ClA}{fns:Ac (Ah×Ag×Ag)}{bl:Ac Ah}{rzs exs gls:Ac (Ah×Ag)}{Pg:Prg}{fuel n:Ag}
theorem nB(t:wp K mg CL fns bl rzs exs gls Pg fuel){st sr:AL}{el ew ϻ:Aq}{f aC:Ak}{ir:Ag}{cnt:Ac (Ah×Ai)}(hc:Mi P w K aC cnt)(kg:mg "COUNTS" = Aa (.ref aC))(hf:zc K x qual st f fd)(hs:sf ["p", "words"] ["p", "words", "rests"] st=Ab)(hb:Di st=[.Assign [.Name "rests" p1] e1 p2,.If (.BoolOp .Or [c1,.Compare ew [.NotIn] [.Name "COUNTS" p3] p4,.Compare el [.NotEq] [.Subscript (.Name "COUNTS" p5) ϻ p6] p7] p8) [sr] [] p9,.Return (Aa (.Name "rests" p10)) wv])(qu:zi ⟨AH st,["p", "words", "rests"],fns,bl,rzs,exs,gls,Ab⟩ "COUNTS" = Ab)(k1:Be fuel ⟨AH st,["p", "words", "rests"],fns,bl,rzs,exs,gls,Ab⟩ e1 (.call ir (.cons (.v 0) (.cons (.sl (.v 1) (.int 1) .O) .nil)))=Ab)(nc:F9 e1=Ab)(k2:Eb fuel ⟨AH st,["p", "words", "rests"],fns,bl,rzs,exs,gls,Ab⟩ c1 (.cmp .Is (.v 2) .O)=Ab)(k3:Be fuel ⟨AH st,["p", "words", "rests"],fns,bl,rzs,exs,gls,Ab⟩ ew (.x (.v 1) (.int 0))=Ab)(k3':Be fuel ⟨AH st,["p", "words", "rests"],fns,bl,rzs,exs,gls,Ab⟩ ϻ (.x (.v 1) (.int 0))=Ab)(hpx:N9 ϻ)(k4:Be fuel ⟨AH st,["p", "words", "rests"],fns,bl,rzs,exs,gls,Ab⟩ el (.bi .len (.cons (.v 2) .nil))=Ab)(k5:Ja fuel ⟨AH st,["p", "words", "rests"],fns,bl,rzs,exs,gls,Ab⟩ sr (.rais 12 (.cons (.str txt) .nil))=Ab)(qb:Pg.xn 12 [.str txt]=.ok ⟨12,[]⟩):
    Y4 P w K mg base (CXR P w) (n+1) f fd ["p", "words"] (spD K CL 2 Ae (Lw (Z6 Pg n) ir cnt)):=by
  obtain⟨oc,od,dV,kV,doc,pm,an,cdv,ct,osl,rfl,lk,zu⟩:=hf.ex;have sc:=JG hs;refine Hr lk zu sc.fs (λvs H Q E ⟨ds,A,z,_⟩=>z) λA outer s H vs Q E hr ⟨ds,B,U8,hA,rs,hp⟩=>?_
  rw[hb];have v:=Lv (P:=P) (w:=w) (base:=base) (outer:=outer) (H:=H) (E:=E) t sc hr;have hg:Gl (B2 (CXR P w) P w K mg base ["p", "words", "rests"] qual (AH st) f cdv A outer s H E) "COUNTS" := AD.mp qu;have E1:=((zk fuel).e _ _ _ e1 _ v k1).se B;have C1:=(zk fuel).b _ _ _ c1 _ v k2 B;have EW:=((zk fuel).e _ _ _ ew _ v k3).se B;have EW':=((zk fuel).e _ _ _ ϻ _ v k3').se B;have EL:=((zk fuel).e _ _ _ el _ v k4).st B;have SR:=(Je fuel).s _ _ _ sr _ v ⟨λ_=>rfl,rfl,rfl,rfl⟩ k5 ⟨λb o=>H b=Aa o,λ_ _ _=>AM⟩ B
  have cn:∀ p,PE (B2 (CXR P w) P w K mg base ["p", "words", "rests"] qual (AH st) f cdv A outer s H E) (.Name "COUNTS" p) (tC (.ref aC)):=λp=>M0 hg kg rfl
  refine⟨_,Ca (EH (i:=2) sc.fs.nd rfl (.inl (sc.loc "rests" (by simp))) E1 (HN nc) (.inl rfl)) (Ca (FO (PW.pt (Ri C1 (Ri (LY (qU (X:=B2 (CXR P w) P w K mg base ["p", "words", "rests"] qual (AH st) f cdv A outer s H E) hc) EW (cn p3) rfl) (VL (LY (IM (W:=WE K CL E) (CL:=CL) v.room.units .NotEq B) EL (Rb (pC (X:=B2 (CXR P w) P w K mg base ["p", "words", "rests"] qual (AH st) f cdv A outer s H E) hc) (cn p5) EW' hpx) rfl))))) (DT SR) G1) (DT (Hm (Dx (i:=2) rfl (.inl (sc.loc "rests" (by simp))))))),?_⟩
  obtain⟨u1,d1,u2,d2,rfl,rfl,rq,ug⟩:=T6 U8 rs;rcases iI (Z6 Pg n) ir cnt d1 d2 with hz|⟨z,ws,rfl⟩
  · rw[hz]at hp;exact hp.elim
  have hp:(match (match (Z6 Pg n).F ir [d1,.L ws] with
      |.ok .O=>R.exn ⟨12,[]⟩
      | .ok (.L rs)=>(match cnt.lookup z with
        |none=>.exn ⟨12,[]⟩
        | some k=>if (rs.length:Ai)=k then .ok (D.L rs) else .exn ⟨12,[]⟩)
      |.exn y=>.exn y
      | _=>.bad) with
    |.ok d=>∀ v H',Az H H'->Cw K CL Ae H B H' v d->Q v H'
    |.exn x=>∀ cls dx H',Az H H'->Dz K CL H' cls dx x->E cls dx H'
    | .bad=>AM):=hp
  refine⟨hA,[Aa (d1,Ae),Aa (.L (.str z::ws),Ae),Af],gd5 rq ug,?_⟩;have Ϻ:evE (Z6 Pg n) [Aa (d1,Ae),Aa (.L (.str z::ws),Ae),Af] (.call ir (.cons (.v 0) (.cons (.sl (.v 1) (.int 1) .O) .nil)))=(Z6 Pg n).F ir [d1,.L ws]:=by
    show ((Z6 Pg n).F ir [d1,D.L (JK (D.str z::ws) (Aa 1) Af)]).bind _=_;rw[yR];cases (Z6 Pg n).F ir [d1,D.L ws]<;>rfl
  show AW _ _ _ (evE (Z6 Pg n) [Aa (d1,Ae),Aa (.L (.str z::ws),Ae),Af] (.call ir (.cons (.v 0) (.cons (.sl (.v 1) (.int 1) .O) .nil)))) _;rw[Ϻ];have rais:∀(y:V)(H1:Hp)(D':xm),Az H H1->(∀ cls dx H',Az H H'->Dz K CL H' cls dx ⟨12,[]⟩->E cls dx H')->∃ U,Sx K CL ⟨λb o=>H b=Aa o,λ_ _ _=>AM⟩ B U [Aa u1,Aa u2,Aa y] H1/\B5 K CL ⟨λb o=>H b=Aa o,λ_ _ _=>AM⟩ B (WE K CL E) (yz (Z6 Pg n) U (.rais 12 (.cons (.str txt) .nil))) D':=λy H1 D' sm hx=>by
    have g:=HI (K:=K) (CL:=CL) (A:=B) (H:=H1) (U:=[Af,Af,Af]) (Y:=[Aa u1,Aa u2,Aa y]) trivial;refine⟨[Af,Af,Af],Sx.mono (Fy:=⟨λb o=>H1 b=Aa o,λ_ _ _=>AM⟩) (λb o z=>sm b o z) (λ_ _ _ z=>z) (OF (hA.same sm) g.1 g.2),?_⟩
    have e2:ye (Z6 Pg n) [Af,Af,Af] (.cons (.str txt) .nil)=.ok [.str txt]:=rfl;rw[Up,e2];show B5 K CL _ B (WE K CL E) (O.of _ ((Z6 Pg n).xn 12 [.str txt]) λx=>.exn x _) _
    rw[Lg,qb];exact λH2 s2 cls dx xr=>hx cls dx H2 (λb o z=>s2 b o z) xr
  cases eF:(Z6 Pg n).F ir [d1,.L ws] with
  |bad=>rw[eF]at hp;exact hp.elim
  |exn y=>rw[eF]at hp;exact λH1 sm cls dx xr=>hp cls dx H1 sm xr
  |ok d3=>
    rw[eF]at hp;intro y H1 sm ry;cases d3 with
    |O=>
      refine⟨hA.same sm,_,ö (rq.same sm) (ug.same sm) ry,?_⟩;show CS _ _ (R.ok Ab) _;intro H2 zb;dsimp only;rw[Au rfl,Au rfl];exact rais y H2 _ (sm.trans zb) hp
    |L ww=>
      refine⟨hA.same sm,_,ö (rq.same sm) (ug.same sm) ry,?_⟩;show CS _ _ (R.ok Ae) _;intro H2 zb;dsimp only;rw[Ay Ax];have Þ:=sm.trans zb;refine⟨hA.same Þ,_,ö (rq.same Þ) (ug.same Þ) (ry.same zb),?_⟩;rw[Rk (x:=.str z) (ws:=ws) rfl];intro yw H3 wb ryw;have eyw:yw=.str z:=ryw;subst eyw;refine⟨z,rfl,rfl,_,rfl,?_⟩;have sj:=Þ.trans wb;cases ec:cnt.lookup z with
      |none=>
        rw[ec]at hp;dsimp only[Yr];rw[Au (by rfl),Au rfl]
        exact rais y H3 _ sj hp
      |some k=>
        rw[ec]at hp;dsimp only[Yr];rw[Ay (by decide)]
        refine⟨hA.same sj,_,ö (rq.same sj) (ug.same sj) (ry.same (zb.trans wb)),?_⟩;show AW _ _ _ (R.ok (.int ww.length)) _;intro yl H4 wc ryl;have o8:=sj.trans wc;refine⟨hA.same o8,_,ö (rq.same o8) (ug.same o8) (ry.same ((zb.trans wb).trans wc)),?_⟩;rw[Rk (x:=.str z) (ws:=ws) rfl];intro yw2 H5 ur ryw2;have eyw2:yw2=.str z:=ryw2;subst eyw2;have de:=o8.trans ur;refine⟨z,k,rfl,rfl,ec,hA.same de,.int ww.length,.int k,ryl.same ur,.inl rfl,?_⟩;show AW _ _ _ (R.ok (.bl (!((ww.length:Ai)==k)))) _;intro yb H6 kz ryb;refine⟨_,ryb,?_⟩;have dh:=de.trans kz;dsimp only;by_cases hk:(ww.length:Ai)=k
        · dsimp only at hp;rw[Au hk]at hp;rw[Ay (by rw[hk];simp)]
          exact⟨y,rfl,hp y H6 dh ⟨ry.same ((((zb.trans wb).trans wc).trans ur).trans kz),λz=>nomatch z⟩⟩
        · dsimp only at hp;rw[Ay hk]at hp;rw[Au (by simp[hk])]
          exact rais y H6 _ dh hp
    |_=>exact hp.elim
end
noncomputable def m6(ls:Ac Ah)(w:Ah):An:=ls.any (· == w)
noncomputable def O1(la lm ll:Ac Ah)(Gl Gu Ga:Dk->Ac D->RK)(q:Dk)(w:Ah)(fm:D):RK:=if m6 la w=Ab then .bad else if m6 lm w=Ab then .bad else if m6 ll w=Ab then Gl q [.str w,fm] else if w = "undo" then Gu q [] else Ga q [.str w]
noncomputable def Hu(la lm ll:Ac Ah)(cs:Ah->R D)(FR FT:Ac D->R D)(Gl Gu Ga:Dk->Ac D->RK)(q:Dk):Ac D->RK
  | [.str r]=>(match cs r with
    | .ok (.L (.str w::ws))=>(match FR [q.p,.L (.str w::ws)] with
      | .ok rs=>(match FT [q.p,rs] with
        |.ok fm=>O1 la lm ll Gl Gu Ga q w fm
        |.exn y=>.exn y
        | .bad=>.bad)
      |.exn y=>.exn y
      | .bad=>.bad)
    | _=>.bad)
  |_=>.bad
theorem iA{la lm ll:Ac Ah}{cs:Ah->R D}{FT:Ac D->R D}{Gl Gu Ga:Dk->Ac D->RK}{d:D}:Hu la lm ll cs FR FT Gl Gu Ga q [d]=.bad\/∃ r w ws,d=.str r/\cs r=.ok (.L (.str w::ws))/\Hu la lm ll cs FR FT Gl Gu Ga q [d]=(match FR [q.p,.L (.str w::ws)] with
      | .ok rs=>(match FT [q.p,rs] with
        |.ok fm=>O1 la lm ll Gl Gu Ga q w fm
        |.exn y=>.exn y
        | .bad=>.bad)
      |.exn y=>.exn y
      | .bad=>.bad):=by
  cases d with
  |str r=>
    cases e:cs r with
    |ok d=>
      have no:(∀ w ws,d≠.L (.str w::ws))->Hu la lm ll cs FR FT Gl Gu Ga q [.str r]=.bad:=λh=>by
        unfold Hu;simp only[e];split
        · rename_i w ws z;exact absurd (by injection z) (h w ws)
        · rfl
      by_cases h:∃ w ws,d=.L (.str w::ws)
      · obtain⟨w,ws,rfl⟩:=h;exact .inr ⟨r,w,ws,rfl,e,by unfold Hu;simp only[e]⟩
      · exact .inl (no λw ws z=>h ⟨w,ws,z⟩)
    |exn y=>exact .inl (by unfold Hu;simp only[e])
    |bad=>exact .inl (by unfold Hu;simp only[e])
  |_=>exact .inl rfl
theorem OO{g i:Ag}{ls:Ac Ah}{w:Ah}(hG:Z.G g=.H (ls.map .str))(hi:U[i]?=Aa (Aa (.str w,Ae))):(top U (.cmp .In (.v i) (.glob g)) (evE Z U (.cmp .In (.v i) (.glob g)))).bind Bq=.ok (m6 ls w):=by
 have e2:CT U i=.ok (.str w):=by unfold CT;rw[hi]
 have e3:BS .In (.str w) (.H (ls.map .str))=.ok (.bl (m6 ls w)):=by
  show (if (Y8 5 (.str w)&&(ls.map D.str).all (Y8 5))=Ab then R.ok (D.bl ((ls.map D.str).any λy=>Tm y (.str w))) else .bad)=_
  rw[Au (by rw[Am];exact⟨rfl,by rw[EC,Bh];intro _ _;rfl⟩),XX]
  rfl
 rw[N4,KD,Ir,e2,R.bind_ok];show ((R.ok (Z.G g)).bind λy=>BS .In (.str w) y).bind Bq=_
 rw[hG,R.bind_ok,e3];rfl
theorem Lc{r:R D}{d:D}{Q:VK}(e:r=.ok d)(h:∀ v H',Az H H'->Rp H' v d->Q v H'):AW Rp W H r Q:=by rw[e];exact h
theorem Ip{r:R An}{b:An}{Q:An->Hp->Prop}(e:r=.ok b)(h:∀ H',Az H H'->Q b H'):CS W H r Q:=by rw[e];exact h
noncomputable def gu(K:Fg)(CL:ClA)(A:Ak->Prop)(H:Hp)(U:Rho)(Y:L2.St)(h:è K CL A H U Y):Y9 K CL A U Y H:=(HI h).1
section
variable{P:AK}{w:AI}{K:Fg}{mg:Ah->Ao Al}{base:AJ}{CL:ClA}{fns:Ac (Ah×Ag×Ag)}{bl:Ac Ah}{rzs exs gls:Ac (Ah×Ag)}{Pg:Prg}{fuel n:Ag}{C:Ak}
theorem oH(t:wp K mg CL fns bl rzs exs gls Pg fuel){st:AL}{e2 c4' c5 c6 c7 c8:Aq}{b5 b6:Ac AL}{f fr fl fu fa:Ak}{frd fld fud fad:Bi}{b9 cb ku iz i5 Ó ce cf cg Ô Õ Ö:AF}{tb:Ag}{cs:E}{ga gm gl:Ag}{la lm ll:Ac Ah}{Gl' Gu Ga:Dk->Ac D->RK}(dc:uh K C)(hf:zc K x qual st f fd)(hs:sf ["self", "row"] ["self", "row", "words", "word", "form"] st=Ab)(hb:Di st=[.Assign [.Name "words" p1] e1 p2,.Assign [.Name "word" p3] e2 p4,.Assign [.Name "form" p5] (.Call (.Name "told_by" p6) [.Attribute (.Name "self" p7) "p" p8,.Call (.Name "rests_of_row" p9) [.Attribute (.Name "self" p10) "p" wv,.Name "words" wa] [] uo] [] uc) ud,.If (.BoolOp .And [c4,c4'] ue) b4 [] vb,.If c5 b5 [] uf,.If c6 b6 [] oz,.If c7 [.Return (Aa (.Call (.Attribute (.Name "self" ng) "list_changed" ni) [.Name "word" kq,.Name "form" b8] [] iy)) b9] [] cb,.If c8 [.Return (Aa (.Call (.Attribute (.Name "self" ku) "undone" iz) [] [] i5)) Ó] [] ce,.Return (Aa (.Call (.Attribute (.Name "self" cf) "list_asked" cg) [.Name "word" Ô] [] Õ)) Ö])(hl:((ni.endLine==iy.line)&&((iz.endLine==i5.line)&&(cg.endLine==Õ.line)))=Ab)(hm:((("told_by" : Ah),tb,2):Ah×Ag×Ag)∈fns)(qu:(zi ⟨AH st,["self", "row", "words", "word", "form"],fns,bl,rzs,exs,gls,Ab⟩ "told_by" && zi ⟨AH st,["self", "row", "words", "word", "form"],fns,bl,rzs,exs,gls,Ab⟩ "rests_of_row")=Ab)(k1:Be fuel ⟨AH st,["self", "row", "words", "word", "form"],fns,bl,rzs,exs,gls,Ab⟩ e1 cs=Ab)(k2:Be fuel ⟨AH st,["self", "row", "words", "word", "form"],fns,bl,rzs,exs,gls,Ab⟩ e2 (.x (.v 2) (.int 0))=Ab)(nc:(F9 e1&&F9 e2)=Ab)(k4:Eb fuel ⟨AH st,["self", "row", "words", "word", "form"],fns,bl,rzs,exs,gls,Ab⟩ c4 (.cmp .In (.v 3) (.glob ga))=Ab)(k5:Eb fuel ⟨AH st,["self", "row", "words", "word", "form"],fns,bl,rzs,exs,gls,Ab⟩ c5 (.cmp .In (.v 3) (.glob ga))=Ab)(k6:Eb fuel ⟨AH st,["self", "row", "words", "word", "form"],fns,bl,rzs,exs,gls,Ab⟩ c6 (.cmp .In (.v 3) (.glob gm))=Ab)(k7:Eb fuel ⟨AH st,["self", "row", "words", "word", "form"],fns,bl,rzs,exs,gls,Ab⟩ c7 (.cmp .In (.v 3) (.glob gl))=Ab)(k8:Eb fuel ⟨AH st,["self", "row", "words", "word", "form"],fns,bl,rzs,exs,gls,Ab⟩ c8 (.cmp .Eq (.v 3) (.str "undo"))=Ab)(ha':Pg.G ga=.H (la.map .str))(hm':Pg.G gm=.H (lm.map .str))(hl':Pg.G gl=.H (ll.map .str))(mr:mg "rests_of_row" = Aa (.ref fr))(kr:Ba K (.ref fr)=Ab)(br:CW K frd ["p", "words"] [])(FRok:Y4 P w K mg base (CXR P w) n fr frd ["p", "words"] (spD K CL 2 Ae FR))(ml:ze K C "list_changed" fl)(bll:CW K fld ["self", "word", "form"] [])(GL:Y4 P w K mg base (CXR P w) n fl fld ["self", "word", "form"] (vv K CL C 2 Gl'))(mu:ze K C "undone" fu)(blu:CW K fud ["self"] [])(GU:Y4 P w K mg base (CXR P w) n fu fud ["self"] (vv K CL C 0 Gu))(ma:ze K C "list_asked" fa)(bla:CW K fad ["self", "word"] [])(GA:Y4 P w K mg base (CXR P w) n fa fad ["self", "word"] (vv K CL C 1 Ga)):
  Y4 P w K mg base (CXR P w) (n+1) f fd ["self", "row"] (vv K CL C 1 (Hu la lm ll (λr=>evE (Z6 Pg n) [Af,Aa (.str r,Ae),Af,Af,Af] cs) FR ((Z6 Pg n).F tb) Gl' Gu Ga)):=by
 obtain⟨oc,od,dV,kV,doc,pm,an,cdv,ct,osl,rfl,lk,zu⟩:=hf.ex;have sc:=JG hs;refine Hr lk zu sc.fs (λvs H Q E ⟨a,la,us,ds,A,q,e,z,_⟩=>by rw[e,A8,z];rfl) λA outer s H vs Q E hr ⟨a,ox,us,ds,B,q,e,U8,hA,ha,zg,rs,dk,hp⟩=>?_
 subst e;rw[hb];have v:=Lv (P:=P) (w:=w) (base:=base) (outer:=outer) (H:=H) (E:=E) t sc hr;obtain⟨jz,wz⟩:=Bk qu;obtain⟨hl1,mw⟩:=Bk hl;obtain⟨mw,hl3⟩:=Bk mw;obtain⟨bu,nc2⟩:=Bk nc;have U9:∀ p,PE (B2 (CXR P w) P w K mg base ["self", "row", "words", "word", "form"] qual (AH st) f cdv A outer s H E) (.Name "self" p) (Ci 0):=λp=>Dx rfl (.inl (sc.loc "self" (by simp)))
 have kv:∀ p,PE (B2 (CXR P w) P w K mg base ["self", "row", "words", "word", "form"] qual (AH st) f cdv A outer s H E) (.Name "words" p) (Ci 2):=λp=>Dx rfl (.inl (sc.loc "words" (by simp)))
 have nk:∀ p,PE (B2 (CXR P w) P w K mg base ["self", "row", "words", "word", "form"] qual (AH st) f cdv A outer s H E) (.Name "word" p) (Ci 3):=λp=>Dx rfl (.inl (sc.loc "word" (by simp)))
 have vc:∀ p,PE (B2 (CXR P w) P w K mg base ["self", "row", "words", "word", "form"] qual (AH st) f cdv A outer s H E) (.Name "form" p) (Ci 4):=λp=>Dx rfl (.inl (sc.loc "form" (by simp)))
 have E1:=((zk fuel).e _ _ _ e1 _ v k1).se B;have E2:=((zk fuel).e _ _ _ e2 _ v k2).se B;have C4:=(zk fuel).b _ _ _ c4 _ v k4 B;have C5:=(zk fuel).b _ _ _ c5 _ v k5 B;have C6:=(zk fuel).b _ _ _ c6 _ v k6 B;have C7:=(zk fuel).b _ _ _ c7 _ v k7 B;have C8:=(zk fuel).b _ _ _ c8 _ v k8 B;have hgr:Gl (B2 (CXR P w) P w K mg base ["self", "row", "words", "word", "form"] qual (AH st) f cdv A outer s H E) "rests_of_row" := AD.mp wz;have nev:PW (B2 (CXR P w) P w K mg base ["self", "row", "words", "word", "form"] qual (AH st) f cdv A outer s H E) (.BoolOp .And [c4'] ue) (λ_ _ _=>AM):=λ_ _ _ _ _ _ _ h=>h.elim
 refine⟨_,Ca (EH (i:=2) sc.fs.nd rfl (.inl (sc.loc "words" (by simp))) E1 (HN bu) (.inl rfl)) (Ca (EH (i:=3) sc.fs.nd rfl (.inl (sc.loc "word" (by simp))) E2 (HN nc2) (.inl rfl)) (Ca (EH (i:=4) sc.fs.nd rfl (.inl (sc.loc "form" (by simp))) (OJ v hm (by decide) rfl jz (Bv (Re dc U9) (Bv (Kh FRok v.room hgr mr kr br .nil (v.px A0) (Bv (Re dc U9) (Bv (kv wa) Cb rfl) rfl) (by decide) rfl rfl) Cb rfl) rfl)) rfl (.inl rfl))
  (Ca (FO (PW.pt (QJ C4 nev)) Jw G1) (Ca (FO C5 Jw G1) (Ca (FO C6 Jw G1) (Ca (FO C7 (DT (Hm (Ra (U9 ng) dc.cl ml GL v.room bll (v.px A0) (Bv (nk kq) (Bv (vc b8) Cb rfl) rfl) hl1))) G1) (Ca (FO C8 (DT (Hm (qQ (U9 ku) dc.cl mu GU v.room blu (v.px A0) mw))) G1) (DT (Hm (Ra (U9 cf) dc.cl ma GA v.room bla (v.px A0) (Bv (nk Ô) Cb rfl) hl3)))))))))),?_⟩
 obtain⟨u,d,rfl,rfl,ru⟩:=NW U8 rs;rcases iA (la:=la) (lm:=lm) (ll:=ll) (cs:=λr=>evE (Z6 Pg n) [Af,Aa (.str r,Ae),Af,Af,Af] cs) (FR:=FR) (FT:=(Z6 Pg n).F tb) (Gl:=Gl') (Gu:=Gu) (Ga:=Ga) (q:=q) (d:=d) with hz|⟨r,wd,ws,rfl,ecs,eG⟩
 .rw[hz]at hp;exact hp.elim
 rw[eG]at hp;have oh:=dk;obtain⟨dx,v1,v2,v3,xs,h1,h2,r4,r5,r6,r7⟩:=dk;refine⟨hA,[Af,Aa (.str r,Ae),Af,Af,Af],gu K CL B H _ [Aa (.ref a),Aa u,Af,Af,Af] ⟨⟨rfl,u,rfl,ru⟩,trivial⟩,?_⟩;show AW _ _ _ (evE (Z6 Pg n) [Af,Aa (.str r,Ae),Af,Af,Af] cs) _;rw[show evE (Z6 Pg n) [Af,Aa (.str r,Ae),Af,Af,Af] cs=.ok (.L (.str wd::ws)) from ecs]
 intro y2 H1 o7 cu;refine⟨hA.same o7,[Af,Aa (.str r,Ae),Aa (.L (.str wd::ws),Ae),Af,Af],gu K CL B H1 _ [Aa (.ref a),Aa u,Aa y2,Af,Af] ⟨⟨rfl,u,rfl,ru.same o7⟩,⟨rfl,y2,rfl,cu⟩,trivial⟩,?_⟩;refine Lc (Rk (x:=.str wd) (ws:=ws) rfl) λy3 H2 zb ry3=>?_
 have s2:=o7.trans zb;refine⟨a,dx,v1,v2,v3,ox,rfl,s2 _ _ h1,a,dx,v1,v2,v3,ox,rfl,s2 _ _ h1,y2,rfl,[q.p,.L (.str wd::ws)],B,rfl,hA.same s2,⟨r4.same s2,cu.same zb,trivial⟩,?_⟩;cases eR:FR [q.p,.L (.str wd::ws)] with
 |bad=>rw[eR]at hp;exact hp.elim
 |exn y=>rw[eR]at hp;exact λcls dx H3 wb xr=>⟨y,xr,λcls dx xr=>hp cls dx H3 (s2.trans wb) xr⟩
 |ok ww=>
  rw[eR]at hp;dsimp only at hp;intro yr H3 wb ryr;have s3:=s2.trans wb;refine⟨[q.p,ww],B,rfl,hA.same s3,⟨r4.same s3,ryr.1,trivial⟩,?_⟩;cases eT:(Z6 Pg n).F tb [q.p,ww] with
  |bad=>rw[eT]at hp;exact hp.elim
  |exn y=>rw[eT]at hp;exact λcls dx H4 wc xr=>⟨y,xr,λcls dx xr=>hp cls dx H4 (s3.trans wc) xr⟩
  |ok fm=>
   rw[eT]at hp;dsimp only at hp;intro yf H4 wc ryf;have s4:=s3.trans wc;have gd:∀ H',Az H4 H'->Y9 K CL B [Af,Aa (.str r,Ae),Aa (.L (.str wd::ws),Ae),Aa (.str wd,Ae),Aa (fm,Ae)] [Aa (.ref a),Aa u,Aa y2,Aa y3,Aa yf] H':=λH' sm=>gu K CL B H' _ _ ⟨⟨rfl,u,rfl,ru.same (s4.trans sm)⟩,⟨rfl,y2,rfl,cu.same (((zb.trans wb).trans wc).trans sm)⟩,⟨rfl,y3,rfl,ry3.same ((wb.trans wc).trans sm)⟩,⟨rfl,yf,rfl,ryf.1.same sm⟩,trivial⟩
   have hGa:(Z6 Pg n).G ga=.H (la.map .str):=by rw[KN];exact ha'
   have hGm:(Z6 Pg n).G gm=.H (lm.map .str):=by rw[KN];exact hm'
   have hGl:(Z6 Pg n).G gl=.H (ll.map .str):=by rw[KN];exact hl'
   refine⟨hA.same s4,_,gd H4 (Az.refl _),?_⟩;refine Ip (OO (w:=wd) hGa rfl) λH5 ur=>?_
   unfold O1 at hp;cases ia:m6 la wd with
   |true=>rw[ia,Au rfl]at hp;exact hp.elim
   |false=>
   rw[ia,Ay Ax]at hp;show HP _ _ H5;refine⟨(hA.same s4).same ur,_,gd H5 ur,?_⟩;refine Ip ((OO (w:=wd) hGa rfl).trans (by rw[ia])) λH6 kz=>?_
   show HP _ _ H6;have s56:=ur.trans kz;refine⟨(hA.same s4).same s56,_,gd H6 s56,?_⟩;refine Ip (OO (w:=wd) hGm rfl) λH7 sm7=>?_
   cases im:m6 lm wd with
   |true=>rw[im,Au rfl]at hp;exact hp.elim
   |false=>
   rw[im,Ay Ax]at hp;show HP _ _ H7;have s57:=s56.trans sm7;refine⟨(hA.same s4).same s57,_,gd H7 s57,?_⟩;refine Ip (OO (w:=wd) hGl rfl) λH8 sm8=>?_
   have cx:=s57.trans sm8;have s8:=s4.trans cx;have step:∀(r:RK)(H':Hp),Az H H'->pk r (λd q'=>∀ v H',KB a ox H H'->Cw K CL Ab H B H' v d->DK K CL H' (AV B v) C a ox q'->Q v H') (λx=>∀ cls dx H',Az H H'->Dz K CL H' cls dx x->E cls dx H')->pk r (λd q'=>∀ v H2,KB a ox H' H2->Cw K CL Ab H' B H2 v d->DK K CL H2 (AV B v) C a ox q'->Q v H2) (λx=>∀ cls dx H2,Az H' H2->Dz K CL H2 cls dx x->EKW K CL A0 (WE K CL E) cls dx H2):=λr H' sm h=>by
    cases r with
    |bad=>exact h.elim
    |exn y=>exact λcls dx H2 s2 xr=>⟨y,xr,λcls dx xr=>h cls dx H2 (sm.trans s2) xr⟩
    |ok d q'=>exact λv H2 kb rc dk=>h v H2 ((KB.of sm).trans kb) (P8 sm rc) dk
   cases il:m6 ll wd with
   |true=>
    rw[il,Au rfl]at hp;exact⟨.ref a,rfl,a,dx,_,rfl,s8 _ _ h1,rfl,y3,rfl,yf,rfl,a,ox,[y3,yf],[.str wd,fm],B,q,rfl,rfl,hA.same s8,ha,zg,⟨ry3.same ((wb.trans wc).trans cx),ryf.1.same cx,trivial⟩,oh.same s8,step _ H8 s8 hp⟩
   |false=>
   rw[il,Ay Ax]at hp;show HP _ _ H8;refine⟨hA.same s8,_,gd H8 cx,?_⟩;have ã:((top [Af,Aa (D.str r,Ae),Aa (D.L (D.str wd::ws),Ae),Aa (D.str wd,Ae),Aa (fm,Ae)] (.cmp .Eq (.v 3) (.str "undo")) (evE (Z6 Pg n) [Af,Aa (D.str r,Ae),Aa (D.L (D.str wd::ws),Ae),Aa (D.str wd,Ae),Aa (fm,Ae)] (.cmp .Eq (.v 3) (.str "undo")))).bind Bq)=.ok (decide (wd = "undo")):=by
    show R.ok (wd == "undo")=_
    congr 1
   refine Ip ã λH9 qe=>?_
   have s9:=s8.trans qe;by_cases iu:wd = "undo"
   .rw[Au iu]at hp;rw[CI iu];exact⟨.ref a,rfl,a,dx,_,rfl,s9 _ _ h1,rfl,a,ox,[],[],B,q,rfl,rfl,hA.same s9,ha,zg,trivial,oh.same s9,step _ H9 s9 hp⟩
   .rw[Ay iu]at hp;rw[BM iu];show HP _ _ H9;exact⟨.ref a,rfl,a,dx,_,rfl,s9 _ _ h1,rfl,y3,rfl,a,ox,[y3],[.str wd],B,q,rfl,rfl,hA.same s9,ha,zg,⟨ry3.same (((wb.trans wc).trans cx).trans qe),trivial⟩,oh.same s9,step _ H9 s9 hp⟩
end
def spN(C:Ak):Sp:=λvs H Q E=>∃ x dx u,vs=[.ref x,u]/\H x=Aa (.ins C dx [])/\∀ H' l1 l2,H l1=Af->H l2=Af->l1≠l2->H' x=Aa (.ins C dx (yq u (.ref l1) .O l2))->H' l1=Aa (.L [])->H' l2=Aa (.L [])->(∀ b o,H b=Aa o->b≠x->H' b=Aa o)->Q .O H'
section
variable{P:AK}{w:AI}{K:Fg}{mg:Ah->Ao Al}{base:AJ}{n:Ag}{C:Ak}
theorem pG{st:AL}{f:Ak}{k}(dc:uh K C)(hf:zc K x qual st f fd)(hs:sf ["self", "p"] ["self", "p"] st=Ab)
  (hb:Di st=[.Assign [.Attribute (.Name "self" p1) "p" p2] (.Name "p" p3) p4,.Assign [.Attribute (.Name "self" p5) "points" p6] (.List [] p7) p8,.Assign [.Attribute (.Name "self" p9) "curve" p10] (.Constant .none k wv) wa,.Assign [.Attribute (.Name "self" uo) "past" uc] (.List [] ud) ue]):
  Y4 P w K mg base (CXR P w) (n+1) f fd ["self", "p"] (spN C):=by
 obtain⟨oc,od,dV,kV,doc,pm,an,cdv,ct,osl,rfl,lk,zu⟩:=hf.ex;have sc:=JG hs;refine Hr lk zu sc.fs (λvs H Q E ⟨a,dx,u,e,_⟩=>by rw[e];rfl) λA outer s H vs Q E hr ⟨a,dx,u,e,ha,q⟩=>?_
 subst e;rw[hb];have U9:∀ p,PE (B2 (CXR P w) P w K mg base ["self", "p"] qual (AH st) f cdv A outer s H E) (.Name "self" p) (Ci 0):=λp=>Dx rfl (.inl (sc.loc "self" (by simp)))
 have pp:∀ p,PE (B2 (CXR P w) P w K mg base ["self", "p"] qual (AH st) f cdv A outer s H E) (.Name "p" p) (Ci 1):=λp=>Dx rfl (.inl (sc.loc "p" (by simp)))
 refine⟨_,Ca (IR (U9 p1) (pp p3) rfl) (Ca (IR (U9 p5) (L8 Cb) rfl) (Ca (IR (U9 p9) Og rfl) (DT (IR (U9 uo) (L8 Cb) rfl)))),?_⟩;refine⟨u,rfl,.ref a,rfl,a,C,dx,[],rfl,ha,dc.cl,dc.n1,by decide,Dt _,λl1 h1=>?_⟩
 have n1:l1≠a:=λz=>by rw[z,BO]at h1;cases h1
 refine⟨.ref a,rfl,a,C,dx,[("p",u)],rfl,by rw[AQ (CG n1)];exact BO,dc.cl,dc.n2,AR rfl,.ref a,rfl,a,C,dx,[("p",u),("points",.ref l1)],rfl,BO,dc.cl,dc.n3,AR rfl,Dt _,λl2 h2=>?_⟩
 have n2:l2≠a:=λz=>by rw[z,BO]at h2;cases h2
 rw[AQ n2,AQ n2]at h2;have n3:l1≠l2:=λz=>by rw[<-z,BO]at h2;cases h2
 refine⟨.ref a,rfl,a,C,dx,[("p",u),("points",.ref l1),("curve",.O)],rfl,by rw[AQ (CG n2)];exact BO,dc.cl,dc.n4,AR rfl,?_⟩
 rw[AQ n1]at h1;rw[AQ (CG n3),AQ n2]at h2;refine q _ l1 l2 h1 h2 n3 BO ?_ ?_ λb o e n=>?_
 .rw[AQ n1,AQ n3,AQ n1,AQ n1];exact BO
 .rw[AQ n2];exact BO
 .have e1:b≠l1:=Et e h1;have e2:b≠l2:=Et e h2;rw[AQ n,AQ e2,AQ n,AQ n,AQ e1,AQ n];exact e
end
section
variable{X:Cx}{CL:ClA}{W:XW}
def ϳ(X:Cx)(jm:AL)(tb:L2.St->XK->TS):Prop:=∀ pI Xw,FM (model X.prog X.w) X.A X.env Xw->∀(Y0:L2.St)(E0:XK),(∀ KK H1 s1 ev s',Z8 (Cx.pw X pI Xw) KK Y0 H1 s1->CXR X.prog X.w (Cx.pw X pI Xw).stack H1 s1 E0 ev s'->(Cx.pw X pI Xw).xe ev s')->PS (Cx.pw X pI Xw) jm (tb Y0 E0)
theorem iS{c i:Ag}{g nm:Ah}{jm:AL}{p1 hp pos:AF}(hx:X.ex=[])(yo:X.stack=X.env::X.outer)(ak:X.env.frame=Aa X.env.locals)(hN:X.N.Nodup)(hi:X.N[i]?=Aa nm)(hl:X.env.scope.names.lookup nm=Aa .local)(h1:Ph X CL up g c)(hb:ϳ X jm tb)(hh:∀ e,vx (Cx.hot X e) CL (λ_ _=>AM) (h0::hs) fh):PS X (.Try [jm] [.ExceptHandler (Aa (.Name g p1)) (Aa nm) (h0::hs) hp] [] [] pos) (λD Y H=>tb Y (λ_ _ _=>AM) D Y H\/∃(y:Ex)(Fz:Fr)(B:Ak->Prop)(U:Rho),(up y.c).contains c=Ab/\Sx X.K CL Fz B U Y H/\B5 X.K CL Fz B W (ul i y U fh) D/\tb Y (λcls dx H'=>Dz X.K CL H' cls dx y/\Az H H') {nx:=λ_ _=>AM,rt:=λ_ _=>AM} Y H):=λpI s Y H D I h=>by
 refine Z_0 ?_;rcases h with h|⟨y,Fz,B,U,hc,sx,hpo,h⟩
 .refine Bj (DT (hb pI _ HV Y _ fZ) [] s Y H D (QZ I _) h) (λf s1 hf=>?_) λ_ _ z=>z
  have hf:=jE I.ok hf;cases f with
  |next=>exact GZ hf
  |ret u=>exact hf
  |brk=>exact hf
  |cont=>exact hf
 .have o9:Nk X CL pI Y H y (λev s1=>AA (model X.prog X.w) X.A (FN ev X.env) (λ_ s2=>AA (model X.prog X.w) X.A (GJ ev Af) (λ_ s3=>AA (model X.prog X.w) X.A (Im ev X.env [.ExceptHandler (Aa (.Name g p1)) (Aa nm) (h0::hs) hp]) (SP X pI D) X.xe s3) X.xe s2) X.xe s1):=by
   refine TX hx yo ak λe T1 cls dx H' s1 I1 sm oj ae gf he fg xr=>?_
   have gx:=sx.grow sm;obtain⟨C,xz,rfl,_⟩:=xr (BN B U Y) gx.aok;obtain⟨C',hg,hm,zw,xc,hup⟩:=h1;exact Qs (W:=W) hx hN hi hl hg hm zw xc (hup y.c C xz) hh I1 oj ae gf he fg gx xz xr (λ_=>hpo) (λz=>by rw[hc]at z;cases z)
  refine Bj (DT (hb pI _ HV Y _ (Ui hx I.ok o9)) [] s Y H _ (QZ I _) h) (λf s1 hf=>?_) λ_ _ z=>z
  cases f with
  |next=>obtain⟨_,_,_,z⟩:=hf;exact z.elim
  |ret u=>obtain⟨_,_,_,_,_,z⟩:=hf;exact z.elim
  |brk=>obtain⟨_,_,_,z⟩:=hf;exact z.elim
  |cont=>obtain⟨_,_,_,z⟩:=hf;exact z.elim
end
section
variable{X:Cx}{CX:CXT}{k:Ag}{f C:Ak}{fd:Bi}{ps:Ac Ah}{sp:Sp}{E:XK}{m:Ah}{pos apos:AF}{e o:Aq}{es:Ac Aq}{ta:TE}{t:TA}{Y0:L2.St}
theorem iD{s:Ar}{Q:VK}{us:Ac Al}{vs:Ac V}(F:Y4 X.prog X.w X.K X.mg X.base CX k f fd ps sp)(hr:U4 k X.A)(hb:CW X.K fd ps [])(hx:∀ pI H s e s',Z8 X pI Y0 H s->CX X.stack H s E e s'->X.xe e s')(I:Z8 X pI Y0 H s)(r:A1 vs us)(q:sp vs H Q E):AA (model X.prog X.w) X.A (call (.ref f) us) (EP X pI Y0 Q) X.xe s:=by
 have hl:us.length=ps.length:=by rw[<-r.length];exact F.len _ _ _ _ q
 have af:GE s fd ⟨us,[]⟩ (ps.zip us):=by
  have:=hb s us I.kIn (by rw[BA];exact hl)
  rwa [BA]at this
 refine F0 (EG (F.run X.A X.stack s H ⟨us,[]⟩ us vs Q E hr I.env0 af r q) λr s' hq=>?_)
 cases r with
 |error e=>exact hx pI H s e s' I hq
 |ok fl=>
  cases fl with
  |ret u=>exact I.after hq
  |next=>exact A7 hq
  |brk=>exact A7 hq
  |cont=>exact A7 hq
theorem VO(he:PE X o ta)(c:we X.K C)(hm:ze X.K C m f)(F:Y4 X.prog X.w X.K X.mg X.base CX k f fd ps sp)(hr:U4 k X.A)(hb:CW X.K fd ps [])(hx:∀ pI H s ev s',Z8 X pI Y0 H s->CX X.stack H s E ev s'->X.xe ev s')(ha:PA X (e::es) t)(U5:(apos.endLine==pos.line)=Ab)(xq:FX ((e::es).length+([]:Ac CB).length) (Bs pos (Aw (e::es) X.env)) (D9 pos (Dh [] X.env))=Ab:=by rfl)(U7:BH o m X.env (eval o X.env)=eval o X.env:=by rfl)(yo:Aw (e::es) X.env=(Ae,eval e X.env)::Aw es X.env:=by rfl)(zv:(Bs pos (Aw es X.env)).any (·.1)=Ae:=by rfl):PE X (.Call (.Attribute o m apos) (e::es) [] pos) (λY H Q=>Y=Y0/\Lj C m sp [] E ta t Y H Q):=by
 intro pI s Y H Q I ⟨e0,h⟩;subst e0;rw[Gm,U7];refine As (U0 (he pI s Y H _ I h) λu s1 ⟨x,H1,I1,rx,a,dx,fs,ex,ea,l,q⟩=>?_)
 subst ex;obtain rfl:u=Bm a:=rx;refine As (CU ?_);have vk:Do Ab o X.env apos pos=pure pos:=by
  unfold Do;simp[U5]
 unfold HY;rw[xq];refine As (Cm (NS I1 ea c hm l ?_));refine As (Gj vk ?_);refine DI (first:=[.ref a]) (h₀:=X.base) I.ok.mod.kin hm.kp (U0 (ha pos pI s1 Y H1 _ I1 q) λus s2 ⟨vs,H2,I2,r,q2⟩=>⟨I2.kIn,?_⟩) yo zv
 have q2:sp (V.ref a::(vs++[])) H2 Q E:=q2;rw[BA]at q2;exact iD (us:=.ref a::us) (vs:=.ref a::vs) F hr hb hx I2 (.cons rfl r) q2
end
section
variable(K:Fg)(CL:ClA)
def RE(H:Hp)(A:Ak->Prop)(H':Hp)(v x:V)(d:D):Prop:=∃ nm d2 t,d=.H [.str nm,d2]/\v=.ref t/\H' t=Aa (.H [.str nm,x])/\¬ A t/\Cw K CL Ab H A H' x d2
def spS(C:Ak)(m:Ag)(G:Dk->Ac D->RK):Sp:=λvs H Q E=>∃(a la:Ak)(us:Ac V)(ds:Ac D)(A:Ak->Prop)(q:Dk),vs=.ref a::us/\us.length=m/\My H A/\A a/\A la/\Z9 K CL H A us ds/\DK K CL H A C a la q/\pk (G q ds) (λd q'=>∀ v x H',KB a la H H'->RE K CL H A H' v x d->DK K CL H' (AV A x) C a la q'->Q v H') (λ_=>AM)
end
noncomputable def nn(up:Ag->Ac Ag)(FT FH:Ac D->R D)(G:Dk->Ac D->RK)(q:Dk)(ds:Ac D):RK:=match G q ds with
  | .ok (.L ts) q'=>(match FT [.L ts] with
    |.ok (.bl Ab)=>.ok (.H [.str "told",.L ts]) q'
    | _=>.bad)
  | .exn y=>(match FH [.exc y.c y.fs] with
    |.ok (.str nm)=>if (up y.c).contains 0=Ab/\nm≠"told" then .ok (.H [.str nm,.O]) q else .bad
    | _=>.bad)
  |_=>.bad
theorem oF(up:Ag->Ac Ag)(FT FH:Ac D->R D)(G:Dk->Ac D->RK)(q:Dk)(ds:Ac D):nn up FT FH G q ds=.bad\/(∃ ts q',G q ds=.ok (.L ts) q'/\FT [.L ts]=.ok (.bl Ab)/\nn up FT FH G q ds=.ok (.H [.str "told",.L ts]) q')\/∃ y nm,G q ds=.exn y/\FH [.exc y.c y.fs]=.ok (.str nm)/\(up y.c).contains 0=Ab/\nm≠"told"/\nn up FT FH G q ds=.ok (.H [.str nm,.O]) q:=by
 unfold nn;cases e:G q ds with
 |bad=>exact .inl rfl
 |ok d q'=>
  cases d with
  |L ts=>
   dsimp only;cases e2:FT [.L ts] with
   |ok b=>
    cases b with
    |bl b=>
     cases b with
     |true=>exact .inr (.inl ⟨ts,q',rfl,e2,rfl⟩)
     |false=>exact .inl rfl
    |_=>exact .inl rfl
   |_=>exact .inl rfl
  |_=>exact .inl rfl
 |exn y=>
  dsimp only;cases e2:FH [.exc y.c y.fs] with
  |ok b=>
   cases b with
   |str nm=>
    by_cases h:(up y.c).contains 0=Ab/\nm≠"told"
    .exact .inr (.inr ⟨y,nm,rfl,e2,h.1,h.2,Au h⟩)
    .exact .inl (Ay h)
   |_=>exact .inl rfl
  |_=>exact .inl rfl
section
variable{P:AK}{w:AI}{K:Fg}{mg:Ah->Ao Al}{base:AJ}{CL:ClA}{fns:Ac (Ah×Ag×Ag)}{bl:Ac Ah}{rzs exs gls:Ac (Ah×Ag)}{Pg:Prg}{fuel n:Ag}{C:Ak}
theorem iB(t:wp K mg CL fns bl rzs exs gls Pg fuel){st h0:AL}{f fy:Ak}{ô:Bi}{k1 k2 k3}{tx rf:Ag}(dc:uh K C)(hf:zc K x qual st f fd)(hs:sf ["_law_desk", "_law_row_here"] ["_law_desk", "_law_row_here", "_law_answer", "_law_word", "_law_error"] st=Ab)
    (hb:Di st=[.Assign [.Name "_law_answer" p1] (.Constant .none k1 p2) p3,.Assign [.Name "_law_word" p4] (.Constant (.str "told") k2 p5) p6,.Try [.Assign [.Name "_law_answer" p7] (.Call (.Attribute (.Name "_law_desk" p8) "say" p9) [.Name "_law_row_here" p10] [] wv) wa] [.ExceptHandler (Aa (.Name "OvalError" uo)) (Aa "_law_error") [h0] uc] [] [] ud,.If c4 b4 [] ue,.Return (Aa (.Tuple [.Name "_law_word" vb,.Name "_law_answer" uf] k3 oz)) ng])
    (hl:(p9.endLine==wv.line)=Ab) (hd:ah ⟨AH st,["_law_desk", "_law_row_here", "_law_answer", "_law_word", "_law_error"],fns,bl,rzs,exs,gls,Ab⟩ "OvalError" 0=Ab)
    (k0:Lu fuel ⟨AH st,["_law_desk", "_law_row_here", "_law_answer", "_law_word", "_law_error"],fns,bl,rzs,exs,gls,Ab⟩ 4 [h0] (.cons (.asg 3 Ae (.call rf (.cons (.v 4) .nil))) .nil)=Ab)
    (k4:Eb fuel ⟨AH st,["_law_desk", "_law_row_here", "_law_answer", "_law_word", "_law_error"],fns,bl,rzs,exs,gls,Ab⟩ c4 (.and (.cons (.cmp .Eq (.v 3) (.str "told")) (.cons (.no (.call tx (.cons (.v 2) .nil))) .nil)))=Ab)
    (my:ze K C "say" fy) (by':CW K ô ["self", "row"] []) (GY:Y4 P w K mg base (CXR P w) n fy ô ["self", "row"] (vv K CL C 1 G)):
    Y4 P w K mg base (CXR P w) (n+1) f fd ["_law_desk", "_law_row_here"] (spS K CL C 1 (nn Pg.up ((Z6 Pg n).F tx) ((Z6 Pg n).F rf) G)):=by
  obtain⟨oc,od,dV,kV,doc,pm,an,cdv,ct,osl,rfl,lk,zu⟩:=hf.ex;have sc:=JG hs;refine Hr lk zu sc.fs (λvs H Q E ⟨a,la,us,ds,A,q,e,z,_⟩=>by rw[e,A8,z];rfl) λA outer s H vs Q E hr ⟨a,la,us,ds,B,q,e,U8,hA,ha,zg,rs,dk,hp⟩=>?_
  subst e;rw[hb];have v:=Lv (P:=P) (w:=w) (base:=base) (outer:=outer) (H:=H) (E:=E) t sc hr;have pv:∀(i:Ag)(nm:Ah)(p:AF),(["_law_desk", "_law_row_here", "_law_answer", "_law_word", "_law_error"]:Ac Ah)[i]?=Aa nm->(nm==("__debug__" : Ah))=Ae->(nm==("__classdict__" : Ah))=Ae->PE (B2 (CXR P w) P w K mg base ["_law_desk", "_law_row_here", "_law_answer", "_law_word", "_law_error"] qual (AH st) f cdv A outer s H E) (.Name nm p) (Ci i):=λi nm p h d1 d2=>Dx h (.inl (sc.loc nm (GN h))) d1 d2
  have C4:=(zk fuel).b _ _ _ c4 _ v k4 B;have HH:=λe=>OQ v ⟨λ_=>rfl,rfl,rfl,rfl⟩ e 4 fuel _ _ k0
  have tbd:ϳ (B2 (CXR P w) P w K mg base ["_law_desk", "_law_row_here", "_law_answer", "_law_word", "_law_error"] qual (AH st) f cdv A outer s H E) (.Assign [.Name "_law_answer" p7] (.Call (.Attribute (.Name "_law_desk" p8) "say" p9) [.Name "_law_row_here" p10] [] wv) wa) (λY0 E0 D Y H'=>Y=Y0/\Lj C "say" (vv K CL C 1 G) [] E0 (Ci 0) (Lk (Ci 1) Ms) Y H' λu H1=>D.nx (Y.set 2 (Aa u)) H1):=λpI Xw _ Y0 E0 hx=>
    EH (X:=Cx.pw (B2 (CXR P w) P w K mg base ["_law_desk", "_law_row_here", "_law_answer", "_law_word", "_law_error"] qual (AH st) f cdv A outer s H E) pI Xw) (i:=2) sc.fs.nd rfl (.inl (sc.loc "_law_answer" (by simp))) (VO (Y0:=Y0) (E:=E0) (Dx (i:=0) rfl (.inl (sc.loc "_law_desk" (by simp)))) dc.cl my GY v.room by' hx (Bv (Dx (i:=1) rfl (.inl (sc.loc "_law_row_here" (by simp)))) Cb rfl) hl) rfl (.inl rfl)
  refine⟨_,Ca (EH (i:=2) sc.fs.nd rfl (.inl (sc.loc "_law_answer" (by simp))) Og rfl (.inl rfl)) (Ca (EH (i:=3) sc.fs.nd rfl (.inl (sc.loc "_law_word" (by simp))) KI rfl (.inl rfl)) (Ca (iS (W:=W0) (i:=4) rfl rfl rfl sc.fs.nd rfl (sc.loc "_law_error" (by simp)) (Q4 v hd) tbd HH) (Ca (FO C4 Jw G1) (DT (Hm (Of (Bv (pv 3 _ vb rfl rfl rfl) (Bv (pv 2 _ uf rfl rfl rfl) Cb rfl) rfl))))))),?_⟩
  obtain⟨u,d,rfl,rfl,ru⟩:=NW U8 rs;have oh:=dk;obtain⟨dx,v1,v2,v3,xs,h1,h2,r4,r5,r6,r7⟩:=dk;rcases oF Pg.up ((Z6 Pg n).F tx) ((Z6 Pg n).F rf) G q [d] with hz|⟨ts,q',e1,e2,e3⟩|⟨y,nm,e1,e2,e3,e4,e5⟩
  · rw[hz]at hp;exact hp.elim
  · rw[e3]at hp;refine .inl ⟨rfl,.ref a,rfl,a,dx,_,rfl,h1,rfl,u,rfl,a,la,[u],[d],B,q,rfl,rfl,hA,ha,zg,⟨ru,trivial⟩,oh,?_⟩;rw[e1];intro y H1 kb rc dk1;have ju:=dk1.un.aok kb hA;refine⟨ju,[Af,Af,Aa (.L ts,Ae),Aa (.str "told",Ae),Af],gu K CL B H1 _ [Aa (.ref a),Aa u,Aa y,Aa (.str "told"),Af] ⟨⟨rfl,y,rfl,rc.1⟩,⟨rfl,_,rfl,rfl⟩,trivial⟩,?_⟩;have ev:((top [Af,Af,Aa (D.L ts,Ae),Aa (D.str "told",Ae),Af] (.and (.cons (.cmp .Eq (.v 3) (.str "told")) (.cons (.no (.call tx (.cons (.v 2) .nil))) .nil))) (evE (Z6 Pg n) [Af,Af,Aa (D.L ts,Ae),Aa (D.str "told",Ae),Af] (.and (.cons (.cmp .Eq (.v 3) (.str "told")) (.cons (.no (.call tx (.cons (.v 2) .nil))) .nil))))).bind Bq)=.ok Ae:=by
      have e2':(Z6 Pg n).F tx [D.L ts]=.ok (.bl Ab):=e2;have z1:evE (Z6 Pg n) [Af,Af,Aa (D.L ts,Ae),Aa (D.str "told",Ae),Af] (.call tx (.cons (.v 2) .nil))=.ok (.bl Ab):=by
        show ((Z6 Pg n).F tx [D.L ts]).bind _=_;rw[e2'];rfl
      have z2:evE (Z6 Pg n) [Af,Af,Aa (D.L ts,Ae),Aa (D.str "told",Ae),Af] (.cmp .Eq (.v 3) (.str "told"))=.ok (.bl Ab):=rfl;simp[z1,z2,Dj,Bq]
    refine Ip ev λH2 sm=>?_
    show HP _ _ H2;refine⟨.str "told",rfl,y,rfl,by rw[Bz];exact AR rfl,λtt ht=>?_⟩
    have s3:=sm.trans (EZ ht (.H [.str "told",y]));refine hp (.ref tt) y _ (kb.trans (KB.of s3)) ⟨"told",.L ts,tt,rfl,rfl,BO,(ju.same sm).new ht,Z7.same s3 rc.1,λz es ee=>?_⟩ (dk1.same s3)
    obtain⟨l,ys,f1,f2,f3,f4⟩:=rc.2 z es ee;exact⟨l,ys,f1,f2,s3 _ _ f3,f4.same s3⟩
  · rw[e5]at hp;have g:=HI (K:=K) (CL:=CL) (A:=B) (H:=H) (U:=[Af,Af,Aa (.O,Ae),Aa (.str "told",Ae),Af]) (Y:=[Aa (.ref a),Aa u,Aa .O,Aa (.str "told"),Af]) ⟨⟨rfl,_,rfl,rfl⟩,⟨rfl,_,rfl,rfl⟩,trivial⟩;refine .inr ⟨y,⟨λb o=>H b=Aa o,λ_ _ _=>AM⟩,B,[Af,Af,Aa (.O,Ae),Aa (.str "told",Ae),Af],?_,OF hA g.1 g.2,?_,rfl,.ref a,rfl,a,dx,_,rfl,h1,rfl,u,rfl,a,la,[u],[d],B,q,rfl,rfl,hA,ha,zg,⟨ru,trivial⟩,oh,?_⟩
    · rw[KJ];exact e3
    · have eh:ul 4 y [Af,Af,Aa (.O,Ae),Aa (.str "told",Ae),Af] (λU=>U6 (Z6 Pg n) U (.cons (.asg 3 Ae (.call rf (.cons (.v 4) .nil))) .nil))=.next [Af,Af,Aa (.O,Ae),Aa (.str nm,Ae),Af]:=by
        have e2':(Z6 Pg n).F rf [D.exc y.c y.fs]=.ok (.str nm):=e2;have z1:evE (Z6 Pg n) [Af,Af,Aa (.O,Ae),Aa (.str "told",Ae),Aa (.exc y.c y.fs,Ae)] (.call rf (.cons (.v 4) .nil))=.ok (.str nm):=by
          show ((Z6 Pg n).F rf [D.exc y.c y.fs]).bind _=_;rw[e2'];rfl
        unfold ul;simp[z1]
      rw[eh];intro Y' H' sx;have no:∀(i:Ag)(d:D),([Af,Af,Aa (D.O,Ae),Aa (D.str nm,Ae),Af]:Rho)[i]?≠Aa (Aa (d,Ab)):=λi d h=>by
        match i,h with
        |0,h=>cases h
        |1,h=>cases h
        |2,h=>cases h
        |3,h=>cases h
        |4,h=>cases h
        |_+5,h=>cases h
      have own:∀ b,BN B [Af,Af,Aa (.O,Ae),Aa (.str nm,Ae),Af] Y' b->B b:=λb h=>h.elim id λ⟨j,d,h1,_⟩=>absurd h1 (no j d)
      have sm:Az H H':=λb o z=>sx.same b o z
      have g2:Y9 K CL B [Af,Af,Aa (.O,Ae),Aa (.str nm,Ae),Af] Y' H':=⟨λi d h=>let ⟨v,q,r⟩:=sx.good.sh i d h;⟨v,q,Z7.sub (λb hb=>.inl hb) _ r⟩,λi d h=>absurd h (no i d),sx.len⟩
      obtain⟨w2,hw2,cq⟩:=g2.sh 2 .O rfl;obtain⟨w3,hw3,rw3⟩:=g2.sh 3 (.str nm) rfl;have cq:w2=.O:=cq;have rw3:w3=.str nm:=rw3;subst cq rw3;refine⟨hA.same sm,_,g2,?_⟩;have ev:((top [Af,Af,Aa (D.O,Ae),Aa (D.str nm,Ae),Af] (.and (.cons (.cmp .Eq (.v 3) (.str "told")) (.cons (.no (.call tx (.cons (.v 2) .nil))) .nil))) (evE (Z6 Pg n) [Af,Af,Aa (D.O,Ae),Aa (D.str nm,Ae),Af] (.and (.cons (.cmp .Eq (.v 3) (.str "told")) (.cons (.no (.call tx (.cons (.v 2) .nil))) .nil))))).bind Bq)=.ok Ae:=by
        have z2:evE (Z6 Pg n) [Af,Af,Aa (D.O,Ae),Aa (D.str nm,Ae),Af] (.cmp .Eq (.v 3) (.str "told"))=.ok (.bl Ae):=by
          show R.ok (D.bl (nm == "told"))=_;rw[Bg.mpr e4]
        simp[z2,Dj,Bq]
      refine Ip ev λH2 zb=>?_
      show HP _ _ H2;refine⟨.str nm,hw3,.O,hw2,by rw[Bz];exact AR rfl,λtt ht=>?_⟩
      have s3:=(sm.trans zb).trans (EZ ht (.H [.str nm,.O]));exact hp (.ref tt) .O _ (KB.of s3) ⟨nm,.O,tt,rfl,rfl,BO,(hA.same (sm.trans zb)).new ht,rfl,λz es ee=>nomatch ee⟩ (oh.O.same s3)
    · rw[e1];exact λcls dx H' sm xr=>⟨xr,sm⟩
end
section
variable{X:Cx}{CL:ClA}{W:XW}
theorem iR{c c' i:Ag}{g g' nm:Ah}{jm mj:AL}{hs':Ac AL}{p1 p1' hp Ç pos:AF}{fh':Rho->O}(hx:X.ex=[])(yo:X.stack=X.env::X.outer)(ak:X.env.frame=Aa X.env.locals)(hN:X.N.Nodup)(hi:X.N[i]?=Aa nm)(hl:X.env.scope.names.lookup nm=Aa .local)(h1:Ph X CL up g c)(h2:Ph X CL up g' c')(hb:ϳ X jm tb)(hh:∀ e,vx (Cx.hot X e) CL (λ_ _=>AM) (h0::hs) fh)(hh':∀ e,vx (Cx.hot X e) CL (λ_ _=>AM) (mj::hs') fh'):PS X (.Try [jm] [.ExceptHandler (Aa (.Name g p1)) (Aa nm) (h0::hs) hp,.ExceptHandler (Aa (.Name g' p1')) (Aa nm) (mj::hs') Ç] [] [] pos) (λD Y H=>∃(y:Ex)(Fz:Fr)(B:Ak->Prop)(U:Rho),Sx X.K CL Fz B U Y H/\B5 X.K CL Fz B W (if (up y.c).contains c=Ab then ul i y U fh else if (up y.c).contains c'=Ab then ul i y U fh' else .bad) D/\tb Y (λcls dx H'=>Dz X.K CL H' cls dx y/\Az H H') {nx:=λ_ _=>AM,rt:=λ_ _=>AM} Y H):=λpI s Y H D I ⟨y,Fz,B,U,sx,p2,h⟩=>by
 refine Z_0 ?_;have o9:Nk X CL pI Y H y (λev s1=>AA (model X.prog X.w) X.A (FN ev X.env) (λ_ s2=>AA (model X.prog X.w) X.A (GJ ev Af) (λ_ s3=>AA (model X.prog X.w) X.A (Im ev X.env [.ExceptHandler (Aa (.Name g p1)) (Aa nm) (h0::hs) hp,.ExceptHandler (Aa (.Name g' p1')) (Aa nm) (mj::hs') Ç]) (SP X pI D) X.xe s3) X.xe s2) X.xe s1):=by
  refine TX hx yo ak λe T1 cls dx H' s1 I1 sm oj ae gf he fg xr=>?_
  have gx:=sx.grow sm;obtain⟨C,xz,rfl,_⟩:=xr (BN B U Y) gx.aok;obtain⟨C1,hg,hm,zw,xc,hup⟩:=h1;obtain⟨C2,wz,ra,hdb2,xc2,hup2⟩:=h2;refine Qs (W:=W) hx hN hi hl hg hm zw xc (hup y.c C xz) hh I1 oj ae gf he fg gx xz xr (λhc=>?_) (λhc=>?_)
  .rw[Au hc]at p2;exact p2
  .rw[Ay (by rw[hc];exact Ax)]at p2
   refine Qs (W:=W) hx hN hi hl wz ra hdb2 xc2 (hup2 y.c C xz) hh' I1 oj ae gf he fg gx xz xr (λhc=>?_) (λhc=>?_)
   .rw[Au hc]at p2;exact p2
   .rw[Ay (by rw[hc];exact Ax)]at p2;exact p2.elim
 refine Bj (DT (hb pI _ HV Y _ (Ui hx I.ok o9)) [] s Y H _ (QZ I _) h) (λf s1 hf=>?_) λ_ _ z=>z
 cases f with
 |next=>obtain⟨_,_,_,z⟩:=hf;exact z.elim
 |ret u=>obtain⟨_,_,_,_,_,z⟩:=hf;exact z.elim
 |brk=>obtain⟨_,_,_,z⟩:=hf;exact z.elim
 |cont=>obtain⟨_,_,_,z⟩:=hf;exact z.elim
end
def spF(K:Fg)(CL:ClA)(up:Ag->Ac Ag)(C:Ak)(G:Dk->Ac D->RK):Sp:=λvs H Q E=>∃(a la:Ak)(us:Ac V)(ds:Ac D)(A:Ak->Prop)(q:Dk)(y:Ex)(d:D),vs=.ref a::us/\us.length=1/\My H A/\A a/\A la/\Z9 K CL H A us ds/\DK K CL H A C a la q/\G q ds=.exn y/\((up y.c).contains 107=Ab\/(up y.c).contains 108=Ab)/\y.fs=[(("triple" : Ah),d)]/\∀ v H',Az H H'->Z7 K CL H' A v d->Q v H'
section
variable{P:AK}{w:AI}{K:Fg}{mg:Ah->Ao Al}{base:AJ}{CL:ClA}{fns:Ac (Ah×Ag×Ag)}{bl:Ac Ah}{rzs exs gls:Ac (Ah×Ag)}{Pg:Prg}{fuel n:Ag}{C:Ak}
theorem fS(t:wp K mg CL fns bl rzs exs gls Pg fuel){st h0 mj:AL}{f fy:Ak}{ô:Bi}{k1}(dc:uh K C)(hf:zc K x qual st f fd)(hs:sf ["_law_desk", "_law_row_here"] ["_law_desk", "_law_row_here", "_law_triple_here", "_law_error"] st=Ab)
  (hb:Di st=[.Assign [.Name "_law_triple_here" p1] (.Constant .none k1 p2) p3,.Try [.Expr (.Call (.Attribute (.Name "_law_desk" p8) "say" p9) [.Name "_law_row_here" p10] [] wv) wa] [.ExceptHandler (Aa (.Name "Alike" uo)) (Aa "_law_error") [h0] uc,.ExceptHandler (Aa (.Name "NotOn" ud)) (Aa "_law_error") [mj] ue] [] [] vb,.Return (Aa (.Name "_law_triple_here" uf)) oz])
  (hl:(p9.endLine==wv.line)=Ab) (hd:(ah ⟨AH st,["_law_desk", "_law_row_here", "_law_triple_here", "_law_error"],fns,bl,rzs,exs,gls,Ab⟩ "Alike" 107&&ah ⟨AH st,["_law_desk", "_law_row_here", "_law_triple_here", "_law_error"],fns,bl,rzs,exs,gls,Ab⟩ "NotOn" 108)=Ab)
  (k0:Lu fuel ⟨AH st,["_law_desk", "_law_row_here", "_law_triple_here", "_law_error"],fns,bl,rzs,exs,gls,Ab⟩ 3 [h0] (.cons (.asg 2 Ae (.fld (.v 3) "triple")) .nil)=Ab) (k0':Lu fuel ⟨AH st,["_law_desk", "_law_row_here", "_law_triple_here", "_law_error"],fns,bl,rzs,exs,gls,Ab⟩ 3 [mj] (.cons (.asg 2 Ae (.fld (.v 3) "triple")) .nil)=Ab)
  (my:ze K C "say" fy) (by':CW K ô ["self", "row"] []) (GY:Y4 P w K mg base (CXR P w) n fy ô ["self", "row"] (vv K CL C 1 G)):
  Y4 P w K mg base (CXR P w) (n+1) f fd ["_law_desk", "_law_row_here"] (spF K CL Pg.up C G):=by
 obtain⟨oc,od,dV,kV,doc,pm,an,cdv,ct,osl,rfl,lk,zu⟩:=hf.ex;have sc:=JG hs;refine Hr lk zu sc.fs (λvs H Q E ⟨a,la,us,ds,A,q,y,d,e,z,_⟩=>by rw[e,A8,z];rfl) λA outer s H vs Q E hr ⟨a,la,us,ds,B,q,y,d3,e,U8,hA,ha,zg,rs,dk,eG,hc,jy,hp⟩=>?_
 subst e;rw[hb];have v:=Lv (P:=P) (w:=w) (base:=base) (outer:=outer) (H:=H) (E:=E) t sc hr;obtain⟨hd1,hd2⟩:=Bk hd;have HH:=λe=>OQ v ⟨λ_=>rfl,rfl,rfl,rfl⟩ e 3 fuel _ _ k0
 have HH':=λe=>OQ v ⟨λ_=>rfl,rfl,rfl,rfl⟩ e 3 fuel _ _ k0'
 have tbd:ϳ (B2 (CXR P w) P w K mg base ["_law_desk", "_law_row_here", "_law_triple_here", "_law_error"] qual (AH st) f cdv A outer s H E) (.Expr (.Call (.Attribute (.Name "_law_desk" p8) "say" p9) [.Name "_law_row_here" p10] [] wv) wa) (λY0 E0 D Y H'=>Y=Y0/\Lj C "say" (vv K CL C 1 G) [] E0 (Ci 0) (Lk (Ci 1) Ms) Y H' λu H1=>D.nx Y H1):=λpI Xw _ Y0 E0 hx=>
  Kg (X:=Cx.pw (B2 (CXR P w) P w K mg base ["_law_desk", "_law_row_here", "_law_triple_here", "_law_error"] qual (AH st) f cdv A outer s H E) pI Xw) (VO (Y0:=Y0) (E:=E0) (Dx (i:=0) rfl (.inl (sc.loc "_law_desk" (by simp)))) dc.cl my GY v.room by' hx (Bv (Dx (i:=1) rfl (.inl (sc.loc "_law_row_here" (by simp)))) Cb rfl) hl) rfl
 refine⟨_,Ca (EH (i:=2) sc.fs.nd rfl (.inl (sc.loc "_law_triple_here" (by simp))) Og rfl (.inl rfl)) (Ca (iR (W:=W0) (i:=3) rfl rfl rfl sc.fs.nd rfl (sc.loc "_law_error" (by simp)) (Q4 v hd1) (Q4 v hd2) tbd HH HH') (DT (Hm (Dx (i:=2) rfl (.inl (sc.loc "_law_triple_here" (by simp))))))),?_⟩
 obtain⟨u,d,rfl,rfl,ru⟩:=NW U8 rs;have oh:=dk;obtain⟨dx,v1,v2,v3,xs,h1,h2,r4,r5,r6,r7⟩:=dk;have g:=HI (K:=K) (CL:=CL) (A:=B) (H:=H) (U:=[Af,Af,Aa (.O,Ae),Af]) (Y:=[Aa (.ref a),Aa u,Aa .O,Af]) ⟨⟨rfl,_,rfl,rfl⟩,trivial⟩;refine⟨y,⟨λb o=>H b=Aa o,λ_ _ _=>AM⟩,B,[Af,Af,Aa (.O,Ae),Af],OF hA g.1 g.2,?_,rfl,.ref a,rfl,a,dx,_,rfl,h1,rfl,u,rfl,a,la,[u],[d],B,q,rfl,rfl,hA,ha,zg,⟨ru,trivial⟩,oh,?_⟩
 .have eh:ul 3 y [Af,Af,Aa (.O,Ae),Af] (λU=>U6 (Z6 Pg n) U (.cons (.asg 2 Ae (.fld (.v 3) "triple")) .nil))=.next [Af,Af,Aa (d3,Ae),Af]:=by
   have z1:evE (Z6 Pg n) [Af,Af,Aa (.O,Ae),Aa (.exc y.c y.fs,Ae)] (.fld (.v 3) "triple")=.ok d3:=by
    rw[jy];rfl
   unfold ul;simp[z1]
  have ei:(if ((Z6 Pg n).up y.c).contains 107=Ab then ul 3 y [Af,Af,Aa (.O,Ae),Af] (λU=>U6 (Z6 Pg n) U (.cons (.asg 2 Ae (.fld (.v 3) "triple")) .nil)) else if ((Z6 Pg n).up y.c).contains 108=Ab then ul 3 y [Af,Af,Aa (.O,Ae),Af] (λU=>U6 (Z6 Pg n) U (.cons (.asg 2 Ae (.fld (.v 3) "triple")) .nil)) else .bad)=.next [Af,Af,Aa (d3,Ae),Af]:=by
   rw[eh,KJ];rcases hc with h|h
   .rw[Au h]
   .by_cases h':(Pg.up y.c).contains 107=Ab
    .rw[Au h']
    .rw[Ay h',Au h]
  rw[ei];intro Y' H' sx;have sm:Az H H':=λb o z=>sx.same b o z
  obtain⟨w2,hw2,cq⟩:=sx.good.sh 2 d3 rfl;exact⟨w2,hw2,hp w2 H' sm (Z7.sub (λb hb=>.inl hb) _ cq)⟩
 .rw[eG];exact λcls dx H' sm xr=>⟨xr,sm⟩
end
def Ap(a la pa:Ak):Ak->Prop:=λb=>b=a\/b=la\/b=pa
def Ad(a la:Ak):Ak->Prop:=λb=>b=a\/b=la
def NT(U:Rho):Prop:=∀(i:Ag)(d:D),U[i]?≠Aa (Aa (d,Ab))
noncomputable def bz:Rho->An
 |[]=>Ab
 |some (_,Ab)::_=>Ae
 |_::r=>bz r
theorem Iw:∀{U:Rho},bz U=Ab->NT U
 |[],_,i,d,h=>by simp at h
 |none::r,h,0,d,z=>by cases z
 |some (_,Ae)::r,h,0,d,z=>by cases z
 |some (_,Ab)::r,h,_,d,z=>by cases h
 |none::r,h,i+1,d,z=>Iw (U:=r) h i d z
 |some (_,Ae)::r,h,i+1,d,z=>Iw (U:=r) h i d z
noncomputable def LT(U:Rho):Rho:=(U.set 2 (Aa (.O,Ab))).set 4 (Aa (.O,Ab))
noncomputable def FzD(H:Hp)(a pa:Ak):Fr:=⟨λb o=>H b=Aa o/\b≠a/\b≠pa,λj b o=>(j=2/\b=a/\H a=Aa o)\/(j=4/\b=pa/\H pa=Aa o)⟩
noncomputable abbrev BL(la:Ak):Ak->Prop:=λb=>b=la
structure LS (K:Fg) (CL:ClA) (C a la pa:Ak) (U:Rho) (q:Dk) (ps:Ac D) (Y:L2.St) (H:Hp):Prop where
 g:Y9 K CL (Ap a la pa) U Y H
 nt:NT U
 n2:U[2]?=Aa Af
 n4:U[4]?=Aa Af
 s2:Y[2]?=Aa (Aa (.ref a))
 s4:Y[4]?=Aa (Aa (.ref pa))
 hp:∃ xs,H pa=Aa (.L xs)/\Z9 K CL H (Ap a la pa) xs ps
 dk:DK K CL H (Ap a la pa) C a la q
 ne:pa≠la
def iq:Rho->Rho->Prop
 |[],[]=>F8
 |x::r,y::s=>(x=Af\/x=y)/\iq r s
 |_,_=>AM
theorem Ux:∀{r s:Rho}{i:Ag}{x:D×An},iq r s->r[i]?=Aa (Aa x)->s[i]?=Aa (Aa x)
 |_::_,_::_,0,x,h,e=>by
  rcases h.1 with z|z
  .rw[z]at e;cases e
  .rw[z]at e;exact e
 |_::_,_::_,i+1,x,h,e=>Ux (i:=i) h.2 e
 |[],[],_,x,h,e=>by simp at e
 |[],_::_,_,_,h,_=>h.elim
 |_::_,[],_,_,h,_=>h.elim
theorem Uw:∀{r s:Rho},iq r s->r.length=s.length
 |[],[],_=>rfl
 |_::_,_::_,h=>congrArg (· + 1) (Uw h.2)
 |[],_::_,h=>h.elim
 |_::_,[],h=>h.elim
section
variable{K:Fg}{CL:ClA}{C a la pa:Ak}{U U':Rho}{q q':Dk}{ps:Ac D}{Y Y':L2.St}{H H':Hp}{A A':Ak->Prop}
theorem Y9.le(g:Y9 K CL A U Y H)(nt:NT U')(l:iq U' U)(k:∀ b,A' b->A b):Y9 K CL A' U' Y H:=
 ⟨λi d h=>let ⟨v,e,r⟩:=g.sh i d (Ux l h);⟨v,e,Z7.sub k _ r⟩,λi d h=>absurd h (nt i d),(Uw l).trans g.len⟩
theorem LS.neA(j:LS K CL C a la pa U q ps Y H):pa≠a:=λz=>by
 obtain⟨xs,h,_⟩:=j.hp;obtain⟨dx,v1,v2,v3,ys,h1,_⟩:=j.dk;rw[z,h1]at h;cases h
theorem LS.aok(j:LS K CL C a la pa U q ps Y H):My H (Ap a la pa):=λb hb=>by
 obtain⟨xs,h,_⟩:=j.hp;obtain⟨dx,v1,v2,v3,ys,h1,h2,_⟩:=j.dk;rcases hb with rfl|rfl|rfl
 .exact⟨_,h1,trivial⟩
 .exact⟨_,h2,trivial⟩
 .exact⟨_,h,trivial⟩
theorem IW:∀ b,Ad a la b->Ap a la pa b:=λb h=>h.imp id .inl
theorem My.sub(h:My H A)(k:∀ b,A' b->A b):My H A':=λb hb=>h b (k b hb)
theorem LS.same(j:LS K CL C a la pa U q ps Y H)(s:Az H H'):LS K CL C a la pa U q ps Y H':=
 ⟨j.g.same s,j.nt,j.n2,j.n4,j.s2,j.s4,let ⟨xs,h,r⟩:=j.hp;⟨xs,s _ _ h,r.same s⟩,j.dk.same s,j.ne⟩
theorem LS.le(j:LS K CL C a la pa U q ps Y H)(nt:NT U')(n2:U'[2]?=Aa Af)(n4:U'[4]?=Aa Af)(l:iq U' U):LS K CL C a la pa U' q ps Y H:=
 ⟨j.g.le nt l λ_ h=>h,nt,n2,n4,j.s2,j.s4,j.hp,j.dk,j.ne⟩
theorem LS.set{i:Ag}{v:V}{d:D}(j:LS K CL C a la pa U q ps Y H)(i2:i≠2)(i4:i≠4)(r:Z7 K CL H (Ap a la pa) v d):LS K CL C a la pa (U.set i (Aa (d,Ae))) q ps (Y.set i (Aa v)) H:=by
 have nt:NT (U.set i (Aa (d,Ae))):=λk e h=>by
  by_cases z:i=k
  .subst z;cases Ee h
  .rw[Bu z]at h;exact j.nt k e h
 refine⟨⟨λk e h=>?_,λk e h=>absurd h (nt k e),by rw[AT,AT];exact j.g.len⟩,nt,by rw[Bu i2];exact j.n2,by rw[Bu i4];exact j.n4,by rw[Bu i2];exact j.s2,by rw[Bu i4];exact j.s4,j.hp,j.dk,j.ne⟩
 by_cases z:i=k
 .subst z;cases Ee h;have hl:i<Y.length:=by
   rw[<-j.g.len];have:=(A5.mp h).1
   rwa [AT]at this
  exact⟨v,by rw[By hl],r⟩
 .rw[Bu z]at h ⊢;exact j.g.sh k e h
theorem LS.kb(j:LS K CL C a la pa U q ps Y H)(kb:KB a la H H')(d:DK K CL H' (Ap a la pa) C a la q'):LS K CL C a la pa U q' ps Y H':=by
 have kp:=kb.kp (A:=Ap a la pa) (.inl rfl) (.inr (.inl rfl));exact⟨⟨λi e h=>let ⟨v,z,r⟩:=j.g.sh i e h;⟨v,z,Z7.kp kp _ r⟩,λi e h=>absurd h (j.nt i e),j.g.len⟩,j.nt,j.n2,j.n4,j.s2,j.s4,let ⟨xs,h,r⟩:=j.hp;⟨xs,kb _ _ h j.neA j.ne,Z9.kp kp _ r⟩,d,j.ne⟩
theorem LS.put{xs:Ac V}{ds:Ac D}(j:LS K CL C a la pa U q ps Y H)(r:Z9 K CL H (Ap a la pa) xs ds):LS K CL C a la pa U q ds Y (upd H pa (.L xs)):=by
 have kp:Kp (Ap a la pa) H (upd H pa (.L xs)):=λb o e na=>by rw[AQ λz=>na (.inr (.inr z))];exact e
 obtain⟨dx,v1,v2,v3,ys,h1,h2,r4,r5,r6,r7⟩:=j.dk;exact⟨⟨λi e h=>let ⟨v,z,r⟩:=j.g.sh i e h;⟨v,z,Z7.kp kp _ r⟩,λi e h=>absurd h (j.nt i e),j.g.len⟩,j.nt,j.n2,j.n4,j.s2,j.s4,⟨xs,BO,Z9.kp kp _ r⟩,⟨dx,v1,v2,v3,ys,by rw[AQ (CG j.neA)];exact h1,by rw[AQ (CG j.ne)];exact h2,Z7.kp kp _ r4,Z7.kp kp _ r5,Z7.kp kp _ r6,Z9.kp kp _ r7⟩,j.ne⟩
theorem QC(nt:NT U){i:Ag}{d:D}(h:(LT U)[i]?=Aa (Aa (d,Ab))):d=.O/\(i=2\/i=4):=by
 unfold LT at h;by_cases z4:4=i
 .subst z4;cases Ee h;exact⟨rfl,.inr rfl⟩
 .rw[Bu z4]at h;by_cases z2:2=i
  .subst z2;cases Ee h;exact⟨rfl,.inl rfl⟩
  .rw[Bu z2]at h;exact absurd h (nt i d)
theorem sY{i:Ag}{d:D}(h:(LT U)[i]?=Aa (Aa (d,Ae))):U[i]?=Aa (Aa (d,Ae)):=by
 unfold LT at h;by_cases z4:4=i
 .subst z4;cases Ee h
 .rw[Bu z4]at h;by_cases z2:2=i
  .subst z2;cases Ee h
  .rw[Bu z2]at h;exact h
theorem Vm(n2:U[2]?=Aa Af):(LT U)[2]?=Aa (Aa (.O,Ab)):=by
 unfold LT;rw[Bu (by decide),By (A5.mp n2).1]
theorem Vl(n4:U[4]?=Aa Af):(LT U)[4]?=Aa (Aa (.O,Ab)):=by
 unfold LT;rw[By (by rw[AT];exact(A5.mp n4).1)]
theorem QD:(LT U).length=U.length:=by unfold LT;rw[AT,AT]
theorem gJ{i:Ag}{d:D}(n2:U[2]?=Aa Af)(n4:U[4]?=Aa Af)(h:U[i]?=Aa (Aa (d,Ae))):(LT U)[i]?=Aa (Aa (d,Ae)):=by
 unfold LT;have z4:4≠i:=λz=>by rw[<-z,n4]at h;cases h
 have z2:2≠i:=λz=>by rw[<-z,n2]at h;cases h
 rw[Bu z4,Bu z2];exact h
theorem LS.sx(j:LS K CL C a la pa U q ps Y H):Sx K CL (FzD H a pa) (BL la) (LT U) Y H:=by
 obtain⟨xs,h,_⟩:=j.hp;obtain⟨dx,v1,v2,v3,ys,h1,h2,_⟩:=j.dk;have at':∀{i:Ag}{d:D}{b:Ak},(LT U)[i]?=Aa (Aa (d,Ab))->Y[i]?=Aa (Aa (.ref b))->(i=2/\b=a)\/(i=4/\b=pa):=λh e=>by
  rcases (QC j.nt h).2 with rfl|rfl
  .rw[j.s2]at e;cases e;exact .inl ⟨rfl,rfl⟩
  .rw[j.s4]at e;cases e;exact .inr ⟨rfl,rfl⟩
 have own:∀ b,BN (BL la) (LT U) Y b->Ap a la pa b:=λb h=>by
  rcases h with h|⟨i,d,h1,h2⟩
  .exact .inr (.inl h)
  .rcases at' h1 h2 with ⟨_,z⟩|⟨_,z⟩
   .exact .inl z
   .exact .inr (.inr z)
 refine⟨⟨λi d e=>let ⟨v,z,r⟩:=j.g.sh i d (sY e);⟨v,z,Z7.sub own _ r⟩,λi d e n=>absurd (QC j.nt e).1 n,QD.trans j.g.len⟩,My.sub j.aok own,λi d b e1 e2=>?_,λi k d e b x1 x2 x3 x4=>?_,λb o z=>z.1,QD.trans j.g.len,λi e=>?_⟩
 .rcases at' e1 e2 with ⟨_,z⟩|⟨_,z⟩
  .exact⟨λo y=>y.2.1 z,λy=>by have y:b=la:=y;rw[y]at z;rw[z,h1]at h2;cases h2⟩
  .exact⟨λo y=>y.2.2 z,λy=>j.ne (z.symm.trans y)⟩
 .rcases at' x1 x3 with ⟨z1,z2⟩|⟨z1,z2⟩<;>rcases at' x2 x4 with ⟨z3,z4⟩|⟨z3,z4⟩
  .rw[z1,z3]
  .exact absurd (z4.symm.trans z2) j.neA
  .exact absurd (z2.symm.trans z4) j.neA
  .rw[z1,z3]
 .rcases (QC j.nt e).2 with rfl|rfl
  .exact⟨a,_,.inl ⟨rfl,rfl,h1⟩,j.s2,h1⟩
  .exact⟨pa,_,.inr ⟨rfl,rfl,h⟩,j.s4,h⟩
theorem LS.nx(j:LS K CL C a la pa U q ps Y H)(nt:NT U')(n2:U'[2]?=Aa Af)(n4:U'[4]?=Aa Af)(x:Sx K CL (FzD H a pa) (BL la) (LT U') Y' H'):Az H H'/\LS K CL C a la pa U' q ps Y' H':=by
 obtain⟨b2,o2,p2,s2,h2⟩:=x.pin 2 (Vm n2);obtain⟨b4,o4,p4,s4,h4⟩:=x.pin 4 (Vl n4);have e2:b2=a/\H a=Aa o2:=by
  rcases p2 with ⟨_,z1,z2⟩|⟨z,_⟩
  .exact⟨z1,z2⟩
  .cases z
 have e4:b4=pa/\H pa=Aa o4:=by
  rcases p4 with ⟨z,_⟩|⟨_,z1,z2⟩
  .cases z
  .exact⟨z1,z2⟩
 obtain⟨rfl,ha⟩:=e2;obtain⟨rfl,hp⟩:=e4;have sm:Az H H':=λb o e=>by
  by_cases z1:b=b2
  .subst z1;rw[ha]at e;cases e;exact h2
  .by_cases z2:b=b4
   .subst z2;rw[hp]at e;cases e;exact h4
   .exact x.same b o ⟨e,z1,z2⟩
 have own:∀ b,Ap b2 la b4 b->BN (BL la) (LT U') Y' b:=λb h=>by
  rcases h with rfl|rfl|rfl
  .exact .inr ⟨2,.O,Vm n2,s2⟩
  .exact .inl rfl
  .exact .inr ⟨4,.O,Vl n4,s4⟩
 have j':=j.same sm;exact⟨sm,⟨λi d e=>let ⟨v,z,r⟩:=x.good.sh i d (gJ n2 n4 e);⟨v,z,Z7.sub own _ r⟩,λi d e=>absurd e (nt i d),QD.symm.trans x.len⟩,nt,n2,n4,s2,s4,j'.hp,j'.dk,j'.ne⟩
end
section
variable{X:Cx}{CL:ClA}{W:XW}{C:Ak}
theorem On{st:AL}{f:Rho->O}(h:SS X CL W st f):PS X st (λD Y H=>∃ a la pa U U' q ps,LS X.K CL C a la pa U q ps Y H/\f (LT U)=.next (LT U')/\bz U'=Ab/\U'[2]?=Aa Af/\U'[4]?=Aa Af/\∀ Y' H',Az H H'->LS X.K CL C a la pa U' q ps Y' H'->D.nx Y' H'):=λpI s Y H D I ⟨a,la,pa,U,U',q,ps,j,e,nt,n2,n4,k⟩=>by
 refine h _ _ pI s Y H D I ⟨LT U,j.sx,?_⟩;rw[e];intro Y' H' x';obtain⟨sm,j'⟩:=j.nx (Iw nt) n2 n4 x';exact k Y' H' sm j'
theorem pR{vw:Ac AL}{f:Rho->O}(h:vx X CL W vw f):yj X vw (λD Y H=>∃ a la pa U U' q ps,LS X.K CL C a la pa U q ps Y H/\f (LT U)=.next (LT U')/\bz U'=Ab/\U'[2]?=Aa Af/\U'[4]?=Aa Af/\∀ Y' H',Az H H'->LS X.K CL C a la pa U' q ps Y' H'->D.nx Y' H'):=λpI s Y H D I ⟨a,la,pa,U,U',q,ps,j,e,nt,n2,n4,k⟩=>by
 refine h _ _ pI s Y H D I ⟨LT U,j.sx,?_⟩;rw[e];intro Y' H' x';obtain⟨sm,j'⟩:=j.nx (Iw nt) n2 n4 x';exact k Y' H' sm j'
theorem Rc{e:Aq}{t:α->TE}(h:∀ A,PE X e (t A)):PE X e (λY H Q=>∃ A,t A Y H Q):=λpI s Y H Q I ⟨A,q⟩=>h A pI s Y H Q I q
theorem Mm{e:Aq}{t:α->TT}(h:∀ A,PT X e (t A)):PT X e (λY H Q=>∃ A,t A Y H Q):=λpI s Y H Q I ⟨A,q⟩=>h A pI s Y H Q I q
end
noncomputable def wo(ps R A:Ac Ah)(st:AL):An:=(AH st).kind==.function&&(!(AH st).isCoroutine&&(!(AH st).isGenerator&&(JC (R++A)&&((R++A).take ps.length==ps&&(ps.all (λx=>(AH st).names.lookup x==Aa .local)&&(R.all (λx=>(AH st).names.lookup x==Aa .local||(AH st).names.lookup x==Aa .cell)&&(AH st).names.all (λy=>y.2 != .free)))))))
structure ScL (ps R A:Ac Ah) (st:AL):Prop where
 fs:zW (R++A) ps (AH st)
 loc:∀ x∈R,(AH st).names.lookup x=Aa .local\/(AH st).names.lookup x=Aa .cell
theorem oG{ps R A:Ac Ah}{st:AL}(h:wo ps R A st=Ab):ScL ps R A st:=by
 unfold wo at h;simp only[Am,BY,AD,Bf,Bh,E8,JU]at h;obtain⟨c1,c2,c3,c4,c5,c6,c7,c8⟩:=h;exact⟨⟨c1,c2,c3,IK c4,c5,λx hx=>.inl (c6 x hx),c8⟩,c7⟩
section
variable{P:AK}{w:AI}{K:Fg}{mg:Ah->Ao Al}{base:AJ}{CL:ClA}{fns:Ac (Ah×Ag×Ag)}{bl:Ac Ah}{rzs exs gls:Ac (Ah×Ag)}{Pg:Prg}{fuel n:Ag}
theorem xZ(t:wp K mg CL fns bl rzs exs gls Pg fuel){ps N:Ac Ah}{st:AL}{f:Ak}{A:A4}{s:Ar}{E:XK}(fs:zW N ps (AH st))(hr:U4 n (A.deeper (D3 qual (AH st) s.heap.objs.size f cdv))):VX (Z6 Pg n) CL n (WE K CL E) ⟨AH st,N,fns,bl,rzs,exs,gls,Ab⟩ (B2 (CXR P w) P w K mg base N qual (AH st) f cdv A outer s H E):=by
 have hW:∀ x cls dx H',WE K CL E x H'->Dz K CL H' cls dx x->E cls dx H':=λx cls dx H' z r=>z cls dx r
 have xt:XT (Z6 Pg n).up (Z6 Pg n).xn CL rzs exs K mg:=by rw[KJ,Lg];exact t.xt
 have gl:∀ p∈gls,JQ K mg CL p.1 ((Z6 Pg n).G p.2):=by rw[KN];exact t.gl
 exact⟨rfl,fs.kind,rfl,fs.nd,rfl,hr,t.bln,t.os,Vo t n,Vn t n,rl,Oo hW,Ù hW,xt,gl,λ_=>rfl⟩
end
noncomputable def zX(l k w pt row due:Sl)(scr p:D):Rho:=[Aa (scr,Ae),Aa (p,Ae),Af,l,Af,k,w,pt,row,due,Af,Af,Af]
noncomputable abbrev Z5(d:D):Sl:=Aa (d,Ae)
noncomputable def t6:E:=.cmp .In (.x (.v 9) (.int 0)) (.H {.str "alike",.str "not on"})
noncomputable def t7:E:=.and {.cmp .Eq (.x (.v 9) (.int 0)) (.str "told"),.cmp .Eq (.v 6) (.str "undo")}
noncomputable def t8:E:=.and {.cmp .Eq (.x (.v 9) (.int 0)) (.str "told"),.cmp .NotEq (.v 6) (.str "points")}
noncomputable def t9:E:=.cmp .NotEq (.v 10) (.v 9)
def LF(Z:Z4)(s1 s2 s3:S)(e4:E)(bb:Ss)(GS GY:Dk->Ac D->RK)(scr p:D)(fin:Dk->Ac D->Prop):Ac Ai->Dk->Ac D->Ac D->Prop
  |[],q,l,_=>fin q l
  |k::ks,q,l,ps=>∃(w row dw:Ah)(pt dd fd:D)(q':Dk),
      yz Z (LT (zX (Z5 (.L l)) (Z5 (.int k)) Af Af Af Af scr p)) s1=.next (LT (zX (Z5 (.L l)) (Z5 (.int k)) (Z5 (.str w)) (Z5 pt) Af Af scr p)) /\
      yz Z (LT (zX (Z5 (.L l)) (Z5 (.int k)) (Z5 (.str w)) (Z5 pt) Af Af scr p)) s2=.next (LT (zX (Z5 (.L l)) (Z5 (.int k)) (Z5 (.str w)) (Z5 pt) (Z5 (.str w)) Af scr p)) /\
      yz Z (LT (zX (Z5 (.L l)) (Z5 (.int k)) (Z5 (.str w)) (Z5 pt) (Z5 (.str w)) Af scr p)) s3=.next (LT (zX (Z5 (.L l)) (Z5 (.int k)) (Z5 (.str w)) (Z5 pt) (Z5 (.str row)) Af scr p)) /\
      evE Z [Af,Af,Af,Z5 (.L l),Z5 (.L ps),Af,Z5 (.str w),Z5 pt,Af,Af,Af,Af,Af] e4=.ok (.H [.str dw,dd]) /\
      GS q [.str row]=.ok fd q'/\Y8 5 fd=Ab/\Y8 5 (.H [.str dw,dd])=Ab/\Tm fd (.H [.str dw,dd])=Ab /\
      ((dw = "alike"\/dw = "not on")->∃ y d,GY q' [.str row]=.exn y/\((Z.up y.c).contains 107=Ab\/(Z.up y.c).contains 108=Ab)/\y.fs=[(("triple" : Ah),d)]/\Y8 5 d=Ab/\Y8 5 pt=Ab/\Tm d pt=Ab) /\
      (if dw = "told"/\w = "undo" then ∃ l',ps.getLast?=Aa (.L l')/\LF Z s1 s2 s3 e4 bb GS GY scr p fin ks q' l' ps.dropLast
       else if dw = "told"/\w≠"points" then ps.length<900/\∃ l',U6 Z (LT (zX (Z5 (.L l)) (Z5 (.int k)) (Z5 (.str w)) (Z5 pt) Af Af scr p)) bb=.next (LT (zX (Z5 (.L l')) (Z5 (.int k)) (Z5 (.str w)) (Z5 pt) Af Af scr p))/\LF Z s1 s2 s3 e4 bb GS GY scr p fin ks q' l' (ps++[.L l])
       else LF Z s1 s2 s3 e4 bb GS GY scr p fin ks q' l ps)
theorem wR(h:U[9]?=Aa (Z5 (.H [.str dw,dd]))):(top U t6 (evE Z U t6)).bind Bq=.ok (("alike" == dw)||(("not on" == dw)||false)):=by
 have e2:CT U 9=.ok (.H [.str dw,dd]):=by unfold CT;rw[h]
 unfold t6;rw[N4,KD];have e3:top U (.x (.v 9) (.int 0)) (evE Z U (.x (.v 9) (.int 0)))=.ok (.str dw):=by
  show evE Z U (.x (.v 9) (.int 0))=_;rw[N2,Ir,e2];rfl
 rw[e3];rfl
theorem Wx{dw s:Ah}(h:U[9]?=Aa (Z5 (.H [.str dw,dd]))):evE Z U (.cmp .Eq (.x (.v 9) (.int 0)) (.str s))=.ok (.bl (dw==s)):=by
 have e2:CT U 9=.ok (.H [.str dw,dd]):=by unfold CT;rw[h]
 rw[KD];have e3:top U (.x (.v 9) (.int 0)) (evE Z U (.x (.v 9) (.int 0)))=.ok (.str dw):=by
  show evE Z U (.x (.v 9) (.int 0))=_;rw[N2,Ir,e2];rfl
 rw[e3];rfl
theorem wQ{w:Ah}(h:U[9]?=Aa (Z5 (.H [.str dw,dd])))(h':U[6]?=Aa (Z5 (.str w))):(top U t7 (evE Z U t7)).bind Bq=.ok (decide (dw = "told"/\w = "undo")):=by
 have e2:CT U 6=.ok (.str w):=by unfold CT;rw[h']
 have e3:evE Z U (.cmp .Eq (.v 6) (.str "undo"))=.ok (.bl (w == "undo")):=by
  rw[KD,Ir,e2];rfl
 show (evN Z U (.cons _ (.cons _ .nil))).bind Bq=_;rw[Uq,Wx h];show (if (dw == "told")=Ab then evN Z U (.cons (.cmp .Eq (.v 6) (.str "undo")) .nil) else R.ok (D.bl Ae)).bind Bq=_
 by_cases z:dw = "told"
 .rw[Au (AD.mpr z)];show (evE Z U (.cmp .Eq (.v 6) (.str "undo"))).bind Bq=_;rw[e3];show R.ok (w == "undo")=_
  congr 1
  by_cases z2:w = "undo"
  .rw[CI ⟨z,z2⟩];exact AD.mpr z2
  .rw[BM λy=>z2 y.2];exact Bg.mpr z2
 .rw[Ay (by rw[AD];exact z),BM λy=>z y.1]
  rfl
theorem wP{w:Ah}(h:U[9]?=Aa (Z5 (.H [.str dw,dd])))(h':U[6]?=Aa (Z5 (.str w))):(top U t8 (evE Z U t8)).bind Bq=.ok (decide (dw = "told"/\w≠"points")):=by
 have e2:CT U 6=.ok (.str w):=by unfold CT;rw[h']
 have e3:evE Z U (.cmp .NotEq (.v 6) (.str "points"))=.ok (.bl (!(w == "points"))):=by
  rw[KD,Ir,e2];rfl
 show (evN Z U (.cons _ (.cons _ .nil))).bind Bq=_;rw[Uq,Wx h];show (if (dw == "told")=Ab then evN Z U (.cons (.cmp .NotEq (.v 6) (.str "points")) .nil) else R.ok (D.bl Ae)).bind Bq=_
 by_cases z:dw = "told"
 .rw[Au (AD.mpr z)];show (evE Z U (.cmp .NotEq (.v 6) (.str "points"))).bind Bq=_;rw[e3];show R.ok (!(w == "points"))=_
  congr 1
  by_cases z2:w = "points"
  .rw[BM λy=>y.2 z2,AD.mpr z2];rfl
  .rw[CI ⟨z,z2⟩,Bg.mpr z2];rfl
 .rw[Ay (by rw[AD];exact z),BM λy=>z y.1]
  rfl
section
variable{K:Fg}{CL:ClA}{C a la pa:Ak}{U:Rho}{q:Dk}{ps:Ac D}{Y:L2.St}{H H':Hp}
theorem RE.rep{A':Ak->Prop}{v x:V}{d:D}(r:RE K CL H A H' v x d)(k:∀ b,A' b->A b):Z7 K CL H' A' v d:=by
 obtain⟨nm,d2,t,rfl,rfl,h,na,rc⟩:=r;exact⟨t,[.str nm,x],rfl,.inl λz=>na (k _ z),yt.of h,rfl,Z7.sub k _ rc.1,trivial⟩
theorem LS.past(j:LS K CL C a la pa U q ps Y H):Z7 K CL H (Ad a la) (.ref pa) (.L ps):=by
 obtain⟨xs,h,r⟩:=j.hp;exact⟨pa,xs,rfl,.inl λz=>z.elim j.neA j.ne,Id.of h,Z9.sub IW _ r⟩
end
section
variable{K:Fg}{CL:ClA}{C a la pa:Ak}{U U':Rho}{q:Dk}{ps:Ac D}{Y:L2.St}{H H':Hp}
theorem LS.junk{i:Ag}{v:Ao V}(j:LS K CL C a la pa U q ps Y H)(i2:i≠2)(i4:i≠4)(hn:U[i]?=Aa Af):LS K CL C a la pa U q ps (Y.set i v) H:=by
 refine⟨⟨λk e h=>?_,λk e h=>absurd h (j.nt k e),by rw[AT];exact j.g.len⟩,j.nt,j.n2,j.n4,by rw[Bu i2];exact j.s2,by rw[Bu i4];exact j.s4,j.hp,j.dk,j.ne⟩
 have z:i≠k:=λz=>by rw[<-z,hn]at h;cases h
 rw[Bu z];exact j.g.sh k e h
theorem LS.at{i:Ag}{v:V}(j:LS K CL C a la pa U q ps Y H)(hn:U[i]?=Aa Af):(Y.set i (Aa v))[i]?=Aa (Aa v):=by
 rw[By];rw[<-j.g.len];exact(A5.mp hn).1
theorem LS.look{i:Ag}{v:V}{d:D}(j:LS K CL C a la pa U q ps Y H)(nt:bz U'=Ab)(l:iq U' U)(k:∀ b,A b->Ap a la pa b)(hi:Y[i]?=Aa (Aa v))(r:Z7 K CL H A v d):Y9 K CL A (U'.set i (Aa (d,Ae))) Y H:=by
 have g:=j.g.le (Iw nt) l k;refine⟨λm e h=>?_,λm e h=>?_,by rw[AT];exact g.len⟩
 .by_cases z:i=m
  .subst z;cases Ee h;exact⟨v,hi,r⟩
  .rw[Bu z]at h;exact g.sh m e h
 .by_cases z:i=m
  .subst z;cases Ee h
  .rw[Bu z]at h;exact absurd h (Iw nt m e)
end
theorem wO{d9 gq:D}(h9:U[9]?=Aa (Z5 d9))(h10:U[10]?=Aa (Z5 gq))(f9:Y8 5 d9=Ab)(f10:Y8 5 gq=Ab)(e:Tm gq d9=Ab):(top U t9 (evE Z U t9)).bind Bq=.ok Ae:=by
 have e2:CT U 9=.ok d9:=by unfold CT;rw[h9]
 have e3:CT U 10=.ok gq:=by unfold CT;rw[h10]
 unfold t9;rw[N4,KD,Ir,Ir,e2,e3];show (if (Y8 5 gq&&Y8 5 d9)=Ab then R.ok (D.bl (!Tm gq d9)) else .bad).bind Bq=_
 rw[Au (by rw[f9,f10];rfl),e]
 rfl
noncomputable abbrev xw:Ac Ah:=["_law_script", "_law_p", "_law_desk", "_law_listed", "_law_past", "_law_k", "_law_word", "_law_point", "_law_row_here", "_law_due_here", "_law_found"]
noncomputable abbrev xp:Ac Ah:=["#11", "#12"]
def WX(Z:Z4)(c1 cB:E)(s1 s2 s3:S)(e4:E)(bb:Ss)(s6:S)(GS GY:Dk->Ac D->RK)(scr:D):Prop:=∃(p:D)(m:Ai),evE Z [Z5 scr,Af,Af,Af,Af,Af,Af,Af,Af,Af,Af,Af,Af] c1=.ok p/\evE Z (zX (Z5 (.L [])) Af Af Af Af Af scr p) cB=.ok (.int m)/\0<=m/\m<=1000 /\
 LF Z s1 s2 s3 e4 bb GS GY scr p (λq l=>∃ ts xo,yz Z (LT (zX (Z5 (.L l)) Af Af Af Af Af scr p)) s6=.next (LT (zX (Z5 (.L l)) Af Af Af Af (Z5 (.H [.str "told",.L ts])) scr p))/\GS q [.str "points"]=.ok (.H [.str "told",.L xo]) q/\Y8 4 (.L ts)=Ab/\Y8 4 (.L xo)=Ab/\LE xo ts=Ab/\xo.length<900) ((BR (m-1).toNat).map fun(i:Ag)=>1+(i:Ai)) ⟨p,[],.O,[]⟩ [] []
theorem Vt{d d':D}(f1:Y8 5 d=Ab)(f2:Y8 5 d'=Ab)(e:Tm d d'=Ab):BS .NotEq d d'=.ok (.bl Ae):=by
 show (if (Y8 5 d&&Y8 5 d')=Ab then R.ok (D.bl (!Tm d d')) else .bad)=_
 rw[Au (by rw[f1,f2];rfl),e]
 rfl
theorem mG{d d':D}(f1:Y8 5 d=Ab)(f2:Y8 5 d'=Ab)(e:Tm d d'=Ab):BS .Eq d d'=.ok (.bl Ab):=by
 show (if (Y8 5 d&&Y8 5 d')=Ab then R.ok (D.bl (Tm d d')) else .bad)=_
 rw[Au (by rw[f1,f2];rfl),e]
section
variable{P:AK}{w:AI}{K:Fg}{mg:Ah->Ao Al}{base:AJ}{CL:ClA}{fns:Ac (Ah×Ag×Ag)}{bl:Ac Ah}{rzs exs gls:Ac (Ah×Ag)}{Pg:Prg}{fuel n:Ag}{C:Ak}
theorem pW(t:wp K mg CL fns bl rzs exs gls Pg fuel){st:AL}{x1 yB x4 x6 x7 x8 x9:Aq}{aB:Ac Aq}{kB:Ac CB}{b1 b2 b3 b6 r5 r6 r8:AL}{bs:Ac AL}{f fI fs ff:Ak}{fId fsd ffd:Bi}{k1 k2 k3 k4 k5}{b9 cb ku iz i5 Ó ce cf cg Ô Õ Ö p37 p38 p39 p40 p41 p42 p43 p44 p45 p46 p47 p48 p49 p50 p51 p52 p53 p54 p55 p56 p57 p58 p59 p60 p61 p62 p63 p64 p65 p66 p67 p68 p69:AF}{c1 cB c4:E}{s1 s2 s3 s6:S}{bb:Ss}{GS:Dk->Ac D->RK}(dc:uh K C)(hf:zc K x qual st f fd)(hs:wo ["_law_script"] xw xp st=Ab)
  (hb:Di st=[.Assign [.Name "_law_p" p1] x1 p2,.Assign [.Name "_law_desk" p3] (.Call (.Name "Desk" p4) [.Name "_law_p" p5] [] p6) p7,.Assign [.Name "_law_listed" p8] (.List [] p9) p10,.Assign [.Name "_law_past" wv] (.List [] wa) uo,
   .For (.Name "_law_k" uc) (.Call (.Name "range" ud) [.Constant (.int 1) k1 ue,.Call yB aB kB p69] [] vb) [b1,b2,b3,.Assign [.Name "_law_due_here" uf] x4 oz,
    .If (.Compare (.Call (.Name "_law_said" ng) [.Name "_law_desk" ni,.Name "_law_row_here" kq] [] b8) [.NotEq] [.Name "_law_due_here" iy] b9) [r5] [] cb,
    .If (.BoolOp .And [x6,.Compare (.Call (.Name "_law_field" ku) [.Name "_law_desk" iz,.Name "_law_row_here" i5] [] Ó) [.NotEq] [.Name "_law_point" ce] cf] cg) [r6] [] Ô,
    .If x7 [.Assign [.Name "_law_listed" Õ] (.Call (.Attribute (.Name "_law_past" Ö) "pop" p37) [] [] p38) p39] [.If x8 (.Expr (.Call (.Attribute (.Name "_law_past" p40) "append" p41) [.Name "_law_listed" p42] [] p43) p44::bs) [] p45] p46] [] p47,
   b6,.Assign [.Name "_law_found" p48] (.Call (.Name "_law_said" p49) [.Name "_law_desk" p50,.Constant (.str "points") k2 p51] [] p52) p53,.If x9 [r8] [] p54,
   .Expr (.Call (.Attribute (.Subscript (.Name "_law_found" p55) (.Constant (.int 1) k3 p56) p57) "append" p58) [.Constant (.str "( )") k4 p59] [] p60) p61,
   .Return (Aa (.Compare (.Call (.Name "_law_said" p62) [.Name "_law_desk" p63,.Constant (.str "points") k5 p64] [] p65) [.Eq] [.Name "_law_due_here" p66] p67)) p68])
  (hln:((p37.endLine==p38.line)&&((p41.endLine==p43.line)&&(p58.endLine==p60.line)))=Ab)
  (qu:(zi ⟨AH st,xw++xp,fns,bl,rzs,exs,gls,Ab⟩ "Desk" && (zi ⟨AH st,xw++xp,fns,bl,rzs,exs,gls,Ab⟩ "_law_said" && (zi ⟨AH st,xw++xp,fns,bl,rzs,exs,gls,Ab⟩ "_law_field" && ya ⟨AH st,xw++xp,fns,bl,rzs,exs,gls,Ab⟩ "range")))=Ab)
  (nc:(F9 x1&&F9 x4)=Ab)
  (g1:Be fuel ⟨AH st,xw++xp,fns,bl,rzs,exs,gls,Ab⟩ x1 c1=Ab) (gB:Be fuel ⟨AH st,xw++xp,fns,bl,rzs,exs,gls,Ab⟩ (.Call yB aB kB p69) cB=Ab) (g4:Be fuel ⟨AH st,xw++xp,fns,bl,rzs,exs,gls,Ab⟩ x4 c4=Ab)
  (gb1:Ja fuel ⟨AH st,xw++xp,fns,bl,rzs,exs,gls,Ab⟩ b1 s1=Ab) (gb2:Ja fuel ⟨AH st,xw++xp,fns,bl,rzs,exs,gls,Ab⟩ b2 s2=Ab) (gb3:Ja fuel ⟨AH st,xw++xp,fns,bl,rzs,exs,gls,Ab⟩ b3 s3=Ab) (gb6:Ja fuel ⟨AH st,xw++xp,fns,bl,rzs,exs,gls,Ab⟩ b6 s6=Ab) (gbs:zU fuel ⟨AH st,xw++xp,fns,bl,rzs,exs,gls,Ab⟩ bs bb=Ab)
  (g6:Eb fuel ⟨AH st,xw++xp,fns,bl,rzs,exs,gls,Ab⟩ x6 t6=Ab) (g7:Eb fuel ⟨AH st,xw++xp,fns,bl,rzs,exs,gls,Ab⟩ x7 t7=Ab) (g8:Eb fuel ⟨AH st,xw++xp,fns,bl,rzs,exs,gls,Ab⟩ x8 t8=Ab) (g9:Eb fuel ⟨AH st,xw++xp,fns,bl,rzs,exs,gls,Ab⟩ x9 t9=Ab)
  (MI:Mk K C fI) (mD:mg "Desk" = Aa (.ref C)) (bI:CW K fId ["self", "p"] []) (FI:Y4 P w K mg base (CXR P w) n fI fId ["self", "p"] (spN C))
  (mS:mg "_law_said" = Aa (.ref fs)) (kS:Ba K (.ref fs)=Ab) (bS:CW K fsd ["_law_desk", "_law_row_here"] []) (FS:Y4 P w K mg base (CXR P w) (n+1) fs fsd ["_law_desk", "_law_row_here"] (spS K CL C 1 GS))
  (mF:mg "_law_field" = Aa (.ref ff)) (kF:Ba K (.ref ff)=Ab) (bF:CW K ffd ["_law_desk", "_law_row_here"] []) (FF:Y4 P w K mg base (CXR P w) (n+1) ff ffd ["_law_desk", "_law_row_here"] (spF K CL Pg.up C G))
  (hL:∀ ns:Ac Ai,ns.length<=63->WX (Z6 Pg (n+1)) c1 cB s1 s2 s3 c4 bb s6 GS G (.L (ns.map .int))):
  Y4 P w K mg base (CXR P w) (n+1+1) f fd ["_law_script"] (Nm K):=by
 obtain⟨oc,od,dV,kV,doc,pm,an,cdv,ct,osl,rfl,lk,zu⟩:=hf.ex;have sc:=oG hs;refine Hr lk zu sc.fs (λvs H Q E ⟨a,ns,e,z,_⟩=>by rw[e];rfl) λA outer s H vs Q E hr ⟨a0,ns,e,U8,hS,hq⟩=>?_
 subst e;rw[hb];have v:=xZ (P:=P) (w:=w) (base:=base) (outer:=outer) (H:=H) (E:=E) t sc.fs hr;obtain⟨hl1,mw⟩:=Bk hln;obtain⟨mw,hl3⟩:=Bk mw;obtain⟨jz,wz⟩:=Bk qu;obtain⟨wz,hg3⟩:=Bk wz;obtain⟨hg3,hg4⟩:=Bk hg3;obtain⟨gr,mr,_,_⟩:=Hn v hg4;obtain⟨bu,nc4⟩:=Bk nc;have pv:∀(i:Ag)(nm:Ah)(p:AF),(xw++xp)[i]?=Aa nm->nm∈xw->(nm==("__debug__" : Ah))=Ae->(nm==("__classdict__" : Ah))=Ae->PE (B2 (CXR P w) P w K mg base (xw++xp) qual (AH st) f cdv A outer s H E) (.Name nm p) (Ci i):=λi nm p h hm d1 d2=>Dx h ((sc.loc nm hm).imp_right .inl) d1 d2
 have gD:Gl (B2 (CXR P w) P w K mg base (xw++xp) qual (AH st) f cdv A outer s H E) "Desk" := AD.mp jz;have gS:Gl (B2 (CXR P w) P w K mg base (xw++xp) qual (AH st) f cdv A outer s H E) "_law_said" := AD.mp wz;have gF:Gl (B2 (CXR P w) P w K mg base (xw++xp) qual (AH st) f cdv A outer s H E) "_law_field" := AD.mp hg3;have E1:=((zk fuel).e _ _ _ x1 _ v g1).se A0;have EB:=((zk fuel).e _ _ _ (.Call yB aB kB p69) _ v gB).se;have E4:=((zk fuel).e _ _ _ x4 _ v g4).se;have S1:=(Je fuel).s _ _ _ b1 _ v ⟨λ_=>rfl,rfl,rfl,rfl⟩ gb1
 have S2:=(Je fuel).s _ _ _ b2 _ v ⟨λ_=>rfl,rfl,rfl,rfl⟩ gb2
 have S3:=(Je fuel).s _ _ _ b3 _ v ⟨λ_=>rfl,rfl,rfl,rfl⟩ gb3
 have S6:=(Je fuel).s _ _ _ b6 _ v ⟨λ_=>rfl,rfl,rfl,rfl⟩ gb6
 have SB':=(Je fuel).ss _ _ _ bs _ v ⟨λ_=>rfl,rfl,rfl,rfl⟩ gbs
 have C6:=(zk fuel).b _ _ _ x6 _ v g6;have C7:=(zk fuel).b _ _ _ x7 _ v g7;have C8:=(zk fuel).b _ _ _ x8 _ v g8;have C9:=(zk fuel).b _ _ _ x9 _ v g9;have B6:PT (B2 (CXR P w) P w K mg base (xw++xp) qual (AH st) f cdv A outer s H E) (.BoolOp .And [x6,.Compare (.Call (.Name "_law_field" ku) [.Name "_law_desk" iz,.Name "_law_row_here" i5] [] Ó) [.NotEq] [.Name "_law_point" ce] cf] cg) (λY H' Q'=>∃ a la pa l k w' scr p U q ps dv dw row dd pt,LS K CL C a la pa U q ps Y H'/\Y[9]?=Aa (Aa dv)/\Z7 K CL H' (Ad a la) dv (.H [.str dw,dd])/\((dw = "alike"\/dw = "not on")->∃ y d,G q [.str row]=.exn y/\(((Z6 Pg (n+1)).up y.c).contains 107=Ab\/((Z6 Pg (n+1)).up y.c).contains 108=Ab)/\y.fs=[(("triple" : Ah),d)]/\Y8 5 d=Ab/\Y8 5 pt=Ab/\Tm d pt=Ab)/\U=zX l k w' (Z5 pt) (Z5 (.str row)) Af scr p/\∀ H2,Az H' H2->Q' Ae H2):=by
  refine PT.weak (PW.pt (QJ (Mm C6) (UA (Mm λA=>LY (IM (W:=WE K CL E) (CL:=CL) v.room.units .NotEq A) (Kh FF v.room gF mF kF bF .nil (v.px A0) (Bv (pv 2 _ iz rfl (by simp) rfl rfl) (Bv (pv 8 _ i5 rfl (by simp) rfl rfl) Cb rfl) rfl) (by decide) rfl rfl) (pv 7 _ ce rfl (by simp) rfl rfl) rfl)))) ?_
  rintro Y H' Q' ⟨a,la,pa,l,k,w',scr,p,U,q,ps,dv,dw,row,dd,pt,j,e9,i7,y6,rfl,hQ⟩;refine⟨Ad a la,My.sub j.aok IW,_,j.look (i:=9) (U':=[Af,Af,Af,Af,Af,Af,Af,Af,Af,Af,Af,Af,Af]) rfl ⟨.inl rfl,.inl rfl,.inl rfl,.inl rfl,.inl rfl,.inl rfl,.inl rfl,.inl rfl,.inl rfl,.inl rfl,.inl rfl,.inl rfl,.inl rfl,trivial⟩ IW e9 i7,Ip (wR rfl) λH1 o7=>?_⟩
  by_cases hx:dw = "alike"\/dw = "not on"
  .have hc:(("alike" == dw)||(("not on" == dw)||false))=Ab:=by
    rcases hx with rfl|rfl
    .rfl
    .rfl
   rw[hc,Au rfl];have j1:=j.same o7;obtain⟨y,d,e1,e2,e3,e4,e5,e6⟩:=y6 hx;obtain⟨rv,hrv,rrv⟩:=j1.g.sh 8 (.str row) rfl;obtain⟨tv,htv,rtv⟩:=j1.g.sh 7 pt rfl;rw[KJ]at e2;refine⟨Ap a la pa,.ref a,j1.s2,rv,hrv,a,la,[rv],[.str row],Ap a la pa,q,y,d,rfl,rfl,j1.aok,.inl rfl,.inr (.inl rfl),⟨rrv,trivial⟩,j1.dk,e1,e2,e3,λv5 H5 ur r5=>?_⟩
   exact⟨tv,htv,j1.aok.same ur,d,pt,.inl r5,.inl (rtv.same ur),Lc (Vt e4 e5 e6) λb5 jd sg rb=>⟨Ae,rb,hQ jd ((o7.trans ur).trans sg)⟩⟩
  .have hc:(("alike" == dw)||(("not on" == dw)||false))=Ae:=by
    rw[DQ,Bool.or_eq_false_iff];exact⟨Bg.mpr λz=>hx (.inl z.symm),Bg.mpr λz=>hx (.inr z.symm)⟩
   rw[hc,Ay Ax];exact hQ H1 o7
 refine⟨_,Ca (EH (i:=1) sc.fs.nd rfl (sc.loc "_law_p" (by simp)) E1 (HN bu) (.inl rfl))
  (Ca (EH (i:=2) sc.fs.nd rfl (sc.loc "_law_desk" (by simp)) (hJ MI FI v.room gD mD bI .nil (v.px A0) (Bv (pv 1 _ p5 rfl (by simp) rfl rfl) Cb rfl)) rfl (.inl rfl))
  (Ca (EH (i:=3) sc.fs.nd rfl (sc.loc "_law_listed" (by simp)) (L8 Cb) rfl (.inl rfl))
  (Ca (EH (i:=4) sc.fs.nd rfl (sc.loc "_law_past" (by simp)) (L8 Cb) rfl (.inl rfl))
  (Ca (VM v.own rfl (TB gr mr (Bv Oh (Bv (Rc EB) Cb rfl) rfl)) (MZ (i:=5) sc.fs.nd rfl (sc.loc "_law_k" (by simp)) (.inl rfl))
   (Ca (On (C:=C) S1) (Ca (On (C:=C) S2) (Ca (On (C:=C) S3) (Ca (EH (i:=9) sc.fs.nd rfl (sc.loc "_law_due_here" (by simp)) (Rc E4) (HN nc4) (.inl rfl))
   (Ca (FO (Mm λA=>LY (IM (W:=WE K CL E) (CL:=CL) v.room.units .NotEq A) (Kh FS v.room gS mS kS bS .nil (v.px A0) (Bv (pv 2 _ ni rfl (by simp) rfl rfl) (Bv (pv 8 _ kq rfl (by simp) rfl rfl) Cb rfl) rfl) (by decide) rfl rfl) (pv 9 _ iy rfl (by simp) rfl rfl) rfl) Jw G1)
   (Ca (FO B6 Jw G1)
   (DT (FO (Mm C7) (DT (EH (i:=3) sc.fs.nd rfl (sc.loc "_law_listed" (by simp)) (VQ BJ Za Ze VS (pv 4 _ Ö rfl (by simp) rfl rfl) rfl hl1) rfl (.inl rfl)))
    (DT (FO (Mm C8) (Ca (Kg (IS BJ D5 D6 NQ (pv 4 _ p40 rfl (by simp) rfl rfl) (Bv (pv 3 _ p42 rfl (by simp) rfl rfl) Cb rfl) rfl rfl mw rfl rfl) rfl) (pR (C:=C) SB')) G1))))))))))
   (λ_=>rfl))
  (Ca (On (C:=C) S6)
  (Ca (EH (i:=10) sc.fs.nd rfl (sc.loc "_law_found" (by simp)) (Kh FS v.room gS mS kS bS .nil (v.px A0) (Bv (pv 2 _ p50 rfl (by simp) rfl rfl) (Bv KI Cb rfl) rfl) (by decide) rfl rfl) rfl (.inl rfl))
  (Ca (FO (Mm C9) Jw G1)
  (Ca (Kg (IS BJ D5 D6 NQ (Rb VT (pv 10 _ p55 rfl (by simp) rfl rfl) Oh (λ_ _=>rfl)) (Bv KI Cb rfl) rfl rfl hl3 rfl rfl) rfl)
  (DT (Hm (Rc λA=>UB (IM (W:=WE K CL E) (CL:=CL) v.room.units .Eq A) (Kh FS v.room gS mS kS bS .nil (v.px A0) (Bv (pv 2 _ p63 rfl (by simp) rfl rfl) (Bv KI Cb rfl) rfl) (by decide) rfl rfl) (pv 9 _ p66 rfl (by simp) rfl rfl) rfl))))))))))),?_⟩
 have rs:∀ l:Ac Ai,Z9 K CL H A0 (l.map V.int) (l.map D.int):=λl=>by
  induction l with
  |nil=>trivial
  |cons x l ih=>exact⟨rfl,ih⟩
 have r0:Z7 K CL H A0 (.ref a0) (.L (ns.map .int)):=⟨a0,_,rfl,.inl (λz=>z),hS,rs ns⟩
 obtain⟨p,m,Ϻ,xx,hm0,hm1,hlp⟩:=hL ns U8;generalize (D.L (ns.map .int))=scr at r0 Ϻ xx hlp;refine⟨λ_ z=>z.elim,[Z5 scr,Af,Af,Af,Af,Af,Af,Af,Af,Af,Af,Af,Af],gu K CL A0 H _ [Aa (.ref a0),Af,Af,Af,Af,Af,Af,Af,Af,Af,Af,Af,Af] ⟨⟨rfl,_,rfl,r0⟩,trivial⟩,Lc Ϻ λvp H1 o7 rp=>?_⟩
 refine⟨vp,rfl,λa dx na ix ned=>?_⟩
 refine⟨a,dx,vp,rfl,BO,λH2 l1 la n1 n2 n12 ha aq zg keep=>⟨rfl,?_⟩⟩
 refine⟨Dt _,λl3 h3=>⟨Dt _,λpa h4=>?_⟩⟩
 have h3:H2 l3=Af:=h3;have h4:(upd H2 l3 (.L [])) pa=Af:=h4;have n1a:l1≠a:=λz=>by rw[z,BO]at n1;cases n1
 have n2a:la≠a:=λz=>by rw[z,BO]at n2;cases n2
 have n1d:l1≠dx:=λz=>by rw[AQ n1a,z,BO]at n1;cases n1
 have n2d:la≠dx:=λz=>by rw[AQ n2a,z,BO]at n2;cases n2
 have n1':H1 l1=Af:=by rw[AQ n1a,AQ n1d]at n1;exact n1
 have n2':H1 la=Af:=by rw[AQ n2a,AQ n2d]at n2;exact n2
 have cz:Az H1 H2:=λb o e=>by
  have z1:b≠a:=Et e na;have z2:b≠dx:=Et e ix;exact keep b o (by rw[AQ z1,AQ z2];exact e) z1
 have q3:Az H2 (upd H2 l3 (.L [])):=EZ h3 _;have q4:Az (upd H2 l3 (.L [])) (upd (upd H2 l3 (.L [])) pa (.L [])):=EZ h4 _;have Û:=q3.trans q4;have s14:=cz.trans Û;have npa:H1 pa=Af:=by
  cases e:H1 pa with
  |none=>rfl
  |some o=>rw[q3 _ _ (cz _ _ e)]at h4;cases h4
 have l3a:l3≠a:=λz=>by rw[z,ha]at h3;cases h3
 have l3l:l3≠la:=λz=>by rw[z,zg]at h3;cases h3
 have pl3:pa≠l3:=λz=>by rw[z,BO]at h4;cases h4
 have gv:H2 pa=Af:=by rw[AQ pl3]at h4;exact h4
 have paa:pa≠a:=λz=>by rw[z,ha]at gv;cases gv
 have pal:pa≠la:=λz=>by rw[z,zg]at gv;cases gv
 have pl1:pa≠l1:=λz=>by rw[z,aq]at gv;cases gv
 have wd:∀ b,Ap a la pa b->A0 b\/H1 b=Af:=λb hb=>.inr (by rcases hb with rfl|rfl|rfl<;>assumption)
 have R0:Z7 K CL (upd (upd H2 l3 (.L [])) pa (.L [])) (Ap a la pa) (.ref a0) scr:=Z7.same s14 (Z7.wide wd _ (r0.same o7));have Rp:Z7 K CL (upd (upd H2 l3 (.L [])) pa (.L [])) (Ap a la pa) vp p:=Z7.same s14 (Z7.wide wd _ rp);have j0:LS K CL C a la pa (zX (Z5 (.L [])) Af Af Af Af Af scr p) ⟨p,[],.O,[]⟩ [] [Aa (.ref a0),Aa vp,Aa (.ref a),Aa (.ref l3),Aa (.ref pa),Af,Af,Af,Af,Af,Af,Af,Af] (upd (upd H2 l3 (.L [])) pa (.L [])):=by
  refine⟨gu K CL (Ap a la pa) _ _ _ ⟨⟨rfl,_,rfl,R0⟩,⟨rfl,_,rfl,Rp⟩,⟨rfl,_,rfl,l3,[],rfl,.inl ?_,Id.of (q4 _ _ BO),trivial⟩,trivial⟩,Iw rfl,rfl,rfl,rfl,rfl,⟨[],BO,trivial⟩,⟨dx,vp,.ref l1,.O,[],Û _ _ ha,Û _ _ zg,Rp,⟨l1,[],rfl,.inl ?_,Id.of (Û _ _ aq),trivial⟩,rfl,trivial⟩,pal⟩
  .rintro (z|z|z)
   .exact l3a z
   .exact l3l z
   .exact pl3 z.symm
  .rintro (z|z|z)
   .exact n1a z
   .exact n12 z
   .exact pl1 z.symm
 refine⟨Ap a la pa,j0.aok,_,j0.g,Lc xx λvm H5 ur rvm=>?_⟩
 have evm:vm=.int m:=rvm;subst evm;have j1:=j0.same ur;refine⟨1,m,rfl,⟨by omega,by omega,by omega,by omega⟩,?_⟩
 generalize (m-1).toNat=N at hlp ⊢;refine⟨λi mm Y H'=>mm=N-i/\i<=N/\∃ q l ps,LS K CL C a la pa (zX (Z5 (.L l)) Af Af Af Af Af scr p) q ps Y H'/\LF (Z6 Pg (n+1)) s1 s2 s3 c4 bb GS G scr p (λq l=>∃ ts xo,yz (Z6 Pg (n+1)) (LT (zX (Z5 (.L l)) Af Af Af Af Af scr p)) s6=.next (LT (zX (Z5 (.L l)) Af Af Af Af (Z5 (.H [.str "told",.L ts])) scr p))/\GS q [.str "points"]=.ok (.H [.str "told",.L xo]) q/\Y8 4 (.L ts)=Ab/\Y8 4 (.L xo)=Ab/\LE xo ts=Ab/\xo.length<900) (((BR N).map fun(i:Ag)=>1+(i:Ai)).drop i) q l ps,⟨N,by simp,Dt _,_,_,_,j1,by rw[XZ];exact hlp⟩,?_⟩
 rintro i mm Y H6 ⟨rfl,hi,q,l,ps,j,lp⟩;by_cases yh:i<N
 .have ed:((BR N).map fun(i:Ag)=>1+(i:Ai)).drop i=(1+(i:Ai))::((BR N).map fun(i:Ag)=>1+(i:Ai)).drop (i+1):=by
   rw[DW (by simpa using yh)]
   congr 1
   simp
  rw[ed]at lp;refine .inr ⟨yh,λY' H'=>∃ q l ps,LS K CL C a la pa (zX (Z5 (.L l)) Af Af Af Af Af scr p) q ps Y' H'/\LF (Z6 Pg (n+1)) s1 s2 s3 c4 bb GS G scr p _ (((BR N).map fun(i:Ag)=>1+(i:Ai)).drop (i+1)) q l ps,λY' H' z=>⟨N-(i+1),by omega,rfl,yh,z⟩,λxv H7 ⟨e7,ex⟩=>?_⟩
  subst e7 ex;obtain⟨jc,row,dw,pt,dd,fd',q',y1,y2,y3,y4,y5,f1,f2,f3,y6,y7⟩:=lp;have j5:LS K CL C a la pa (zX (Z5 (.L l)) (Z5 (.int (1+(i:Ai)))) Af Af Af Af scr p) q ps (Y.set 5 (Aa (.int (1+(i:Ai))))) H7:=j.set (i:=5) (d:=.int (1+(i:Ai))) (by decide) (by decide) rfl
  refine⟨a,la,pa,_,_,q,ps,j5,y1,rfl,rfl,rfl,λY1 H8 sm8 j6=>?_⟩
  refine⟨a,la,pa,_,_,q,ps,j6,y2,rfl,rfl,rfl,λY2 H9 qe j7=>?_⟩
  refine⟨a,la,pa,_,_,q,ps,j7,y3,rfl,rfl,rfl,λY3 H10 sm10 j8=>?_⟩
  refine⟨Ad a la,My.sub j8.aok IW,_,j8.look (i:=4) (U':=[Af,Af,Af,Z5 (.L l),Af,Af,Z5 (.str jc),Z5 pt,Af,Af,Af,Af,Af]) rfl ⟨.inl rfl,.inl rfl,.inl rfl,.inr rfl,.inl rfl,.inl rfl,.inr rfl,.inr rfl,.inl rfl,.inl rfl,.inl rfl,.inl rfl,.inl rfl,trivial⟩ IW j8.s4 j8.past,Lc y4 λdv H11 sm11 i7=>?_⟩
  have e9:(Y3.set 9 (Aa dv))[9]?=Aa (Aa dv):=j8.at (i:=9) rfl;have j9:=(j8.same sm11).junk (i:=9) (v:=Aa dv) (by decide) (by decide) rfl
  obtain⟨rv,hrv,rrv⟩:=j9.g.sh 8 (.str row) rfl;refine⟨Ad a la,.ref a,j9.s2,rv,hrv,a,la,[rv],[.str row],Ap a la pa,q,rfl,rfl,j9.aok,.inl rfl,.inr (.inl rfl),⟨rrv,trivial⟩,j9.dk,?_⟩;rw[y5];intro v5 x5 H12 kb rn dk5;have j10:=j9.kb kb dk5.un;refine⟨dv,e9,My.sub j10.aok IW,fd',.H [.str dw,dd],.inl (rn.rep IW),.inl (Z7.kp (kb.kp (.inl rfl) (.inr rfl)) _ i7),Lc (Vt f1 f2 f3) λb5 jd sg rb=>⟨Ae,rb,?_⟩⟩
  have o6:Z7 K CL jd (Ad a la) dv (.H [.str dw,dd]):=Z7.same sg (Z7.kp (kb.kp (.inl rfl) (.inr rfl)) _ i7);have j11:=j10.same sg;show HP _ _ jd;have g6':∀ H',Az jd H'->Y9 K CL (Ad a la) [Af,Af,Af,Af,Af,Af,Z5 (.str jc),Af,Af,Z5 (.H [.str dw,dd]),Af,Af,Af] (Y3.set 9 (Aa dv)) H':=λH' sm=>(j11.same sm).look (i:=9) (U':=[Af,Af,Af,Af,Af,Af,Z5 (.str jc),Af,Af,Af,Af,Af,Af]) rfl ⟨.inl rfl,.inl rfl,.inl rfl,.inl rfl,.inl rfl,.inl rfl,.inr rfl,.inl rfl,.inl rfl,.inl rfl,.inl rfl,.inl rfl,.inl rfl,trivial⟩ IW e9 (o6.same sm)
  refine⟨a,la,pa,_,_,_,_,_,_,q',ps,dv,dw,row,dd,pt,j11,e9,o6,y6,rfl,λH14 ky=>?_⟩
  show HP _ _ H14;have j12:=j11.same ky;refine⟨Ad a la,My.sub j12.aok IW,_,g6' H14 ky,Ip (wQ rfl rfl) λé db=>?_⟩
  have bp:=j12.same db;by_cases h7:dw = "told"/\jc = "undo"
  .rw[Au h7]at y7;obtain⟨l',el,y8⟩:=y7;dsimp only;rw[Au (CI h7)];obtain⟨xs,ba,vd⟩:=bp.hp;rw[X5]at el;obtain⟨y,hy,ry⟩:=vd.get el;have lx:=vd.length;rw[<-lx]at hy;refine⟨.ref pa,bp.s4,.inl ⟨rfl,xs,Id.of ba⟩,pa,xs,y,rfl,rfl,ba,hy,?_⟩;have rd:Z9 K CL é (Ap a la pa) xs.dropLast ps.dropLast:=by
    have:=Z9.take (xs.length-1) vd
    rwa [<-ED,lx,<-ED]at this
   have kpp:Kp (Ap a la pa) é (upd é pa (.L xs.dropLast)):=λb o e na=>by rw[AQ λz=>na (.inr (.inr z))];exact e
   have ko:=(bp.put rd).set (i:=3) (by decide) (by decide) (Z7.kp kpp _ ry)
   exact⟨q',l',_,ko.le (Iw rfl) rfl rfl ⟨.inr rfl,.inr rfl,.inl rfl,.inr rfl,.inl rfl,.inl rfl,.inl rfl,.inl rfl,.inl rfl,.inl rfl,.inl rfl,.inl rfl,.inl rfl,trivial⟩,y8⟩
  .rw[Ay h7]at y7;dsimp only;rw[Ay (by rw[AG];exact h7)]
   refine⟨Ad a la,My.sub bp.aok IW,_,g6' é (ky.trans db),Ip (wP rfl rfl) λH16 sm16=>?_⟩
   have ko:=bp.same sm16;by_cases h8:dw = "told"/\jc≠"points"
   .rw[Au h8]at y7;obtain⟨hz,l',y8,y9⟩:=y7;rw[Au (CI h8)];obtain⟨xs,ba,vd⟩:=ko.hp;obtain⟨lv,kf,rlv⟩:=ko.g.sh 3 (.L l) rfl;have lx:=vd.length;refine⟨.ref pa,ko.s4,.inl ⟨rfl,xs,Id.of ba⟩,lv,kf,pa,xs,lv,rfl,rfl,ba,by rw[lx,Bz];omega,?_⟩
    have j15:=(ko.put (vd.append (show Z9 K CL H16 (Ap a la pa) [lv] [.L l] from ⟨rlv,trivial⟩))).le (U':=zX (Z5 (.L l)) (Z5 (.int (1+(i:Ai)))) (Z5 (.str jc)) (Z5 pt) Af Af scr p) (Iw rfl) rfl rfl ⟨.inr rfl,.inr rfl,.inl rfl,.inr rfl,.inl rfl,.inr rfl,.inr rfl,.inr rfl,.inl rfl,.inl rfl,.inl rfl,.inl rfl,.inl rfl,trivial⟩
    refine⟨a,la,pa,_,_,q',_,j15,y8,rfl,rfl,rfl,λY5 H17 sm17 j16=>?_⟩
    exact⟨q',l',_,j16.le (Iw rfl) rfl rfl ⟨.inr rfl,.inr rfl,.inl rfl,.inr rfl,.inl rfl,.inl rfl,.inl rfl,.inl rfl,.inl rfl,.inl rfl,.inl rfl,.inl rfl,.inl rfl,trivial⟩,y9⟩
   .rw[Ay h8]at y7;rw[Ay (by rw[AG];exact h8)]
    show HP _ _ H16;exact⟨q',l,_,ko.le (Iw rfl) rfl rfl ⟨.inr rfl,.inr rfl,.inl rfl,.inr rfl,.inl rfl,.inl rfl,.inl rfl,.inl rfl,.inl rfl,.inl rfl,.inl rfl,.inl rfl,.inl rfl,trivial⟩,y7⟩
 .have hN:i=N:=by omega
  subst hN;rw[Ge (by simp)]at lp
  obtain⟨ts,xo,y1,y2,f1,f2,f3,f4⟩:=lp;refine .inl ⟨AU _,?_⟩;refine⟨a,la,pa,_,_,q,ps,j,y1,rfl,rfl,rfl,λY1 H7 sm7 j2=>?_⟩
  refine⟨.ref a,j2.s2,a,la,[.str "points"],[.str "points"],Ap a la pa,q,rfl,rfl,j2.aok,.inl rfl,.inr (.inl rfl),⟨rfl,trivial⟩,j2.dk,?_⟩;rw[y2];intro v8 x8 H8 kb rn dk8;have j3:=(j2.kb kb dk8.un).junk (i:=10) (v:=Aa v8) (by decide) (by decide) rfl
  have e10:(Y1.set 10 (Aa v8))[10]?=Aa (Aa v8):=j2.at (i:=10) rfl;have fd2:Y8 5 (.H [.str "told",.L ts])=Ab:=by
   show (Ab&&(Y8 4 (.L ts)&&Ab))=Ab;rw[f1];rfl
  have ò:Y8 5 (.H [.str "told",.L xo])=Ab:=by
   show (Ab&&(Y8 4 (.L xo)&&Ab))=Ab;rw[f2];rfl
  have eq2:Tm (.H [.str "told",.L xo]) (.H [.str "told",.L ts])=Ab:=by
   show (Ab&&(LE xo ts&&Ab))=Ab;rw[f3];rfl
  refine⟨Ap a la pa,j3.aok,_,j3.look (i:=10) (U':=[Af,Af,Af,Af,Af,Af,Af,Af,Af,Z5 (.H [.str "told",.L ts]),Af,Af,Af]) rfl ⟨.inl rfl,.inl rfl,.inl rfl,.inl rfl,.inl rfl,.inl rfl,.inl rfl,.inl rfl,.inl rfl,.inr rfl,.inl rfl,.inl rfl,.inl rfl,trivial⟩ (λ_ h=>h) e10 (rn.rep λ_ h=>h),Ip (wO rfl rfl fd2 ò eq2) λH9 qe=>?_⟩
  show HP _ _ H9;have rdue:=j2.g.sh 9 (.H [.str "told",.L ts]) rfl;obtain⟨dv,hdv,i7⟩:=rdue;obtain⟨nm,d2,tt,ee,ev,ht,_,rc⟩:=rn;cases ee;subst ev;obtain⟨l5,ys,ex,ar,au,rys⟩:=rc.2 rfl xo rfl;subst ex;have ly:=rys.length;refine⟨.ref tt,e10,tt,[.str "told",.ref l5],1,.ref l5,rfl,rfl,yt.of (qe _ _ ht),rfl,.inl ⟨rfl,ys,Id.of (qe _ _ au)⟩,l5,ys,.str "( )",rfl,rfl,qe _ _ au,by rw[ly,Bz];omega,?_⟩
  have wd5:∀ b,AV (Ap a la pa) (.ref l5) b->Ap a la pa b\/H7 b=Af:=λb h=>h.imp id λz=>by cases z;exact ar
  have bq:Kp (AV (Ap a la pa) (.ref l5)) H9 (upd H9 l5 (.L (ys++[.str "( )"]))):=λb o e na=>by
   rw[AQ λz=>na (.inr (by rw[z]))];exact e
  have o6:Z7 K CL (upd H9 l5 (.L (ys++[.str "( )"]))) (Ap a la pa) dv (.H [.str "told",.L ts]):=Z7.sub (λb h=>.inl h) _ (Z7.kp bq _ (Z7.same qe (Z7.kp (A:=AV (Ap a la pa) (.ref l5)) (kb.kp (.inl (.inl rfl)) (.inl (.inr (.inl rfl)))) _ (Z7.wide wd5 _ i7))))
  have la5:¬ Ap a la pa l5:=j2.aok.new ar;have zp:DK K CL (upd H9 l5 (.L (ys++[.str "( )"]))) (Ap a la pa) C a la q:=by
   obtain⟨dx,v1,v2,v3,zs,h1,h2,r4,r5,r6,r7⟩:=dk8.same qe;exact DK.un (v:=.ref l5) ⟨dx,v1,v2,v3,zs,by rw[AQ λz=>la5 (.inl z.symm)];exact h1,by rw[AQ λz=>la5 (.inr (.inl z.symm))];exact h2,Z7.kp bq _ r4,Z7.kp bq _ r5,Z7.kp bq _ r6,Z9.kp bq _ r7⟩
  have ok9:My (upd H9 l5 (.L (ys++[.str "( )"]))) (Ap a la pa):=λb hb=>by
   have z5:b≠l5:=λz=>la5 (by rw[<-z];exact hb)
   rw[AQ z5];exact(j3.aok.same qe) b hb
  refine⟨Ap a la pa,.ref a,j3.s2,a,la,[.str "points"],[.str "points"],Ap a la pa,q,rfl,rfl,ok9,.inl rfl,.inr (.inl rfl),⟨rfl,trivial⟩,zp,?_⟩;rw[y2];intro v9 x9 H10 kb2 rn2 dk10;have e9:(Y1.set 10 (Aa (.ref tt)))[9]?=Aa (Aa dv):=by rw[Bu (by decide)];exact hdv
  refine⟨dv,e9,dk10.un.aok kb2 ok9,_,_,.inl (rn2.rep λ_ h=>h),.inl (Z7.kp (kb2.kp (.inl rfl) (.inr (.inl rfl))) _ o6),Lc (mG ò fd2 eq2) λb5 jd sg rb=>hq b5 jd rb⟩
end
theorem rM{a:Ak}{ep:Ag}{xs:Ac (Ah×Ai×Cf×Cf)}(ha:(a==GX)=Ae)(lk:K.lookup a=Aa ⟨.type "dict",Af,.dict (xs.map λx=>(⟨hashStr w x.1,.str x.1 x.2.2.1,.int x.2.1 x.2.2.2⟩:Mz)).toArray ep,#[]⟩)(nd:JC (xs.map (·.1))=Ab):Mi P w K a (xs.map λx=>(x.1,x.2.1)):=by
 refine⟨ha,_,_,ep,xs.map λx=>(x.1,.int x.2.1 x.2.2.2),lk,⟨rfl,rfl,rfl⟩,rfl,λe he=>?_,?_,?_,λz=>?_⟩
 .rw[List.mem_toArray]at he;obtain⟨x,_,rfl⟩:=Ih.mp he;exact⟨x.1,BE _,rfl⟩
 .clear nd lk
  show Pairs (Fe P w) (xs.map _) _
  induction xs with
  |nil=>exact .nil
  |cons x xs ih=>exact .cons (BE _) rfl ih
 .rw[Ig];exact IK nd
 .clear nd lk
  induction xs with
  |nil=>exact .inl ⟨rfl,rfl⟩
  |cons x xs ih=>
   by_cases h:x.1=z
   .subst h;refine .inr ⟨x.2.1,x.2.2.2,?_,?_⟩
    .simp[FZ]
    .simp[B0]
   .have h2:(z==x.1)=Ae:=Bg.mpr λy=>h y.symm
    have e1:FZ ((x::xs).map λx=>(x.1,GH x.2.1 x.2.2.2)) z=FZ (xs.map λx=>(x.1,GH x.2.1 x.2.2.2)) z:=by
     simp[FZ,h]
    have e2:((x::xs).map λx=>(x.1,x.2.1)).lookup z=(xs.map λx=>(x.1,x.2.1)).lookup z:=by
     simp[B0,h2]
    rw[e1,e2];exact ih
structure DA (K:Fg) (C fi fs fl fc fu fa:Ak):Prop where
 n:Bb K AO "Desk" = Aa (Aa (.ref C))
 d:uh K C
 m:Mk K C fi
 s:ze K C "say" fs
 l:ze K C "list_changed" fl
 c:ze K C "changed" fc
 u:ze K C "undone" fu
 a:ze K C "list_asked" fa
theorem da_mk{C fi fs fl fc fu fa:Ak}(n1:Bb K AO "Desk" = Aa (Aa (.ref C)))(i:At K (.ref C) "__init__" = Aa (Aa (.ref fi)))(a1:At K (.ref C) "say" = Aa (Aa (.ref fs)))(a2:At K (.ref C) "list_changed" = Aa (Aa (.ref fl)))(a3:At K (.ref C) "changed" = Aa (Aa (.ref fc)))(a4:At K (.ref C) "undone" = Aa (Aa (.ref fu)))(a5:At K (.ref C) "list_asked" = Aa (Aa (.ref fa)))(pg:D8 K C Dp=Ab)(hd:EA K C=Ab)(po:F7 K C=Ab)(sa:At K (.ref C) "__setattr__" = Aa (Aa (.builtin "object.__setattr__")))(np:At K (.ref C) "p" = Aa Af)(nl:At K (.ref C) "points" = Aa Af)(nc:At K (.ref C) "curve" = Aa Af)(nh:At K (.ref C) "past" = Aa Af)(mk:GV K C=Ab)(kp:Ba K (.ref C)=Ab)(f0:Co K (.ref fi)=Ab)(f1:Co K (.ref fs)=Ab)(f2:Co K (.ref fl)=Ab)(f3:Co K (.ref fc)=Ab)(f4:Co K (.ref fu)=Ab)(f5:Co K (.ref fa)=Ab)(k1:Ba K (.ref fs)=Ab)(k2:Ba K (.ref fl)=Ab)(k3:Ba K (.ref fc)=Ab)(k4:Ba K (.ref fu)=Ab)(k5:Ba K (.ref fa)=Ab):DA K C fi fs fl fc fu fa:=
 ⟨n1,⟨⟨pg,hd,po,sa⟩,np,nl,nc,nh⟩,⟨mk,i,f0,kp⟩,⟨a1,f1,k1⟩,⟨a2,f2,k2⟩,⟨a3,f3,k3⟩,⟨a4,f4,k4⟩,⟨a5,f5,k5⟩⟩
end Ov
namespace OvC
open PySem Ov
variable{x p k:Ai}{n:Ag}{Z:Z4}{w:Ah}{t:An}{α:Type}{U:Rho}{o:O}
noncomputable abbrev tr(a b c:Ai):D:=.H [.int a,.int b,.int c]
noncomputable def det(a0 a1 a2 b0 b1 b2 c0 c1 c2:Ai):Ai:=a0*(b1*c2-b2*c1)-a1*(b0*c2-b2*c0)+a2*(b0*c1-b1*c0)
def Sm(x:Ai):Prop:=0<=x/\x<11
theorem mo(h:Sm x)(y:Ai):Fq x y=Ab:=M2 (by have:=h.1;omega) (by have:=h.2;omega)
def cR(Z:Z4):Prop:=∀ p a0 a1 a2 b0 b1 b2 c0 c1 c2:Ai,0<p->Sm a0->Sm a1->Sm a2->Sm b0->Sm b1->Sm b2->Z.F 61 [.int p,tr a0 a1 a2,tr b0 b1 b2,tr c0 c1 c2]=.ok (.int (det a0 a1 a2 b0 b1 b2 c0 c1 c2%p))
def bA(Z:Z4):Prop:=∀ p a0 a1 a2 b0 b1 b2 c0 c1 c2:Ai,0<p->Sm a0->Sm a1->Sm a2->Sm b0->Sm b1->Sm b2->Z.F 62 [tr a0 a1 a2,tr b0 b1 b2,tr c0 c1 c2,.int p]=.ok (.int (det a0 a1 a2 b0 b1 b2 c0 c1 c2%p))
def lW(Z:Z4):Prop:=∀ m p:Ai,0<p->p<12->Z.F 63 [.int m,.int p]=.ok (tr (m%p) (m/p%p) (m/(p*p)%p))
structure H12 (Z:Z4):Prop where
 ms:cR Z
 lm:bA Z
 wh:lU Z
 rs:lW Z
 mx:lY Z
 pr:lX Z
theorem Sm.of(h:P4 p)(x:Ai):Sm (x%p):=⟨BZ _ (by have:=h.pos;omega),by have:=BV x h.pos;have:=h.hi;omega⟩
theorem S5{body:D->Rho->O}(I:Rho->Prop)(g:Ai->An):∀(L:Ac Ai),(∀ t∈L,∀ U,I U->(g t=Ab/\body (.int t) U=.ret (.int t) Ae)\/(g t=Ae/\∃ U',body (.int t) U=.next U'/\I U'))->∀ U,I U->(∃ t∈L,g t=Ab/\Ev body (L.map D.int) U=.ret (.int t) Ae)\/((∀ t∈L,g t=Ae)/\∃ U',Ev body (L.map D.int) U=.next U'/\I U')
 |[],_,U,i=>.inr ⟨(λ_ h=>nomatch h),U,rfl,i⟩
 |m::L,h,U,i=>by
  rcases h m (AY ..) U i with ⟨e1,e2⟩|⟨e1,U',e2,i'⟩
  .refine .inl ⟨m,AY ..,e1,?_⟩;show (body (.int m) U).turn _=_;rw[e2];rfl
  .rcases S5 I g L (λm' h'=>h m' (AE _ h')) U' i' with ⟨t,ht,a,b⟩|⟨a,r,b,c⟩
   .refine .inl ⟨t,AE _ ht,a,?_⟩;show (body (.int m) U).turn _=_;rw[e2];exact b
   .refine .inr ⟨λt ht=>?_,r,?_,c⟩
    .rcases A6.mp ht with rfl|ht
     .exact e1
     .exact a t ht
    .show (body (.int m) U).turn _=_;rw[e2];exact b
noncomputable def LR:Ss:={.ife (.cmp .Eq (.call 1 {.v 0,.B .Mult (.v 1) (.v 2)}) (.int 1)) {.ret (.v 2)} .nil}
noncomputable def NN:Df:=⟨3,Ae,{.fors 2 (.rng2 (.int 1) (.v 0)) LR,.rais 2 {.str (Aj "a number with the rest 0 is not turned over")}}⟩
noncomputable def Mq(p:Ai):Ac Ai:=(BR (p-1).toNat).map fun(k:Ag)=>1+(k:Ai)
theorem Qc{t:Ai}:t∈Mq p↔1<=t/\t<p:=by
 unfold Mq;rw[List.mem_map];constructor
 .rintro⟨k,hk,rfl⟩;have:=CV.mp hk;omega
 .rintro⟨h1,h2⟩;exact⟨(t-1).toNat,CV.mpr (by omega),by omega⟩
theorem eW(h:P4 p):EX 1 p=.ok ((Mq p).map D.int):=by
 rcases h with rfl|rfl|rfl|rfl<;>rfl
theorem kL:∀ p:Fin 12,(p.val=3\/p.val=5\/p.val=7\/p.val=11)->∀ r:Fin 12,r.val<p.val->r.val≠0->∃ t:Fin 12,1<=t.val/\t.val<p.val/\r.val*t.val%p.val=1:=by decide+kernel
theorem M5{n:Ai}(h:P4 p)(hn:n%p≠0):∃ t,1<=t/\t<p/\n*t%p=1:=by
 have p0:0<p/\p<12:=by rcases h with rfl|rfl|rfl|rfl<;>decide
 obtain⟨q,rfl⟩:∃ q:Ag,p=q:=⟨p.toNat,by omega⟩
 have h0:=BZ n (b:=(q:Ai)) (by omega)
 have h1:=BV n p0.1;obtain⟨r,hr⟩:∃ r:Ag,n%(q:Ai)=r:=⟨(n%(q:Ai)).toNat,by omega⟩
 obtain⟨t,t1,t2,t3⟩:=kL ⟨q,by omega⟩ (by rcases h with e|e|e|e<;>simp<;>omega) ⟨r,by omega⟩ (by show r<q;omega) (by show r≠0;omega)
 refine⟨(t.val:Ai),by omega,by show (t.val:Ai)<q;exact Int.ofNat_lt.mpr t2,?_⟩
 have e:((r*t.val%q:Ag):Ai)=1:=by rw[show r*t.val%q=1 from t3];rfl
 rw[<-e,Int.natCast_emod,Int.natCast_mul,<-hr];exact(BK n _ _).trans (by rw[BK (n%(q:Ai)) (t.val:Ai) (q:Ai),Bo n (Cn _)])
def JP(p n t:Ai):Prop:=1<=t/\t<p/\n*t%p=1
theorem Ta{n t u:Ai}(h1:JP p n t)(h2:JP p n u):t=u:=by
 have hp:1<p:=by have:=h1.1;have:=h1.2.1;omega
 have e:t%p=u%p:=by
  have a:t%p=t*(n*u)%p:=by rw[BK,h2.2.2,XM,Bo _ (Cn p)]
  have b:u%p=(n*t)*u%p:=by rw[BK (n*t) u p,h1.2.2,Em,Bo _ (Cn p)]
  rw[a,b]
  congr 1
  rw[<-HE,GK t n]
 rwa [BF (by have:=h1.1;omega) h1.2.1,BF (by have:=h2.1;omega) h2.2.1]at e
theorem Nb{c:Ai}(hp:P4 p)(hc:c%p≠0)(hx:x%p≠0):c*x%p≠0:=λz=>by
 obtain⟨t,_,_,e⟩:=M5 hp hc;refine hx ?_;have e1:x%p=(c*t)*x%p:=by rw[BK (c*t) x p,e,Em,Bo _ (Cn p)]
 rw[e1,show c*t*x=t*(c*x) by rw[GK c t,HE],BK,z,XN,XV]
noncomputable def Ef(p:Ai):Ac Ai->Ao Ai
 |[]=>Af
 |x::xs=>if x%p=0 then Ef p xs else Aa (x%p)
theorem S8{p l:Ai}(hp:0<p):∀{xs:Ac Ai},Ef p xs=Aa l->l%p≠0/\0<l/\l<p
 |[],h=>by cases h
 |x::xs,h=>by
  unfold Ef at h;by_cases hx:x%p=0
  .rw[Au hx]at h;exact S8 hp h
  .rw[Ay hx]at h;cases h;have h0:=BZ x (b:=p) (by omega)
   have h1:=BV x hp;exact⟨by rw[Bo _ (Cn p)];exact hx,by omega,h1⟩
theorem Qe{p c:Ai}(hp:P4 p)(hc:c%p≠0){f:Ai->Ai}(hf:∀ x,f x%p=c*x%p):∀ xs:Ac Ai,Ef p (xs.map f)=(Ef p xs).map λl=>c*l%p
 |[]=>rfl
 |x::xs=>by
  rw[BP];unfold Ef;rw[hf x];by_cases hx:x%p=0
  .rw[Au hx,Au (by rw[BK,hx,XN,XV]),Qe hp hc hf xs]
  .rw[Ay hx,Ay (Nb hp hc hx),Ys]
   congr 1
   rw[BK c (x%p),Bo _ (Cn p),<-BK]
noncomputable def ds(xs:Ac Ai):Ac D:=xs.map D.int
noncomputable def E6(b:An)(xs:Ac Ai):D:=if b=Ab then .H (ds xs) else .L (ds xs)
theorem aX(b xs):Eu (E6 b xs)=.ok (ds xs):=by unfold E6;cases b<;>rfl
theorem PX{g:D->R An}{f:D->R D}{φ:Ai->Ai}:∀(xs:Ac Ai),(∀ x∈xs,g (.int x)=.ok Ab/\f (.int x)=.ok (.int (φ x)))->Cr g f (ds xs)=.ok (ds (xs.map φ))
 |[],_=>rfl
 |x::xs,h=>by
  obtain⟨h1,h2⟩:=h x (AY ..);show (g (.int x)).bind _=_;rw[h1,R.bind_ok,Au rfl,h2,R.bind_ok];show (Cr g f (ds xs)).bind _=_;rw[PX xs λy hy=>h y (AE _ hy)]
  rfl
noncomputable def DL:E:=(.bl Ab)
noncomputable def Ps:E:=(.call 1 {.v 0,.v 5})
noncomputable def Pq:E:=(.call 1 {.v 0,.B .Mult (.v 4) (.v 6)})
noncomputable def Iq:Ss:={.ife (.cmp .NotEq (.v 3) (.int 0)) {.asg 4 Ae (.call 9 {.v 0,.v 3}),.ret (.bi .tuple {.comp Pq 6 (.e (.v 2)) DL})} .nil}
noncomputable def NV:Df:=⟨7,Ae,{.asg 2 Ae (.comp Ps 5 (.e (.v 1)) DL),.fors 3 (.e (.v 2)) Iq,.rais 3 {.str (Aj "all the numbers have the rest 0")}}⟩
noncomputable def mh(p t:Ai)(xs:Ac Ai):Ac Ai:=xs.map λx=>t*(x%p)%p
section
variable{Z:Z4}{p:Ai}{xs:Ac Ai}{b:An}
end
noncomputable abbrev own(xs:Ac Ai):Sl:=Aa (.L (ds xs),Ab)
section
variable{Z:Z4}{ns:Ac Ai}{a1 a2 a4 a6 a7 a8 a9 b0 b1 b2 b3 b4:Sl}{p:Ai}
end
theorem dC{p c l t:Ai}(hp:P4 p)(hc:c%p≠0)(hl:l%p≠0)(it:JP p l t){f:Ai->Ai}(hf:∀ x,f x%p=c*x%p)(xs:Ac Ai):∃ u,JP p (c*l%p) u/\mh p u (xs.map f)=mh p t xs:=by
 have h1:(c*l%p)%p≠0:=by rw[Bo _ (Cn p)];exact Nb hp hc hl
 obtain⟨u,u1,u2,u3⟩:=M5 hp h1;refine⟨u,⟨u1,u2,u3⟩,?_⟩;unfold mh;rw[Ig];refine List.map_congr_left λx _=>?_
 show u*(f x%p)%p=t*(x%p)%p;have u4:c*l*u%p=1:=by rw[<-u3,BK (c*l%p) u p,Bo _ (Cn p),<-BK]
 have e1:u*(f x%p)%p=u*(c*x)%p:=by rw[hf,BK u (c*x%p) p,Bo _ (Cn p),<-BK]
 have e2:t*(x%p)%p=t*x%p:=by rw[BK t (x%p) p,Bo _ (Cn p),<-BK]
 have e3:u*(c*x)%p=(l*t)*(u*(c*x))%p:=by rw[BK (l*t) _ p,it.2.2,Em,Bo _ (Cn p)]
 have e4:t*x%p=(c*l*u)*(t*x)%p:=by rw[BK (c*l*u) _ p,u4,Em,Bo _ (Cn p)]
 rw[e1,e2,e3,e4]
 congr 1
 grind
section
variable{Z:Z4}{ns:Ac Ai}{a1 a4 a6 a7 a8 a9 b2 b3 b4:Sl}{p m:Ai}{xs:Ac Ai}
end
def Cg(p x y:Ai):Prop:=x%p=y%p
section
variable{p a b c d:Ai}
theorem Cg.rfl:Cg p a a:=Eq.refl _
theorem Cg.of(h:a=b):Cg p a b:=by unfold Cg;rw[h]
theorem Cg.trans{a b c:Ai}(h:Cg p a b)(g:Cg p b c):Cg p a c:=Eq.trans h g
theorem Cg.symm(h:Cg p a b):Cg p b a:=NH h
theorem Cg.add(h:Cg p a b)(g:Cg p c d):Cg p (a+c) (b+d):=by unfold Cg at *;rw[XH,h,g,<-XH]
theorem Cg.sub(h:Cg p a b)(g:Cg p c d):Cg p (a-c) (b-d):=by unfold Cg at *;rw[XS,h,g,<-XS]
theorem Cg.mul(h:Cg p a b)(g:Cg p c d):Cg p (a*c) (b*d):=by unfold Cg at *;rw[BK,h,g,<-BK]
end
theorem P4.m1(h:P4 p):(-1:Ai)%p≠0:=by rcases h with rfl|rfl|rfl|rfl<;>decide
theorem P4.o1(h:P4 p):(1:Ai)%p≠0:=by rcases h with rfl|rfl|rfl|rfl<;>decide
abbrev R3:=Ai×Ai×Ai
variable{a q:R3}
noncomputable def RW(a:R3):D:=.L [.int a.1,.int a.2.1,.int a.2.2]
noncomputable def LG(a b c:R3):Ai:=det a.1 a.2.1 a.2.2 b.1 b.2.1 b.2.2 c.1 c.2.1 c.2.2
def zm(p:Ai)(a:R3):Prop:=(0<=a.1/\a.1<p)/\(0<=a.2.1/\a.2.1<p)/\(0<=a.2.2/\a.2.2<p)
structure qj (p:Ai) (a b c:R3):Prop where
 p4:P4 p
 ia:zm p a
 ib:zm p b
 ic:zm p c
 nz:LG a b c%p≠0
theorem qj.of{a b c a' b' c':R3}(h:qj p a b c)(hk:k%p≠0)(e:Cg p (LG a' b' c') (k*LG a b c))(hin:zm p a'/\zm p b'/\zm p c'):qj p a' b' c':=⟨h.p4,hin.1,hin.2.1,hin.2.2,by rw[show LG a' b' c'%p=_ from e];exact Nb h.p4 hk h.nz⟩
theorem jR{ns:Ac Ai}(h0:0<=k)(h1:k<ns.length):DU (ns.map D.int) k=.ok (.int (ns.getD k.toNat 0)):=Um h0 (by
 have:k.toNat<ns.length:=by omega
 simp[this])
noncomputable abbrev rl(a b c:R3):Sl:=Aa (.L [RW a,RW b,RW c],Ab)
section
variable{Z:Z4}{ns:Ac Ai}{at_ many s5 s0 s1 s2:Sl}{p t m:Ai}{a b c:R3}
end
section
variable{Z:Z4}{ns:Ac Ai}{many s5 s6 s7 s8 s9 s0 s1 s2:Sl}{p:Ai}{a b c:R3}
end
def Bd(n:Ag)(x:Ai):Prop:=x.natAbs<2 ^ n
theorem Bd.mul{m:Ag}{y:Ai}(h:Bd m x)(g:Bd n y):Bd (m+n) (x*y):=by
 unfold Bd at *;rw[Int.natAbs_mul,Nat.pow_add];exact Nat.mul_lt_mul'' h g
theorem Bd.sub{y:Ai}(h:Bd n x)(g:Bd n y):Bd (n+1) (x-y):=by
 unfold Bd at *;rw[Nat.pow_succ];omega
def B3(a:R3):Prop:=Bd 300 a.1/\Bd 300 a.2.1/\Bd 300 a.2.2
noncomputable def Av(q:An)(a:R3):D:=E6 q [a.1,a.2.1,a.2.2]
def lZ(Z:Z4):Prop:=∀(p:Ai)(q:An)(a b c:R3),0<p->B3 a->B3 b->B3 c->Z.F 61 [.int p,Av q a,Av q b,Av q c]=.ok (.int (LG a b c%p))
section
variable{Z:Z4}{ns:Ac Ai}{p t:Ai}{a b c r:R3}{made s6 s7:Sl}
end
section
variable{Z:Z4}{ns:Ac Ai}{p m:Ai}{a b c:R3}{fa fb fc:R3}{q:An}{s9 s0 s1 s2:Sl}
end
def PJ(Z:Z4):Prop:=∀ p n:Ai,P4 p->n%p≠0->∃ t,1<=t/\t<p/\n*t%p=1/\Z.F 9 [.int p,.int n]=.ok (.int t)
def N8(Z:Z4):Prop:=∀(p:Ai)(b:An)(xs:Ac Ai)(l t:Ai),P4 p->Ef p xs=Aa l->JP p l t->Z.F 17 [.int p,E6 b xs]=.ok (.H (ds (mh p t xs)))
theorem bR(hr:Ol Z)(p n:Ai)(hp:P4 p)(z:n%p≠0):∃ t,1<=t/\t<p/\n*t%p=1/\NN.run Z [.int p,.int n]=.ok (.int t):=by
 have p0:=hp.pos;have ph:=hp.hi;have body:∀ t∈Mq p,∀ U,(∃ s,U=[si p,si n,s])->(decide (n*t%p=1)=Ab/\EK Z 2 LR (.int t) U=.ret (.int t) Ae)\/(decide (n*t%p=1)=Ae/\∃ U',EK Z 2 LR (.int t) U=.next U'/\∃ s,U'=[si p,si n,s]):=by
  rintro t ht U ⟨s,rfl⟩;obtain⟨t1,t2⟩:=Qc.mp ht;have m:Fq n t=Ab:=N7 (by omega) (by omega)
  by_cases e:n*t%p=1
  .exact .inl ⟨by simp[e],by simp[EK,LR,hr p (n*t) p0,m,e,Fv]⟩
  .exact .inr ⟨by simp[e],_,by simp[EK,LR,hr p (n*t) p0,m,e];rfl,_,rfl⟩
 have run:∀ o,Ev (EK Z 2 LR) ((Mq p).map D.int) [si p,si n,Af]=o->NN.run Z [.int p,.int n]=(IC Z (.cons (.rais 2 (.cons (.str (Aj "a number with the rest 0 is not turned over")) .nil)) .nil) o).ans Ae:=by
  rintro o rfl;simp[NN,Df.run,Bw,eW hp]
 rcases S5 (λU=>∃ s,U=[si p,si n,s]) (λt=>decide (n*t%p=1)) (Mq p) body [si p,si n,Af] ⟨_,rfl⟩ with ⟨t,ht,a,b⟩|⟨a,r,b,s,rfl⟩
 .obtain⟨t1,t2⟩:=Qc.mp ht;have a':n*t%p=1:=by simpa using a
  exact⟨t,t1,t2,a',by rw[run _ b];rfl⟩
 .obtain⟨t,t1,t2,e⟩:=M5 hp z;have:=a t (Qc.mpr ⟨t1,t2⟩);simp[e]at this
section
variable{Z:Z4}{p:Ai}{xs:Ac Ai}{b:An}
theorem TM(hr:Ol Z)(ht:PJ Z)(hp:P4 p)(rs:Ac Ai):∀(ys:Ac Ai),(∀ y∈ys,0<=y/\y<p)->∀ s3,(Ef p ys=Af->∃ s3',Ev (EK Z 3 Iq) (ds ys) [si p,sh (E6 b xs),sh (.L (ds rs)),s3,Af,Af,Af]=.next [si p,sh (E6 b xs),sh (.L (ds rs)),s3',Af,Af,Af])/\(∀ l t,Ef p ys=Aa l->JP p l t->Ev (EK Z 3 Iq) (ds ys) [si p,sh (E6 b xs),sh (.L (ds rs)),s3,Af,Af,Af]=.ret (.H (ds (rs.map λr=>t*r%p))) Ae)
 |[],_,s3=>⟨λ_=>⟨s3,rfl⟩,(λl t h=>nomatch h)⟩
 |y::ys,hy,s3=>by
  obtain⟨y0,y1⟩:=hy y (AY ..);have ym:y%p=y:=BF y0 y1;have ih:=TM hr ht hp rs ys (λz hz=>hy z (AE _ hz)) (si y)
  have step:∀ o,EK Z 3 Iq (.int y) [si p,sh (E6 b xs),sh (.L (ds rs)),s3,Af,Af,Af]=o->Ev (EK Z 3 Iq) (ds (y::ys)) [si p,sh (E6 b xs),sh (.L (ds rs)),s3,Af,Af,Af]=o.turn (Ev (EK Z 3 Iq) (ds ys)):=by
   rintro o rfl;rfl
  unfold Ef;rw[ym];by_cases hz:y=0
  .have e:EK Z 3 Iq (.int y) [si p,sh (E6 b xs),sh (.L (ds rs)),s3,Af,Af,Af]=.next [si p,sh (E6 b xs),sh (.L (ds rs)),si y,Af,Af,Af]:=by
    simp[EK,Iq,hz]
   rw[Au hz,step _ e];exact ih
  .rw[Ay hz];refine⟨(λz=>nomatch z),λl t e it=>?_⟩
   cases e;obtain⟨u,u1,u2,u3,u4⟩:=ht p y hp (by rw[ym];exact hz)
   have:t=u:=Ta it ⟨u1,u2,u3⟩;subst this;have p0:=hp.pos;have ph:=hp.hi;have cp:Cr (cG Z [si p,sh (E6 b xs),sh (.L (ds rs)),si y,si t,Af,Af] 6 DL) (cF Z [si p,sh (E6 b xs),sh (.L (ds rs)),si y,si t,Af,Af] 6 Pq) (ds rs)=.ok (ds (rs.map λr=>t*r%p)):=by
    refine PX rs λr _=>⟨rfl,?_⟩
    have m:Fq t r=Ab:=M2 (by omega) (by omega)
    simp[cF,Pq,m,hr p (t*r) p0]
   have e:EK Z 3 Iq (.int y) [si p,sh (E6 b xs),sh (.L (ds rs)),s3,Af,Af,Af]=.ret (.H (ds (rs.map λr=>t*r%p))) Ae:=by
    simp[EK,Iq,hz,u4,cp,Fv]
   rw[step _ e];rfl
theorem iM(hr:Ol Z)(ht:PJ Z)(hp:P4 p){l t:Ai}(e:Ef p xs=Aa l)(it:JP p l t):NV.run Z [.int p,E6 b xs]=.ok (.H (ds (mh p t xs))):=by
 have p0:=hp.pos;have cp:Cr (cG Z [si p,sh (E6 b xs),Af,Af,Af,Af,Af] 5 DL) (cF Z [si p,sh (E6 b xs),Af,Af,Af,Af,Af] 5 Ps) (ds xs)=.ok (ds (xs.map λx=>x%p)):=by
  refine PX xs λx _=>⟨rfl,?_⟩
  simp[cF,Ps,hr p x p0]
 have run:∀ o,Ev (EK Z 3 Iq) (ds (xs.map λx=>x%p)) [si p,sh (E6 b xs),sh (.L (ds (xs.map λx=>x%p))),Af,Af,Af,Af]=o->NV.run Z [.int p,E6 b xs]=(IC Z (.cons (.rais 3 (.cons (.str (Aj "all the numbers have the rest 0")) .nil)) .nil) o).ans Ae:=by
  rintro o rfl;simp[NV,Df.run,Bw,aX,cp]
 have le:Ef p (xs.map λx=>x%p)=Ef p xs:=by
  have:=Qe (c:=1) hp (by rcases hp with rfl|rfl|rfl|rfl<;>decide) (f:=λx=>x%p) (λx=>by rw[Em,Bo _ (Cn p)]) xs
  rw[this];cases e:Ef p xs with
  |none=>rfl
  |some l=>
   obtain⟨_,l0,l1⟩:=S8 p0 e;simp[BF (Int.le_of_lt l0) l1]
 obtain⟨a,c⟩:=TM (b:=b) (xs:=xs) hr ht hp (xs.map λx=>x%p) (xs.map λx=>x%p) (λy hy=>by
  obtain⟨x,_,rfl⟩:=Ih.mp hy;exact⟨BZ _ (by omega),BV _ p0⟩) Af
 rw[le]at a c;rw[run _ (c l t e it)];simp[mh,Ig,Function.comp_def]
end
theorem QO(q:An)(a:R3):Eu (Av q a)=.ok [.int a.1,.int a.2.1,.int a.2.2]:=by cases q<;>rfl
noncomputable def NB(a b c:R3):R3:=(a.1,b.1,c.1)
noncomputable def NA(a b c:R3):R3:=(a.2.1,b.2.1,c.2.1)
noncomputable def Nz(a b c:R3):R3:=(a.2.2,b.2.2,c.2.2)
noncomputable def KZ(a x:R3):Ai:=a.1*x.1+a.2.1*x.2.1+a.2.2*x.2.2
theorem UT:∀ xs ys:Ac Ai,LE (ds xs) (ds ys)=decide (xs=ys)
 |[],[]=>rfl
 |[],_::_=>rfl
 |_::_,[]=>rfl
 |x::xs,y::ys=>by
  show ((x==y)&&LE (ds xs) (ds ys))=_;rw[UT xs ys,DM];simp
theorem M6(a b:R3):Tm (Av Ab a) (Av Ab b)=decide (a=b):=by
 show LE (ds [a.1,a.2.1,a.2.2]) (ds [b.1,b.2.1,b.2.2])=_;rw[UT,DM];simp only[List.cons.injEq,and_true,AG];exact⟨λ⟨h1,h2,h3⟩=>by obtain⟨a1,a2,a3⟩:=a;obtain⟨b1,b2,b3⟩:=b;simp at h1 h2 h3;rw[h1,h2,h3],λh=>by rw[h];exact⟨rfl,rfl,rfl⟩⟩
theorem wE(hp:P4 p)(h0:0<=x)(h1:x<p):Bd 10 x:=by
 unfold Bd;have:=hp.hi;omega
theorem Bd.mono{m:Ag}(h:Bd m x)(hm:m<=n):Bd n x:=AZ h (Nat.pow_le_pow_right (by decide) hm)
def Bn(n:Ag)(a:R3):Prop:=Bd n a.1/\Bd n a.2.1/\Bd n a.2.2
theorem Bn.b3(h:Bn n a)(hn:n<=300):B3 a:=⟨h.1.mono hn,h.2.1.mono hn,h.2.2.mono hn⟩
noncomputable def Ht(k:Ai)(a:R3):R3:=(k*a.1,k*a.2.1,k*a.2.2)
noncomputable def fk0(p:Ai)(a b c d:R3):Ai:=LG d b c%p
noncomputable def À(p:Ai)(a b c d:R3):R3:=Ht (fk0 p a b c d) a
def IO(p:Ai)(x y:R3):Prop:=Cg p x.1 y.1/\Cg p x.2.1 y.2.1/\Cg p x.2.2 y.2.2
section
variable{p:Ai}{a b c a' b' c' x y z x':R3}{k l m k':Ai}
theorem IO.rfl:IO p a a:=⟨Cg.rfl,Cg.rfl,Cg.rfl⟩
theorem IO.of(h:a=b):IO p a b:=by rw[h];exact IO.rfl
theorem IO.trans(h:IO p a b)(g:IO p b c):IO p a c:=⟨h.1.trans g.1,h.2.1.trans g.2.1,h.2.2.trans g.2.2⟩
theorem IO.symm(h:IO p a b):IO p b a:=⟨h.1.symm,h.2.1.symm,h.2.2.symm⟩
theorem IO.sc(hk:Cg p k k')(h:IO p a b):IO p (Ht k a) (Ht k' b):=⟨hk.mul h.1,hk.mul h.2.1,hk.mul h.2.2⟩
theorem Lh(ha:IO p a a')(hb:IO p b b'):Cg p (KZ a b) (KZ a' b'):=((ha.1.mul hb.1).add (ha.2.1.mul hb.2.1)).add (ha.2.2.mul hb.2.2)
theorem rK(ha:IO p a a')(hb:IO p b b')(hc:IO p c c'):IO p (NB a b c) (NB a' b' c')/\IO p (NA a b c) (NA a' b' c')/\IO p (Nz a b c) (Nz a' b' c'):=⟨⟨ha.1,hb.1,hc.1⟩,⟨ha.2.1,hb.2.1,hc.2.1⟩,⟨ha.2.2,hb.2.2,hc.2.2⟩⟩
noncomputable def ap(a b c x:R3):R3:=(KZ a x,KZ b x,KZ c x)
theorem V7(k l:Ai)(x:R3):Ht k (Ht l x)=Ht (k*l) x:=by
 unfold Ht;simp only[HE]
theorem xX(a b c x:R3)(k:Ai):ap a b c (Ht k x)=Ht k (ap a b c x):=by
 unfold ap Ht KZ;refine MA ?_ (MA ?_ ?_)<;>(simp only;grind)
end
section
variable{p:Ai}{a b c f0 f1 f2 f3 g0 g1 g2 g3:R3}{d0 d1 d2 d3:Ai}
end
section
variable{Z:Z4}{ns:Ac Ai}
end
section
variable{Z:Z4}{ns:Ac Ai}{many s5 s6 s7 s8 s9 s0 s1 s2:Sl}{p:Ai}{a b c:R3}
end
def InL(p:Ai)(xs:Ac Ai):Prop:=∀ x∈xs,0<=x/\x<p
theorem InL.set{xs:Ac Ai}(h:InL p xs)(k:Ag){v:Ai}(h0:0<=v)(h1:v<p):InL p (xs.set k v):=λx hx=>by
 rcases List.mem_or_eq_of_mem_set hx with z|rfl
 .exact h x z
 .exact⟨h0,h1⟩
section
variable{Z:Z4}{ns:Ac Ai}{p at_:Ai}
end
section
variable{Z:Z4}{ns:Ac Ai}{p t:Ai}
end
structure C6 where
 c0:Ai
 c1:Ai
 c2:Ai
 c3:Ai
 c4:Ai
 c5:Ai
noncomputable def C6.l(C:C6):Ac Ai:=[C.c0,C.c1,C.c2,C.c3,C.c4,C.c5]
noncomputable def vI(C:C6)(x:R3):Ai:=C.c0*x.1*x.1+C.c1*x.2.1*x.2.1+C.c2*x.2.2*x.2.2+(C.c3*x.1*x.2.1+C.c4*x.1*x.2.2+C.c5*x.2.1*x.2.2)
noncomputable def ä(C:C6):R3:=(2*C.c0,C.c3,C.c4)
noncomputable def å(C:C6):R3:=(C.c3,2*C.c1,C.c5)
noncomputable def æ(C:C6):R3:=(C.c4,C.c5,2*C.c2)
noncomputable def bI(C:C6)(x y:R3):Ai:=KZ (ap (ä C) (å C) (æ C) x) y
noncomputable def wo(k:Ai)(C:C6):C6:=⟨k*C.c0,k*C.c1,k*C.c2,k*C.c3,k*C.c4,k*C.c5⟩
def yp(p:Ai)(C D:C6):Prop:=Cg p C.c0 D.c0/\Cg p C.c1 D.c1/\Cg p C.c2 D.c2/\Cg p C.c3 D.c3/\Cg p C.c4 D.c4/\Cg p C.c5 D.c5
noncomputable def pb(C:C6)(a b c:R3):C6:=⟨vI C (NB a b c),vI C (NA a b c),vI C (Nz a b c),bI C (NB a b c) (NA a b c),bI C (NB a b c) (Nz a b c),bI C (NA a b c) (Nz a b c)⟩
section
variable{p:Ai}{C D E:C6}{a b c a' b' c' x y x' y':R3}{k k':Ai}
theorem C6.ext'(h0:C.c0=D.c0)(h1:C.c1=D.c1)(h2:C.c2=D.c2)(h3:C.c3=D.c3)(h4:C.c4=D.c4)(h5:C.c5=D.c5):C=D:=by
 cases C;cases D;simp_all
theorem yp.rfl:yp p C C:=⟨Cg.rfl,Cg.rfl,Cg.rfl,Cg.rfl,Cg.rfl,Cg.rfl⟩
theorem yp.of(h:C=D):yp p C D:=by rw[h];exact yp.rfl
theorem yp.symm(h:yp p C D):yp p D C:=⟨h.1.symm,h.2.1.symm,h.2.2.1.symm,h.2.2.2.1.symm,h.2.2.2.2.1.symm,h.2.2.2.2.2.symm⟩
theorem yp.trans(h:yp p C D)(g:yp p D E):yp p C E:=⟨h.1.trans g.1,h.2.1.trans g.2.1,h.2.2.1.trans g.2.2.1,h.2.2.2.1.trans g.2.2.2.1,h.2.2.2.2.1.trans g.2.2.2.2.1,h.2.2.2.2.2.trans g.2.2.2.2.2⟩
theorem yp.sc(hk:Cg p k k')(h:yp p C D):yp p (wo k C) (wo k' D):=⟨hk.mul h.1,hk.mul h.2.1,hk.mul h.2.2.1,hk.mul h.2.2.2.1,hk.mul h.2.2.2.2.1,hk.mul h.2.2.2.2.2⟩
theorem Q8(h:yp p C D)(hx:IO p x x'):Cg p (vI C x) (vI D x'):=
 (((((h.1.mul hx.1).mul hx.1).add ((h.2.1.mul hx.2.1).mul hx.2.1)).add ((h.2.2.1.mul hx.2.2).mul hx.2.2))).add ((((h.2.2.2.1.mul hx.1).mul hx.2.1).add ((h.2.2.2.2.1.mul hx.1).mul hx.2.2)).add ((h.2.2.2.2.2.mul hx.2.1).mul hx.2.2))
theorem tU(h:yp p C D):IO p (ä C) (ä D)/\IO p (å C) (å D)/\IO p (æ C) (æ D):=
 ⟨⟨Cg.rfl.mul h.1,h.2.2.2.1,h.2.2.2.2.1⟩,⟨h.2.2.2.1,Cg.rfl.mul h.2.1,h.2.2.2.2.2⟩,⟨h.2.2.2.2.1,h.2.2.2.2.2,Cg.rfl.mul h.2.2.1⟩⟩
theorem sR(ha:IO p a a')(hb:IO p b b')(hc:IO p c c')(hx:IO p x x'):IO p (ap a b c x) (ap a' b' c' x'):=⟨Lh ha hx,Lh hb hx,Lh hc hx⟩
theorem RH(h:yp p C D)(hx:IO p x x')(hy:IO p y y'):Cg p (bI C x y) (bI D x' y'):=
 let ⟨t0,t1,t2⟩:=tU h
 Lh (sR t0 t1 t2 hx) hy
theorem uA(h:yp p C D)(ha:IO p a a')(hb:IO p b b')(hc:IO p c c'):yp p (pb C a b c) (pb D a' b' c'):=
 let ⟨s0,s1,s2⟩:=rK ha hb hc
 ⟨Q8 h s0,Q8 h s1,Q8 h s2,RH h s0 s1,RH h s0 s2,RH h s1 s2⟩
theorem VF(k l:Ai)(C:C6):wo k (wo l C)=wo (k*l) C:=by
 unfold wo;simp only[HE]
theorem UR(C:C6):wo 1 C=C:=by unfold wo;simp only[Em]
theorem tZ(k:Ai)(C:C6)(a b c:R3):pb (wo k C) a b c=wo k (pb C a b c):=by
 unfold pb wo vI bI ap ä å æ KZ;refine C6.ext' ?_ ?_ ?_ ?_ ?_ ?_<;>(simp only;grind)
def tf(p:Ai)(C D:C6):Prop:=∃ d,d%p≠0/\yp p C (wo d D)
theorem tf.rfl(hp:P4 p):tf p C C:=⟨1,hp.o1,yp.of (UR C).symm⟩
theorem tf.trans(hp:P4 p)(i:tf p C D)(j:tf p D E):tf p C E:=by
 obtain⟨d,dz,e⟩:=i;obtain⟨d',dz',e'⟩:=j;exact⟨d*d',Nb hp dz dz',e.trans ((yp.sc Cg.rfl e').trans (yp.of (VF _ _ _)))⟩
theorem pF(hp:P4 p)(dz:k%p≠0):∃ u,u%p≠0/\Cg p (u*k) 1:=by
 obtain⟨u,u1,u2,u3⟩:=M5 hp dz;refine⟨u,by rw[BF (by omega) u2];omega,?_⟩
 show u*k%p=1%p;rw[GK,u3,BF (by decide) (by have:=hp.lo;omega)]
theorem tf.symm(hp:P4 p)(i:tf p C D):tf p D C:=by
 obtain⟨d,dz,e⟩:=i;obtain⟨u,uz,o⟩:=pF hp dz;refine⟨u,uz,?_⟩;have q:=yp.sc (k:=u) (k':=u) Cg.rfl e;rw[VF]at q;exact(q.trans ((yp.sc o yp.rfl).trans (yp.of (UR D)))).symm
theorem tf.pb(i:tf p C D):tf p (OvC.pb C a b c) (OvC.pb D a b c):=by
 obtain⟨d,dz,e⟩:=i;exact⟨d,dz,(uA e IO.rfl IO.rfl IO.rfl).trans (yp.of (tZ d D a b c))⟩
def InC(p:Ai)(C:C6):Prop:=∀ x∈C.l,0<=x/\x<p
end
structure BC (C:C6):Prop where
 b0:Bd 10 C.c0
 b1:Bd 10 C.c1
 b2:Bd 10 C.c2
 b3:Bd 10 C.c3
 b4:Bd 10 C.c4
 b5:Bd 10 C.c5
theorem InC.b{C:C6}(hp:P4 p)(h:InC p C):BC C:=by
 have k:∀ x∈C.l,Bd 10 x:=λx hx=>wE hp (h x hx).1 (h x hx).2
 exact⟨k _ (by simp[C6.l]),k _ (by simp[C6.l]),k _ (by simp[C6.l]),k _ (by simp[C6.l]),k _ (by simp[C6.l]),k _ (by simp[C6.l])⟩
noncomputable def t0(p:Ai)(C:C6):R3:=(2*C.c0%p,C.c3,C.c4)
noncomputable def t1(p:Ai)(C:C6):R3:=(C.c3,2*C.c1%p,C.c5)
noncomputable def t2(p:Ai)(C:C6):R3:=(C.c4,C.c5,2*C.c2%p)
section
variable{Z:Z4}{ns:Ac Ai}{p at_:Ai}{φ:Ai->Ai}
end
def Pr(p:Ai)(x y:R3):Prop:=∃ d,d%p≠0/\IO p x (Ht d y)
section
variable{p:Ai}{a b c x y z f g h:R3}{k:Ai}
theorem VG(x:R3):Ht 1 x=x:=by unfold Ht;simp only[Em]
theorem Pr.rfl(hp:P4 p):Pr p x x:=⟨1,hp.o1,IO.of (VG x).symm⟩
theorem Pr.trans(hp:P4 p)(i:Pr p x y)(j:Pr p y z):Pr p x z:=by
 obtain⟨d,dz,e⟩:=i;obtain⟨d',dz',e'⟩:=j;exact⟨d*d',Nb hp dz dz',e.trans ((IO.sc Cg.rfl e').trans (IO.of (V7 _ _ _)))⟩
theorem Pr.symm(hp:P4 p)(i:Pr p x y):Pr p y x:=by
 obtain⟨d,dz,e⟩:=i;obtain⟨u,u1,u2,u3⟩:=M5 hp dz;have uz:u%p≠0:=by rw[BF (by omega) u2];omega
 have o:Cg p (u*d) 1:=by
  show u*d%p=1%p;rw[GK,u3,BF (by decide) (by have:=hp.lo;omega)]
 refine⟨u,uz,?_⟩;have q:=IO.sc (k:=u) (k':=u) Cg.rfl e;rw[V7]at q;exact(q.trans ((IO.sc o IO.rfl).trans (IO.of (VG y)))).symm
theorem xY{a' b' c' x':R3}(ha:IO p a a')(hb:IO p b b')(hc:IO p c c')(hx:IO p x x'):IO p (ap a b c x) (ap a' b' c' x'):=⟨Lh ha hx,Lh hb hx,Lh hc hx⟩
theorem Pr.ap(i:Pr p x y):Pr p (OvC.ap a b c x) (OvC.ap a b c y):=by
 obtain⟨d,dz,e⟩:=i;exact⟨d,dz,(xY IO.rfl IO.rfl IO.rfl e).trans (IO.of (xX a b c y d))⟩
end
noncomputable def ny(g:R3):Ac Ai:=[g.1,g.2.1,g.2.2]
section
variable{p:Ai}{a b c a' b' c' f0 f1 f2 f3 g0 g1 g2 g3 h0 h1 h2 h3:R3}
end
section
variable{Z:Z4}{ns:Ac Ai}{p:Ai}
end
def Om(Z:Z4)(mid:Ag)(ns:Ac Ai):Prop:=∀ k:Ai,0<=k->∃ m,0<=m/\Z.F mid [scr ns,.int k]=.ok (.int m)
section
variable{Z:Z4}{ns:Ac Ai}{mid:Ag}{p:Ai}{a b c:R3}{s2 s4 s5 s6 s7 s8:Sl}
end
theorem pU(h:1<p):Ef p [0,0,1]=Aa 1:=by
 simp[Ef,BF (by decide:(0:Ai)<=1) h]
theorem xE(h:1<p)(z:Ai):Ef p [0,1,z]=Aa 1:=by
 simp[Ef,BF (by decide:(0:Ai)<=1) h]
theorem yH(h:1<p)(y z:Ai):Ef p [1,y,z]=Aa 1:=by
 simp[Ef,BF (by decide:(0:Ai)<=1) h]
noncomputable def i6(a b:R3):C6:=⟨a.1*b.1,a.2.1*b.2.1,a.2.2*b.2.2,a.1*b.2.1+a.2.1*b.1,a.1*b.2.2+a.2.2*b.1,a.2.1*b.2.2+a.2.2*b.2.1⟩
noncomputable def WC(C D:C6):C6:=⟨C.c0-D.c0,C.c1-D.c1,C.c2-D.c2,C.c3-D.c3,C.c4-D.c4,C.c5-D.c5⟩
section
variable{Z:Z4}{ns:Ac Ai}{p:Ai}{C:C6}{s3 s4 s5 s6 s7 s8:Sl}
end
section
variable{Z:Z4}{ns:Ac Ai}
end
section
variable{Z:Z4}{ns:Ac Ai}{p:Ai}{C:C6}{s3 s4 s5 s6 s7 s8:Sl}
end
def NF(p:Ai)(x:R3):Prop:=zm p x/\Ef p (ny x)=Aa 1
noncomputable def nj(p n:Ai):R3:=if n=0 then (0,0,1) else if n<=p then (0,1,n-1) else (1,(n-p-1)/p,(n-p-1)%p)
theorem uZ{n:Ai}(hp:P4 p)(h0:0<=n)(h1:n<p*p+p+1):NF p (nj p n):=by
 have p1:1<p:=by have:=hp.lo;omega
 have p0:=hp.pos;unfold nj;by_cases z:n=0
 .rw[Au z];exact⟨⟨⟨by decide,p0⟩,⟨by decide,p0⟩,⟨by decide,p1⟩⟩,pU p1⟩
 .rw[Ay z];by_cases z1:n<=p
  .rw[Au z1];exact⟨⟨⟨XI 0,p0⟩,⟨(by decide:(0:Ai)<=1),p1⟩,⟨by show 0<=n-1;omega,by show n-1<p;omega⟩⟩,xE p1 _⟩
  .rw[Ay z1];have d0:0<=(n-p-1)/p:=Int.ediv_nonneg (by omega) (by omega)
   have d1:(n-p-1)/p<p:=by rw[Int.ediv_lt_iff_lt_mul p0];omega
   exact⟨⟨⟨(by decide:(0:Ai)<=1),p1⟩,⟨d0,d1⟩,⟨BZ _ (by omega),BV _ p0⟩⟩,yH p1 _ _⟩
noncomputable def q4(w:Ag)(k:Ai)(y:R3):Ai:=match w with
  |0=>y.1*y.2.2-y.2.1*y.2.1
  |1=>y.1*y.1
  |2=>y.1*y.2.1
  |_=>y.1*y.1-k*(y.2.1*y.2.1)
noncomputable def E4(w:Ag)(k:Ai)(a b c:R3):C6:=match w with
  |0=>WC (i6 a c) (i6 b b)
  |1=>i6 a a
  |2=>i6 a b
  |_=>WC (i6 a a) (wo k (i6 b b))
noncomputable def o9(p:Ai)(w:Ag):Ag:=match w with
  |0=>(p+1).toNat
  |1=>(p+1).toNat
  |2=>(2*p+1).toNat
  |_=>1
section
variable{Z:Z4}{p i j k d N:Ai}{PP x y u:D}{RL:Ac D}{s t s' t' v:Sl}
end
section
variable{Z:Z4}{p:Ai}{pts:Ac R3}
end
def sS(Z:Z4)(ns:Ac Ai):Prop:=∀ k,0<=k->∃ p,P4 p/\Z.F 39 [scr ns,.int k]=.ok (.int p)
def lV(Z:Z4)(ns:Ac Ai):Prop:=∀(p k:Ai),P4 p->0<=k->∃ a b c,NF p a/\NF p b/\NF p c/\Z.F 74 [scr ns,.int k,.int p]=.ok (.H [Av Ab a,Av Ab b,Av Ab c])
noncomputable def sp7:Ah:=Aj " "
noncomputable def dg(n:Ag):Ah:=if n<10 then ⟨#[48+n]⟩ else ⟨#[49,48]⟩
theorem oY:∀ n:Ag,n<11->Aj (toString (n:Ai))=dg n:=by decide+kernel
theorem rE:∀ a:Ag,a<11->∀ b:Ag,b<11->(dg a==dg b)=(a==b):=by decide+kernel
noncomputable def br0(s:An):Ah:=if s=Ab then Aj "[" else Aj "("
noncomputable def br1(s:An):Ah:=if s=Ab then Aj "]" else Aj ")"
noncomputable def jn(a b c:Ag):Ah:=Ep sp7 [dg a,dg b,dg c]
noncomputable def tx(s:An)(a b c:Ag):Ah:=br0 s++jn a b c++br1 s
def Sg(u:Ah):Prop:=(∃ x,u=⟨#[x]⟩)\/∃ x y,u=⟨#[x,y]⟩
theorem RF(a:Ag):Sg (dg a):=by
 unfold dg;by_cases h:a<10
 .rw[Au h];exact .inl ⟨_,rfl⟩
 .rw[Ay h];exact .inr ⟨_,_,rfl⟩
structure JF (u v w:Ah):Prop where
 jo:J8 sp7 [u,v,w]=Ab
 ln:(Ep sp7 [u,v,w]).length<=10
 cut:∀ b d:Ag,JS ((⟨#[b]⟩:Ah)++Ep sp7 [u,v,w]++⟨#[d]⟩) (Aa 1) (Aa (-1))=Ep sp7 [u,v,w]
 tl:∀ b d:Ag,((⟨#[b]⟩:Ah)++Ep sp7 [u,v,w]++⟨#[d]⟩).length<=20
 i0:∀ b d:Ag,G8 (.str ((⟨#[b]⟩:Ah)++Ep sp7 [u,v,w]++⟨#[d]⟩)) (.int 0)=.ok (.str ⟨#[b]⟩)
 i1:∀ b d:Ag,G8 (.str ((⟨#[b]⟩:Ah)++Ep sp7 [u,v,w]++⟨#[d]⟩)) (.int (-1))=.ok (.str ⟨#[d]⟩)
theorem jf{u v:Ah}(hu:Sg u)(hv:Sg v)(hw:Sg w):JF u v w:=by
 rcases hu with ⟨x,rfl⟩|⟨x,x',rfl⟩<;>rcases hv with ⟨y,rfl⟩|⟨y,y',rfl⟩<;>rcases hw with ⟨z,rfl⟩|⟨z,z',rfl⟩ <;>
  exact⟨by kernel_rfl,AR (by kernel_rfl),λb d=>by kernel_rfl,λb d=>AR (by kernel_rfl),λb d=>by kernel_rfl,λb d=>by kernel_rfl⟩
theorem mW(s:An):∃ b,br0 s=⟨#[b]⟩:=by
 cases s with
 |false=>exact⟨40,by kernel_rfl⟩
 |true=>exact⟨91,by kernel_rfl⟩
theorem mV(s:An):∃ b,br1 s=⟨#[b]⟩:=by
 cases s with
 |false=>exact⟨41,by kernel_rfl⟩
 |true=>exact⟨93,by kernel_rfl⟩
theorem tO{x y:Ah}{l:Ac Ah}(h:DH x y=l)(hl:l.length=3)(hx:x.length<=20):Jd x y=Ab:=by
 unfold DH at h;have no:¬ ([x]=l):=λz=>by rw[<-z]at hl;simp at hl
 by_cases h1:(decide (x.length<y.length)||decide (DD x<DD y))=Ab
 .rw[Au h1]at h;exact absurd h no
 .rw[Ay h1]at h;by_cases h2:(DB x y 0 x.length (x.length+1)).isEmpty=Ab
  .rw[Au h2]at h;exact absurd h no
  .rw[Ay h2]at h;unfold Jd;rw[h,hl,Am];exact⟨GQ.mpr (by omega),rfl⟩
noncomputable def Ho(a:Ag):An:=(BR 11).all λb=>(BR 11).all λc=>DH (jn a b c) sp7==[dg a,dg b,dg c]
theorem tA0:Ho 0=Ab:=by decide+kernel
theorem tA1:Ho 1=Ab:=by decide+kernel
theorem tA2:Ho 2=Ab:=by decide+kernel
theorem tA3:Ho 3=Ab:=by decide+kernel
theorem tA4:Ho 4=Ab:=by decide+kernel
theorem tA5:Ho 5=Ab:=by decide+kernel
theorem tA6:Ho 6=Ab:=by decide+kernel
theorem tA7:Ho 7=Ab:=by decide+kernel
theorem tA8:Ho 8=Ab:=by decide+kernel
theorem tA9:Ho 9=Ab:=by decide+kernel
theorem zJ:Ho 10=Ab:=by decide+kernel
theorem tB:∀ a:Ag,a<11->Ho a=Ab
 |0,_=>tA0
 |1,_=>tA1
 |2,_=>tA2
 |3,_=>tA3
 |4,_=>tA4
 |5,_=>tA5
 |6,_=>tA6
 |7,_=>tA7
 |8,_=>tA8
 |9,_=>tA9
 |10,_=>zJ
 |n+11,h=>absurd h (by omega)
noncomputable def LQ:E:=(.bi .str {.v 1})
noncomputable def Ql:Df:=⟨2,Ae,{.ret (.bi .sjoin {.str (Aj " "),.comp LQ 1 (.e (.v 0)) DL})}⟩
noncomputable def NJ:Ss:={.ife (.cmp .Eq (.v 1) (.bi .str {.v 2})) {.ret (.v 2)} .nil}
noncomputable def Pz:Df:=⟨3,Ae,{.fors 2 (.rng (.v 0)) NJ,.ret .O}⟩
noncomputable def Pu:E:=(.call 33 {.v 0,.v 3})
noncomputable def MM:Df:=⟨4,Ae,{.asg 2 Ae (.comp Pu 3 (.e (.v 1)) DL),.ife (.cmp .In .O (.v 2)) {.ret .O} .nil,.ret (.v 2)}⟩
noncomputable def aJ:Df:=⟨1,Ae,{.ret (.ofl (.v 0) (Aj "triple"))}⟩
noncomputable def Pp:Df:=⟨1,Ae,{.ret (.B .Add (.B .Add (.str (Aj "(")) (.call 25 {.ofl (.v 0) (Aj "triple")})) (.str (Aj ")")))}⟩
structure TxF (a b c:Ag):Prop where
 jo:J8 sp7 [dg a,dg b,dg c]=Ab
 spl:DH (jn a b c) sp7=[dg a,dg b,dg c]
 spo:Jd (jn a b c) sp7=Ab
 ln:(jn a b c).length<=10
 cut:∀ s,JS (tx s a b c) (Aa 1) (Aa (-1))=jn a b c
 tl:∀ s,(tx s a b c).length<=20
 i0:∀ s,G8 (.str (tx s a b c)) (.int 0)=.ok (.str (br0 s))
 i1:∀ s,G8 (.str (tx s a b c)) (.int (-1))=.ok (.str (br1 s))
theorem txf{a b c:Ag}(ha:a<11)(hb:b<11)(hc:c<11):TxF a b c:=by
 have h:=tB a ha;unfold Ho at h;rw[Bh]at h;have h:=h b (CV.mpr hb);rw[Bh]at h;have h:=eq_of_beq (h c (CV.mpr hc));have j:=jf (RF a) (RF b) (RF c);have ln:(jn a b c).length<=10:=j.ln;have tw:∀ s,∃ b' d',tx s a b c=(⟨#[b']⟩:Ah)++Ep sp7 [dg a,dg b,dg c]++⟨#[d']⟩/\br0 s=⟨#[b']⟩/\br1 s=⟨#[d']⟩:=λs=>by
  obtain⟨b',e1⟩:=mW s;obtain⟨d',e2⟩:=mV s;exact⟨b',d',by unfold tx;rw[e1,e2];rfl,e1,e2⟩
 refine⟨j.jo,h,tO h rfl (by omega),ln,λs=>?_,λs=>?_,λs=>?_,λs=>?_⟩<;>obtain⟨b',d',e,e1,e2⟩:=tw s
 .rw[e];exact j.cut b' d'
 .rw[e];exact j.tl b' d'
 .rw[e,e1];exact j.i0 b' d'
 .rw[e,e2];exact j.i1 b' d'
noncomputable def jq(q:R3):Ah:=jn q.1.toNat q.2.1.toNat q.2.2.toNat
noncomputable def tq(s:An)(q:R3):Ah:=tx s q.1.toNat q.2.1.toNat q.2.2.toNat
theorem Q0(hp:P4 p)(h:zm p q):TxF q.1.toNat q.2.1.toNat q.2.2.toNat:=by
 have:=hp.hi;obtain⟨⟨a0,a1⟩,⟨b0,b1⟩,c0,c1⟩:=h;exact txf (by omega) (by omega) (by omega)
theorem Od(h0:0<=x)(h1:x<11):zY .str [.int x]=.ok (.str (dg x.toNat)):=by
 obtain⟨n,rfl⟩:=F2 h0;show (if Lx (n:Ai)=Ab then R.ok (D.str (Aj (toString (n:Ai)))) else .bad)=_
 have:Lx (n:Ai)=Ab:=by unfold Lx;simp;omega
 rw[Au this,oY n (by omega)]
 rfl
theorem U_5(hp:P4 p)(h:zm p q):zY .str [.int q.1]=.ok (.str (dg q.1.toNat))/\zY .str [.int q.2.1]=.ok (.str (dg q.2.1.toNat))/\zY .str [.int q.2.2]=.ok (.str (dg q.2.2.toNat)):=by
 have:=hp.hi;obtain⟨⟨a0,a1⟩,⟨b0,b1⟩,c0,c1⟩:=h;exact⟨Od a0 (by omega),Od b0 (by omega),Od c0 (by omega)⟩
theorem Wd(hp:P4 p)(h:zm p q):zY .sjoin [.str (Aj " "),.L [.str (dg q.1.toNat),.str (dg q.2.1.toNat),.str (dg q.2.2.toNat)]]=.ok (.str (jq q)):=by
 show (if J8 sp7 [dg q.1.toNat,dg q.2.1.toNat,dg q.2.2.toNat]=Ab then R.ok (D.str (Ep sp7 [dg q.1.toNat,dg q.2.1.toNat,dg q.2.2.toNat])) else .bad)=_
 rw[Au (Q0 hp h).jo];rfl
theorem pT(s:An):(br0 s).length=1/\(br1 s).length=1:=by cases s<;>exact⟨rfl,rfl⟩
theorem sz7(h:n<=1000):CY n=Ab:=GQ.mpr (by omega)
theorem WV(hp:P4 p)(h:zm p q)(s:An):Dc .Add (.str (br0 s)) (.str (jq q))=.ok (.str (br0 s++jq q))/\Dc .Add (.str (br0 s++jq q)) (.str (br1 s))=.ok (.str (tq s q)):=by
 have t:=Q0 hp h;have l:=pT s;have lj:(jq q).length<=10:=t.ln;have la:(br0 s++jq q).length=(br0 s).length+(jq q).length:=Array.size_append;rw[Ld,Ld,Au (sz7 (by omega)),Au (sz7 (by omega))]
 exact⟨rfl,rfl⟩
section
variable{Z:Z4}
def VD(Z:Z4):Prop:=∀(p:Ai)(q:R3),P4 p->zm p q->Z.F 25 [Av Ab q]=.ok (.str (jq q))
theorem nG(Z:Z4)(p:Ai)(q:R3)(hp:P4 p)(h:zm p q):Ql.run Z [Av Ab q]=.ok (.str (jq q)):=by
 obtain⟨s0,s1,s2⟩:=U_5 hp h;have e:Cr (cG Z [sh (Av Ab q),Af] 1 DL) (cF Z [sh (Av Ab q),Af] 1 LQ) [.int q.1,.int q.2.1,.int q.2.2]=.ok [.str (dg q.1.toNat),.str (dg q.2.1.toNat),.str (dg q.2.2.toNat)]:=by
  simp[Cr,cG,cF,DL,LQ,s0,s1,s2]
 have j:=Wd hp h;have sq:=QO Ab q;generalize Av Ab q=Q at *;simp[Ql,Df.run,Bw,sq,e,j]
noncomputable def cl7(s:An):Ag:=if s=Ab then 2 else 1
noncomputable def qc(p:Ai)(s:An)(q:R3):D:=.obj (cl7 s) [("p",.int p),("triple",Av Ab q)]
theorem wW(p:Ai)(s:An)(q:R3):b7 (qc p s q) (Aj "triple")=.ok (Av Ab q):=rfl
theorem uO(hr:VD Z)(p:Ai)(q:R3)(hp:P4 p)(h:zm p q):Pp.run Z [qc p Ae q]=.ok (.str (tq Ae q)):=by
 have e:=wW p Ae q;have r:=hr p q hp h;obtain⟨a1,a2⟩:=WV hp h Ae;have b0:br0 Ae=Aj "(" := rfl
 have b1:br1 Ae=Aj ")" := rfl
 rw[b0]at a1 a2;rw[b1]at a2;generalize qc p Ae q=o,Av Ab q=Q at *;simp[Pp,Df.run,Bw,e,r,a1,a2,-Ld]
def Fm(p:Ai)(q a:R3):Prop:=∃ l u,Ef p (ny q)=Aa l/\JP p l u/\mh p u (ny q)=ny a
def WA(Z:Z4):Prop:=∀(p:Ai)(b:An)(q a:R3),P4 p->Fm p q a->Z.F 910 [.int p,Av b q]=.ok (.H [.int p,Av Ab a])
theorem Ws(hf:N8 Z)(b:An)(hp:P4 p)(h:Fm p q a):Z.F 17 [.int p,Av b q]=.ok (Av Ab a):=by
 obtain⟨l,u,h1,h2,h3⟩:=h;have e:=hf p b (ny q) l u hp h1 h2
 rwa [h3]at e
theorem uV(hf:N8 Z)(p:Ai)(b:An)(q a:R3)(hp:P4 p)(h:Fm p q a):km.run Z [.int p,Av b q]=.ok (.H [.int p,Av Ab a]):=by
 have e:=Ws hf b hp h;generalize Av b q=Q,Av Ab a=A at *;simp[km,Df.run,Bw,e]
theorem uU(hi:WA Z)(c:Ag)(p:Ai)(b:An)(q a:R3)(hp:P4 p)(h:Fm p q a):(ua c).run Z [.int p,Av b q]=.ok (.obj c [("p",.int p),("triple",Av Ab a)]):=by
 have e:=hi p b q a hp h;have m:EJ c (.H [.int p,Av Ab a])=.ok (.obj c [("p",.int p),("triple",Av Ab a)]):=rfl;generalize Av b q=Q,Av Ab a=A at *;simp[ua,Df.run,Bw,e,m,zn]
end
noncomputable def zh(t:An):Ah:=if t=Ab then Aj "take" else Aj "put"
noncomputable def vq(t:An)(a b c:Ag):Ah:=zh t++sp7++jn a b c
noncomputable def Hl(t:An)(a:Ag):An:=(BR 11).all λb=>(BR 11).all λc=>(DH (vq t a b c) sp7==[zh t,dg a,dg b,dg c])&&CF (vq t a b c).length 20
theorem tB0:∀ t,Hl t 0=Ab:=by decide+kernel
theorem tB1:∀ t,Hl t 1=Ab:=by decide+kernel
theorem tB2:∀ t,Hl t 2=Ab:=by decide+kernel
theorem tB3:∀ t,Hl t 3=Ab:=by decide+kernel
theorem tB4:∀ t,Hl t 4=Ab:=by decide+kernel
theorem tB5:∀ t,Hl t 5=Ab:=by decide+kernel
theorem tB6:∀ t,Hl t 6=Ab:=by decide+kernel
theorem tB7:∀ t,Hl t 7=Ab:=by decide+kernel
theorem tB8:∀ t,Hl t 8=Ab:=by decide+kernel
theorem tB9:∀ t,Hl t 9=Ab:=by decide+kernel
theorem zG:∀ t,Hl t 10=Ab:=by decide+kernel
theorem oV(t:An):∀ a:Ag,a<11->Hl t a=Ab
 |0,_=>tB0 t
 |1,_=>tB1 t
 |2,_=>tB2 t
 |3,_=>tB3 t
 |4,_=>tB4 t
 |5,_=>tB5 t
 |6,_=>tB6 t
 |7,_=>tB7 t
 |8,_=>tB8 t
 |9,_=>tB9 t
 |10,_=>zG t
 |n+11,h=>absurd h (by omega)
theorem nQ{a b c:Ag}(ha:a<11)(hb:b<11)(hc:c<11):DH (vq t a b c) sp7=[zh t,dg a,dg b,dg c]/\(vq t a b c).length<=20:=by
 have h:=oV t a ha;unfold Hl at h;rw[Bh]at h;have h:=h b (CV.mpr hb);rw[Bh]at h;have h:=h c (CV.mpr hc);rw[Am]at h;exact⟨eq_of_beq h.1,AR h.2⟩
theorem cs9{a b c:Ag}(ha:a<11)(hb:b<11)(hc:c<11):zY .ssplit [.str (vq t a b c),.str sp7]=.ok (.L [.str (zh t),.str (dg a),.str (dg b),.str (dg c)]):=by
 obtain⟨e,hl⟩:=nQ (t:=t) ha hb hc;have so:Jd (vq t a b c) sp7=Ab:=by
  unfold DH at e;have no:¬ ([vq t a b c]=[zh t,dg a,dg b,dg c]):=λz=>by simp at z
  by_cases h1:(decide ((vq t a b c).length<sp7.length)||decide (DD (vq t a b c)<DD sp7))=Ab
  .rw[Au h1]at e;exact absurd e no
  .rw[Ay h1]at e;by_cases h2:(DB (vq t a b c) sp7 0 (vq t a b c).length ((vq t a b c).length+1)).isEmpty=Ab
   .rw[Au h2]at e;exact absurd e no
   .rw[Ay h2]at e;unfold Jd;rw[e,Am];exact⟨GQ.mpr (by omega),rfl⟩
 show (if (!(sp7.length==0)&&Jd (vq t a b c) sp7)=Ab then R.ok (D.L ((DH (vq t a b c) sp7).map D.str)) else .bad)=_
 rw[Au (by rw[so];rfl),e]
 rfl
theorem xN:zY .ssplit [.str (Aj "points"),.str sp7]=.ok (.L [.str (Aj "points")]):=by kernel_rfl
theorem Wq:zY .ssplit [.str (Aj "undo"),.str sp7]=.ok (.L [.str (Aj "undo")]):=by kernel_rfl
section
variable{Z:Z4}
theorem Ww{body:D->Rho->O}(I:Rho->Prop)(x:Ag):∀(l:Ac Ag),(∀ j∈l,∀ U,I U->(j=x->body (.int (j:Ai)) U=.ret (.int (x:Ai)) Ae)/\(j≠x->∃ U',body (.int (j:Ai)) U=.next U'/\I U'))->x∈l->∀ U,I U->Ev body (l.map fun(k:Ag)=>D.int (k:Ai)) U=.ret (.int (x:Ai)) Ae
 |[],_,hx,_,_=>absurd hx (by simp)
 |j::l,h,hx,U,hI=>by
  obtain⟨h1,h2⟩:=h j (AY ..) U hI;show (body (.int (j:Ai)) U).turn _=_;by_cases e:j=x
  .rw[h1 e];rfl
  .obtain⟨U',e1,I'⟩:=h2 e;rw[e1];exact Ww I x l (λk hk=>h k (AE _ hk)) ((A6.mp hx).resolve_left (CG e)) U' I'
def Wz(Z:Z4):Prop:=∀(p x:Ai),P4 p->0<=x->x<p->Z.F 33 [.int p,.str (dg x.toNat)]=.ok (.int x)
theorem uS(Z:Z4)(p x:Ai)(hp:P4 p)(h0:0<=x)(h1:x<p):Pz.run Z [.int p,.str (dg x.toNat)]=.ok (.int x):=by
 have ph:=hp.hi;have pp:=hp.pos;obtain⟨n,rfl⟩:=F2 h0;have hn:n<11:=by omega
 have tn:((n:Ai)).toNat=n:=rfl;rw[tn];have rg:EX 0 p=.ok ((BR p.toNat).map fun(k:Ag)=>D.int (k:Ai)):=by
  rw[bQ (by omega) (by omega)]
  simp[Iz]
 have key:=Ww (body:=EK Z 2 NJ) (λU=>∃ s,U=[si p,sh (.str (dg n)),s]) n (BR p.toNat) (by
  rintro j hj U ⟨s,rfl⟩;have ie:=CV.mp hj;have jl:j<11:=by omega
  have st:zY .str [.int (j:Ai)]=.ok (.str (dg j)):=Od (by omega) (by omega)
  have eq:(dg n==dg j)=(n==j):=rE n hn j jl;refine⟨λe=>?_,λe=>⟨[si p,sh (.str (dg n)),si (j:Ai)],?_,_,rfl⟩⟩
  .subst e;generalize dg j=dj at *;simp[EK,NJ,st,Fv]
  .have ne:dg n≠dg j:=λz=>by
    rw[z]at eq;have:(n==j)=Ab:=by rw[<-eq];simp
    exact e (by have:=eq_of_beq this;exact this.symm)
   generalize dg j=dj,dg n=dn at *;simp[EK,NJ,st,ne]) (CV.mpr (by omega)) [si p,sh (.str (dg n)),Af] ⟨_,rfl⟩
 generalize dg n=dn at *;simp[Pz,Df.run,Bw,rg,key]
theorem nF(hr:Wz Z)(p:Ai)(q:R3)(hp:P4 p)(h:zm p q):MM.run Z [.int p,.L [.str (dg q.1.toNat),.str (dg q.2.1.toNat),.str (dg q.2.2.toNat)]]=.ok (Av Ae q):=by
 have e1:=hr p q.1 hp h.1.1 h.1.2;have e2:=hr p q.2.1 hp h.2.1.1 h.2.1.2;have e3:=hr p q.2.2 hp h.2.2.1 h.2.2.2;generalize dg q.1.toNat=d1,dg q.2.1.toNat=d2,dg q.2.2.toNat=d3 at *;have e:Cr (cG Z [si p,sh (.L [.str d1,.str d2,.str d3]),Af,Af] 3 DL) (cF Z [si p,sh (.L [.str d1,.str d2,.str d3]),Af,Af] 3 Pu) [.str d1,.str d2,.str d3]=.ok [.int q.1,.int q.2.1,.int q.2.2]:=by
  simp[Cr,cG,cF,DL,Pu,e1,e2,e3]
 have ci:BS .In .O (.L [.int q.1,.int q.2.1,.int q.2.2])=.ok (.bl Ae):=rfl;simp[MM,Df.run,Bw,e,ci];rfl
abbrev Th:=An×R3×Ai
end
def Thv(p:Ai)(t:Th):Prop:=NF p t.2.1/\1<=t.2.2/\t.2.2<p
noncomputable def Ü(p:Ai)(t:Th):R3:=(t.2.2*t.2.1.1%p,t.2.2*t.2.1.2.1%p,t.2.2*t.2.1.2.2%p)
theorem Rm(hp:P4 p):JP p 1 1:=by
 have:=hp.lo;exact⟨by omega,by omega,BF (by omega) (by omega)⟩
theorem Wv(hp:P4 p)(h:NF p a):Fm p a a:=by
 refine⟨1,1,h.2,Rm hp,?_⟩;obtain⟨⟨⟨a0,a1⟩,⟨b0,b1⟩,c0,c1⟩,_⟩:=h;have e:∀ x:Ai,0<=x->x<p->1*(x%p)%p=x:=λx h0 h1=>by rw[Em,Bo _ (Cn p),BF h0 h1]
 simp only[mh,ny,BP,Ye,e _ a0 a1,e _ b0 b1,e _ c0 c1]
theorem VV(hp:P4 p)(t:Th):zm p (Ü p t):=by
 have p0:=hp.pos;have f:∀ x:Ai,0<=x%p/\x%p<p:=λx=>⟨BZ _ (by omega),BV _ p0⟩
 exact⟨f _,f _,f _⟩
theorem sK{t:Th}(hp:P4 p)(h:Thv p t):Fm p (Ü p t) t.2.1:=by
 obtain⟨hn,f1,f2⟩:=h;have hc:t.2.2%p≠0:=by rw[BF (by omega) f2];omega
 have hl:(1:Ai)%p≠0:=hp.o1;have hf:∀ x:Ai,(t.2.2*x%p)%p=t.2.2*x%p:=λx=>Bo _ (Cn p)
 obtain⟨u,h1,h2⟩:=dC hp hc hl (Rm hp) (f:=λx=>t.2.2*x%p) hf (ny t.2.1)
 have e:=Qe hp hc (f:=λx=>t.2.2*x%p) hf (ny t.2.1)
 rw[hn.2]at e;obtain⟨l',u',g1,g2,g3⟩:=Wv hp hn;rw[hn.2]at g1;cases g1;have:u'=1:=Ta g2 (Rm hp);subst this;exact⟨_,u,e,h1,h2.trans g3⟩
section
variable{Z:Z4}{ns:Ac Ai}{p:Ai}
end
noncomputable def MK:Df:=⟨2,Ae,{.asg 1 Ae (.B .Mod (.v 1) (.B .Add (.B .Add (.B .Mult (.v 0) (.v 0)) (.v 0)) (.int 1))),.ife (.cmp .Eq (.v 1) (.int 0)) {.ret (.H {.int 0,.int 0,.int 1})} .nil,.ife (.cmp .LtE (.v 1) (.v 0)) {.ret (.H {.int 0,.int 1,.B .Sub (.v 1) (.int 1)})} .nil,.ret (.H {.int 1,.B .FloorDiv (.B .Sub (.B .Sub (.v 1) (.v 0)) (.int 1)) (.v 0),.B .Mod (.B .Sub (.B .Sub (.v 1) (.v 0)) (.int 1)) (.v 0)})}⟩
def VE(Z:Z4):Prop:=∀(p n:Ai),P4 p->Z.F 93 [.int p,.int n]=.ok (Av Ab (nj p (n%(p*p+p+1))))
theorem pN{n:Ai}(hp:P4 p):0<p*p+p+1/\0<=n%(p*p+p+1)/\n%(p*p+p+1)<p*p+p+1:=by
 have p0:=hp.pos;have N0:0<p*p+p+1:=by have:=Int.mul_pos p0 p0;omega
 exact⟨N0,BZ n (XQ N0),BV n N0⟩
theorem qB(Z:Z4)(p n:Ai)(hp:P4 p):MK.run Z [.int p,.int n]=.ok (Av Ab (nj p (n%(p*p+p+1)))):=by
 have pp:Fq p p=Ab:=M2 (by have:=hp.lo;omega) (by have:=hp.hi;omega)
 have p0:=hp.pos;have ph:=hp.hi;obtain⟨N0,h0,h1⟩:=pN (n:=n) hp;have pb:p<1073741824:=by omega
 generalize hr:n%(p*p+p+1)=r at *;unfold nj;by_cases z0:r=0
 .rw[Au z0];simp[MK,Df.run,Bw,pp,N0,hr,z0];rfl
 .rw[Ay z0];by_cases z1:r<=p
  .rw[Au z1];simp[MK,Df.run,Bw,pp,N0,hr,z0,z1];rfl
  .rw[Ay z1];simp[MK,Df.run,Bw,pp,N0,hr,z0,z1,p0,pb];rfl
def sU(Z:Z4):Prop:=∀(p:Ai)(a b c:R3),P4 p->NF p a->NF p b->NF p c->a≠b->Z.F 75 [.int p,Av Ab a,Av Ab b,Av Ab c]=.ok (.bl Ab)
theorem U_1(x:R3)(l:Ac R3):(l.map (Av Ab)).any (λy=>Tm y (Av Ab x))=decide (x∈l):=by
 induction l with
 |nil=>simp
 |cons y l ih=>
  rw[BP,JW,ih,M6,DM,BY,AG,AG,AG,A6];exact or_congr ⟨NH,NH⟩ Iff.rfl
def sT(Z:Z4):Prop:=∀(p:Ai)(a b c:R3),P4 p->NF p a->NF p b->NF p c->a≠b->b≠c->c≠a->LG a b c%p≠0->Z.F 76 [.int p,Av Ab a,Av Ab b,Av Ab c]=.ok (.bl Ab)
structure é (Z:Z4) (ns:Ac Ai):Prop where
 pr:sS Z ns
 three:lV Z ns
 comm:sU Z
 corn:sT Z
 meas:lZ Z
section
variable{Z:Z4}{ns:Ac Ai}{s1 s2 s3 s4 s5:Sl}
end
noncomputable def NM:Df:=⟨3,Ae,{.asg 2 Ae (.int 0),.ife (.cmp .Gt (.bi .len {.v 0}) (.int 0)) {.asg 2 Ae (.x (.v 0) (.B .Mod (.v 1) (.bi .len {.v 0})))} .nil,.ret (.B .Mod (.B .Mult (.B .Mod (.B .Mult (.B .Add (.B .Add (.B .Mod (.v 2) (.int 1000003)) (.B .Mult (.int 7919) (.v 1))) (.int 11)) (.int 48271)) (.int 1000033)) (.int 69621)) (.int 999983))}⟩
noncomputable def Pl:Df:=⟨1,Ae,{.ret (.x (.L {.int 3,.int 5,.int 7,.int 11}) (.B .Mod (.call 354 {.v 0,.int 0}) (.int 4)))}⟩
noncomputable def P1:Df:=⟨2,Ae,{.ret (.bi .sjoin {.str (Aj " "),.comp LQ 1 (.e (.v 0)) DL})}⟩
noncomputable def Pt:Df:=⟨1,Ae,{.ret (.B .Add (.B .Add (.str (Aj "(")) (.call 357 {.v 0})) (.str (Aj ")")))}⟩
noncomputable def Pv:E:=(.B .Mod (.B .Mult (.v 4) (.v 3)) (.v 0))
noncomputable def PB:Df:=⟨5,Ae,{.asg 3 Ae (.B .Add (.int 1) (.B .Mod (.v 2) (.B .Sub (.v 0) (.int 1)))),.ret (.call 357 {.comp Pv 4 (.e (.v 1)) DL})}⟩
noncomputable def Gw:Df:=⟨6,Ae,{.asg 4 Ae (.call 354 {.v 0,.v 2}),.ife (.and {.cmp .Eq (.B .Mod (.call 354 {.v 0,.int 62}) (.int 3)) (.int 0),.cmp .Lt (.v 2) (.int 45),.cmp .Lt (.B .Mod (.v 4) (.int 8)) (.int 7)}) {.ret (.H {.str (Aj "put"),.call 93 {.v 1,.B .Add (.B .Mult (.int 5) (.v 2)) (.call 354 {.v 0,.int 63})}})} .nil,.asg 5 Ae (.call 93 {.v 1,.B .Mod (.B .FloorDiv (.v 4) (.int 64)) (.x (.L {.int 12,.int 133}) (.B .Mod (.B .FloorDiv (.v 4) (.int 8)) (.int 2)))}),.ife (.cmp .Lt (.B .Mod (.v 4) (.int 8)) (.int 5)) {.ret (.H {.str (Aj "put"),.v 5})} .nil,.ife (.and {.cmp .Eq (.B .Mod (.v 4) (.int 8)) (.int 5),.cmp .NotEq (.bi .len {.bi .list {.v 3}}) (.int 0),.cmp .Gt (.B .Mod (.B .FloorDiv (.v 4) (.int 16)) (.int 4)) (.int 0)}) {.ret (.H {.str (Aj "take"),.x (.v 3) (.B .Mod (.B .FloorDiv (.v 4) (.int 64)) (.bi .len {.v 3}))})} .nil,.ret (.H {.x (.L {.str (Aj "take"),.str (Aj "undo"),.str (Aj "points")}) (.B .Sub (.B .Mod (.v 4) (.int 8)) (.int 5)),.v 5})}⟩
noncomputable def MJ:E:=(.call 358 {.v 4})
noncomputable def G2:Df:=⟨5,Ae,{.ife (.and {.cmp .Eq (.v 0) (.str (Aj "put")),.cmp .In (.v 1) (.v 2)}) {.ret (.H {.str (Aj "alike"),.O})} .nil,.ife (.and {.cmp .Eq (.v 0) (.str (Aj "put")),.cmp .Eq (.bi .len {.v 2}) (.int 30)}) {.ret (.H {.str (Aj "many"),.O})} .nil,.ife (.and {.cmp .Eq (.v 0) (.str (Aj "take")),.cmp .NotIn (.v 1) (.v 2)}) {.ret (.H {.str (Aj "not on"),.O})} .nil,.ife (.and {.cmp .Eq (.v 0) (.str (Aj "undo")),.no (.cmp .NotEq (.bi .len {.bi .list {.v 3}}) (.int 0))}) {.ret (.H {.str (Aj "nothing"),.O})} .nil,.ife (.cmp .Eq (.v 0) (.str (Aj "points"))) {.ret (.H {.str (Aj "told"),.comp MJ 4 (.e (.v 2)) DL})} .nil,.ife (.cmp .Eq (.v 0) (.str (Aj "put"))) {.ret (.H {.str (Aj "told"),.L {.bi .str {.B .Add (.bi .len {.v 2}) (.int 1)}}})} .nil,.ife (.cmp .Eq (.v 0) (.str (Aj "take"))) {.ret (.H {.str (Aj "told"),.L {.bi .str {.B .Sub (.bi .len {.v 2}) (.int 1)}}})} .nil,.ret (.H {.str (Aj "told"),.L {.bi .str {.bi .len {.x (.v 3) (.un .USub (.int 1))}}}})}⟩
noncomputable def Si:E:=(.isi (.v 1) [.str])
noncomputable def Pk:Df:=⟨2,Ae,{.ret (.and {.isi (.v 0) [.list],.bi .all {.comp Si 1 (.e (.v 0)) DL}})}⟩
noncomputable def MG:Df:=⟨3,Ae,{.asg 1 Ae (.L {.isi (.v 0) [.cls 12],.isi (.v 0) [.cls 3],.isi (.v 0) [.cls 5],.isi (.v 0) [.cls 107]}),.asg 1 Ae (.B .Add (.v 1) (.L {.isi (.v 0) [.cls 108],.isi (.v 0) [.cls 15],.isi (.v 0) [.cls 17]})),.asg 1 Ae (.B .Add (.v 1) (.L {.isi (.v 0) [.cls 13],.isi (.v 0) [.cls 118],.isi (.v 0) [.cls 14]})),.asg 2 Ae (.L {.str (Aj "row"),.str (Aj "triple"),.str (Aj "curve"),.str (Aj "alike"),.str (Aj "not on"),.str (Aj "many"),.str (Aj "nothing"),.str (Aj "count"),.str (Aj "line"),.str (Aj "not whole")}),.ife (.or {.cmp .NotEq (.bi .count {.v 1,.bl Ab}) (.int 1),.no (.isi (.v 0) [.verr])}) {.ret (.str (Aj "none of these"))} .nil,.ret (.x (.v 2) (.bi .index {.v 1,.bl Ab}))}⟩
noncomputable def MX:Df:=⟨2,Ae,{.ife (.cmp .Eq (.bi .len {.v 1}) (.int 3)) {.ret (.call 17 {.v 0,.v 1})} .nil,.ife (.cmp .Eq (.bi .len {.v 1}) (.int 6)) {.expr (.bi .len .nil)} .nil,.ret .O}⟩
noncomputable def MN:Df:=⟨2,Ab,{.ife (.cmp .In (.v 1) (.v 0)) {.rais 107 {.v 1}} .nil,.ife (.cmp .GtE (.bi .len {.v 0}) (.glob 5)) {.rais 15 {.str (Aj "there are thirty points already")}} .nil,.ret (.B .Add (.v 0) (.L {.v 1}))}⟩
noncomputable def NI:E:=(.cmp .NotEq (.v 2) (.v 1))
noncomputable def Pw:E:=(.v 2)
noncomputable def NL:Df:=⟨3,Ab,{.ife (.cmp .NotIn (.v 1) (.v 0)) {.rais 108 {.v 1}} .nil,.ret (.comp Pw 2 (.e (.v 0)) NI)}⟩
noncomputable def MH:E:=(.meth (Aj "shown") [(1,931)] (.mkn 1 {.v 0,.v 2}))
noncomputable def Po:Df:=⟨3,Ab,{.ret (.comp MH 2 (.e (.v 1)) DL)}⟩
section
variable{Z:Z4}{ns:Ac Ai}
theorem iL(Z:Z4)(ns:Ac Ai)(k:Ai)(h0:0<=k):∃ m,0<=m/\NM.run Z [scr ns,.int k]=.ok (.int m):=by
 have m1:Fq 7919 k=Ab:=M2 (by decide) (by decide)
 have m2:∀ x,Fq x 48271=Ab:=λx=>N7 (by decide) (by decide)
 have m3:∀ x,Fq x 69621=Ab:=λx=>N7 (by decide) (by decide)
 by_cases h1:(0:Ai)<ns.length
 .have g:=jR (ns:=ns) (k:=k%ns.length) (BZ _ (by omega)) (BV _ h1)
  generalize ns.getD (k%(ns.length:Ai)).toNat 0=x at g;refine⟨(x%1000003+7919*k+11)*48271%1000033*69621%999983,BZ _ (by decide),?_⟩
  have h1n:0<ns.length:=by omega
  simp[NM,Df.run,Bw,h1n,g,m1,m2,m3]
 .refine⟨(0%1000003+7919*k+11)*48271%1000033*69621%999983,BZ _ (by decide),?_⟩
  have h1n:¬ 0<ns.length:=by omega
  simp[NM,Df.run,Bw,h1n,m1,m2,m3]
theorem qC(h:Om Z 354 ns):∃ p,P4 p/\Pl.run Z [scr ns]=.ok (.int p):=by
 obtain⟨m,m0,e⟩:=h 0 (by decide)
 refine⟨_,qK m,?_⟩;simp[Pl,Df.run,Bw,e,fP]
def RC(Z:Z4):Prop:=∀(p:Ai)(b:An)(q:R3),P4 p->zm p q->Z.F 357 [Av b q]=.ok (.str (jq q))
theorem uL(Z:Z4)(p:Ai)(b:An)(q:R3)(hp:P4 p)(h:zm p q):P1.run Z [Av b q]=.ok (.str (jq q)):=by
 obtain⟨s0,s1,s2⟩:=U_5 hp h;have e:Cr (cG Z [sh (Av b q),Af] 1 DL) (cF Z [sh (Av b q),Af] 1 LQ) [.int q.1,.int q.2.1,.int q.2.2]=.ok [.str (dg q.1.toNat),.str (dg q.2.1.toNat),.str (dg q.2.2.toNat)]:=by
  simp[Cr,cG,cF,DL,LQ,s0,s1,s2]
 have j:=Wd hp h;have sq:=QO b q;generalize Av b q=Q at *;simp[P1,Df.run,Bw,sq,e,j]
def RD(Z:Z4):Prop:=∀(p:Ai)(q:R3),P4 p->zm p q->Z.F 358 [Av Ab q]=.ok (.str (tq Ae q))
theorem uT(hr:RC Z)(p:Ai)(q:R3)(hp:P4 p)(h:zm p q):Pt.run Z [Av Ab q]=.ok (.str (tq Ae q)):=by
 have r:=hr p Ab q hp h;obtain⟨a1,a2⟩:=WV hp h Ae;have b0:br0 Ae=Aj "(" := rfl
 have b1:br1 Ae=Aj ")" := rfl
 rw[b0]at a1 a2;rw[b1]at a2;generalize Av Ab q=Q at *;simp[Pt,Df.run,Bw,r,a1,a2,-Ld]
def xK(Z:Z4):Prop:=∀(p m:Ai)(q:R3),P4 p->0<=m->NF p q->∃ a,zm p a/\Fm p a q/\Z.F 359 [.int p,Av Ab q,.int m]=.ok (.str (jq a))
theorem uQ(hr:RC Z)(p m:Ai)(q:R3)(hp:P4 p)(m0:0<=m)(h:NF p q):∃ a,zm p a/\Fm p a q/\PB.run Z [.int p,Av Ab q,.int m]=.ok (.str (jq a)):=by
 have lo:=hp.lo;have hi:=hp.hi;have t0:0<=m%(p-1):=BZ _ (by omega)
 have t1:m%(p-1)<p-1:=BV _ (by omega)
 have hv:Thv p (Ae,q,1+m%(p-1)):=⟨h,by show 1<=1+m%(p-1);omega,by show 1+m%(p-1)<p;omega⟩
 refine⟨Ü p (Ae,q,1+m%(p-1)),VV hp _,sK hp hv,?_⟩;have r:=hr p Ae _ hp (VV hp (Ae,q,1+m%(p-1)));have pm:0<p-1:=by omega
 have p0:=hp.pos;generalize ht:1+m%(p-1)=t at *;have mo:∀ x,Fq x t=Ab:=λx=>N7 (by omega) (by omega)
 have cm:∀ x:Ai,x*t%p=t*x%p:=λx=>by rw[GK]
 have e:Cr (cG Z [si p,sh (Av Ab q),si m,si t,Af] 4 DL) (cF Z [si p,sh (Av Ab q),si m,si t,Af] 4 Pv) [.int q.1,.int q.2.1,.int q.2.2]=.ok [.int (t*q.1%p),.int (t*q.2.1%p),.int (t*q.2.2%p)]:=by
  simp[Cr,cG,cF,DL,Pv,mo,p0,cm]
 have sq:=QO Ab q;have r':Z.F 357 [.L [.int (t*q.1%p),.int (t*q.2.1%p),.int (t*q.2.2%p)]]=.ok (.str (jq (Ü p (Ae,q,t)))):=r;generalize Av Ab q=Q at *;have p1:1<p:=by omega
 simp[PB,Df.run,Bw,p1,ht,sq,e,r']
end
section
variable{Z:Z4}{ns:Ac Ai}{p:Ai}
theorem nf9(hp:P4 p)(n:Ai):NF p (nj p (n%(p*p+p+1))):=let ⟨_,h0,h1⟩:=pN (n:=n) hp;uZ hp h0 h1
def ϴ(w:Ah):Prop:=w=Aj "put"\/w=Aj "take"\/w=Aj "undo"\/w=Aj "points"
theorem i12(m:Ai):∃ a,0<a/\G8 (.L [.int 12,.int 133]) (.int (m%2))=.ok (.int a):=by
 have h0:0<=m%2:=BZ _ (by decide)
 have h1:m%2<2:=BV _ (by decide)
 rcases (show m%2=0\/m%2=1 by omega) with e|e<;>rw[e]
 .exact⟨12,by decide,rfl⟩
 .exact⟨133,by decide,rfl⟩
noncomputable def A9(l:Ac R3):D:=.L (l.map (Av Ab))
theorem iw9{m:Ai}(h0:5<=m%8)(h1:m%8<8):∃ w,ϴ w/\G8 (.L [.str (Aj "take"),.str (Aj "undo"),.str (Aj "points")]) (.int (m%8-5))=.ok (.str w):=by
 rcases (show m%8=5\/m%8=6\/m%8=7 by omega) with e|e|e<;>rw[e]
 .exact⟨_,.inr (.inl rfl),rfl⟩
 .exact⟨_,.inr (.inr (.inl rfl)),rfl⟩
 .exact⟨_,.inr (.inr (.inr rfl)),rfl⟩
theorem ix9{l:Ac R3}{n:Ai}(h:l≠[]):∃ q∈l,G8 (A9 l) (.int (n%(l.length:Ai)))=.ok (Av Ab q):=by
 have hl:(0:Ai)<l.length:=by
  cases l with
  |nil=>exact absurd rfl h
  |cons x r=>simp
 have h0:=BZ n (XQ hl);have h1:=BV n hl;generalize n%(l.length:Ai)=k at h0 h1;obtain⟨j,rfl⟩:=F2 h0;have hj:j<l.length:=by omega
 refine⟨l[j],ES hj,?_⟩;show DU (l.map (Av Ab)) (j:Ai)=_;unfold DU qd;rw[Au h0,Bc,Au h1];simp[hj]
theorem ls9(l:Ac R3):zY .list [A9 l]=.ok (A9 l):=rfl
theorem iv(l:Ac R3):zY .len [A9 l]=.ok (.int l.length):=by
 show R.ok (D.int (l.map (Av Ab)).length)=_;rw[Bc]
def xJ(Z:Z4)(ns:Ac Ai):Prop:=∀(p k:Ai)(l:Ac R3),P4 p->0<=k->(∀ q∈l,NF p q)->∃ w q,ϴ w/\NF p q/\Z.F 363 [scr ns,.int p,.int k,A9 l]=.ok (.H [.str w,Av Ab q])
theorem uP(hm:Om Z 354 ns)(ht:VE Z)(p k:Ai)(l:Ac R3)(hp:P4 p)(k0:0<=k)(hl:∀ q∈l,NF p q):∃ w q,ϴ w/\NF p q/\Gw.run Z [scr ns,.int p,.int k,A9 l]=.ok (.H [.str w,Av Ab q]):=by
 obtain⟨m,m0,e1⟩:=hm k k0;obtain⟨m2,_,e2⟩:=hm 62 (by decide)
 obtain⟨m3,_,e3⟩:=hm 63 (by decide)
 obtain⟨a,a0,e4⟩:=i12 (m/8);have r0:0<=m%8:=BZ _ (by decide)
 have r1:m%8<8:=BV _ (by decide)
 have t1:=ht p (5*k+m3) hp;have t2:=ht p (m/64%a) hp;have n1:=nf9 hp (5*k+m3);have n2:=nf9 hp (m/64%a);have m5:Fq 5 k=Ab:=M2 (by decide) (by decide)
 have a1:¬ a=0:=by omega
 have ab:a<1073741824\/F8:=.inr trivial;generalize nj p ((5*k+m3)%(p*p+p+1))=q1,nj p (m/64%a%(p*p+p+1))=q2 at *;by_cases c1:m2%3=0/\k<45/\m%8<7
 .refine⟨_,q1,.inl rfl,n1,?_⟩;obtain⟨c1,c2,c3⟩:=c1;generalize Av Ab q1=Q1,Av Ab q2=Q2 at *;simp[Gw,Df.run,Bw,e1,e2,e3,c1,c2,c3,m5,t1]
 .have X:¬ m2%3=0\/(m2%3=0/\¬ k<45)\/(m2%3=0/\k<45/\¬ m%8<7):=by
   by_cases x1:m2%3=0
   .by_cases x2:k<45
    .exact .inr (.inr ⟨x1,x2,λz=>c1 ⟨x1,x2,z⟩⟩)
    .exact .inr (.inl ⟨x1,x2⟩)
   .exact .inl x1
  clear c1 t1 n1
  by_cases c2:m%8<5
  .refine⟨_,q2,.inl rfl,n2,?_⟩;generalize Av Ab q2=Q2 at *;rcases X with x1|⟨x1,x2⟩|⟨x1,x2,x3⟩
   .simp[Gw,Df.run,Bw,e1,e2,e3,e4,x1,c2,m5,t2,a0]
   .simp[Gw,Df.run,Bw,e1,e2,e3,e4,x1,x2,c2,m5,t2,a0]
   .simp[Gw,Df.run,Bw,e1,e2,e3,e4,x1,x2,x3,c2,m5,t2,a0]
  .by_cases d:m%8=5/\l≠[]/\0<m/16%4
   .obtain⟨d1,d2,d3⟩:=d;obtain⟨q,hq,e5⟩:=ix9 (n:=m/64) d2;refine⟨_,q,.inr (.inl rfl),hl q hq,?_⟩;have l1:=ls9 l;have l2:=iv l;have l3:¬ (l.length:Ai)=0:=λz=>d2 (Ey (by omega))
    have l4:(0:Ai)<l.length:=by omega
    have l5:¬ l.length=0:=by omega
    have l6:0<l.length:=by omega
    generalize A9 l=L,Av Ab q2=Q2,Av Ab q=Q at *;have d4:¬ (5:Ai)<5:=by decide
    rcases X with x1|⟨x1,x2⟩|⟨x1,x2,x3⟩
    .simp[Gw,Df.run,Bw,e1,e2,e3,e4,x1,d1,d2,d3,m5,t2,a0,l1,l2,l3,l4,l6,e5]
    .simp[Gw,Df.run,Bw,e1,e2,e3,e4,x1,x2,d1,d2,d3,m5,t2,a0,l1,l2,l3,l4,l6,e5]
    .exact absurd (by omega) x3
   .obtain⟨w,hw,e6⟩:=iw9 (m:=m) (by omega) r1
    refine⟨w,q2,hw,n2,?_⟩;have l1:=ls9 l;have l2:=iv l;have Y_:¬ m%8=5\/(m%8=5/\l.length=0)\/(m%8=5/\¬ l.length=0/\¬ 0<m/16%4):=by
     by_cases x1:m%8=5
     .by_cases x2:l.length=0
      .exact .inr (.inl ⟨x1,x2⟩)
      .exact .inr (.inr ⟨x1,x2,λz=>d ⟨x1,λy=>x2 (by rw[y];rfl),z⟩⟩)
     .exact .inl x1
    generalize A9 l=L,Av Ab q2=Q2 at *;have hb:∀ U:Rho,U=[sh (scr ns),si p,si k,sh L,si m,sh Q2]->U=U:=λ_ _=>rfl
    rcases X with x1|⟨x1,x2⟩|⟨x1,x2,x3⟩<;>rcases Y_ with y1|⟨y1,y2⟩|⟨y1,y2,y3⟩
    .simp[Gw,Df.run,Bw,e1,e2,e3,e4,x1,c2,y1,m5,t2,a0,l1,l2,e6]
    .simp[Gw,Df.run,Bw,e1,e2,e3,e4,x1,c2,y1,y2,m5,t2,a0,l1,l2]at e6 ⊢;simp[e6]
    .simp[Gw,Df.run,Bw,e1,e2,e3,e4,x1,c2,y1,y2,y3,m5,t2,a0,l1,l2]at e6 ⊢;simp[e6]
    .simp[Gw,Df.run,Bw,e1,e2,e3,e4,x1,x2,c2,y1,m5,t2,a0,l1,l2,e6]
    .simp[Gw,Df.run,Bw,e1,e2,e3,e4,x1,x2,c2,y1,y2,m5,t2,a0,l1,l2]at e6 ⊢;simp[e6]
    .simp[Gw,Df.run,Bw,e1,e2,e3,e4,x1,x2,c2,y1,y2,y3,m5,t2,a0,l1,l2]at e6 ⊢;simp[e6]
    .simp[Gw,Df.run,Bw,e1,e2,e3,e4,x1,x2,x3,c2,y1,m5,t2,a0,l1,l2,e6]
    .exact absurd (by omega) x3
    .exact absurd (by omega) x3
end
section
variable{Z:Z4}{ns:Ac Ai}{p:Ai}
theorem in9(q:R3)(l:Ac R3):BS .In (Av Ab q) (A9 l)=.ok (.bl (decide (q∈l))):=by
 show (if (Y8 5 (Av Ab q)&&(l.map (Av Ab)).all (Y8 5))=Ab then R.ok (D.bl ((l.map (Av Ab)).any λy=>Tm y (Av Ab q))) else .bad)=_
 rw[U_1,Au];rw[Am];exact⟨rfl,by rw[EC,Bh];intro _ _;rfl⟩
theorem Xs(q:R3)(l:Ac R3):BS .NotIn (Av Ab q) (A9 l)=.ok (.bl (!decide (q∈l))):=by
 show (if (Y8 5 (Av Ab q)&&(l.map (Av Ab)).all (Y8 5))=Ab then R.ok (D.bl (!(l.map (Av Ab)).any λy=>Tm y (Av Ab q))) else .bad)=_
 rw[U_1,Au];rw[Am];exact⟨rfl,by rw[EC,Bh];intro _ _;rfl⟩
theorem yV(l:Ac R3)(q:R3)(h:l.length<=900):Dc .Add (A9 l) (.L [Av Ab q])=.ok (A9 (l++[q])):=by
 show (if CY ((l.map (Av Ab)).length+1)=Ab then R.ok (D.L (l.map (Av Ab)++[Av Ab q])) else .bad)=_
 rw[Au (show CY ((l.map (Av Ab)).length+1)=Ab from GQ.mpr (by rw[Bc];omega))]
 unfold A9;rw[Yd];rfl
def ì(q:R3):Prop:=∃ p,P4 p/\zm p q
structure XN9 (Z:Z4):Prop where
 g5:Z.G 5=.int 30
 x107:∀ q,ì q->Z.xn 107 [Av Ab q]=.ok ⟨107,[(("triple" : Ah),Av Ab q)]⟩
 x108:∀ q,ì q->Z.xn 108 [Av Ab q]=.ok ⟨108,[(("triple" : Ah),Av Ab q)]⟩
 x15:∀ d,Z.xn 15 [d]=.ok ⟨15,[]⟩
theorem nJ(hx:XN9 Z)(l:Ac R3)(q:R3)(hq:ì q)(h:l.length<=30):MN.run Z [A9 l,Av Ab q]=if q∈l then .exn ⟨107,[(("triple" : Ah),Av Ab q)]⟩ else if l.length=30 then .exn ⟨15,[]⟩ else .ok (A9 (l++[q])):=by
 have e1:=in9 q l;have e2:=iv l;have e3:=yV l q (by omega)
 have x1:=hx.x107 q hq;have x2:=hx.x15 (.str (Aj "there are thirty points already"));have g5:=hx.g5;generalize A9 (l++[q])=L',A9 l=L,Av Ab q=Q at *;by_cases c1:q∈l
 .rw[Au c1];simp[MN,Df.run,Bw,e1,c1,x1,zn]
 .rw[Ay c1];by_cases c2:l.length=30
  .rw[Au c2];have c3:(30:Ai)<=(l.length:Ai):=by omega
   simp[MN,Df.run,Bw,e1,c1,e2,c2,c3,g5,x2,zn]
  .rw[Ay c2];have c3:¬ (30:Ai)<=(l.length:Ai):=by omega
   simp[MN,Df.run,Bw,e1,c1,e2,c3,g5,e3];exact λz=>nomatch (show Ab=Ae from z)
theorem xO(q:R3):∀(l:Ac R3),Cr (cG Z [sh (A9 l),sh (Av Ab q),Af] 2 NI) (cF Z [sh (A9 l),sh (Av Ab q),Af] 2 Pw) (l.map (Av Ab))=.ok ((l.filter λx=>!decide (x=q)).map (Av Ab)):=λl=>by
 generalize A9 l=L
 induction l with
 |nil=>rfl
 |cons x l ih=>
  have e:cG Z [sh L,sh (Av Ab q),Af] 2 NI (Av Ab x)=.ok (!decide (x=q)):=by
   have:BS .NotEq (Av Ab x) (Av Ab q)=.ok (.bl (!decide (x=q))):=by
    show (if (Y8 5 (Av Ab x)&&Y8 5 (Av Ab q))=Ab then R.ok (D.bl (!Tm (Av Ab x) (Av Ab q))) else .bad)=_
    rw[M6,Au (by rfl)]
   show (BS .NotEq (Av Ab x) (Av Ab q)).bind Bq=_;rw[this];rfl
  have e2:cF Z [sh L,sh (Av Ab q),Af] 2 Pw (Av Ab x)=.ok (Av Ab x):=rfl;rw[BP];show (cG Z [sh L,sh (Av Ab q),Af] 2 NI (Av Ab x)).bind _=_;rw[e];by_cases c:x=q
  .simp[c];exact ih
  .simp[c,e2];rw[ih];rfl
theorem iK(hx:XN9 Z)(l:Ac R3)(q:R3)(hq:ì q):NL.run Z [A9 l,Av Ab q]=if q∈l then .ok (A9 (l.filter λx=>!decide (x=q))) else .exn ⟨108,[(("triple" : Ah),Av Ab q)]⟩:=by
 have e1:=Xs q l;have e2:=xO (Z:=Z) q l;have x1:=hx.x108 q hq;have sq:Eu (A9 l)=.ok (l.map (Av Ab)):=rfl;have e3:A9 (l.filter λx=>!decide (x=q))=.L ((l.filter λx=>!decide (x=q)).map (Av Ab)):=rfl
 rw[e3];generalize (l.filter λx=>!decide (x=q)).map (Av Ab)=M' at *
 generalize l.map (Av Ab)=M at e2 sq;generalize A9 l=L,Av Ab q=Q at *;by_cases c1:q∈l
 .rw[Au c1];simp[NL,Df.run,Bw,e1,c1,sq,e2];rfl
 .rw[Ay c1];simp[NL,Df.run,Bw,e1,c1,x1,zn]
noncomputable def Ec(l:Ac R3):Ac D:=l.map λq=>.str (tq Ae q)
theorem nK(hm:∀(p:Ai)(b:An)(q a:R3),P4 p->Fm p q a->Z.F 901 [.int p,Av b q]=.ok (qc p Ae a))(hs:∀(p:Ai)(q:R3),P4 p->zm p q->Z.F 931 [qc p Ae q]=.ok (.str (tq Ae q)))(p:Ai)(l:Ac R3)(hp:P4 p)(hl:∀ q∈l,NF p q):Po.run Z [.int p,A9 l]=.ok (.L (Ec l)):=by
 have e:∀(L:D)(l:Ac R3),(∀ q∈l,NF p q)->Cr (cG Z [si p,sh L,Af] 2 DL) (cF Z [si p,sh L,Af] 2 MH) (l.map (Av Ab))=.ok (Ec l):=λL l hl=>by
  induction l with
  |nil=>rfl
  |cons x l ih=>
   have hx:=hl x (by simp)
   have e1:cG Z [si p,sh L,Af] 2 DL (Av Ab x)=.ok Ab:=rfl;have e2:cF Z [si p,sh L,Af] 2 MH (Av Ab x)=.ok (.str (tq Ae x)):=by
    have m':=hm p Ab x x hp (Wv hp hx);have s':=hs p x hp hx.1;have md:Nd Z.F (Aj "shown") [(1,931)] (qc p Ae x)=Z.F 931 [qc p Ae x]:=rfl;generalize qc p Ae x=O,Av Ab x=X at *;simp[cF,MH,m',s',md,zn]
   rw[BP];show (cG Z [si p,sh L,Af] 2 DL (Av Ab x)).bind _=_;rw[e1];show (cF Z [si p,sh L,Af] 2 MH (Av Ab x)).bind _=_;rw[e2];show (Cr _ _ (l.map (Av Ab))).bind _=_;rw[ih λq hq=>hl q (AE _ hq)]
   rfl
 have e:=e (A9 l) l hl;have sq:Eu (A9 l)=.ok (l.map (Av Ab)):=rfl;generalize l.map (Av Ab)=M at e sq;generalize A9 l=L at *;simp[Po,Df.run,Bw,sq,e];rfl
theorem uR(Z:Z4)(p:Ai):MM.run Z [.int p,.L []]=.ok (.L []):=by
 have ci:BS .In .O (.L [])=.ok (.bl Ae):=rfl;simp[MM,Df.run,Bw,ci,Cr]
theorem uM(hf:N8 Z)(p:Ai)(a q:R3)(hp:P4 p)(h:Fm p a q):MX.run Z [.int p,Av Ae a]=.ok (Av Ab q):=by
 have e:=Ws hf Ae hp h;have l:zY .len [Av Ae a]=.ok (.int 3):=rfl;generalize Av Ae a=A,Av Ab q=Q at *;simp[MX,Df.run,Bw,e,l]
theorem uN(Z:Z4)(p:Ai):MX.run Z [.int p,.L []]=.ok .O:=by
 simp[MX,Df.run,Bw]
end
section
variable{Z:Z4}{ns:Ac Ai}{p:Ai}
noncomputable def vz(n:Ag):D:=.str (Aj (toString (n:Ai)))
theorem bs9(h:n<=900):zY .str [.int (n:Ai)]=.ok (vz n):=Au (by unfold Lx;rw[Hw,AG];omega)
noncomputable def DG(hs:Ac (Ac R3)):D:=.L (hs.map A9)
noncomputable def pr9(x:Ah)(d:D):D:=.H [.str x,d]
theorem Kw:¬ Aj "put" = Aj "take" := by decide
theorem Kv:¬ Aj "put" = Aj "undo" := by decide
theorem Kx:¬ Aj "put" = Aj "points" := by decide
theorem Kt:¬ Aj "take" = Aj "put" := by decide
theorem Ks:¬ Aj "take" = Aj "undo" := by decide
theorem Ku:¬ Aj "take" = Aj "points" := by decide
theorem Ko:¬ Aj "undo" = Aj "put" := by decide
theorem Kj:¬ Aj "undo" = Aj "take" := by decide
theorem Kq:¬ Aj "undo" = Aj "points" := by decide
theorem KA:¬ Aj "points" = Aj "put" := by decide
theorem Kz:¬ Aj "points" = Aj "take" := by decide
theorem Ky:¬ Aj "points" = Aj "undo" := by decide
theorem sP(Z:Z4)(q:R3)(l:Ac R3)(hs:Ac (Ac R3))(h:l.length<=30):G2.run Z [.str (Aj "put"),Av Ab q,A9 l,DG hs]=.ok (if q∈l then pr9 (Aj "alike") .O else if l.length=30 then pr9 (Aj "many") .O else pr9 (Aj "told") (.L [vz (l.length+1)])):=by
 have e1:=in9 q l;have e2:=iv l;have b:=bs9 (n:=l.length+1) (by omega)
 rw[show ((l.length+1:Ag):Ai)=(l.length:Ai)+1 by omega]at b
 unfold pr9;generalize vz (l.length+1)=S,A9 l=L,Av Ab q=Q,DG hs=P at *;by_cases c1:q∈l
 .rw[Au c1];simp[G2,Df.run,Bw,Kw,Kv,Kx,Kt,Ks,Ku,Ko,Kj,Kq,KA,Kz,Ky,e1,c1]
 .rw[Ay c1];by_cases c2:l.length=30
  .rw[Au c2];have c3:(l.length:Ai)=30:=by omega
   simp[G2,Df.run,Bw,Kw,Kv,Kx,Kt,Ks,Ku,Ko,Kj,Kq,KA,Kz,Ky,e1,c1,e2,c3]
  .rw[Ay c2];have c3:¬ (l.length:Ai)=30:=by omega
   simp[G2,Df.run,Bw,Kw,Kv,Kx,Kt,Ks,Ku,Ko,Kj,Kq,KA,Kz,Ky,e1,c1,e2,c3,b]
theorem mB(Z:Z4)(q:R3)(l:Ac R3)(hs:Ac (Ac R3))(h:l.length<=30):G2.run Z [.str (Aj "take"),Av Ab q,A9 l,DG hs]=.ok (if q∈l then pr9 (Aj "told") (.L [vz (l.length-1)]) else pr9 (Aj "not on") .O):=by
 have e1:=Xs q l;have e0:=in9 q l;have e2:=iv l;unfold pr9;by_cases c1:q∈l
 .rw[Au c1];have hl:0<l.length:=List.length_pos_of_mem c1;have b:=bs9 (n:=l.length-1) (by omega)
  rw[show ((l.length-1:Ag):Ai)=(l.length:Ai)-1 by omega]at b
  generalize vz (l.length-1)=S,A9 l=L,Av Ab q=Q,DG hs=P at *;simp[G2,Df.run,Bw,Kw,Kv,Kx,Kt,Ks,Ku,Ko,Kj,Kq,KA,Kz,Ky,e1,c1,e2,b]
 .rw[Ay c1];generalize A9 l=L,Av Ab q=Q,DG hs=P at *;simp[G2,Df.run,Bw,Kw,Kv,Kx,Kt,Ks,Ku,Ko,Kj,Kq,KA,Kz,Ky,e1,c1]
theorem sQ(hp:P4 p)(ht:RD Z)(q:R3)(l:Ac R3)(hs:Ac (Ac R3))(hl:∀ x∈l,NF p x):G2.run Z [.str (Aj "points"),Av Ab q,A9 l,DG hs]=.ok (pr9 (Aj "told") (.L (Ec l))):=by
  have e:∀(U:Rho)(l:Ac R3),U.length=5->(∀ q∈l,NF p q)->Cr (cG Z U 4 DL) (cF Z U 4 MJ) (l.map (Av Ab))=.ok (Ec l):=λU l hρ hl=>by
    induction l with
    |nil=>rfl
    |cons x l ih=>
      have hx:=hl x (by simp)
      have e1:cG Z U 4 DL (Av Ab x)=.ok Ab:=rfl;have e2:cF Z U 4 MJ (Av Ab x)=.ok (.str (tq Ae x)):=by
        have s:=ht p x hp hx.1
        match U,hρ with
        |[r0,r1,r2,r3,r4],_=>
          generalize Av Ab x=X at *;simp[cF,MJ,s]
      rw[BP];show (cG Z U 4 DL (Av Ab x)).bind _=_;rw[e1];show (cF Z U 4 MJ (Av Ab x)).bind _=_;rw[e2];show (Cr _ _ (l.map (Av Ab))).bind _=_;rw[ih λq hq=>hl q (AE _ hq)]
      rfl
  have e:=e [sh (.str (Aj "points")),sh (Av Ab q),sh (A9 l),sh (DG hs),Af] l rfl hl;have sq:Eu (A9 l)=.ok (l.map (Av Ab)):=rfl;unfold pr9;generalize Ec l=T at *;generalize l.map (Av Ab)=M at e sq;generalize A9 l=L,Av Ab q=Q,DG hs=P at *;simp[G2,Df.run,Bw,Kw,Kv,Kx,Kt,Ks,Ku,Ko,Kj,Kq,KA,Kz,Ky,sq,e]
theorem fX(Z:Z4)(q:R3)(l:Ac R3):G2.run Z [.str (Aj "undo"),Av Ab q,A9 l,DG []]=.ok (pr9 (Aj "nothing") .O):=by
 have a1:zY .list [DG []]=.ok (DG []):=rfl;have a2:zY .len [DG []]=.ok (.int 0):=rfl;unfold pr9;generalize A9 l=L,Av Ab q=Q,DG []=P at *;simp[G2,Df.run,Bw,Kw,Kv,Kx,Kt,Ks,Ku,Ko,Kj,Kq,KA,Kz,Ky,a1,a2]
theorem fW(Z:Z4)(q:R3)(l h:Ac R3)(hs:Ac (Ac R3))(hh:h.length<=30):G2.run Z [.str (Aj "undo"),Av Ab q,A9 l,DG (hs++[h])]=.ok (pr9 (Aj "told") (.L [vz h.length])):=by
 have a1:zY .list [DG (hs++[h])]=.ok (DG (hs++[h])):=rfl;have a2:zY .len [DG (hs++[h])]=.ok (.int ((hs.length+1:Ag):Ai)):=by
  show R.ok (D.int ((hs++[h]).map A9).length)=_;rw[Bc,BW];rfl
 have a3:¬ ((hs.length+1:Ag):Ai)=0:=by omega
 have a4:G8 (DG (hs++[h])) (.int (-1))=.ok (A9 h):=by
  show DU ((hs++[h]).map A9) (-1)=_;unfold DU qd;rw[Ay (by decide),Bc,BW]
  rw[Au (by simp;omega)]
  have:(-1+((hs.length+[h].length:Ag):Ai)).toNat=hs.length:=by simp;omega
  rw[this];simp
 have a5:=iv h;have b:=bs9 (n:=h.length) (by omega)
 unfold pr9;generalize ((hs.length+1:Ag):Ai)=N,vz h.length=S,A9 h=H,A9 l=L,Av Ab q=Q,DG (hs++[h])=P at *;simp[G2,Df.run,Bw,Kw,Kv,Kx,Kt,Ks,Ku,Ko,Kj,Kq,KA,Kz,Ky,a1,a2,a3,a4,a5,b]
theorem nE(Z:Z4)(ts:Ac Ah):Pk.run Z [.L (ts.map .str)]=.ok (.bl Ab):=by
 have e:∀(L:D)(ts:Ac Ah),Cr (cG Z [sh L,Af] 1 DL) (cF Z [sh L,Af] 1 Si) (ts.map .str)=.ok (ts.map λ_=>.bl Ab):=λL ts=>by
  induction ts with
  |nil=>rfl
  |cons x l ih=>
   rw[BP];show (Cr _ _ (l.map D.str)).bind _=_;rw[ih];rfl
 have a:∀ ts:Ac Ah,zY .all [.L (ts.map λ_=>D.bl Ab)]=.ok (.bl Ab):=λts=>by
  have:∀ ts:Ac Ah,G4 (ts.map λ_=>D.bl Ab)=.ok Ab:=λts=>by
   induction ts with
   |nil=>rfl
   |cons x l ih=>rw[BP];show (G4 (l.map λ_=>D.bl Ab)).bind _=_;rw[ih];rfl
  show (G4 (ts.map λ_=>D.bl Ab)).bind _=_
  rw[this];rfl
 have e1:=e (.L (ts.map .str)) ts;have e2:=a ts;have is:Eg Z.up [.list] (.L (ts.map .str))=.ok (.bl Ab):=rfl;have sq:Eu (.L (ts.map .str))=.ok (ts.map D.str):=rfl;generalize (ts.map λ_=>D.bl Ab)=B,ts.map D.str=M at *
 generalize D.L M=L at *;simp[Pk,Df.run,Bw,e1,e2,is,sq]
end
noncomputable def zp(p:Ai)(l:Ac R3)(hs:Ac (Ac R3)):Dk:=⟨.int p,l.map (Av Ab),.O,hs.map λh=>.H [A9 h,.O]⟩
noncomputable def laW:Ac Ah:=["kind", "side", "polar", "pole"]
noncomputable def lmW:Ac Ah:=["five", "curve"]
noncomputable def llW:Ac Ah:=["put", "take", "grow"]
noncomputable def KS:Ac (Ah×Ai):=[("put",3),("take",3),("grow",0),("five",0),("curve",6),("undo",0),("points",0),("look",0),("draw",0),("kind",0),("side",3),("polar",3),("pole",3)]
noncomputable def gg:E:=.bi .ssplit {.v 1,.str (Aj " ")}
noncomputable def GB(Z1 Z2:Z4):Dk->Ac D->RK:=Hu laW lmW llW (λr=>evE Z2 [Af,Aa (.str r,Ae),Af,Af,Af] gg) (Lw Z1 34 KS) (Z2.F 347) (Nw Z1 348 349) Hs (O6 Z1 350)
structure H9 (Z1 Z2:Z4) (p:Ai):Prop where
 put:∀(l:Ac R3)(q:R3),zm p q->l.length<=30->Z1.F 348 [A9 l,Av Ab q]=if q∈l then .exn ⟨107,[(("triple" : Ah),Av Ab q)]⟩ else if l.length=30 then .exn ⟨15,[]⟩ else .ok (A9 (l++[q]))
 take:∀(l:Ac R3)(q:R3),zm p q->Z1.F 349 [A9 l,Av Ab q]=if q∈l then .ok (A9 (l.filter λx=>!decide (x=q))) else .exn ⟨108,[(("triple" : Ah),Av Ab q)]⟩
 pts:∀ l:Ac R3,(∀ q∈l,NF p q)->Z1.F 350 [.int p,A9 l]=.ok (.L (Ec l))
 rr3:∀ a:R3,zm p a->Z1.F 34 [.int p,.L [.str (dg a.1.toNat),.str (dg a.2.1.toNat),.str (dg a.2.2.toNat)]]=.ok (Av Ae a)
 rr0:Z1.F 34 [.int p,.L []]=.ok (.L [])
 tb3:∀ a q:R3,Fm p a q->Z2.F 347 [.int p,Av Ae a]=.ok (Av Ab q)
 tb0:Z2.F 347 [.int p,.L []]=.ok .O
section
variable{Z1 Z2:Z4}{p:Ai}{a q:R3}{l:Ac R3}{hs:Ac (Ac R3)}
noncomputable def w5(t:An)(a:R3):Ah:=vq t a.1.toNat a.2.1.toNat a.2.2.toNat
theorem rH(hp:P4 p)(h:zm p a)(t:An):evE Z2 [Af,Aa (.str (w5 t a),Ae),Af,Af,Af] gg=.ok (.L [.str (zh t),.str (dg a.1.toNat),.str (dg a.2.1.toNat),.str (dg a.2.2.toNat)]):=by
 have:=hp.hi;obtain⟨⟨a0,a1⟩,⟨b0,b1⟩,c0,c1⟩:=h;have e:=cs9 (t:=t) (a:=a.1.toNat) (b:=a.2.1.toNat) (c:=a.2.2.toNat) (by omega) (by omega) (by omega)
 show zY .ssplit [.str (w5 t a),.str sp7]=_;exact e
theorem zQ(h:H9 Z1 Z2 p)(hi:zm p a)(t:An):Lw Z1 34 KS [.int p,.L [.str (zh t),.str (dg a.1.toNat),.str (dg a.2.1.toNat),.str (dg a.2.2.toNat)]]=.ok (Av Ae a):=by
 unfold Lw;dsimp only;rw[h.rr3 a hi];have:KS.lookup (zh t)=Aa 3:=by cases t<;>decide
 show (match KS.lookup (zh t) with|none=>R.exn ⟨12,[]⟩|some k=>if (([D.int a.1,.int a.2.1,.int a.2.2]:Ac D).length:Ai)=k then .ok (D.L [.int a.1,.int a.2.1,.int a.2.2]) else .exn ⟨12,[]⟩)=_
 rw[this];rfl
theorem RX(h:H9 Z1 Z2 p)(hw:KS.lookup w=Aa 0):Lw Z1 34 KS [.int p,.L [.str w]]=.ok (.L []):=by
 unfold Lw;dsimp only;rw[h.rr0];show (match KS.lookup w with|none=>R.exn ⟨12,[]⟩|some k=>if ((([]:Ac D).length:Ag):Ai)=k then .ok (D.L []) else .exn ⟨12,[]⟩)=_
 rw[hw];rfl
theorem VJ(h:H9 Z1 Z2 p)(hp:P4 p)(hi:zm p a)(hf:Fm p a q)(t:An):GB Z1 Z2 (zp p l hs) [.str (w5 t a)]=Nw Z1 348 349 (zp p l hs) [.str (zh t),Av Ab q]:=by
 unfold GB Hu;dsimp only;rw[rH hp hi t];dsimp only;rw[show (zp p l hs).p=D.int p from rfl,zQ h hi t]
 dsimp only;rw[h.tb3 a q hf];dsimp only;unfold O1;cases t<;>rfl
theorem hZ(h:H9 Z1 Z2 p)(hq:zm p q)(hp:P4 p)(hi:zm p a)(hf:Fm p a q)(hl:l.length<=30)(hh:hs.length<900):GB Z1 Z2 (zp p l hs) [.str (w5 Ae a)]=if q∈l then .exn ⟨107,[(("triple" : Ah),Av Ab q)]⟩ else if l.length=30 then .exn ⟨15,[]⟩ else .ok (.L [vz (l.length+1)]) (zp p (l++[q]) (hs++[l])):=by
 rw[VJ h hp hi hf];unfold Nw;dsimp only;rw[Au (show zh Ae=("put" : Ah) from rfl)]
 have e:=h.put l q hq hl;rw[show D.L (zp p l hs).l=A9 l from rfl,e]
 by_cases c1:q∈l
 .rw[Au c1,Au c1]
 .rw[Ay c1,Ay c1];by_cases c2:l.length=30
  .rw[Au c2,Au c2]
  .rw[Ay c2,Ay c2];show (if (zp p l hs).ps.length<900/\((l++[q]).map (Av Ab)).length<900 then RK.ok (.L [.str (toString (((l++[q]).map (Av Ab)).length:Ai))]) (G9 (zp p l hs) ((l++[q]).map (Av Ab)) (zp p l hs).c) else .bad)=_
   have e1:((l++[q]).map (Av Ab)).length=l.length+1:=by simp
   have e2:(zp p l hs).ps.length=hs.length:=by simp[zp]
   rw[Au (by rw[e1,e2];omega),e1]
   unfold vz G9 zp;simp[A9]
theorem eU(h:H9 Z1 Z2 p)(hq:zm p q)(hp:P4 p)(hi:zm p a)(hf:Fm p a q)(hl:l.length<=30)(hh:hs.length<900)(hn:l.Nodup):GB Z1 Z2 (zp p l hs) [.str (w5 Ab a)]=if q∈l then .ok (.L [vz (l.length-1)]) (zp p (l.filter λx=>!decide (x=q)) (hs++[l])) else .exn ⟨108,[(("triple" : Ah),Av Ab q)]⟩:=by
 rw[VJ h hp hi hf];unfold Nw;dsimp only;rw[Ay (show ¬ zh Ab=("put" : Ah) from by decide),Au (show zh Ab=("take" : Ah) from rfl)]
 have e:=h.take l q hq;rw[show D.L (zp p l hs).l=A9 l from rfl,e]
 by_cases c1:q∈l
 .rw[Au c1,Au c1];show (if (zp p l hs).ps.length<900/\((l.filter λx=>!decide (x=q)).map (Av Ab)).length<900 then RK.ok (.L [.str (toString (((l.filter λx=>!decide (x=q)).map (Av Ab)).length:Ai))]) (G9 (zp p l hs) ((l.filter λx=>!decide (x=q)).map (Av Ab)) (zp p l hs).c) else .bad)=_
  have e1:((l.filter λx=>!decide (x=q)).map (Av Ab)).length=l.length-1:=by
   rw[Bc];have:=List.Nodup.erase_eq_filter hn q;have e3:(l.filter λx=>!decide (x=q))=l.erase q:=by
    rw[this]
    congr 1
    funext x
    simp only[bne];rw[DM];simp
   rw[e3,List.length_erase_of_mem c1]
  have e2:(zp p l hs).ps.length=hs.length:=by simp[zp]
  rw[Au (by rw[e1,e2];omega),e1]
  unfold vz G9 zp;simp[A9]
 .rw[Ay c1,Ay c1]
theorem Uy(h:H9 Z1 Z2 p)(hl:∀ q∈l,NF p q):GB Z1 Z2 (zp p l hs) [.str (Aj "points")]=.ok (.L (Ec l)) (zp p l hs):=by
 unfold GB Hu;dsimp only;rw[show evE Z2 [Af,Aa (.str (Aj "points"),Ae),Af,Af,Af] gg=.ok (.L [.str (Aj "points")]) from xN]
 dsimp only;rw[show (zp p l hs).p=D.int p from rfl,RX h (by decide)]
 dsimp only;rw[h.tb0];show O6 Z1 350 (zp p l hs) [.str (Aj "points")]=_;unfold O6;dsimp only;rw[Au rfl,show (zp p l hs).p=D.int p from rfl,show D.L (zp p l hs).l=A9 l from rfl,h.pts l hl]
 rfl
theorem hV(h:H9 Z1 Z2 p):GB Z1 Z2 (zp p l []) [.str (Aj "undo")]=.exn ⟨17,[]⟩:=by
 unfold GB Hu;dsimp only;rw[show evE Z2 [Af,Aa (.str (Aj "undo"),Ae),Af,Af,Af] gg=.ok (.L [.str (Aj "undo")]) from Wq]
 dsimp only;rw[show (zp p l []).p=D.int p from rfl,RX h (by decide)]
 dsimp only;rw[h.tb0];rfl
theorem hU(h:H9 Z1 Z2 p){g:Ac R3}(hg:g.length<=30):GB Z1 Z2 (zp p l (hs++[g])) [.str (Aj "undo")]=.ok (.L [vz g.length]) (zp p g hs):=by
 unfold GB Hu;dsimp only;rw[show evE Z2 [Af,Aa (.str (Aj "undo"),Ae),Af,Af,Af] gg=.ok (.L [.str (Aj "undo")]) from Wq]
 dsimp only;rw[show (zp p l (hs++[g])).p=D.int p from rfl,RX h (by decide)]
 dsimp only;rw[h.tb0];show Hs (zp p l (hs++[g])) []=_;have e:(zp p l (hs++[g])).ps.getLast?=Aa (.H [.L (g.map (Av Ab)),.O]):=by
  unfold zp;simp[A9]
 unfold Hs;simp only[e];rw[Au (by rw[Bc];omega),Bc]
 unfold vz zp;simp
end
noncomputable def Mr:Ag->Ac Ag
 |0=>[0]
 |12=>[12,0]
 |15=>[15,0]
 |17=>[17,0]
 |107=>[107,0]
 |108=>[108,0]
 |_=>[]
theorem O2(hu:Z.up=Mr)(d:D):MG.run Z [.exc 107 [(("triple" : Ah),d)]]=.ok (.str (Aj "alike"))/\MG.run Z [.exc 108 [(("triple" : Ah),d)]]=.ok (.str (Aj "not on"))/\MG.run Z [.exc 15 []]=.ok (.str (Aj "many"))/\MG.run Z [.exc 17 []]=.ok (.str (Aj "nothing")):=by
 obtain⟨F,G,up,fr,xn⟩:=Z;have hu:up=Mr:=hu;subst hu;exact⟨rfl,rfl,rfl,rfl⟩
noncomputable def kx(Z1 Z2 Z3:Z4):Dk->Ac D->RK:=nn Mr (Z3.F 356) (Z3.F 360) (GB Z1 Z2)
structure ê (Z3:Z4):Prop where
 tx:∀ ts:Ac Ah,Z3.F 356 [.L (ts.map .str)]=.ok (.bl Ab)
 r107:∀ d,Z3.F 360 [.exc 107 [(("triple" : Ah),d)]]=.ok (.str (Aj "alike"))
 r108:∀ d,Z3.F 360 [.exc 108 [(("triple" : Ah),d)]]=.ok (.str (Aj "not on"))
 r15:Z3.F 360 [.exc 15 []]=.ok (.str (Aj "many"))
 r17:Z3.F 360 [.exc 17 []]=.ok (.str (Aj "nothing"))
section
variable{Z1 Z2 Z3:Z4}{p:Ai}{a q:R3}{l:Ac R3}{hs:Ac (Ac R3)}{k k':Dk}{ds:Ac D}
theorem Ni(h:ê Z3){ts:Ac Ah}(e:GB Z1 Z2 k ds=.ok (.L (ts.map .str)) k'):kx Z1 Z2 Z3 k ds=.ok (pr9 (Aj "told") (.L (ts.map .str))) k':=by
 unfold kx nn;rw[e];dsimp only;rw[h.tx];rfl
theorem O0(h:ê Z3){y:Ex}{nm:Ah}(e:GB Z1 Z2 k ds=.exn y)(r:Z3.F 360 [.exc y.c y.fs]=.ok (.str nm))(hu:(Mr y.c).contains 0=Ab/\nm≠Aj "told"):kx Z1 Z2 Z3 k ds=.ok (pr9 nm .O) k:=by
 unfold kx nn;rw[e];dsimp only;rw[r];exact Au hu
theorem W9(x:Ah)(l:Ac R3):Y8 5 (pr9 x (.L (Ec l)))=Ab:=by
 show (Ab&&((Ec l).all (Y8 3)&&Ab))=Ab;rw[Bool.true_and,JV];unfold Ec;rw[EC,Bh];intro _ _;rfl
theorem Sc:∀ ts:Ac Ah,LE (ts.map .str) (ts.map .str)=Ab
 |[]=>rfl
 |t::ts=>by
  show ((t==t)&&LE (ts.map .str) (ts.map .str))=Ab;rw[Sc ts,BE];rfl
theorem LX(l:Ac R3):Ec l=(l.map λq=>tq Ae q).map D.str:=by
 unfold Ec;rw[Ig];rfl
theorem OU(x:Ah)(ts:Ac Ah):Tm (pr9 x (.L (ts.map .str))) (pr9 x (.L (ts.map .str)))=Ab:=by
 show ((x==x)&&(LE (ts.map .str) (ts.map .str)&&Ab))=Ab;rw[Sc,BE];rfl
theorem OW(x:Ah):Tm (pr9 x .O) (pr9 x .O)=Ab:=by
 show ((x==x)&&(Ab&&Ab))=Ab;rw[BE];rfl
end
noncomputable def Ng:S:=.asgT [6,7] (.call 363 {.v 0,.v 1,.v 5,.v 3})
noncomputable def OI:S:=.asg 8 Ae (.v 6)
noncomputable def Ln:S:=.ife (.or {.cmp .Eq (.v 6) (.str (Aj "put")),.cmp .Eq (.v 6) (.str (Aj "take"))}) {.asg 8 Ae (.B .Add (.B .Add (.v 6) (.str (Aj " "))) (.call 359 {.v 1,.v 7,.call 354 {.v 0,.B .Add (.int 70) (.v 5)}}))} .nil
noncomputable def OX:E:=.call 364 {.v 6,.v 7,.v 3,.v 4}
noncomputable def Lo:E:=.cmp .NotEq (.v 11) (.v 7)
noncomputable def Mf:E:=.v 11
noncomputable def Ny:Ss:=.cons (.asg 3 Ab (.comp Mf 11 (.e (.v 3)) Lo)) {.ife (.cmp .Eq (.v 6) (.str (Aj "put"))) {.app 3 (.v 7)} .nil,.rel 3}
noncomputable def Lp:E:=.bl Ab
noncomputable def Ls:E:=.call 358 {.v 12}
noncomputable def Nf:S:=.asg 9 Ae (.H {.str (Aj "told"),.comp Ls 12 (.e (.v 3)) Lp})
noncomputable def Wp:E:=.call 355 {.v 0}
noncomputable def Wo:E:=.bi .min {.bi .len {.v 0},.int 61}
structure ez (Z:Z4) (ns:Ac Ai):Prop where
 mi:Om Z 354 ns
 rw:xJ Z ns
 rs:xK Z
 pt:RD Z
 dp:∀(q:R3)(l:Ac R3)(hs:Ac (Ac R3)),l.length<=30->Z.F 364 [.str (Aj "put"),Av Ab q,A9 l,DG hs]=.ok (if q∈l then pr9 (Aj "alike") .O else if l.length=30 then pr9 (Aj "many") .O else pr9 (Aj "told") (.L [vz (l.length+1)]))
 dt:∀(q:R3)(l:Ac R3)(hs:Ac (Ac R3)),l.length<=30->Z.F 364 [.str (Aj "take"),Av Ab q,A9 l,DG hs]=.ok (if q∈l then pr9 (Aj "told") (.L [vz (l.length-1)]) else pr9 (Aj "not on") .O)
 dq:∀(p:Ai)(q:R3)(l:Ac R3)(hs:Ac (Ac R3)),P4 p->(∀ x∈l,NF p x)->Z.F 364 [.str (Aj "points"),Av Ab q,A9 l,DG hs]=.ok (pr9 (Aj "told") (.L (Ec l)))
 d0:∀(q:R3)(l:Ac R3),Z.F 364 [.str (Aj "undo"),Av Ab q,A9 l,DG []]=.ok (pr9 (Aj "nothing") .O)
 d1:∀(q:R3)(l h:Ac R3)(hs:Ac (Ac R3)),h.length<=30->Z.F 364 [.str (Aj "undo"),Av Ab q,A9 l,DG (hs++[h])]=.ok (pr9 (Aj "told") (.L [vz h.length]))
 up:Z.up=Mr
theorem Xp{a b:R α}{k:α->O}(e:a=b)(h:O.of U b k=o):O.of U a k=o:=e ▸ h
theorem Xq{β:Type}{a b:R α}{f:α->R β}{k:β->O}(e:a=b)(h:O.of U (b.bind f) k=o):O.of U (a.bind f) k=o:=e ▸ h
theorem zT{a b:R α}{k:α->O}{s:Rho->O}(e:a=b)(h:(O.of U b k).seq s=o):(O.of U a k).seq s=o:=e ▸ h
section
variable{Z Z1 Z2 Z3:Z4}{ns:Ac Ai}{p k:Ai}{a q:R3}{l:Ac R3}{hs:Ac (Ac R3)}
theorem st1(h:ez Z ns)(hp:P4 p)(k0:0<=k)(hl:∀ x∈l,NF p x):∃ w q,ϴ w/\NF p q/\yz Z (LT (zX (Z5 (A9 l)) (Z5 (.int k)) Af Af Af Af (scr ns) (.int p))) Ng=.next (LT (zX (Z5 (A9 l)) (Z5 (.int k)) (Z5 (.str w)) (Z5 (Av Ab q)) Af Af (scr ns) (.int p))):=by
 obtain⟨w,q,hw,hq,e⟩:=h.rw p k l hp k0 hl;refine⟨w,q,hw,hq,?_⟩;generalize A9 l=L,Av Ab q=Q,scr ns=S at *;have e2:evE Z (LT (zX (Z5 L) (Z5 (.int k)) Af Af Af Af S (.int p))) (.call 363 (.cons (.v 0) (.cons (.v 1) (.cons (.v 5) (.cons (.v 3) .nil)))))=.ok (.H [.str w,Q]):=by
  show (Z.F 363 [S,.int p,.int k,L]).bind _=_;rw[e];rfl
 unfold Ng;exact Xp e2 rfl
theorem st2{L Q S:D}:yz Z (LT (zX (Z5 L) (Z5 (.int k)) (Z5 (.str w)) (Z5 Q) Af Af S (.int p))) OI=.next (LT (zX (Z5 L) (Z5 (.int k)) (Z5 (.str w)) (Z5 Q) (Z5 (.str w)) Af S (.int p))):=rfl
theorem WG{L Q S:D}(h1:¬ w=Aj "put")(h2:¬ w=Aj "take"):yz Z (LT (zX (Z5 L) (Z5 (.int k)) (Z5 (.str w)) (Z5 Q) (Z5 (.str w)) Af S (.int p))) Ln=.next (LT (zX (Z5 L) (Z5 (.int k)) (Z5 (.str w)) (Z5 Q) (Z5 (.str w)) Af S (.int p))):=by
 have e:evE Z (LT (zX (Z5 L) (Z5 (.int k)) (Z5 (.str w)) (Z5 Q) (Z5 (.str w)) Af S (.int p))) (.or (.cons (.cmp .Eq (.v 6) (.str (Aj "put"))) (.cons (.cmp .Eq (.v 6) (.str (Aj "take"))) .nil)))=.ok (.bl Ae):=by
  show (R.ok (D.bl (w==Aj "put"))).bind (λx=>(Dj x).bind λc=>if c=Ab then R.ok (D.bl Ab) else R.ok (D.bl (w==Aj "take")))=_
  rw[Bg.mpr h1,Bg.mpr h2];rfl
 unfold Ln;exact Xq e rfl
theorem WF(h:ez Z ns)(hp:P4 p)(k0:0<=k){L:D}(t:An)(hq:NF p q):∃ a,zm p a/\Fm p a q/\yz Z (LT (zX (Z5 L) (Z5 (.int k)) (Z5 (.str (zh t))) (Z5 (Av Ab q)) (Z5 (.str (zh t))) Af (scr ns) (.int p))) Ln=.next (LT (zX (Z5 L) (Z5 (.int k)) (Z5 (.str (zh t))) (Z5 (Av Ab q)) (Z5 (.str (w5 t a))) Af (scr ns) (.int p))):=by
 obtain⟨m,m0,e1⟩:=h.mi (70+k) (by omega)
 obtain⟨a,ha,hf,e2⟩:=h.rs p m q hp m0 hq;refine⟨a,ha,hf,?_⟩;have lj:(jq a).length<=10:=(Q0 hp ha).ln;have b1:Dc .Add (.str (zh t)) (.str sp7)=.ok (.str (zh t++sp7)):=by cases t<;>rfl
 have b2:Dc .Add (.str (zh t++sp7)) (.str (jq a))=.ok (.str (w5 t a)):=by
  rw[Ld,Au]
  .rfl
  .have:(zh t++sp7).length<=5:=by cases t<;>decide
   exact sz7 (by omega)
 generalize Av Ab q=Q,scr ns=S,w5 t a=Rw,jq a=J at *;have e3:evE Z (LT (zX (Z5 L) (Z5 (.int k)) (Z5 (.str (zh t))) (Z5 Q) (Z5 (.str (zh t))) Af S (.int p))) (.B .Add (.B .Add (.v 6) (.str (Aj " "))) (.call 359 (.cons (.v 1) (.cons (.v 7) (.cons (.call 354 (.cons (.v 0) (.cons (.B .Add (.int 70) (.v 5)) .nil))) .nil)))))=.ok (.str Rw):=by
  have z1:evE Z (LT (zX (Z5 L) (Z5 (.int k)) (Z5 (.str (zh t))) (Z5 Q) (Z5 (.str (zh t))) Af S (.int p))) (.call 354 (.cons (.v 0) (.cons (.B .Add (.int 70) (.v 5)) .nil)))=.ok (.int m):=by
   show (Z.F 354 [S,.int (70+k)]).bind _=_;rw[e1];rfl
  have z2:evE Z (LT (zX (Z5 L) (Z5 (.int k)) (Z5 (.str (zh t))) (Z5 Q) (Z5 (.str (zh t))) Af S (.int p))) (.call 359 (.cons (.v 1) (.cons (.v 7) (.cons (.call 354 (.cons (.v 0) (.cons (.B .Add (.int 70) (.v 5)) .nil))) .nil))))=.ok (.str J):=by
   rw[fU,L6,L6,L6,TY,z1];show (Z.F 359 [.int p,Q,.int m]).bind _=_;rw[e2];rfl
  rw[US,TY,z2,gG,US];show ((Dc .Add (.str (zh t)) (.str sp7)).bind λx=>(R.ok (D.str J)).bind λy=>Dc .Add x y)=_
  rw[b1];exact b2
 have e4:evE Z (LT (zX (Z5 L) (Z5 (.int k)) (Z5 (.str (zh t))) (Z5 Q) (Z5 (.str (zh t))) Af S (.int p))) (.or (.cons (.cmp .Eq (.v 6) (.str (Aj "put"))) (.cons (.cmp .Eq (.v 6) (.str (Aj "take"))) .nil)))=.ok (.bl Ab):=by
  cases t<;>rfl
 unfold Ln;refine Xq e4 ?_;exact zT e3 rfl
end
section
variable{Z Z1 Z2 Z3:Z4}{ns:Ac Ai}{p k:Ai}{a q:R3}{l:Ac R3}{hs:Ac (Ac R3)}
theorem ND{d:D}(e:Z.F 364 [.str w,Av Ab q,A9 l,DG hs]=.ok d):evE Z [Af,Af,Af,Z5 (A9 l),Z5 (DG hs),Af,Z5 (.str w),Z5 (Av Ab q),Af,Af,Af,Af,Af] OX=.ok d:=by
 generalize A9 l=L,Av Ab q=Q,DG hs=P at *;show (Z.F 364 [.str w,Q,L,P]).bind _=_;rw[e];rfl
theorem rJ(q:R3)(U:Rho)(hρ:∃ L K W S p',U=LT (zX L K W (Z5 (Av Ab q)) Af Af S p')):∀ l:Ac R3,Cr (cG Z U 11 Lo) (cF Z U 11 Mf) (l.map (Av Ab))=.ok ((l.filter λx=>!decide (x=q)).map (Av Ab)):=λl=>by
 obtain⟨L,K,W,S,p',rfl⟩:=hρ
 induction l with
 |nil=>rfl
 |cons x l ih=>
  have e:cG Z (LT (zX L K W (Z5 (Av Ab q)) Af Af S p')) 11 Lo (Av Ab x)=.ok (!decide (x=q)):=by
   have:BS .NotEq (Av Ab x) (Av Ab q)=.ok (.bl (!decide (x=q))):=by
    show (if (Y8 5 (Av Ab x)&&Y8 5 (Av Ab q))=Ab then R.ok (D.bl (!Tm (Av Ab x) (Av Ab q))) else .bad)=_
    rw[M6,Au (by rfl)]
   show (BS .NotEq (Av Ab x) (Av Ab q)).bind Bq=_;rw[this];rfl
  have e2:cF Z (LT (zX L K W (Z5 (Av Ab q)) Af Af S p')) 11 Mf (Av Ab x)=.ok (Av Ab x):=rfl;rw[BP];show (cG Z _ 11 Lo (Av Ab x)).bind _=_;rw[e];by_cases c:x=q
  .simp[c];exact ih
  .simp[c,e2];rw[ih];rfl
theorem bb9(t:An)(hl:l.length<=900):U6 Z (LT (zX (Z5 (A9 l)) (Z5 (.int k)) (Z5 (.str (zh t))) (Z5 (Av Ab q)) Af Af (scr ns) (.int p))) Ny=.next (LT (zX (Z5 (A9 ((l.filter λx=>!decide (x=q))++if t=Ab then [] else [q]))) (Z5 (.int k)) (Z5 (.str (zh t))) (Z5 (Av Ab q)) Af Af (scr ns) (.int p))):=by
 have e:=rJ (Z:=Z) q (LT (zX (Z5 (A9 l)) (Z5 (.int k)) (Z5 (.str (zh t))) (Z5 (Av Ab q)) Af Af (scr ns) (.int p))) ⟨_,_,_,_,_,rfl⟩ l;have e1:evE Z (LT (zX (Z5 (A9 l)) (Z5 (.int k)) (Z5 (.str (zh t))) (Z5 (Av Ab q)) Af Af (scr ns) (.int p))) (.comp Mf 11 (.e (.v 3)) Lo)=.ok (.L ((l.filter λx=>!decide (x=q)).map (Av Ab))):=by
  show (zn (Cr (cG Z _ 11 Lo) (cF Z _ 11 Mf) (l.map (Av Ab)))).bind _=_;rw[e];rfl
 have hf:(l.filter λx=>!decide (x=q)).length<=l.length:=X8 _ _
 generalize (l.filter λx=>!decide (x=q))=f at *
 unfold Ny;show (O.of _ (evE Z _ (.comp Mf 11 (.e (.v 3)) Lo)) _).seq _=_;rw[e1];cases t with
 |true=>
  rw[Au rfl,BA];rfl
 |false=>
  rw[Ay (by decide)]
  have sz:CY ((f.map (Av Ab)).length+1)=Ab:=GQ.mpr (by rw[Bc];omega)
  show O.seq (O.seq (if CY ((f.map (Av Ab)).length+1)=Ab then _ else _) _) _=_
  rw[Au sz];unfold A9;rw[Yd];rfl
theorem st6(h:ez Z ns)(hp:P4 p)(hl:∀ x∈l,NF p x):yz Z (LT (zX (Z5 (A9 l)) Af Af Af Af Af (scr ns) (.int p))) Nf=.next (LT (zX (Z5 (A9 l)) Af Af Af Af (Z5 (.H [.str (Aj "told"),.L (Ec l)])) (scr ns) (.int p))):=by
 have e:∀(L S:D)(l:Ac R3),(∀ q∈l,NF p q)->Cr (cG Z (LT (zX (Z5 L) Af Af Af Af Af S (.int p))) 12 Lp) (cF Z (LT (zX (Z5 L) Af Af Af Af Af S (.int p))) 12 Ls) (l.map (Av Ab))=.ok (Ec l):=λL S l hl=>by
  induction l with
  |nil=>rfl
  |cons x l ih=>
   have hx:=hl x (by simp)
   have s:=h.pt p x hp hx.1;have e1:cG Z (LT (zX (Z5 L) Af Af Af Af Af S (.int p))) 12 Lp (Av Ab x)=.ok Ab:=rfl;have e2:cF Z (LT (zX (Z5 L) Af Af Af Af Af S (.int p))) 12 Ls (Av Ab x)=.ok (.str (tq Ae x)):=by
    show (Z.F 358 [Av Ab x]).bind _=_;rw[s];rfl
   rw[BP];show (cG Z _ 12 Lp (Av Ab x)).bind _=_;rw[e1];show (cF Z _ 12 Ls (Av Ab x)).bind _=_;rw[e2];show (Cr _ _ (l.map (Av Ab))).bind _=_;rw[ih λq hq=>hl q (AE _ hq)]
   rfl
 have e1:evE Z (LT (zX (Z5 (A9 l)) Af Af Af Af Af (scr ns) (.int p))) (.H (.cons (.str (Aj "told")) (.cons (.comp Ls 12 (.e (.v 3)) Lp) .nil)))=.ok (.H [.str (Aj "told"),.L (Ec l)]):=by
  have ec:evE Z (LT (zX (Z5 (A9 l)) Af Af Af Af Af (scr ns) (.int p))) (.comp Ls 12 (.e (.v 3)) Lp)=.ok (.L (Ec l)):=by
   show (zn (Cr (cG Z _ 12 Lp) (cF Z _ 12 Ls) (l.map (Av Ab)))).bind _=_;rw[e (A9 l) (scr ns) l hl];rfl
  rw[jV,MU,MU,ec];rfl
 unfold Nf;exact Xp e1 rfl
structure jg (p:Ai) (l:Ac R3):Prop where
 ln:l.length<=30
 nd:l.Nodup
 nf:∀ q∈l,NF p q
def Xa(Z:Z4)(GS:Dk->Ac D->RK)(ns:Ac Ai)(p:Ai)(q:Dk)(l:Ac D):Prop:=∃ ts xo,yz Z (LT (zX (Z5 (.L l)) Af Af Af Af Af (scr ns) (.int p))) Nf=.next (LT (zX (Z5 (.L l)) Af Af Af Af (Z5 (.H [.str "told",.L ts])) (scr ns) (.int p)))/\GS q [.str "points"]=.ok (.H [.str "told",.L xo]) q/\Y8 4 (.L ts)=Ab/\Y8 4 (.L xo)=Ab/\LE xo ts=Ab/\xo.length<900
theorem sL(h:ez Z ns)(h1:H9 Z1 Z2 p)(h3:ê Z3)(hp:P4 p)(o:jg p l):Xa Z (kx Z1 Z2 Z3) ns p (zp p l hs) (l.map (Av Ab)):=by
 have e:=Uy (hs:=hs) h1 o.nf;rw[LX]at e;have s:=Ni h3 e;have f:Y8 4 (.L (Ec l))=Ab:=by
  show (Ec l).all (Y8 3)=Ab;unfold Ec;rw[EC,Bh];intro _ _;rfl
 refine⟨Ec l,Ec l,st6 h hp o.nf,?_,f,f,?_,?_⟩
 .rw[LX];exact s
 .rw[LX];exact Sc _
 .unfold Ec;rw[Bc];have:=o.ln;omega
end
section
variable{Z Z1 Z2 Z3:Z4}{ns:Ac Ai}{p:Ai}
theorem jI(l:Ac α)(h:l≠[]):∃ i x,l=i++[x]:=⟨l.dropLast,l.getLast h,(List.dropLast_concat_getLast h).symm⟩
theorem pJ{l:Ac R3}(o:jg p l)(hq:NF p q)(h1:q∉l)(h2:¬ l.length=30):jg p (l++[q]):=by
 have:=o.ln;refine⟨by simp;omega,?_,λx hx=>?_⟩
 .rw[List.nodup_append];refine⟨o.nd,by simp,λa ha b hb=>?_⟩
  simp at hb;subst hb;exact λz=>h1 (z ▸ ha)
 .rcases Ei.mp hx with h|h
  .exact o.nf x h
  .simp at h;rw[h];exact hq
theorem lM{l:Ac R3}(o:jg p l):jg p (l.filter λx=>!decide (x=q)):=by
 have:=X8 (λx=>!decide (x=q)) l
 have:=o.ln;exact⟨by omega,o.nd.sublist List.filter_sublist,λx hx=>o.nf x (Yg.mp hx).1⟩
theorem sM{l:Ac R3}(h:q∉l):(l.filter λx=>!decide (x=q))=l:=by
 rw[List.filter_eq_self];intro x hx;have:x≠q:=λz=>h (z ▸ hx)
 simp[this]
noncomputable abbrev Lp9(Z:Z4)(GS GY:Dk->Ac D->RK)(ns:Ac Ai)(p:Ai):Ac Ai->Dk->Ac D->Ac D->Prop:=LF Z Ng OI Ln OX Ny GS GY (scr ns) (.int p) (Xa Z GS ns p)
theorem oy(h:ez Z ns)(h1:H9 Z1 Z2 p)(h3:ê Z3)(hp:P4 p):∀(ks:Ac Ai)(l:Ac R3)(hs:Ac (Ac R3)),(∀ k∈ks,0<=k)->jg p l->(∀ g∈hs,jg p g)->hs.length+ks.length<=800->Lp9 Z (kx Z1 Z2 Z3) (GB Z1 Z2) ns p ks (zp p l hs) (l.map (Av Ab)) (hs.map A9)
 |[],l,hs,_,o,_,_=>sL h h1 h3 hp o
 |k::ks,l,hs,hk,o,os,hz=>by
  have k0:=hk k (by simp)
  have vy:∀ k∈ks,0<=k:=λx hx=>hk x (AE _ hx)
  have bo:hs.length+1+ks.length<=800:=by simp at hz;omega
  obtain⟨w,q,hw,hq,e1⟩:=st1 h hp k0 o.nf;rcases hw with rfl|rfl|rfl|rfl
  .obtain⟨a,ha,hf,e3⟩:=WF (k:=k) (L:=A9 l) h hp k0 Ae hq;have ed:=ND (h.dp q l hs o.ln);have es:=hZ (l:=l) (hs:=hs) h1 hq.1 hp ha hf o.ln (by omega)
   by_cases c1:q∈l
   .rw[Au c1]at ed es;refine⟨_,_,Aj "alike",Av Ab q,.O,_,_,e1,st2,e3,ed,O0 h3 es (h3.r107 _) ⟨rfl,by decide⟩,rfl,rfl,OW _,λ_=>⟨_,_,es,.inl (by rw[h.up];rfl),rfl,rfl,rfl,?_⟩,?_⟩
    .rw[M6];exact CI rfl
    .rw[Ay (λz=>absurd z.1 (by decide)),Ay (λz=>absurd z.1 (by decide))]
     exact oy h h1 h3 hp ks l hs vy o os (by omega)
   .rw[Ay c1]at ed es;by_cases c2:l.length=30
    .rw[Au c2]at ed es;refine⟨_,_,Aj "many",Av Ab q,.O,_,_,e1,st2,e3,ed,O0 h3 es h3.r15 ⟨rfl,by decide⟩,rfl,rfl,OW _,λz=>absurd z (by decide),?_⟩
     rw[Ay (λz=>absurd z.1 (by decide)),Ay (λz=>absurd z.1 (by decide))]
     exact oy h h1 h3 hp ks l hs vy o os (by omega)
    .rw[Ay c2]at ed es;refine⟨_,_,Aj "told",Av Ab q,_,_,_,e1,st2,e3,ed,Ni (ts:=[Aj (toString ((l.length+1:Ag):Ai))]) h3 es,rfl,rfl,OU _ _,λz=>absurd z (by decide),?_⟩
     rw[Ay (λz=>absurd z.2 (by decide)),Au ⟨rfl,by decide⟩]
     refine⟨by rw[Bc];omega,(l++[q]).map (Av Ab),?_,?_⟩
     .have:=bb9 (Z:=Z) (ns:=ns) (p:=p) (k:=k) (q:=q) (l:=l) Ae (by have:=o.ln;omega)
      rwa [sM c1]at this
     .have:=oy h h1 h3 hp ks (l++[q]) (hs++[l]) vy (pJ o hq c1 c2) (λg hg=>(Ei.mp hg).elim (os g) λz=>by simp at z;rw[z];exact o) (by rw[BW];simp;omega)
      have e9:(hs++[l]).map A9=hs.map A9++[A9 l]:=by simp
      rwa [e9]at this
  .obtain⟨a,ha,hf,e3⟩:=WF (k:=k) (L:=A9 l) h hp k0 Ab hq;have ed:=ND (h.dt q l hs o.ln);have es:=eU (l:=l) (hs:=hs) h1 hq.1 hp ha hf o.ln (by omega) o.nd
   by_cases c1:q∈l
   .rw[Au c1]at ed es;refine⟨_,_,Aj "told",Av Ab q,_,_,_,e1,st2,e3,ed,Ni (ts:=[Aj (toString ((l.length-1:Ag):Ai))]) h3 es,rfl,rfl,OU _ _,λz=>absurd z (by decide),?_⟩
    rw[Ay (λz=>absurd z.2 (by decide)),Au ⟨rfl,by decide⟩]
    refine⟨by rw[Bc];omega,(l.filter λx=>!decide (x=q)).map (Av Ab),?_,?_⟩
    .have:=bb9 (Z:=Z) (ns:=ns) (p:=p) (k:=k) (q:=q) (l:=l) Ab (by have:=o.ln;omega)
     rwa [Au rfl,BA]at this
    .have:=oy h h1 h3 hp ks (l.filter λx=>!decide (x=q)) (hs++[l]) vy (lM o) (λg hg=>(Ei.mp hg).elim (os g) λz=>by simp at z;rw[z];exact o) (by rw[BW];simp;omega)
     have e9:(hs++[l]).map A9=hs.map A9++[A9 l]:=by simp
     rwa [e9]at this
   .rw[Ay c1]at ed es;refine⟨_,_,Aj "not on",Av Ab q,.O,_,_,e1,st2,e3,ed,O0 h3 es (h3.r108 _) ⟨rfl,by decide⟩,rfl,rfl,OW _,λ_=>⟨_,_,es,.inr (by rw[h.up];rfl),rfl,rfl,rfl,?_⟩,?_⟩
    .rw[M6];exact CI rfl
    .rw[Ay (λz=>absurd z.1 (by decide)),Ay (λz=>absurd z.1 (by decide))]
     exact oy h h1 h3 hp ks l hs vy o os (by omega)
  .have e3:=WG (Z:=Z) (p:=p) (k:=k) (w:=Aj "undo") (L:=A9 l) (Q:=Av Ab q) (S:=scr ns) (by decide) (by decide)
   by_cases c1:hs=[]
   .subst c1;have ed:=ND (h.d0 q l);have es:=hV (l:=l) h1;refine⟨_,_,Aj "nothing",Av Ab q,.O,_,_,e1,st2,e3,ed,O0 h3 es h3.r17 ⟨rfl,by decide⟩,rfl,rfl,OW _,λz=>absurd z (by decide),?_⟩
    rw[Ay (λz=>absurd z.1 (by decide)),Ay (λz=>absurd z.1 (by decide))]
    exact oy h h1 h3 hp ks l [] vy o os (by simp at hz ⊢;omega)
   .obtain⟨gs,g,rfl⟩:=jI hs c1;have og:=os g (by simp)
    have ed:=ND (h.d1 q l g gs og.ln);have es:=hU (l:=l) (hs:=gs) h1 og.ln;refine⟨_,_,Aj "told",Av Ab q,_,_,_,e1,st2,e3,ed,Ni (ts:=[Aj (toString ((g.length:Ag):Ai))]) h3 es,rfl,rfl,OU _ _,λz=>absurd z (by decide),?_⟩
    rw[Au ⟨rfl,rfl⟩];refine⟨g.map (Av Ab),by simp[A9],?_⟩
    have:=oy h h1 h3 hp ks g gs vy og (λx hx=>os x (ET _ hx)) (by rw[BW]at bo;simp at bo;omega)
    have e9:((gs++[g]).map A9).dropLast=gs.map A9:=by simp
    rw[e9];exact this
  .have e3:=WG (Z:=Z) (p:=p) (k:=k) (w:=Aj "points") (L:=A9 l) (Q:=Av Ab q) (S:=scr ns) (by decide) (by decide)
   have ed:=ND (h.dq p q l hs hp o.nf);have es:=Uy (hs:=hs) h1 o.nf;rw[LX]at ed es;refine⟨_,_,Aj "told",Av Ab q,_,_,_,e1,st2,e3,ed,Ni h3 es,by rw[<-LX];exact W9 _ l,by rw[<-LX];exact W9 _ l,OU _ _,λz=>absurd z (by decide),?_⟩
   rw[Ay (λz=>absurd z.2 (by decide)),Ay (λz=>absurd rfl z.2)]
   exact oy h h1 h3 hp ks l hs vy o os (by omega)
end
theorem mk9(c:Ag)(q:R3)(h:ì q):bt c "triple" [Av Ab q]=.ok ⟨c,[(("triple" : Ah),Av Ab q)]⟩:=by
 obtain⟨p,hp,⟨a0,a1⟩,⟨b0,b1⟩,c0,c1⟩:=h;have:=hp.hi;refine Au ?_;rw[BY];refine .inl ?_;show (Ab&&((decide (0<=q.1)&&decide (q.1<100))&&((decide (0<=q.2.1)&&decide (q.2.1<100))&&((decide (0<=q.2.2)&&decide (q.2.2<100))&&Ab))))=Ab;simp only[Am,AG];exact⟨trivial,⟨a0,by omega⟩,⟨b0,by omega⟩,⟨c0,by omega⟩,trivial⟩
noncomputable def RQ:Ag->Ac D->R Ex
 |12,ds=>.ok ⟨12,[]⟩
 |15,ds=>.ok ⟨15,[]⟩
 |17,ds=>.ok ⟨17,[]⟩
 |107,ds=>bt 107 "triple" ds
 |108,ds=>bt 108 "triple" ds
 |_,_=>.bad
noncomputable def G95:Ag->D
 |2=>.H (llW.map .str)
 |3=>.H (lmW.map .str)
 |4=>.H (laW.map .str)
 |5=>.int 30
 |_=>.O
noncomputable def zV:Prg:=⟨Ab,fun
 |1=>QY
 |9=>NN
 |17=>NV
 |25=>Ql
 |33=>Pz
 |34=>MM
 |347=>MX
 |348=>MN
 |349=>NL
 |350=>Po
 |354=>NM
 |355=>Pl
 |93=>MK
 |356=>Pk
 |357=>P1
 |358=>Pt
 |359=>PB
 |360=>MG
 |363=>Gw
 |364=>G2
 |900=>ua 0
 |901=>ua 1
 |902=>ua 2
 |910=>km
 |920=>aJ
 |931=>Pp
 | _=>⟨0,Ae,.nil⟩,G95,Mr,RQ⟩
theorem xF(ns:Ac Ai)(hl:ns.length<=63):WX (Z6 zV 9) Wp Wo Ng OI Ln OX Ny Nf (kx (Z6 zV 6) (Z6 zV 7) (Z6 zV 8)) (GB (Z6 zV 6) (Z6 zV 7)) (scr ns):=by
 have rs:∀ n,Ol (Z6 zV (n+1)):=λn p m hp=>nI (Z6 zV n) p m hp
 have tu:∀ n,PJ (Z6 zV (n+2)):=λn p m hp z=>bR (rs n) p m hp z
 have fo:∀ n,N8 (Z6 zV (n+3)):=λn p b xs l t hp e it=>iM (rs (n+1)) (tu n) hp e it
 have ii:∀ n,WA (Z6 zV (n+4)):=λn p b q a hp h=>uV (fo n) p b q a hp h
 have ma:∀ n (p:Ai) (b:An) (q a:R3),P4 p->Fm p q a->(Z6 zV (n+5)).F 901 [.int p,Av b q]=.ok (qc p Ae a):=λn p b q a hp h=>uU (ii n) 1 p b q a hp h
 have ro:∀ n,VD (Z6 zV (n+1)):=λn p q hp h=>nG (Z6 zV n) p q hp h
 have sw:∀ n (p:Ai) (q:R3),P4 p->zm p q->(Z6 zV (n+2)).F 931 [qc p Ae q]=.ok (.str (tq Ae q)):=λn p q hp h=>uO (ro n) p q hp h
 have rr:∀ n,Wz (Z6 zV (n+1)):=λn p x hp h0 h1=>uS (Z6 zV n) p x hp h0 h1
 have tx:∀ n,RC (Z6 zV (n+1)):=λn p b q hp h=>uL (Z6 zV n) p b q hp h
 have pt:∀ n,RD (Z6 zV (n+2)):=λn p q hp h=>uT (tx n) p q hp h
 have mi:∀ n,Om (Z6 zV (n+1)) 354 ns:=λn k hk=>iL (Z6 zV n) ns k hk
 have tr:∀ n,VE (Z6 zV (n+1)):=λn p k hp=>qB (Z6 zV n) p k hp
 have xn:∀ n,XN9 (Z6 zV (n+1)):=λn=>⟨rfl,λq h=>mk9 107 q h,λq h=>mk9 108 q h,λd=>rfl⟩
 obtain⟨p,hp,ep⟩:=qC (mi 7);have H1:H9 (Z6 zV 6) (Z6 zV 7) p:=⟨λl q hq h=>nJ (xn 4) l q ⟨p,hp,hq⟩ h,λl q hq=>iK (xn 4) l q ⟨p,hp,hq⟩,λl h=>nK (ma 0) (sw 3) p l hp h,λa h=>nF (rr 4) p a hp h,uR (Z6 zV 5) p,λa q h=>uM (fo 3) p a q hp h,uN (Z6 zV 6) p⟩
 have H3:ê (Z6 zV 8):=⟨λts=>nE (Z6 zV 7) ts,λd=>(O2 (Z:=Z6 zV 7) rfl d).1,λd=>(O2 (Z:=Z6 zV 7) rfl d).2.1,(O2 (Z:=Z6 zV 7) rfl .O).2.2.1,(O2 (Z:=Z6 zV 7) rfl .O).2.2.2⟩
 have HL:ez (Z6 zV 9) ns:=⟨mi 8,λp k l hp k0 h=>uP (mi 7) (tr 7) p k l hp k0 h,λp m q hp m0 h=>uQ (tx 7) p m q hp m0 h,pt 7,λq l hs h=>sP (Z6 zV 8) q l hs h,λq l hs h=>mB (Z6 zV 8) q l hs h,λp q l hs hp h=>sQ hp (pt 6) q l hs h,λq l=>fX (Z6 zV 8) q l,λq l h hs hh=>fW (Z6 zV 8) q l h hs hh,rfl⟩
 have jr:(Z6 zV 9).F 355 [scr ns]=.ok (.int p):=ep;refine⟨.int p,if (ns.length:Ai)>61 then 61 else (ns.length:Ai),?_,?_,?_,?_,?_⟩
 .generalize scr ns=S at jr ⊢;show ((Z6 zV 9).F 355 [S]).bind _=_;rw[jr];rfl
 .show R.ok (D.int (if (61:Ai)<((ns.map D.int).length:Ag) then 61 else ((ns.map D.int).length:Ag)))=_
  rw[Bc]
 .split<;>omega
 .split<;>omega
 .refine oy HL H1 H3 hp _ [] [] (λk hk=>?_) ⟨by simp,Yh,λ_ h=>by simp at h⟩ (λ_ h=>by simp at h) ?_
  .obtain⟨i,_,rfl⟩:=Ih.mp hk;omega
  .rw[Bc,List.length_range];simp only[X9];split<;>omega
end OvC
namespace OvC
open PySem PySem.Spec PyProof.Rows Ov L2
variable{l:Gh}
noncomputable def No:Ac (Ah×Ag×Ag):=([("rest",1,2),("turned_over",9,2),("one_form",17,2),("row_of",25,1),("rest_read",33,2),("rests_read",34,2),("told_by",347,2),("put_in",348,2),("taken_out",349,2),("point_texts",350,2),("_law_mixed",354,2),("_law_prime",355,1),("_law_triple",93,2),("_law_texts",356,1),("_law_text",357,1),("_law_point_text",358,1),("_law_rested",359,3),("_law_refusal",360,1001),("_law_row",363,4),("_law_due",364,4),("1.told",920,1),("1.shown",931,1)]:Ac (Ah×Ag×Ag))
noncomputable def Nx:Ac Ah:=["ValueError", "all", "isinstance", "len", "list", "min", "range", "str", "tuple"]
noncomputable def Ml:Ac (Ah×Ag):=[("NoRow",12),("Alike",107),("TooMany",15),("NotOn",108),("NothingDone",17),("OvalError",0)]
noncomputable def Me:Ac (Ah×Ag):=[("NoRow",12),("NoTriple",3),("NoCurve",5),("Alike",107),("NotOn",108),("TooMany",15),("NothingDone",17),("NoCount",13),("OnLine",118),("NotWhole",14),("OvalError",0)]
noncomputable def Nn:Ac (Ah×Ag):=[("OF_THE_LIST",2),("MAKE_A_CURVE",3),("ASK_THE_CURVE",4),("MOST",5)]
noncomputable abbrev w9(h:An)(n:Ag)(N:Ac Ah)(i d:Ag):An:=GC 80 h No Nx Ml Me Nn (N.take n) N (tp95 i) (zV.defs d)
theorem rW:w9 Ae 2 ["p", "n"] 16 1=Ab:=by decide+kernel
theorem rV:w9 Ae 2 ["p", "n", "turned"] 17 9=Ab:=by decide+kernel
theorem rT:w9 Ae 2 ["p", "numbers", "rests", "first", "factor", "#5", "#6"] 19 17=Ab:=by decide+kernel
theorem rS:w9 Ae 1 ["triple", "#1"] 22 25=Ab:=by decide+kernel
theorem rR:w9 Ae 2 ["p", "word", "number"] 91 33=Ab:=by decide+kernel
theorem rQ:w9 Ae 2 ["p", "words", "rests", "#3"] 92 34=Ab:=by decide+kernel
theorem rP:w9 Ae 2 ["p", "rests"] 100 347=Ab:=by decide+kernel
theorem rO:w9 Ae 2 ["points", "point"] 101 348=Ab:=by decide+kernel
theorem rN:w9 Ae 2 ["points", "point", "#2"] 102 349=Ab:=by decide+kernel
theorem mT:w9 Ae 2 ["p", "points", "#2"] 103 350=Ab:=by decide+kernel
theorem mR:w9 Ae 2 ["_law_script", "_law_k", "_law_cell"] 109 354=Ab:=by decide+kernel
theorem mQ:w9 Ae 1 ["_law_script"] 110 355=Ab:=by decide+kernel
theorem mP:w9 Ae 2 ["_law_p", "_law_number"] 111 93=Ab:=by decide+kernel
theorem mO:w9 Ae 1 ["_law_found", "#1"] 113 356=Ab:=by decide+kernel
theorem mM:w9 Ae 1 ["_law_numbers", "#1"] 114 357=Ab:=by decide+kernel
theorem mL:w9 Ae 1 ["_law_point"] 115 358=Ab:=by decide+kernel
theorem mK:w9 Ae 3 ["_law_p", "_law_triple_here", "_law_cell", "_law_times", "#4"] 116 359=Ab:=by decide+kernel
theorem mJ:w9 Ab 1 ["_law_error", "_law_told", "_law_names"] 117 360=Ab:=by decide+kernel
theorem mI:w9 Ae 4 ["_law_script", "_law_p", "_law_k", "_law_listed", "_law_cell", "_law_point"] 120 363=Ab:=by decide+kernel
theorem mH:w9 Ae 4 ["_law_word", "_law_point", "_law_listed", "_law_past", "#4"] 121 364=Ab:=by decide+kernel
theorem fE:GC 80 Ae No Nx Ml Me Nn ["self"] ["self"] (HR (tp95 23) 1) (zV.defs 920)=Ab:=by decide+kernel
theorem fD:GC 80 Ae No Nx Ml Me Nn ["self"] ["self"] (HR (tp95 24) 0) (zV.defs 931)=Ab:=by decide+kernel
theorem yS:Nu 80 No Nx Ml Me Nn (HR (tp95 23) 0)=Ab:=by decide+kernel
theorem kR:Nt "OvalError" "triple" "triple" (ON (tp95 12))=Ab:=by decide+kernel
theorem kQ:Nt "OvalError" "triple" "triple" (ON (tp95 13))=Ab:=by decide+kernel
set_option maxHeartbeats 0 in
theorem all95{w:AI}{K:Fg}{h:AJ}{mg:Ah->Ao Al}{fa f0 f1 f2 f3 f4 f5 f6 f7 f8 f9 f10 f11 f12 f13 f14 f15 f16 f17 f18 f19 f20 f21 f22 f23 x0 x1 x2 x3 x4 x5 x6 x7 x8 x9 x10 ix1 ix3:Ak}(X:K.In h)(G:h.Ns AO mg)(hfa:mg "law" = Aa (.ref fa)){o0 o1 o2 mt ms0 ms1 ms2 fi:Ak}{oD d0 d1 d2 d3 d4 d5 gC:Ak}{eC:Ag}{tC0 uC0 tC1 uC1 tC2 uC2 tC3 uC3 tC4 uC4 tC5 uC5 tC6 uC6 tC7 uC7 tC8 uC8 tC9 uC9 dl d7 dm d8 dr eg:Cf}{g2:Ak}{õ:Ao Ak}{gm2:Ag}{gs2:Bl (Ao Al)}{ø ù ú:Cf}{g3:Ak}{Á:Ao Ak}{gm3:Ag}{gs3:Bl (Ao Al)}{û ü:Cf}{g4:Ak}{gd4:Ao Ak}{gm4:Ag}{gs4:Bl (Ao Al)}{ý þ ÿ aa:Cf}{gu5:Cf}(a0:yv K f0 "rest" (tp95 16))(a1:yv K f1 "turned_over" (tp95 17))(a2:yv K f2 "one_form" (tp95 19))(a3:yv K f3 "row_of" (tp95 22))(a4:yv K f4 "rest_read" (tp95 91))(a5:yv K f5 "rests_read" (tp95 92))(a6:yv K f6 "rests_of_row" (tp95 99))(a7:yv K f7 "told_by" (tp95 100))(a8:yv K f8 "put_in" (tp95 101))(a9:yv K f9 "taken_out" (tp95 102))(a10:yv K f10 "point_texts" (tp95 103))(a11:yv K f11 "_law_mixed" (tp95 109))(a12:yv K f12 "_law_prime" (tp95 110))(a13:yv K f13 "_law_triple" (tp95 111))(a14:yv K f14 "_law_texts" (tp95 113))(a15:yv K f15 "_law_text" (tp95 114))(a16:yv K f16 "_law_point_text" (tp95 115))(a17:yv K f17 "_law_rested" (tp95 116))(a18:yv K f18 "_law_refusal" (tp95 117))(a19:yv K f19 "_law_said" (tp95 118))(a20:yv K f20 "_law_field" (tp95 119))(a21:yv K f21 "_law_row" (tp95 120))(a22:yv K f22 "_law_due" (tp95 121))(a23:yv K f23 "law" (tp95 122))(Î:OA K "Triple" o0 mt ms0 fi)(m8:OA K "Point" o1 mt ms1 fi)(Ï:OA K "Line" o2 mt ms2 fi)(kt0:fw K o0 [(o0,Ab),(o1,Ae),(o2,Ae)])(kt1:fw K o1 [(o0,Ab),(o1,Ab),(o2,Ae)])(kt2:fw K o2 [(o0,Ab),(o1,Ae),(o2,Ab)])(ii:fq K fi "Triple.__init__" (HR (tp95 23) 0))(rj:n5 K mt "told" "Triple.told" (HR (tp95 23) 1))(rk:n5 K ms1 "shown" "Point.shown" (HR (tp95 24) 0))(da:DA K oD d0 d1 d2 d3 d4 d5)(di:fq K d0 "Desk.__init__" (HR (tp95 107) 0))(dm1:n5 K d1 "say" "Desk.say" (HR (tp95 107) 1))(dm2:n5 K d2 "list_changed" "Desk.list_changed" (HR (tp95 107) 4))(dm3:n5 K d3 "changed" "Desk.changed" (HR (tp95 107) 5))(dm4:n5 K d4 "undone" "Desk.undone" (HR (tp95 107) 6))(dm5:n5 K d5 "list_asked" "Desk.list_asked" (HR (tp95 107) 7))(nC:Bb K AO "COUNTS" = Aa (Aa (.ref gC)))(lC:K.lookup gC=Aa ⟨.type "dict",Af,.dict #[⟨Cj w.params "put",.str "put" tC0,.int 3 uC0⟩,⟨Cj w.params "take",.str "take" tC1,.int 3 uC1⟩,⟨Cj w.params "grow",.str "grow" tC2,.int 0 uC2⟩,⟨Cj w.params "five",.str "five" tC3,.int 0 uC3⟩,⟨Cj w.params "curve",.str "curve" tC4,.int 6 uC4⟩,⟨Cj w.params "undo",.str "undo" tC5,.int 0 uC5⟩,⟨Cj w.params "points",.str "points" tC6,.int 0 uC6⟩,⟨Cj w.params "look",.str "look" tC7,.int 0 uC7⟩,⟨Cj w.params "draw",.str "draw" tC8,.int 0 uC8⟩,⟨Cj w.params "kind",.str "kind" tC9,.int 0 uC9⟩,⟨Cj w.params "side",.str "side" dl,.int 3 d7⟩,⟨Cj w.params "polar",.str "polar" dm,.int 3 d8⟩,⟨Cj w.params "pole",.str "pole" dr,.int 3 eg⟩] eC,#[]⟩)(sC:(gC==GX)=Ae)(gh:XA K "NoRow" x0 Af)(gi:XB K "Alike" x1 ix1 "Alike.__init__" (ON (tp95 12)))(gj:XA K "TooMany" x2 Af)(gk:XB K "NotOn" x3 ix3 "NotOn.__init__" (ON (tp95 13)))(gp:XA K "NothingDone" x4 Af)(lz:XA K "OvalError" x5 Af)(Ò:XO K x5)(ϵ:XE K "NoTriple" x6)(Ϸ:XE K "NoCurve" x7)(ϸ:XE K "NoCount" x8)(Ϲ:XE K "OnLine" x9)(n9:XE K "NotWhole" x10)(sx0:tj K x0 [(x0,Ab),(x1,Ae),(x2,Ae),(x3,Ae),(x4,Ae),(x5,Ae)])(sx6:tj K x6 [(x0,Ae),(x1,Ae),(x2,Ae),(x3,Ae),(x4,Ae),(x5,Ae)])(sx7:tj K x7 [(x0,Ae),(x1,Ae),(x2,Ae),(x3,Ae),(x4,Ae),(x5,Ae)])(sx1:tj K x1 [(x0,Ae),(x1,Ab),(x2,Ae),(x3,Ae),(x4,Ae),(x5,Ae)])(sx3:tj K x3 [(x0,Ae),(x1,Ae),(x2,Ae),(x3,Ab),(x4,Ae),(x5,Ae)])(sx2:tj K x2 [(x0,Ae),(x1,Ae),(x2,Ab),(x3,Ae),(x4,Ae),(x5,Ae)])(sx4:tj K x4 [(x0,Ae),(x1,Ae),(x2,Ae),(x3,Ae),(x4,Ab),(x5,Ae)])(sx8:tj K x8 [(x0,Ae),(x1,Ae),(x2,Ae),(x3,Ae),(x4,Ae),(x5,Ae)])(sx9:tj K x9 [(x0,Ae),(x1,Ae),(x2,Ae),(x3,Ae),(x4,Ae),(x5,Ae)])(lh:tj K x10 [(x0,Ae),(x1,Ae),(x2,Ae),(x3,Ae),(x4,Ae),(x5,Ae)])(sx5:tj K x5 [(x0,Ab),(x1,Ab),(x2,Ab),(x3,Ab),(x4,Ab),(x5,Ab)])(gn2:Bb K AO "OF_THE_LIST" = Aa (Aa (.ref g2)))(gk2:K.lookup g2=Aa ⟨.type "tuple",õ,.seq #[.str (Aj "put") ø,.str (Aj "take") ù,.str (Aj "grow") ú] gm2,gs2⟩)(gn3:Bb K AO "MAKE_A_CURVE" = Aa (Aa (.ref g3)))(gk3:K.lookup g3=Aa ⟨.type "tuple",Á,.seq #[.str (Aj "five") û,.str (Aj "curve") ü] gm3,gs3⟩)(gn4:Bb K AO "ASK_THE_CURVE" = Aa (Aa (.ref g4)))(gk4:K.lookup g4=Aa ⟨.type "tuple",gd4,.seq #[.str (Aj "kind") ý,.str (Aj "side") þ,.str (Aj "polar") ÿ,.str (Aj "pole") aa] gm4,gs4⟩)(gn5:Bb K AO "MOST" = Aa (Aa (.int 30 gu5)))(z0:Bb K AO "ValueError" = Aa Af)(z1:Bb K AO "all" = Aa Af)(z2:Bb K AO "isinstance" = Aa Af)(z3:Bb K AO "len" = Aa Af)(z4:Bb K AO "list" = Aa Af)(z5:Bb K AO "min" = Aa Af)(z6:Bb K AO "range" = Aa Af)(z7:Bb K AO "str" = Aa Af)(z8:Bb K AO "tuple" = Aa Af):
  ∃ fd:Bi,(∀(s:Ar)(v:Al),GE s fd ⟨[v],[]⟩ [("_law_script",v)])/\∀ base:AJ,K.In base->base.Ns AO mg->Y4 l.prog w K mg base (CXR l.prog w) 10 fa fd ["_law_script"] (Nm K):=by
 obtain⟨_,F,e⟩:=a23;obtain⟨_,_,_,_,_,_,_,_,_,rfl,_,_⟩:=F.ex;cases hfa.symm.trans (A3 X G e);have XT95:XT zV.up zV.xn (lw [(12,x0),(107,x1),(15,x2),(108,x3),(17,x4),(0,x5)]) Ml Me K mg:=by
  refine tQ (aCn (gh.row λ_=>by first|exact .inr rfl|exact .inl rfl) (aCn (XB.row X G gi Ò lz.n (.inl rfl) kR (λ_ _ _ _ _ _ _ _=>rfl) λ_=>rfl) (aCn (gj.row λ_=>by first|exact .inr rfl|exact .inl rfl) (aCn (XB.row X G gk Ò lz.n (.inl rfl) kQ (λ_ _ _ _ _ _ _ _=>rfl) λ_=>rfl) (aCn (gp.row λ_=>by first|exact .inr rfl|exact .inl rfl) (aCn (lz.row λ_=>by first|exact .inr rfl|exact .inl rfl) (aNl))))))) (aCn ⟨_,rfl,A3 X G gh.n⟩ (aCn ⟨_,rfl,A3 X G gi.a.n⟩ (aCn ⟨_,rfl,A3 X G gj.n⟩ (aCn ⟨_,rfl,A3 X G gk.a.n⟩ (aCn ⟨_,rfl,A3 X G gp.n⟩ (aCn ⟨_,rfl,A3 X G lz.n⟩ (aNl))))))) (aCn ⟨_,A3 X G gh.n,gh.kc,sx0⟩ (aCn ⟨_,A3 X G ϵ.n,ϵ.kc,sx6⟩ (aCn ⟨_,A3 X G Ϸ.n,Ϸ.kc,sx7⟩ (aCn ⟨_,A3 X G gi.a.n,gi.a.kc,sx1⟩ (aCn ⟨_,A3 X G gk.a.n,gk.a.kc,sx3⟩ (aCn ⟨_,A3 X G gj.n,gj.kc,sx2⟩ (aCn ⟨_,A3 X G gp.n,gp.kc,sx4⟩ (aCn ⟨_,A3 X G ϸ.n,ϸ.kc,sx8⟩ (aCn ⟨_,A3 X G Ϲ.n,Ϲ.kc,sx9⟩ (aCn ⟨_,A3 X G n9.n,n9.kc,lh⟩ (aCn ⟨_,A3 X G lz.n,lz.kc,sx5⟩ (aNl)))))))))))) ?_
  intro c q ds;show RQ c ds=.bad;unfold RQ;split<;>first|rfl|exact absurd rfl (q ("NoRow",12) (by decide))|exact absurd rfl (q ("Alike",107) (by decide))|exact absurd rfl (q ("TooMany",15) (by decide))|exact absurd rfl (q ("NotOn",108) (by decide))|exact absurd rfl (q ("NothingDone",17) (by decide))|exact absurd rfl (q ("OvalError",0) (by decide))
 have T:wp K mg (lw [(12,x0),(107,x1),(15,x2),(108,x3),(17,x4),(0,x5)]) No Nx Ml Me Nn zV 80:=⟨uB X G Î m8 Ï kt0 kt1 kt2,wD Î m8 Ï ii yS rfl rfl rfl rfl λ_ _ _ _ _ _ _ _ _=>rfl,XT95,aCn (CD X G z0) (aCn (CD X G z1) (aCn (CD X G z2) (aCn (CD X G z3) (aCn (CD X G z4) (aCn (CD X G z5) (aCn (CD X G z6) (aCn (CD X G z7) (aCn (CD X G z8) (aNl))))))))),aCn (Qt (is:=[Aj "put",Aj "take",Aj "grow"]) (A3 X G gn2) gk2 (.cons ⟨_,rfl⟩ (.cons ⟨_,rfl⟩ (.cons ⟨_,rfl⟩ (.nil)))) (by simp)) (aCn (Qt (is:=[Aj "five",Aj "curve"]) (A3 X G gn3) gk3 (.cons ⟨_,rfl⟩ (.cons ⟨_,rfl⟩ (.nil))) (by simp)) (aCn (Qt (is:=[Aj "kind",Aj "side",Aj "polar",Aj "pole"]) (A3 X G gn4) gk4 (.cons ⟨_,rfl⟩ (.cons ⟨_,rfl⟩ (.cons ⟨_,rfl⟩ (.cons ⟨_,rfl⟩ (.nil))))) (by simp)) (aCn (sH (A3 X G gn5)) (aNl)))),aCn (Iy 2 1 (by decide+kernel) X G a0 rW) (aCn (Iy 2 9 (by decide+kernel) X G a1 rV) (aCn (Iy 2 17 (by decide+kernel) X G a2 rT) (aCn (Mt 1 25 (by decide+kernel) X G a3 rS) (aCn (Iy 2 33 (by decide+kernel) X G a4 rR) (aCn (Iy 2 34 (by decide+kernel) X G a5 rQ) (aCn (Iy 2 347 (by decide+kernel) X G a7 rP) (aCn (Iy 2 348 (by decide+kernel) X G a8 rO) (aCn (Iy 2 349 (by decide+kernel) X G a9 rN) (aCn (Iy 2 350 (by decide+kernel) X G a10 mT) (aCn (Iy 2 354 (by decide+kernel) X G a11 mR) (aCn (Mt 1 355 (by decide+kernel) X G a12 mQ) (aCn (Iy 2 93 (by decide+kernel) X G a13 mP) (aCn (Mt 1 356 (by decide+kernel) X G a14 mO) (aCn (Mt 1 357 (by decide+kernel) X G a15 mM) (aCn (Mt 1 358 (by decide+kernel) X G a16 mL) (aCn (zP 3 359 (by decide+kernel) X G a17 mK) (aCn (Mt 1001 360 (by decide+kernel) X G a18 mJ) (aCn (WJ 4 363 (by decide+kernel) X G a21 mI) (aCn (WJ 4 364 (by decide+kernel) X G a22 mH) (aCn (WI 920 (by decide+kernel) (KR (by decide:1<3) m8.n) m8.ft rj fE λ_ _ _ _ _ _ _=>rfl) (aCn (WI 931 (by decide+kernel) (KR (by decide:1<3) m8.n) m8.fs rk fD λ_ _ _ _ _ _ _=>rfl) (aNl))))))))))))))))))))))⟩
 obtain⟨_,Fi⟩:=di;obtain⟨_,Fs⟩:=dm1;obtain⟨_,Fl⟩:=dm2;obtain⟨_,Fc⟩:=dm3;obtain⟨_,Fu⟩:=dm4;obtain⟨_,Fa⟩:=dm5;obtain⟨_,Fr,er⟩:=a6;obtain⟨_,Fd,ed⟩:=a19;obtain⟨_,Ff,ef⟩:=a20;have cC:Mi l.prog w K gC KS:=rM (xs:=[("put",3,tC0,uC0),("take",3,tC1,uC1),("grow",0,tC2,uC2),("five",0,tC3,uC3),("curve",6,tC4,uC4),("undo",0,tC5,uC5),("points",0,tC6,uC6),("look",0,tC7,uC7),("draw",0,tC8,uC8),("kind",0,tC9,uC9),("side",3,dl,d7),("polar",3,dm,d8),("pole",3,dr,eg)]) sC lC rfl
 refine' ⟨_,?b,λbase _ _=>?g⟩
 case g=>
  have CH:=qY (P:=l.prog) (w:=w) (mg:=mg) (base:=base) (CL:=(lw [(12,x0),(107,x1),(15,x2),(108,x3),(17,x4),(0,x5)])) (n:=5) da.d (Hq Fc) (by decide+kernel) (by decide+kernel) rfl
  have LC:=pV (P:=l.prog) (w:=w) (base:=base) (n:=6) (ip:=348) (it:=349) T da.d (Hq Fl) (by decide+kernel) rfl (by decide+kernel) (by decide+kernel) (by decide+kernel) (by decide+kernel) ⟨rfl,rfl⟩ (by decide+kernel) (by decide+kernel) (by decide+kernel) da.c (Fc.binds λkV doc pm an cdv ct us hu=>match us,hu with | [u0,u1,u2],_=>rfl) CH
  have UN:=oO (P:=l.prog) (w:=w) (base:=base) (n:=6) (txt := "there is nothing to undo") T da.d (Hq Fu) (by decide+kernel) rfl (by decide+kernel) (by decide+kernel) (by decide+kernel) (by decide+kernel) (by decide+kernel) (by decide+kernel) rfl
  have LA:=pQ (P:=l.prog) (w:=w) (base:=base) (n:=6) (id:=350) T da.d (Hq Fa) (by decide+kernel) rfl (by decide+kernel) (by decide+kernel) rfl (by decide+kernel)
  have RR:=nB (P:=l.prog) (w:=w) (base:=base) (n:=6) (ir:=34) (txt := "no row of a desk") T cC (A3 X G nC) (Hq Fr) (by decide+kernel) rfl (by decide+kernel) (by decide+kernel) (by decide+kernel) (by decide+kernel) (by decide+kernel) (by decide+kernel) (λ_ _=>rfl) (by decide+kernel) (by decide+kernel) rfl
  have SA:=oH (P:=l.prog) (w:=w) (base:=base) (n:=7) (tb:=347) (cs:=gg) (ga:=4) (gm:=3) (gl:=2) (la:=laW) (lm:=lmW) (ll:=llW) T da.d (Hq Fs) (by decide+kernel) rfl (by decide+kernel) (by decide+kernel) (by decide+kernel) (by decide+kernel) (by decide+kernel) (by decide+kernel) (by decide+kernel) (by decide+kernel) (by decide+kernel) (by decide+kernel) (by decide+kernel) rfl rfl rfl (A3 X G er) Fr.kp (Fr.binds λkV doc pm an cdv ct us hu=>match us,hu with | [u0,u1],_=>rfl) RR da.l (Fl.binds λkV doc pm an cdv ct us hu=>match us,hu with | [u0,u1,u2],_=>rfl) LC da.u (Fu.binds λkV doc pm an cdv ct us hu=>match us,hu with | [u0],_=>rfl) UN da.a (Fa.binds λkV doc pm an cdv ct us hu=>match us,hu with | [u0,u1],_=>rfl) LA
  have SD:=iB (P:=l.prog) (w:=w) (base:=base) (n:=8) (tx:=356) (rf:=360) T da.d (Hq Fd) (by decide+kernel) rfl (by decide+kernel) (by decide+kernel) (by decide+kernel) (by decide+kernel) da.s (Fs.binds λkV doc pm an cdv ct us hu=>match us,hu with | [u0,u1],_=>rfl) SA
  have FL:=fS (P:=l.prog) (w:=w) (base:=base) (n:=8) T da.d (Hq Ff) (by decide+kernel) rfl (by decide+kernel) (by decide+kernel) (by decide+kernel) (by decide+kernel) da.s (Fs.binds λkV doc pm an cdv ct us hu=>match us,hu with | [u0,u1],_=>rfl) SA
  have IN:=pG (P:=l.prog) (w:=w) (mg:=mg) (base:=base) (n:=7) da.d (Hq Fi) (by decide+kernel) rfl
  have LW:=pW (n:=8) (c1:=Wp) (cB:=Wo) (c4:=OX) (s1:=Ng) (s2:=OI) (s3:=Ln) (s6:=Nf) (bb:=Ny) T da.d (Hq F) (by decide+kernel) rfl (by decide+kernel) (by decide+kernel) (by decide+kernel) (by decide+kernel) (by decide+kernel) (by decide+kernel) (by decide+kernel) (by decide+kernel) (by decide+kernel) (by decide+kernel) (by decide+kernel) (by decide+kernel) (by decide+kernel) (by decide+kernel) (by decide+kernel) da.m (A3 X G da.n) (Fi.binds λkV doc pm an cdv ct us hu=>match us,hu with | [u0,u1],_=>rfl) IN (A3 X G ed) Fd.kp (Fd.binds λkV doc pm an cdv ct us hu=>match us,hu with | [u0,u1],_=>rfl) SD (A3 X G ef) Ff.kp (Ff.binds λkV doc pm an cdv ct us hu=>match us,hu with | [u0,u1],_=>rfl) FL xF
  exact LW
 case b=>exact λs v=>.of_eq rfl
theorem walk95{q:AK}{loose:Ac Ah}{XP:(Ah->Ao Al)->AJ->Prop}{YP:AI->AJ->Prop}{d:DefRec}{K:MD->Fg}(hn:l.most=Aa 63)(aj:d.params.defaults=[])(hY:∀(w:AI)(h:AJ),YP w h->(K w.params).In h)(F:∀(w:AI)(mg:Ah->Ao Al)(fa:Ak)(h:AJ),(K w.params).In h->h.Ns AO mg->mg d.name=Aa (.ref fa) ->
   ∃ fd:Bi,(∀(s:Ar)(u:Al),GE s fd ⟨[u],[]⟩ [("_law_script",u)])/\∀ base:AJ,(K w.params).In base->base.Ns AO mg->Y4 l.prog w (K w.params) mg base (CXR l.prog w) 10 fa fd ["_law_script"] (Nm (K w.params))):ZJ q loose XP YP l.row.toRowW d [] (λf vs=>LM f vs):=
 L2.walk_of (n:=63) (k:=10) (x := "_law_script") (CX:=λw=>CXR l.prog w) (sp:=λw=>Nm (K w.params)) hn (by decide) aj ⟨rfl,by decide,by decide,rfl⟩ hY F (λ_ H a ns hl _ hS=>⟨a,ns,rfl,hl,hS,λ_ _ z=>z⟩) λ_ _ _ _ _ z=>rG z
end OvC
open PySem PySem.W PyProof.Rows
set_option hygiene false
set_option maxRecDepth 100000 in
set_option maxHeartbeats 0 in
theorem PySem.Challenge.cw_ovalfield_k95_a_list_of_points_holds : PySem.Challenge.rw_ovalfield_k95_a_list_of_points.Holds := by
 refine OvC.hold95.go (λw os=>(OvC.reckA95 w os).1) (λw os=>(OvC.reckA95 w os).2.1) (λw os=>(OvC.reckA95 w os).2.2.1) (λw os=>(OvC.reckA95 w os).2.2.2.1) (λw os=>(OvC.reckA95 w os).2.2.2.2.1) (λw os=>(OvC.reckA95 w os).2.2.2.2.2.1) (λw os=>(OvC.reckA95 w os).2.2.2.2.2.2.1) (λw os=>(OvC.reckA95 w os).2.2.2.2.2.2.2.1) (λw os=>(OvC.reckA95 w os).2.2.2.2.2.2.2.2.1) (λw os=>(OvC.reckA95 w os).2.2.2.2.2.2.2.2.2) (λw os=>OvC.reck95_2 w os) ?_
 intro cy;refine OvC.walk95 (l:=PySem.Challenge.rw_ovalfield_k95_a_list_of_points) rfl rfl (λw h Y_=>ZN Y_) ?F
 case F=>
  intro w mg fa h KX G kg
  refine' OvC.all95 KX G kg ?a0 ?a1 ?a2 ?a3 ?a4 ?a5 ?a6 ?a7 ?a8 ?a9 ?a10 ?a11 ?a12 ?a13 ?a14 ?a15 ?a16 ?a17 ?a18 ?a19 ?a20 ?a21 ?a22 ?a23 ?Î ?m8 ?Ï ?kt0 ?kt1 ?kt2 ?ii ?rj ?rk ?da ?di ?dm1 ?dm2 ?dm3 ?dm4 ?dm5 ?nC ?lC ?sC ?gh ?gi ?gj ?gk ?gp ?lz ?Ò ?ϵ ?Ϸ ?ϸ ?Ϲ ?n9 ?sx0 ?sx6 ?sx7 ?sx1 ?sx3 ?sx2 ?sx4 ?sx8 ?sx9 ?lh ?sx5 ?gn2 ?gk2 ?gn3 ?gk3 ?gn4 ?gk4 ?gn5 ?z0 ?z1 ?z2 ?z3 ?z4 ?z5 ?z6 ?z7 ?z8
  case a0|a1|a2|a3|a4|a5|a6|a7|a8|a9|a10|a11|a12|a13|a14|a15|a16|a17|a18|a19|a20|a21|a22|a23=>(refine' Ov.fni ?a ?l ?c ?k;(case a=>k_is);(case l=>k_is);(case c=>k_is);(case k=>k_is))
  case Î|m8|Ï=>(refine' Ov.oa_mk ?n ?i ?ft ?fs ?q1 ?q2 ?q3 ?q4 ?q5 ?q6 ?q7 ?q8 ?q9 ?r1 ?r2 ?r3 ?r4 ?r5 ?r6;(case n=>k_is);(case i=>k_is);(case ft=>k_is);(case fs=>k_is);(case q1|q2|q3|q4|q5|q6|q7|q8|q9|r1|r2|r3|r4|r5|r6=>k_is))
  case kt0|kt1|kt2=>(refine' Ov.aCn ?q0 (Ov.aCn ?q1 (Ov.aCn ?q2 Ov.aNl));(case q0|q1|q2=>dsimp only;kit_is))
  case ii=>(refine' Ov.ini_mk ?l ?m ?k;(case l=>k_is);(case m=>k_is);(case k=>k_is))
  case rj|rk=>(refine' Ov.mei ?l ?m ?k;(case l=>k_is);(case m=>k_is);(case k=>k_is))
  case da=>(refine' Ov.da_mk ?n ?i ?a1 ?a2 ?a3 ?a4 ?a5 ?p1 ?p2 ?p3 ?p4 ?p5 ?p6 ?p7 ?p8 ?p9 ?p10 ?wv ?wa ?uo ?uc ?ud ?ue ?vb ?uf ?oz ?ng ?ni;(case n=>k_is);(case i=>k_is);(case a1=>k_is);(case a2=>k_is);(case a3=>k_is);(case a4=>k_is);(case a5=>k_is);(case p1|p2|p3|p4|p5|p6|p7|p8|p9|p10|wv|wa|uo|uc|ud|ue|vb|uf|oz|ng|ni=>k_is))
  case di=>(refine' Ov.ini_mk ?l ?m ?k;(case l=>k_is);(case m=>k_is);(case k=>k_is))
  case dm1|dm2|dm3|dm4|dm5=>(refine' Ov.mei ?l ?m ?k;(case l=>k_is);(case m=>k_is);(case k=>k_is))
  case nC=>k_is
  case lC=>k_is
  case sC=>rfl
  case gh|gj|gp|lz=>(refine' Ov.xa_mk ?n (Ov.xcls_l ?e) ?d ?f ?g ?r ?a ?b ?c ?o ?h ?v;(case n=>k_is);(case e=>k_exc);(case d=>kernel_rfl);(case f|g|r|a|b|c|o|h|v=>k_is))
  case gi|gk=>(refine' Ov.XB.mk ?i (Ov.xa_mk ?n ?e ?d ?f ?g ?r ?a ?b ?c ?o ?h ?v) (Ov.ini_mk ?l ?m ?k) ?t ?s;(case n=>k_is);(case i=>k_is);(case l=>k_is);(case e|d=>kernel_rfl);(case m|k|t|s|f|g|r|a|b|c|o|h|v=>k_is))
  case ϵ|Ϸ|ϸ|Ϲ|n9=>(refine' Ov.XE.mk ?a ?b ?c;(case a=>k_is);(case b|c=>k_is))
  case Ò=>(refine' Ov.XO.mk ?a ?b ?c;(case a|b|c=>k_is))
  case sx0|sx6|sx7|sx1|sx3|sx2|sx4|sx8|sx9|lh|sx5=>(refine' Ov.aCn ?q0 (Ov.aCn ?q1 (Ov.aCn ?q2 (Ov.aCn ?q3 (Ov.aCn ?q4 (Ov.aCn ?q5 (Ov.aNl))))));(case q0|q1|q2|q3|q4|q5=>dsimp only;k_is))
  case gn2|gk2|gn3|gk3|gn4|gk4|gn5|z0|z1|z2|z3|z4|z5|z6|z7|z8=>k_is